
import PyProof.Rows.All
import Wide.All
import OpenK.AllK
import Wide.FinOn
import Lean
import PyProof.EqAt
import PyProof.EqKinds
import PyProof.TupleCall
import PySem.Challenge.RW_hurryprice_k27_whole_latest_or_bar
set_option Elab.async false
set_option linter.all false
set_option maxRecDepth 100000
set_option maxHeartbeats 4000000
abbrev LW:=List (Int × Int × Rat)
abbrev LH:=List (PySem.Str × Int × Rat)
abbrev LR:=List (Rat × Rat)
abbrev LP:=List PySem.PyData
abbrev LQ:=List Rat
namespace L2
open PySem PySem.Spec PyProof.Rows
def B2 (s:Stmt):Arguments:=match s with
 | .FunctionDef _ a _ _ _ _ _ _ _ _=>a
 | _=>{ posonlyargs:=[],args:=[],vararg:=none,kwonlyargs:=[],kw_defaults:=[],kwarg:=none,defaults:=[] }
def B1 (s:Stmt):List Stmt:=match s with
 | .FunctionDef _ _ b _ _ _ _ _ _ _=>b
 | _=>[]
def A5 (s:Stmt):Scope:=match s with
 | .FunctionDef _ _ _ _ _ _ sc _ _ _=>sc
 | _=>{ kind:=.function,names:=[],isGenerator:=false,isCoroutine:=false }
end L2
namespace L2
open PySem PySem.W PySem.Spec PyProof.Rows
def Q8 (tb:String->Option Builtin) (p:Program) (w:World) (m:Nat) (ann:Option Value):Nat->SharedT->Thread->Option SharedT
 | 0,_,_=>none
 | n + 1,s,t=>match through t with
  | true=>some s
  | false=>match stepOk m ann t with
   | false=>none
   | true=>match stepT (denote tb) p w s t with
    | some x=>Q8 tb p w m ann n x.1 x.2
    | none=>none
theorem W5 {tb:String->Option Builtin} {p:Program} {w:World} {m:Nat} {ann:Option Value}:∀ (n:Nat) (s r:SharedT) (t:Thread),Q8 tb p w m ann n s t=some r->topRun tb p w m ann n s.abs t=some r.abs
 | 0,_,_,_,h=>by cases h
 | n + 1,s,r,t,h=>by
  unfold Q8 at h;unfold topRun;cases a:through t with
  | true=>rw [a] at h; cases h; rfl
  | false =>
   rw [a] at h;cases b:stepOk m ann t with
   | false=>rw [b] at h; cases h
   | true =>
    rw [b] at h;cases c:stepT (denote tb) p w s t with
    | none=>rw [c] at h; cases h
    | some x =>
     rw [c] at h;rw [stepT_spec (s':=x.1) (t':=x.2) c];exact W5 n x.1 r x.2 h
def mkT (os:List Obj):Nat->Nat->Nat->BT
 | 0,_,_=>.nil
 | k + 1,a,b=>match os[b]? with
  | some o=>.node o (mkT os k (2 * a) (a + b)) (mkT os k (2 * a) (2 * a + b))
  | none=>.nil
noncomputable def A5g (w:World) (os:OsState):Shared:=⟨boot_heap w.params,Array.mk [],boot_drawn,boot_toks,os⟩
noncomputable def B1g (w:World) (os:OsState):SharedT:=⟨mkT (boot_heap w.params).objs.toList 12 1 0,(boot_heap w.params).objs.size,(boot_heap w.params).life,Array.mk [],boot_drawn,boot_toks,os⟩
theorem B1f (w:World) (os:OsState):(B1g w os).abs=A5g w os:=by kernel_rfl
theorem B56 (w:World) (os:OsState):((A5g w os).heap.isNs mainGlobals && (A5g w os).gens.size == 0)=true:=by kernel_rfl
theorem B92 {p q:Program} {loose:List Str} {Xt:Shared->Bool} {α:Type} {Yf:Shared->α} {Ya:World->α} {N:Nat} (ho:opening p=plainProg p.main.scope.names) (hN:Nat.ble 600 N=true) (hf:∀ s,fenceModules? p s=some s)
  (run:∀ (w:World) (os:OsState),(Q8 treeTable p w (boot_heap w.params).objs.size ((boot_heap w.params).nsMap mainGlobals "__annotations__") N (B1g w os) (topStub p)).map
   (fun x=>(staticsOk (importedModules p.main.body) (boot_heap w.params) x.abs.heap && namesBound p x.abs.heap && gensDone x.abs && laidKept (boot_heap w.params) x.abs.heap,openSeen q loose (importedModules p.main.body) Xt true x.abs,Yf x.abs))=some (true,openGood q loose,Ya w)) :
  LeftO p q loose Xt Yf Ya N:=fun w=>by
 obtain ⟨⟨h,gs,d,k,os⟩,e,z⟩:=Option.map_eq_some_iff.mp (boot_open ho hN hf w);obtain ⟨rfl,rfl,rfl,rfl⟩:h=boot_heap w.params/\gs=Array.mk []/\d=boot_drawn/\k=boot_toks:=by simpa using z
 obtain ⟨x,r,v⟩:=Option.map_eq_some_iff.mp (run w os);have r:=W5 _ _ _ _ r;rw [B1f] at r;obtain ⟨v1,v2⟩:=Prod.mk.inj v;obtain ⟨v2,v3⟩:=Prod.mk.inj v2;show ((fencedOpening treeTable p w N).bind (topFrom treeTable p w N)).map _=_;rw [e];show (topFrom treeTable p w N (A5g w os)).map _=_;have t:topFrom treeTable p w N (A5g w os)=some x.abs:=by
  unfold topFrom;rw [B56];show (topRun treeTable p w (boot_heap w.params).objs.size ((boot_heap w.params).nsMap mainGlobals "__annotations__") N (A5g w os) (topStub p)).bind _=_;rw [r];show (match staticsOk (importedModules p.main.body) (boot_heap w.params) x.abs.heap && namesBound p x.abs.heap && gensDone x.abs && laidKept (boot_heap w.params) x.abs.heap with | true=>some x.abs | false=>none)=_;rw [v1]
 rw [t];show some (openSeen q loose (importedModules p.main.body) Xt true x.abs,Yf x.abs)=_;rw [v2,v3]
noncomputable abbrev ranT (p:Program) (N:Nat) (w:World) (os:OsState):Option SharedT:=Q8 treeTable p w (boot_heap w.params).objs.size ((boot_heap w.params).nsMap mainGlobals "__annotations__") N (B1g w os) (topStub p)
theorem B8i {p q:Program} {loose:List Str} {Xt:Shared->Bool} {α:Type} {Yf:Shared->α} {Ya:World->α} {N:Nat} (ho:opening p=plainProg p.main.scope.names) (hN:Nat.ble 600 N=true) (hf:∀ s,fenceModules? p s=some s)
  (a:∀ (w:World) (os:OsState),(ranT p N w os).map (fun x=>staticsOk (importedModules p.main.body) (boot_heap w.params) x.abs.heap && namesBound p x.abs.heap && gensDone x.abs && laidKept (boot_heap w.params) x.abs.heap)=some true)
  (b:∀ (w:World) (os:OsState),(ranT p N w os).map (fun x=>openSeen q loose (importedModules p.main.body) Xt true x.abs)=some (openGood q loose))
  (c:∀ (w:World) (os:OsState),(ranT p N w os).map (fun x=>Yf x.abs)=some (Ya w)):LeftO p q loose Xt Yf Ya N :=
 B92 ho hN hf fun w os=>by
  obtain ⟨x,r,e⟩:=Option.map_eq_some_iff.mp (a w os);have r':Q8 treeTable p w (boot_heap w.params).objs.size ((boot_heap w.params).nsMap mainGlobals "__annotations__") N (B1g w os) (topStub p)=some x:=r;have f:openSeen q loose (importedModules p.main.body) Xt true x.abs=openGood q loose:=by have z:=b w os; rw [r] at z; exact Option.some.inj z
  have g:Yf x.abs=Ya w:=by have z:=c w os; rw [r] at z; exact Option.some.inj z
  rw [r'];show some (_,_,_)=_;rw [e,f,g]
theorem B8h {p q:Program} {loose:List Str} {Xt:Shared->Bool} {α:Type} {Yf:Shared->α} {Ya:World->α} {N:Nat} (ho:opening p=plainProg p.main.scope.names) (hN:Nat.ble 600 N=true) (hf:∀ s,fenceModules? p s=some s)
  (a:∀ (w:World) (os:OsState),(ranT p N w os).map (fun x=>staticsOk (importedModules p.main.body) (boot_heap w.params) x.abs.heap && namesBound p x.abs.heap && gensDone x.abs && laidKept (boot_heap w.params) x.abs.heap)=some true)
  (b:∀ (w:World) (os:OsState),(ranT p N w os).map (fun x=>(openSeen q loose (importedModules p.main.body) Xt true x.abs).1)=some (openGood q loose).1)
  (b':∀ (w:World) (os:OsState),(ranT p N w os).map (fun x=>(openSeen q loose (importedModules p.main.body) Xt true x.abs).2)=some (openGood q loose).2)
  (c:∀ (w:World) (os:OsState),(ranT p N w os).map (fun x=>Yf x.abs)=some (Ya w)):LeftO p q loose Xt Yf Ya N :=
 B8i ho hN hf a (fun w os=>by
  obtain ⟨x,r,e⟩:=Option.map_eq_some_iff.mp (b w os);have z:=b' w os;rw [r] at z ⊢;exact congrArg some (Prod.ext e (Option.some.inj z))) c
end L2
namespace Prf
open PySem L2
def top (i:Nat):Stmt:=PySem.Challenge.pw_hurryprice_k27_whole_latest_or_bar.main.body.getD i (.Pass ⟨0,0,0,0⟩)
abbrev s_a1:Stmt:=top 1
abbrev s_c3:Stmt:=top 4
abbrev s_c1:Stmt:=top 5
abbrev s_bb:Stmt:=top 6
abbrev s_ad:Stmt:=top 9
abbrev s_bd:Stmt:=top 10
abbrev s_ae:Stmt:=top 11
abbrev s_a5:Stmt:=top 12
abbrev s_a9:Stmt:=top 13
abbrev s_a8:Stmt:=top 14
abbrev s_bc:Stmt:=top 15
abbrev s_af:Stmt:=top 17
abbrev s_c0:Stmt:=top 18
abbrev s_c2:Stmt:=top 19
abbrev s_bf:Stmt:=top 20
abbrev s_b3:Stmt:=top 21
abbrev s_b8:Stmt:=top 22
abbrev s_b9:Stmt:=top 23
abbrev s_aa:Stmt:=top 24
abbrev s_b4:Stmt:=top 25
abbrev s_b7:Stmt:=top 26
abbrev s_b0:Stmt:=top 27
abbrev s_b2:Stmt:=top 28
abbrev s_a0:Stmt:=top 29
abbrev s_b1:Stmt:=top 30
abbrev s_a3:Stmt:=top 31
abbrev s_be:Stmt:=top 32
abbrev s_ac:Stmt:=top 33
abbrev s_a2:Stmt:=top 34
abbrev s_ab:Stmt:=top 35
abbrev s_a6:Stmt:=top 36
abbrev s_b5:Stmt:=top 37
abbrev s_ba:Stmt:=top 38
abbrev s_a7:Stmt:=top 39
abbrev s_b6:Stmt:=top 40
abbrev s_a4:Stmt:=top 41
abbrev s_c4:Stmt:=top 42
abbrev nE (P:Params) (x:Str) (t:Tok) (v:Value):DictEntry:=⟨PyData.keyHash P x,.str x t,v⟩
noncomputable def kk:Params->PySem.W.Frag:=fun P =>
 (nat_lit 3,⟨(.type "dict"),none,(.dict #[nE P "__name__" 165 (.str "law_hurryprice_k27_whole_latest_or_bar" 309),nE P "__doc__" 166 .none,nE P "__package__" 167 .none,nE P "__loader__" 168 (.builtin "__main__.__loader__#opaque"),nE P "__spec__" 169 .none,nE P "__annotations__" 170 (.ref 6),nE P "__builtins__" 171 (.ref 4),nE P "__file__" 173 (.str "/claim/cut.py" 172),nE P "__cached__" 174 .none,nE P "common_part" 196 (.ref 21),nE P "NOUGHT" 201 (.ref 22),nE P "plus" 214 (.ref 29),nE P "minus" 222 (.ref 36),nE P "is_less" 230 (.ref 43),nE P "ONE" 235 (.ref 44),nE P "hold_way" 248 (.ref 51),nE P "ways_of" 254 (.ref 56),nE P "stretch" 270 (.ref 63),nE P "ring_paper" 286 (.ref 70),nE P "farthest" 292 (.ref 75),nE P "earliest" 302 (.ref 82),nE P "latest" 308 (.ref 87),nE P "_law_begun" 319 (.ref 94),nE P "_law_take" 330 (.ref 101),nE P "_law_low" 340 (.ref 108),nE P "_law_plus" 348 (.ref 115),nE P "_law_minus" 356 (.ref 122),nE P "_law_times" 364 (.ref 129),nE P "_law_under" 372 (.ref 136),nE P "_law_amount" 383 (.ref 143),nE P "_law_offer" 389 (.ref 148),nE P "_law_shape" 409 (.ref 155),nE P "_law_flows" 415 (.ref 160),nE P "_law_loose" 433 (.ref 167),nE P "_law_times_drawn" 450 (.ref 174),nE P "_law_keeps" 456 (.ref 179),nE P "_law_fraction" 464 (.ref 186),nE P "_law_copy" 470 (.ref 191),nE P "_law_starts" 476 (.ref 196),nE P "_law_balanced" 482 (.ref 201),nE P "_law_length" 498 (.ref 208),nE P "_law_chained" 504 (.ref 213),nE P "_law_right" 510 (.ref 218),nE P "_law_whole" 516 (.ref 223),nE P "_law_grouped" 525 (.ref 230),nE P "_law_round" 538 (.ref 237),nE P "_law_lag_drawn" 546 (.ref 244),nE P "law" 563 (.ref 251)] 48),#[]⟩) ::
 (nat_lit 20,⟨(.type "code"),none,(.fields #[(.str "common_part" 189),(.str "common_part" 190),(.str "/claim/cut.py" 191),(.int 2 0),(.int 2 0),(.int 0 0),(.int 0 0),(.int 3 0),(.ref 15),(.bool true),(.int 181 0),(.ref 16),.none,(.ref 17),(.ref 18),(.ref 19),(.int 194 0),(.int 2 0),(.str "/claim/cut.py" 195)]),#[]⟩) ::
 (nat_lit 21,⟨(.type "function"),none,(.func (PySem.W.fnOf "common_part" "common_part" (B2 s_a1) (B1 s_a1) (A5 s_a1) .none .none .none (.str "hurryprice.names" 187) none (.ref 20) .none)),#[]⟩) ::
 (nat_lit 22,⟨(.type "tuple"),none,(.seq #[(.int 0 199),(.int 1 200)] 0),#[]⟩) ::
 (nat_lit 28,⟨(.type "code"),none,(.fields #[(.str "plus" 202),(.str "plus" 203),(.str "/claim/cut.py" 204),(.int 9 0),(.int 2 0),(.int 0 0),(.int 0 0),(.int 3 0),(.ref 23),(.bool true),(.int 181 0),(.ref 24),.none,(.ref 25),(.ref 26),(.ref 27),(.int 212 0),(.int 9 0),(.str "/claim/cut.py" 213)]),#[]⟩) ::
 (nat_lit 29,⟨(.type "function"),none,(.func (PySem.W.fnOf "plus" "plus" (B2 s_c3) (B1 s_c3) (A5 s_c3) .none .none .none (.str "hurryprice.ratios" 197) none (.ref 28) .none)),#[]⟩) ::
 (nat_lit 35,⟨(.type "code"),none,(.fields #[(.str "minus" 215),(.str "minus" 216),(.str "/claim/cut.py" 217),(.int 15 0),(.int 2 0),(.int 0 0),(.int 0 0),(.int 3 0),(.ref 30),(.bool true),(.int 181 0),(.ref 31),.none,(.ref 32),(.ref 33),(.ref 34),(.int 220 0),(.int 15 0),(.str "/claim/cut.py" 221)]),#[]⟩) ::
 (nat_lit 36,⟨(.type "function"),none,(.func (PySem.W.fnOf "minus" "minus" (B2 s_c1) (B1 s_c1) (A5 s_c1) .none .none .none (.str "hurryprice.ratios" 197) none (.ref 35) .none)),#[]⟩) ::
 (nat_lit 42,⟨(.type "code"),none,(.fields #[(.str "is_less" 223),(.str "is_less" 224),(.str "/claim/cut.py" 225),(.int 17 0),(.int 2 0),(.int 0 0),(.int 0 0),(.int 3 0),(.ref 37),(.bool true),(.int 181 0),(.ref 38),.none,(.ref 39),(.ref 40),(.ref 41),(.int 228 0),(.int 17 0),(.str "/claim/cut.py" 229)]),#[]⟩) ::
 (nat_lit 43,⟨(.type "function"),none,(.func (PySem.W.fnOf "is_less" "is_less" (B2 s_bb) (B1 s_bb) (A5 s_bb) .none .none .none (.str "hurryprice.ratios" 197) none (.ref 42) .none)),#[]⟩) ::
 (nat_lit 44,⟨(.type "tuple"),none,(.seq #[(.int 1 233),(.int 1 234)] 0),#[]⟩) ::
 (nat_lit 50,⟨(.type "code"),none,(.fields #[(.str "hold_way" 236),(.str "hold_way" 237),(.str "/claim/cut.py" 238),(.int 21 0),(.int 3 0),(.int 0 0),(.int 0 0),(.int 3 0),(.ref 45),(.bool true),(.int 181 0),(.ref 46),.none,(.ref 47),(.ref 48),(.ref 49),(.int 246 0),(.int 21 0),(.str "/claim/cut.py" 247)]),#[]⟩) ::
 (nat_lit 51,⟨(.type "function"),none,(.func (PySem.W.fnOf "hold_way" "hold_way" (B2 s_ad) (B1 s_ad) (A5 s_ad) .none .none .none (.str "hurryprice.starts" 231) none (.ref 50) .none)),#[]⟩) ::
 (nat_lit 55,⟨(.type "code"),none,(.fields #[(.str "ways_of" 249),(.str "ways_of" 250),(.str "/claim/cut.py" 251),(.int 29 0),(.int 3 0),(.int 0 0),(.int 0 0),(.int 3 0),(.ref 52),(.bool true),(.int 181 0),(.ref 53),.none,.none,.none,(.ref 54),(.int 252 0),(.int 29 0),(.str "/claim/cut.py" 253)]),#[]⟩) ::
 (nat_lit 56,⟨(.type "function"),none,(.func (PySem.W.fnOf "ways_of" "ways_of" (B2 s_bd) (B1 s_bd) (A5 s_bd) .none .none .none (.str "hurryprice.starts" 231) none (.ref 55) .none)),#[]⟩) ::
 (nat_lit 62,⟨(.type "code"),none,(.fields #[(.str "stretch" 255),(.str "stretch" 256),(.str "/claim/cut.py" 257),(.int 40 0),(.int 3 0),(.int 0 0),(.int 0 0),(.int 3 0),(.ref 57),(.bool true),(.int 181 0),(.ref 58),.none,(.ref 59),(.ref 60),(.ref 61),(.int 268 0),(.int 40 0),(.str "/claim/cut.py" 269)]),#[]⟩) ::
 (nat_lit 63,⟨(.type "function"),none,(.func (PySem.W.fnOf "stretch" "stretch" (B2 s_ae) (B1 s_ae) (A5 s_ae) .none .none .none (.str "hurryprice.starts" 231) none (.ref 62) .none)),#[]⟩) ::
 (nat_lit 69,⟨(.type "code"),none,(.fields #[(.str "ring_paper" 271),(.str "ring_paper" 272),(.str "/claim/cut.py" 273),(.int 51 0),(.int 2 0),(.int 0 0),(.int 0 0),(.int 3 0),(.ref 64),(.bool true),(.int 181 0),(.ref 65),.none,(.ref 66),(.ref 67),(.ref 68),(.int 284 0),(.int 51 0),(.str "/claim/cut.py" 285)]),#[]⟩) ::
 (nat_lit 70,⟨(.type "function"),none,(.func (PySem.W.fnOf "ring_paper" "ring_paper" (B2 s_a5) (B1 s_a5) (A5 s_a5) .none .none .none (.str "hurryprice.starts" 231) none (.ref 69) .none)),#[]⟩) ::
 (nat_lit 74,⟨(.type "code"),none,(.fields #[(.str "farthest" 287),(.str "farthest" 288),(.str "/claim/cut.py" 289),(.int 62 0),(.int 2 0),(.int 0 0),(.int 0 0),(.int 3 0),(.ref 71),(.bool true),(.int 181 0),(.ref 72),.none,.none,.none,(.ref 73),(.int 290 0),(.int 62 0),(.str "/claim/cut.py" 291)]),#[]⟩) ::
 (nat_lit 75,⟨(.type "function"),none,(.func (PySem.W.fnOf "farthest" "farthest" (B2 s_a9) (B1 s_a9) (A5 s_a9) .none .none .none (.str "hurryprice.starts" 231) none (.ref 74) .none)),#[]⟩) ::
 (nat_lit 81,⟨(.type "code"),none,(.fields #[(.str "earliest" 293),(.str "earliest" 294),(.str "/claim/cut.py" 295),(.int 71 0),(.int 2 0),(.int 0 0),(.int 0 0),(.int 3 0),(.ref 76),(.bool true),(.int 181 0),(.ref 77),.none,(.ref 78),(.ref 79),(.ref 80),(.int 300 0),(.int 71 0),(.str "/claim/cut.py" 301)]),#[]⟩) ::
 (nat_lit 82,⟨(.type "function"),none,(.func (PySem.W.fnOf "earliest" "earliest" (B2 s_a8) (B1 s_a8) (A5 s_a8) .none .none .none (.str "hurryprice.starts" 231) none (.ref 81) .none)),#[]⟩) ::
 (nat_lit 86,⟨(.type "code"),none,(.fields #[(.str "latest" 303),(.str "latest" 304),(.str "/claim/cut.py" 305),(.int 76 0),(.int 3 0),(.int 0 0),(.int 0 0),(.int 3 0),(.ref 83),(.bool true),(.int 181 0),(.ref 84),.none,.none,.none,(.ref 85),(.int 306 0),(.int 76 0),(.str "/claim/cut.py" 307)]),#[]⟩) ::
 (nat_lit 87,⟨(.type "function"),none,(.func (PySem.W.fnOf "latest" "latest" (B2 s_bc) (B1 s_bc) (A5 s_bc) .none .none .none (.str "hurryprice.starts" 231) none (.ref 86) .none)),#[]⟩) ::
 (nat_lit 93,⟨(.type "code"),none,(.fields #[(.str "_law_begun" 311),(.str "_law_begun" 312),(.str "/claim/cut.py" 313),(.int 86 0),(.int 2 0),(.int 0 0),(.int 0 0),(.int 3 0),(.ref 88),(.bool true),(.int 181 0),(.ref 89),.none,(.ref 90),(.ref 91),(.ref 92),(.int 317 0),(.int 86 0),(.str "/claim/cut.py" 318)]),#[]⟩) ::
 (nat_lit 94,⟨(.type "function"),none,(.func (PySem.W.fnOf "_law_begun" "_law_begun" (B2 s_af) (B1 s_af) (A5 s_af) .none .none .none (.str "law_hurryprice_k27_whole_latest_or_bar" 309) none (.ref 93) .none)),#[]⟩) ::
 (nat_lit 100,⟨(.type "code"),none,(.fields #[(.str "_law_take" 320),(.str "_law_take" 321),(.str "/claim/cut.py" 322),(.int 91 0),(.int 2 0),(.int 0 0),(.int 0 0),(.int 3 0),(.ref 95),(.bool true),(.int 181 0),(.ref 96),.none,(.ref 97),(.ref 98),(.ref 99),(.int 328 0),(.int 91 0),(.str "/claim/cut.py" 329)]),#[]⟩) ::
 (nat_lit 101,⟨(.type "function"),none,(.func (PySem.W.fnOf "_law_take" "_law_take" (B2 s_c0) (B1 s_c0) (A5 s_c0) .none .none .none (.str "law_hurryprice_k27_whole_latest_or_bar" 309) none (.ref 100) .none)),#[]⟩) ::
 (nat_lit 107,⟨(.type "code"),none,(.fields #[(.str "_law_low" 331),(.str "_law_low" 332),(.str "/claim/cut.py" 333),(.int 102 0),(.int 2 0),(.int 0 0),(.int 0 0),(.int 3 0),(.ref 102),(.bool true),(.int 181 0),(.ref 103),.none,(.ref 104),(.ref 105),(.ref 106),(.int 338 0),(.int 102 0),(.str "/claim/cut.py" 339)]),#[]⟩) ::
 (nat_lit 108,⟨(.type "function"),none,(.func (PySem.W.fnOf "_law_low" "_law_low" (B2 s_c2) (B1 s_c2) (A5 s_c2) .none .none .none (.str "law_hurryprice_k27_whole_latest_or_bar" 309) none (.ref 107) .none)),#[]⟩) ::
 (nat_lit 114,⟨(.type "code"),none,(.fields #[(.str "_law_plus" 341),(.str "_law_plus" 342),(.str "/claim/cut.py" 343),(.int 108 0),(.int 2 0),(.int 0 0),(.int 0 0),(.int 3 0),(.ref 109),(.bool true),(.int 181 0),(.ref 110),.none,(.ref 111),(.ref 112),(.ref 113),(.int 346 0),(.int 108 0),(.str "/claim/cut.py" 347)]),#[]⟩) ::
 (nat_lit 115,⟨(.type "function"),none,(.func (PySem.W.fnOf "_law_plus" "_law_plus" (B2 s_bf) (B1 s_bf) (A5 s_bf) .none .none .none (.str "law_hurryprice_k27_whole_latest_or_bar" 309) none (.ref 114) .none)),#[]⟩) ::
 (nat_lit 121,⟨(.type "code"),none,(.fields #[(.str "_law_minus" 349),(.str "_law_minus" 350),(.str "/claim/cut.py" 351),(.int 110 0),(.int 2 0),(.int 0 0),(.int 0 0),(.int 3 0),(.ref 116),(.bool true),(.int 181 0),(.ref 117),.none,(.ref 118),(.ref 119),(.ref 120),(.int 354 0),(.int 110 0),(.str "/claim/cut.py" 355)]),#[]⟩) ::
 (nat_lit 122,⟨(.type "function"),none,(.func (PySem.W.fnOf "_law_minus" "_law_minus" (B2 s_b3) (B1 s_b3) (A5 s_b3) .none .none .none (.str "law_hurryprice_k27_whole_latest_or_bar" 309) none (.ref 121) .none)),#[]⟩) ::
 (nat_lit 128,⟨(.type "code"),none,(.fields #[(.str "_law_times" 357),(.str "_law_times" 358),(.str "/claim/cut.py" 359),(.int 112 0),(.int 2 0),(.int 0 0),(.int 0 0),(.int 3 0),(.ref 123),(.bool true),(.int 181 0),(.ref 124),.none,(.ref 125),(.ref 126),(.ref 127),(.int 362 0),(.int 112 0),(.str "/claim/cut.py" 363)]),#[]⟩) ::
 (nat_lit 129,⟨(.type "function"),none,(.func (PySem.W.fnOf "_law_times" "_law_times" (B2 s_b8) (B1 s_b8) (A5 s_b8) .none .none .none (.str "law_hurryprice_k27_whole_latest_or_bar" 309) none (.ref 128) .none)),#[]⟩) ::
 (nat_lit 135,⟨(.type "code"),none,(.fields #[(.str "_law_under" 365),(.str "_law_under" 366),(.str "/claim/cut.py" 367),(.int 114 0),(.int 2 0),(.int 0 0),(.int 0 0),(.int 3 0),(.ref 130),(.bool true),(.int 181 0),(.ref 131),.none,(.ref 132),(.ref 133),(.ref 134),(.int 370 0),(.int 114 0),(.str "/claim/cut.py" 371)]),#[]⟩) ::
 (nat_lit 136,⟨(.type "function"),none,(.func (PySem.W.fnOf "_law_under" "_law_under" (B2 s_b9) (B1 s_b9) (A5 s_b9) .none .none .none (.str "law_hurryprice_k27_whole_latest_or_bar" 309) none (.ref 135) .none)),#[]⟩) ::
 (nat_lit 142,⟨(.type "code"),none,(.fields #[(.str "_law_amount" 373),(.str "_law_amount" 374),(.str "/claim/cut.py" 375),(.int 116 0),(.int 3 0),(.int 0 0),(.int 0 0),(.int 3 0),(.ref 137),(.bool true),(.int 181 0),(.ref 138),.none,(.ref 139),(.ref 140),(.ref 141),(.int 381 0),(.int 116 0),(.str "/claim/cut.py" 382)]),#[]⟩) ::
 (nat_lit 143,⟨(.type "function"),none,(.func (PySem.W.fnOf "_law_amount" "_law_amount" (B2 s_aa) (B1 s_aa) (A5 s_aa) .none .none .none (.str "law_hurryprice_k27_whole_latest_or_bar" 309) none (.ref 142) .none)),#[]⟩) ::
 (nat_lit 147,⟨(.type "code"),none,(.fields #[(.str "_law_offer" 384),(.str "_law_offer" 385),(.str "/claim/cut.py" 386),(.int 122 0),(.int 4 0),(.int 0 0),(.int 0 0),(.int 3 0),(.ref 144),(.bool true),(.int 181 0),(.ref 145),.none,.none,.none,(.ref 146),(.int 387 0),(.int 122 0),(.str "/claim/cut.py" 388)]),#[]⟩) ::
 (nat_lit 148,⟨(.type "function"),none,(.func (PySem.W.fnOf "_law_offer" "_law_offer" (B2 s_b4) (B1 s_b4) (A5 s_b4) .none .none .none (.str "law_hurryprice_k27_whole_latest_or_bar" 309) none (.ref 147) .none)),#[]⟩) ::
 (nat_lit 154,⟨(.type "code"),none,(.fields #[(.str "_law_shape" 390),(.str "_law_shape" 391),(.str "/claim/cut.py" 392),(.int 140 0),(.int 2 0),(.int 0 0),(.int 0 0),(.int 3 0),(.ref 149),(.bool true),(.int 181 0),(.ref 150),.none,(.ref 151),(.ref 152),(.ref 153),(.int 407 0),(.int 140 0),(.str "/claim/cut.py" 408)]),#[]⟩) ::
 (nat_lit 155,⟨(.type "function"),none,(.func (PySem.W.fnOf "_law_shape" "_law_shape" (B2 s_b7) (B1 s_b7) (A5 s_b7) .none .none .none (.str "law_hurryprice_k27_whole_latest_or_bar" 309) none (.ref 154) .none)),#[]⟩) ::
 (nat_lit 159,⟨(.type "code"),none,(.fields #[(.str "_law_flows" 410),(.str "_law_flows" 411),(.str "/claim/cut.py" 412),(.int 161 0),(.int 2 0),(.int 0 0),(.int 0 0),(.int 3 0),(.ref 156),(.bool true),(.int 181 0),(.ref 157),.none,.none,.none,(.ref 158),(.int 413 0),(.int 161 0),(.str "/claim/cut.py" 414)]),#[]⟩) ::
 (nat_lit 160,⟨(.type "function"),none,(.func (PySem.W.fnOf "_law_flows" "_law_flows" (B2 s_b0) (B1 s_b0) (A5 s_b0) .none .none .none (.str "law_hurryprice_k27_whole_latest_or_bar" 309) none (.ref 159) .none)),#[]⟩) ::
 (nat_lit 166,⟨(.type "code"),none,(.fields #[(.str "_law_loose" 416),(.str "_law_loose" 417),(.str "/claim/cut.py" 418),(.int 180 0),(.int 2 0),(.int 0 0),(.int 0 0),(.int 3 0),(.ref 161),(.bool true),(.int 181 0),(.ref 162),.none,(.ref 163),(.ref 164),(.ref 165),(.int 431 0),(.int 180 0),(.str "/claim/cut.py" 432)]),#[]⟩) ::
 (nat_lit 167,⟨(.type "function"),none,(.func (PySem.W.fnOf "_law_loose" "_law_loose" (B2 s_b2) (B1 s_b2) (A5 s_b2) .none .none .none (.str "law_hurryprice_k27_whole_latest_or_bar" 309) none (.ref 166) .none)),#[]⟩) ::
 (nat_lit 173,⟨(.type "code"),none,(.fields #[(.str "_law_times_drawn" 434),(.str "_law_times_drawn" 435),(.str "/claim/cut.py" 436),(.int 202 0),(.int 3 0),(.int 0 0),(.int 0 0),(.int 3 0),(.ref 168),(.bool true),(.int 181 0),(.ref 169),.none,(.ref 170),(.ref 171),(.ref 172),(.int 448 0),(.int 202 0),(.str "/claim/cut.py" 449)]),#[]⟩) ::
 (nat_lit 174,⟨(.type "function"),none,(.func (PySem.W.fnOf "_law_times_drawn" "_law_times_drawn" (B2 s_a0) (B1 s_a0) (A5 s_a0) .none .none .none (.str "law_hurryprice_k27_whole_latest_or_bar" 309) none (.ref 173) .none)),#[]⟩) ::
 (nat_lit 178,⟨(.type "code"),none,(.fields #[(.str "_law_keeps" 451),(.str "_law_keeps" 452),(.str "/claim/cut.py" 453),(.int 215 0),(.int 3 0),(.int 0 0),(.int 0 0),(.int 3 0),(.ref 175),(.bool true),(.int 181 0),(.ref 176),.none,.none,.none,(.ref 177),(.int 454 0),(.int 215 0),(.str "/claim/cut.py" 455)]),#[]⟩) ::
 (nat_lit 179,⟨(.type "function"),none,(.func (PySem.W.fnOf "_law_keeps" "_law_keeps" (B2 s_b1) (B1 s_b1) (A5 s_b1) .none .none .none (.str "law_hurryprice_k27_whole_latest_or_bar" 309) none (.ref 178) .none)),#[]⟩) ::
 (nat_lit 185,⟨(.type "code"),none,(.fields #[(.str "_law_fraction" 457),(.str "_law_fraction" 458),(.str "/claim/cut.py" 459),(.int 229 0),(.int 1 0),(.int 0 0),(.int 0 0),(.int 3 0),(.ref 180),(.bool true),(.int 181 0),(.ref 181),.none,(.ref 182),(.ref 183),(.ref 184),(.int 462 0),(.int 229 0),(.str "/claim/cut.py" 463)]),#[]⟩) ::
 (nat_lit 186,⟨(.type "function"),none,(.func (PySem.W.fnOf "_law_fraction" "_law_fraction" (B2 s_a3) (B1 s_a3) (A5 s_a3) .none .none .none (.str "law_hurryprice_k27_whole_latest_or_bar" 309) none (.ref 185) .none)),#[]⟩) ::
 (nat_lit 190,⟨(.type "code"),none,(.fields #[(.str "_law_copy" 465),(.str "_law_copy" 466),(.str "/claim/cut.py" 467),(.int 236 0),(.int 1 0),(.int 0 0),(.int 0 0),(.int 3 0),(.ref 187),(.bool true),(.int 181 0),(.ref 188),.none,.none,.none,(.ref 189),(.int 468 0),(.int 236 0),(.str "/claim/cut.py" 469)]),#[]⟩) ::
 (nat_lit 191,⟨(.type "function"),none,(.func (PySem.W.fnOf "_law_copy" "_law_copy" (B2 s_be) (B1 s_be) (A5 s_be) .none .none .none (.str "law_hurryprice_k27_whole_latest_or_bar" 309) none (.ref 190) .none)),#[]⟩) ::
 (nat_lit 195,⟨(.type "code"),none,(.fields #[(.str "_law_starts" 471),(.str "_law_starts" 472),(.str "/claim/cut.py" 473),(.int 242 0),(.int 3 0),(.int 0 0),(.int 0 0),(.int 3 0),(.ref 192),(.bool true),(.int 181 0),(.ref 193),.none,.none,.none,(.ref 194),(.int 474 0),(.int 242 0),(.str "/claim/cut.py" 475)]),#[]⟩) ::
 (nat_lit 196,⟨(.type "function"),none,(.func (PySem.W.fnOf "_law_starts" "_law_starts" (B2 s_ac) (B1 s_ac) (A5 s_ac) .none .none .none (.str "law_hurryprice_k27_whole_latest_or_bar" 309) none (.ref 195) .none)),#[]⟩) ::
 (nat_lit 200,⟨(.type "code"),none,(.fields #[(.str "_law_balanced" 477),(.str "_law_balanced" 478),(.str "/claim/cut.py" 479),(.int 246 0),(.int 2 0),(.int 0 0),(.int 0 0),(.int 3 0),(.ref 197),(.bool true),(.int 181 0),(.ref 198),.none,.none,.none,(.ref 199),(.int 480 0),(.int 246 0),(.str "/claim/cut.py" 481)]),#[]⟩) ::
 (nat_lit 201,⟨(.type "function"),none,(.func (PySem.W.fnOf "_law_balanced" "_law_balanced" (B2 s_a2) (B1 s_a2) (A5 s_a2) .none .none .none (.str "law_hurryprice_k27_whole_latest_or_bar" 309) none (.ref 200) .none)),#[]⟩) ::
 (nat_lit 207,⟨(.type "code"),none,(.fields #[(.str "_law_length" 483),(.str "_law_length" 484),(.str "/claim/cut.py" 485),(.int 263 0),(.int 3 0),(.int 0 0),(.int 0 0),(.int 3 0),(.ref 202),(.bool true),(.int 181 0),(.ref 203),.none,(.ref 204),(.ref 205),(.ref 206),(.int 496 0),(.int 263 0),(.str "/claim/cut.py" 497)]),#[]⟩) ::
 (nat_lit 208,⟨(.type "function"),none,(.func (PySem.W.fnOf "_law_length" "_law_length" (B2 s_ab) (B1 s_ab) (A5 s_ab) .none .none .none (.str "law_hurryprice_k27_whole_latest_or_bar" 309) none (.ref 207) .none)),#[]⟩) ::
 (nat_lit 212,⟨(.type "code"),none,(.fields #[(.str "_law_chained" 499),(.str "_law_chained" 500),(.str "/claim/cut.py" 501),(.int 279 0),(.int 3 0),(.int 0 0),(.int 0 0),(.int 3 0),(.ref 209),(.bool true),(.int 181 0),(.ref 210),.none,.none,.none,(.ref 211),(.int 502 0),(.int 279 0),(.str "/claim/cut.py" 503)]),#[]⟩) ::
 (nat_lit 213,⟨(.type "function"),none,(.func (PySem.W.fnOf "_law_chained" "_law_chained" (B2 s_a6) (B1 s_a6) (A5 s_a6) .none .none .none (.str "law_hurryprice_k27_whole_latest_or_bar" 309) none (.ref 212) .none)),#[]⟩) ::
 (nat_lit 217,⟨(.type "code"),none,(.fields #[(.str "_law_right" 505),(.str "_law_right" 506),(.str "/claim/cut.py" 507),(.int 290 0),(.int 4 0),(.int 0 0),(.int 0 0),(.int 3 0),(.ref 214),(.bool true),(.int 181 0),(.ref 215),.none,.none,.none,(.ref 216),(.int 508 0),(.int 290 0),(.str "/claim/cut.py" 509)]),#[]⟩) ::
 (nat_lit 218,⟨(.type "function"),none,(.func (PySem.W.fnOf "_law_right" "_law_right" (B2 s_b5) (B1 s_b5) (A5 s_b5) .none .none .none (.str "law_hurryprice_k27_whole_latest_or_bar" 309) none (.ref 217) .none)),#[]⟩) ::
 (nat_lit 222,⟨(.type "code"),none,(.fields #[(.str "_law_whole" 511),(.str "_law_whole" 512),(.str "/claim/cut.py" 513),(.int 302 0),(.int 3 0),(.int 0 0),(.int 0 0),(.int 3 0),(.ref 219),(.bool true),(.int 181 0),(.ref 220),.none,.none,.none,(.ref 221),(.int 514 0),(.int 302 0),(.str "/claim/cut.py" 515)]),#[]⟩) ::
 (nat_lit 223,⟨(.type "function"),none,(.func (PySem.W.fnOf "_law_whole" "_law_whole" (B2 s_ba) (B1 s_ba) (A5 s_ba) .none .none .none (.str "law_hurryprice_k27_whole_latest_or_bar" 309) none (.ref 222) .none)),#[]⟩) ::
 (nat_lit 229,⟨(.type "code"),none,(.fields #[(.str "_law_grouped" 517),(.str "_law_grouped" 518),(.str "/claim/cut.py" 519),(.int 314 0),(.int 2 0),(.int 0 0),(.int 0 0),(.int 3 0),(.ref 224),(.bool true),(.int 181 0),(.ref 225),.none,(.ref 226),(.ref 227),(.ref 228),(.int 523 0),(.int 314 0),(.str "/claim/cut.py" 524)]),#[]⟩) ::
 (nat_lit 230,⟨(.type "function"),none,(.func (PySem.W.fnOf "_law_grouped" "_law_grouped" (B2 s_a7) (B1 s_a7) (A5 s_a7) .none .none .none (.str "law_hurryprice_k27_whole_latest_or_bar" 309) none (.ref 229) .none)),#[]⟩) ::
 (nat_lit 236,⟨(.type "code"),none,(.fields #[(.str "_law_round" 526),(.str "_law_round" 527),(.str "/claim/cut.py" 528),(.int 320 0),(.int 3 0),(.int 0 0),(.int 0 0),(.int 3 0),(.ref 231),(.bool true),(.int 181 0),(.ref 232),.none,(.ref 233),(.ref 234),(.ref 235),(.int 536 0),(.int 320 0),(.str "/claim/cut.py" 537)]),#[]⟩) ::
 (nat_lit 237,⟨(.type "function"),none,(.func (PySem.W.fnOf "_law_round" "_law_round" (B2 s_b6) (B1 s_b6) (A5 s_b6) .none .none .none (.str "law_hurryprice_k27_whole_latest_or_bar" 309) none (.ref 236) .none)),#[]⟩) ::
 (nat_lit 243,⟨(.type "code"),none,(.fields #[(.str "_law_lag_drawn" 539),(.str "_law_lag_drawn" 540),(.str "/claim/cut.py" 541),(.int 328 0),(.int 1 0),(.int 0 0),(.int 0 0),(.int 3 0),(.ref 238),(.bool true),(.int 181 0),(.ref 239),.none,(.ref 240),(.ref 241),(.ref 242),(.int 544 0),(.int 328 0),(.str "/claim/cut.py" 545)]),#[]⟩) ::
 (nat_lit 244,⟨(.type "function"),none,(.func (PySem.W.fnOf "_law_lag_drawn" "_law_lag_drawn" (B2 s_a4) (B1 s_a4) (A5 s_a4) .none .none .none (.str "law_hurryprice_k27_whole_latest_or_bar" 309) none (.ref 243) .none)),#[]⟩) ::
 (nat_lit 250,⟨(.type "code"),none,(.fields #[(.str "law" 547),(.str "law" 548),(.str "/claim/cut.py" 549),(.int 333 0),(.int 1 0),(.int 0 0),(.int 0 0),(.int 3 0),(.ref 245),(.bool true),(.int 181 0),(.ref 246),.none,(.ref 247),(.ref 248),(.ref 249),(.int 561 0),(.int 333 0),(.str "/claim/cut.py" 562)]),#[]⟩) ::
 (nat_lit 251,⟨(.type "function"),none,(.func (PySem.W.fnOf "law" "law" (B2 s_c4) (B1 s_c4) (A5 s_c4) .none .none .none (.str "law_hurryprice_k27_whole_latest_or_bar" 309) none (.ref 250) .none)),#[]⟩) :: []
def qq:Program:=PySem.W.view PySem.Challenge.pw_hurryprice_k27_whole_latest_or_bar [1,3,4,5,6,8,9,10,11,12,13,14,15,17,18,19,20,21,22,23,24,25,26,27,28,29,30,31,32,33,34,35,36,37,38,39,40,41,42]
def aa:List Nat:=[3,20,21,22,28,29,35,36,42,43,44,50,51,55,56,62,63,69,70,74,75,81,82,86,87,93,94,100,101,107,108,114,115,121,122,128,129,135,136,142,143,147,148,154,155,159,160,166,167,173,174,178,179,185,186,190,191,195,196,200,201,207,208,212,213,217,218,222,223,229,230,236,237,243,244,250,251]
theorem B97:∀ P:Params,aa=(kk P).map (·.1):=fun P=>by kernel_rfl
noncomputable abbrev hh:PySem.W.Hook:=PySem.W.kHook kk aa B97
abbrev xt (s:Shared):Bool:=PySem.W.xlAt qq [] s && PySem.W.recOk (PySem.W.RowW.records PySem.Challenge.rw_hurryprice_k27_whole_latest_or_bar.row.toRowW) s
theorem run1 (w:World) (os:OsState):(L2.ranT PySem.Challenge.pw_hurryprice_k27_whole_latest_or_bar 2552 w os).map (fun x=>PySem.W.staticsOk (importedModules PySem.Challenge.pw_hurryprice_k27_whole_latest_or_bar.main.body) (PySem.W.boot_heap w.params) x.abs.heap && PySem.W.namesBound PySem.Challenge.pw_hurryprice_k27_whole_latest_or_bar x.abs.heap && PySem.W.gensDone x.abs && PySem.W.laidKept (PySem.W.boot_heap w.params) x.abs.heap)=some true:=by kernel_rfl
theorem run2 (w:World) (os:OsState):(L2.ranT PySem.Challenge.pw_hurryprice_k27_whole_latest_or_bar 2552 w os).map (fun x=>(PySem.W.openSeen qq [] (importedModules PySem.Challenge.pw_hurryprice_k27_whole_latest_or_bar.main.body) xt true x.abs).1)=some (PySem.W.openGood qq []).1:=by kernel_rfl
theorem run4 (w:World) (os:OsState):(L2.ranT PySem.Challenge.pw_hurryprice_k27_whole_latest_or_bar 2552 w os).map (fun x=>(PySem.W.openSeen qq [] (importedModules PySem.Challenge.pw_hurryprice_k27_whole_latest_or_bar.main.body) xt true x.abs).2)=some (PySem.W.openGood qq []).2:=by kernel_rfl
theorem run3 (w:World) (os:OsState):(L2.ranT PySem.Challenge.pw_hurryprice_k27_whole_latest_or_bar 2552 w os).map (fun x=>hh.obs x.abs)=some (hh.val w):=by kernel_rfl
theorem left:PySem.W.LeftO PySem.Challenge.pw_hurryprice_k27_whole_latest_or_bar qq [] xt hh.obs hh.val 2552:=L2.B8h (by kernel_rfl) (by decide) (fun s=>by kernel_rfl) run1 run2 run4 run3
theorem said:PySem.Challenge.rw_hurryprice_k27_whole_latest_or_bar.wellSaid=true:=by decide +kernel
end Prf
namespace L2
open PySem PySem.Spec PyProof.Rows
abbrev Key:=Sum Int Str
def B8p:Key->Value->Bool
 | .inl k,v=>Value.isInt k v
 | .inr x,v=>Value.isStrOf x v
def keyH (w:World):Key->Int
 | .inl k=>hashInt k
 | .inr x=>hashStr w x
theorem I0:∀ {k:Key} {v:Value},B8p k v=true->(∃ i t,k=Sum.inl i/\v=Value.int i t)\/(∃ x t,k=Sum.inr x/\v=Value.str x t)
 | .inl i,v,h=>by
  obtain ⟨t,e⟩:=Value.isInt_shape (k:=i) (v:=v) h;exact .inl ⟨i,t,rfl,e⟩
 | .inr x,v,h=>by
  obtain ⟨t,e⟩:=Value.isStrOf_shape (x:=x) (v:=v) h;exact .inr ⟨x,t,rfl,e⟩
theorem B8o (a b:Int):decide ((Sum.inl a:Key)=Sum.inl b)=(a == b):=by
 by_cases e:a=b
 ·subst e; simp
 ·have h:¬ (Sum.inl a:Key)=Sum.inl b:=fun q=>e (Sum.inl.inj q);rw [decide_eq_false h];exact (beq_eq_false_iff_ne.mpr e).symm
theorem B8l (a b:Str):decide ((Sum.inr a:Key)=Sum.inr b)=decide (a=b):=by
 by_cases e:a=b
 ·subst e; simp
 ·have h:¬ (Sum.inr a:Key)=Sum.inr b:=fun q=>e (Sum.inr.inj q);rw [decide_eq_false h,decide_eq_false e]
theorem B8n (a:Int) (b:Str):decide ((Sum.inl a:Key)=Sum.inr b)=false:=decide_eq_false (fun q=>nomatch q)
theorem B8m (a:Str) (b:Int):decide ((Sum.inr a:Key)=Sum.inl b)=false:=decide_eq_false (fun q=>nomatch q)
def A8m (prog:Program) (w:World):PySem.KeyKind prog w Key where
 is:=B8p
 hash:=keyH w
 inj:=fun v a b ha hb=>by
  rcases I0 ha with ⟨i,t,rfl,rfl⟩ | ⟨x,t,rfl,rfl⟩
  ·rcases I0 hb with ⟨j,u,rfl,e⟩ | ⟨y,u,rfl,e⟩
   ·injection e with e1 _; rw [e1]
   ·exact nomatch e
  ·rcases I0 hb with ⟨j,u,rfl,e⟩ | ⟨y,u,rfl,e⟩
   ·exact nomatch e
   ·injection e with e1 _; rw [e1]
 byValue:=fun k v h=>by
  rcases I0 h with ⟨i,t,rfl,rfl⟩ | ⟨x,t,rfl,rfl⟩ <;> rfl
 pyHash:=fun hv h=>by
  rcases I0 hv with ⟨i,t,rfl,rfl⟩ | ⟨x,t,rfl,rfl⟩
  ·exact wpAny_pyHash_int h
  ·exact wpAny_pyHash_str h
 eqBool:=fun hu hv h=>by
  rcases I0 hu with ⟨i,t,rfl,rfl⟩ | ⟨x,t,rfl,rfl⟩
  ·rcases I0 hv with ⟨j,u,rfl,rfl⟩ | ⟨y,u,rfl,rfl⟩
   ·rw [B8o] at h; exact wpAny_eqBool_int h
   ·rw [B8n] at h; exact SeqAt.EqAt.int_str i t y u _ _ _ _ h
  ·rcases I0 hv with ⟨j,u,rfl,rfl⟩ | ⟨y,u,rfl,rfl⟩
   ·rw [B8m] at h; exact SeqAt.EqAt.str_int x t j u _ _ _ _ h
   ·rw [B8l] at h; exact wpAny_eqBool_str h
 «strs»:=fun k x t v h=>by
  rcases I0 h with ⟨i,u,rfl,e⟩ | ⟨y,u,rfl,e⟩
  ·exact nomatch e
  ·injection e with e1 _
   subst e1;cases v <;> rfl
end L2
namespace L2
open PySem PySem.Spec PyProof.Rows
inductive V where
 | non | bl (b:Bool) | int (i:Int) | str (x:Str) | byt (b:Array UInt8) | flt (b:UInt64) | ref (a:Addr) | ty (n:String)
 deriving DecidableEq
def RelV:V->Value->Prop
 | .non,u=>u=Value.none
 | .bl b,u=>u=Value.bool b
 | .int i,u=>∃ t,u=Value.int i t
 | .str x,u=>∃ t,u=Value.str x t
 | .byt b,u=>∃ t,u=Value.bytes b t
 | .flt b,u=>∃ t,u=Value.float b t
 | .ref a,u=>u=Value.ref a
 | .ty n,u=>u=Value.type n
abbrev Vals:List V->List Value->Prop:=Paired RelV
theorem Vals.length {xs:List V} {us:List Value} (r:Vals xs us):xs.length=us.length:=Paired.length r
theorem Vals.get:∀ {xs:List V} {us:List Value} {i:Nat} {x:V},Vals xs us->xs[i]?=some x->∃ u,us[i]?=some u/\RelV x u
 | _,_,_,_,.nil,e=>by simp at e
 | _,_,0,_,.cons r _,e=>by simp at e; subst e; exact ⟨_,rfl,r⟩
 | _,_,i + 1,x,.cons _ t,e=>by
  obtain ⟨u,h1,h2⟩:=Vals.get (i:=i) (x:=x) t (by simpa using e);exact ⟨u,by simpa using h1,h2⟩
theorem Vals.set {x:V} {u:Value} (r:RelV x u):∀ {xs:List V} {us:List Value} (i:Nat),Vals xs us->Vals (xs.set i x) (us.set i u)
 | _,_,_,.nil=>.nil
 | _,_,0,.cons _ t=>.cons r t
 | _,_,i + 1,.cons q t=>.cons q (Vals.set r i t)
theorem Vals.append:∀ {xs ys:List V} {us ws:List Value},Vals xs us->Vals ys ws->Vals (xs++ys) (us++ws)
 | _,_,_,_,.nil,s=>s
 | _,_,_,_,.cons r t,s=>.cons r (Vals.append t s)
theorem Vals.take:∀ {xs:List V} {us:List Value} (n:Nat),Vals xs us->Vals (xs.take n) (us.take n)
 | _,_,0,_=>.nil
 | _,_,_ + 1,.nil=>.nil
 | _,_,n + 1,.cons r t=>.cons r (Vals.take n t)
theorem Vals.drop:∀ {xs:List V} {us:List Value} (n:Nat),Vals xs us->Vals (xs.drop n) (us.drop n)
 | _,_,0,r=>r
 | _,_,_ + 1,.nil=>.nil
 | _,_,n + 1,.cons _ t=>Vals.drop n t
theorem Vals.none_of:∀ {xs:List V} {us:List Value} {i:Nat},Vals xs us->xs[i]?=none->us[i]?=none:=fun {xs us i} r e=>by
 have h1:=r.length;have h2:xs.length<=i:=List.getElem?_eq_none_iff.mp e;exact List.getElem?_eq_none_iff.mpr (by omega)
def RelO:Option V->Option Value->Prop
 | some v,some u=>RelV v u
 | none,none=>True
 | _,_=>False
def KV {κ:Type}:List (κ × V)->List (κ × Value)->Prop:=Paired fun (p:κ × V) (q:κ × Value)=>p.1=q.1/\RelV p.2 q.2
def kV:Key->V
 | .inl i=>.int i
 | .inr x=>.str x
inductive HO where
  | lst (xs:List V)
  | tup (xs:List V)
  | dK (kvs:List (Key × V)) | dT (kvs:List (List Key × V))
  | set (S:Int->Bool) (n:Nat)
  | ins (C dx:Addr) (fs:List (Str × V))
  | own (x:Addr)
  | xd (fs:List (Str × V))
  | met (f x:Addr)
  | rng (lo hi:Int)
  | frz (o:Obj) (u:HO)
  | tbl (ps:Array Value)
  | ext (φ:Heap->Prop)
abbrev Hp:=Addr->Option HO
def upd (H:Hp) (a:Addr) (o:HO):Hp:=fun b=>if b=a then some o else H b
theorem D5 {H:Hp} {a:Addr} {o:HO}:upd H a o a=some o:=by unfold upd; rw [if_pos rfl]
theorem D8 {H:Hp} {a b:Addr} {o:HO} (h:b≠a):upd H a o b=H b:=by unfold upd; rw [if_neg h]
theorem F5 {H:Hp} {a b:Addr} {o:HO} (h:H a=some o) (h':H b=none):a≠b:=by
 intro e; subst e; rw [h] at h'; cases h'
section
variable (P:Program) (w:World)
def ObjOk (H:Hp) (h:Heap) (a:Addr):HO->Prop
 | .lst xs=>xs.length<=sizeLine/\∃ (its:List Value) (n:Nat),Vals xs its/\h.get? a=some { cls:=.type "list",data:=.seq its.toArray n }
 | .tup xs=>xs.length<=sizeLine/\∃ its:List Value,Vals xs its/\IsTup h a its.toArray
 | .dK kvs=>kvs.length<=sizeLine/\(a == sysModules)=false/\∃ vs,KV kvs vs/\h.DictOf (A8m P w) a vs
 | .dT kvs=>kvs.length<=sizeLine/\(a == sysModules)=false/\∃ xs:List (List Key × Addr × Value),
   Paired (fun (p:List Key × V) (q:List Key × Addr × Value)=>p.1=q.1/\H q.2.1=some (.tup (p.1.map kV))/\RelV p.2 q.2.2) kvs xs /\
   ∃ o es ep,h.get? a=some o/\o.ExactDict/\o.data=.dict es ep/\es.toList=xs.map (entryOfKey (tupleKind (A8m P w)))/\(xs.map (·.1)).Nodup
 | .set S n=>h.SetOf (intKind P w) a S n
 | .ins C dx fs=>H dx=some (.own a)/\fs.length<=1000/\dx≠a/\h.get? a=some (PySem.W.instObj C dx) /\
   ∃ mA,h.Ns1 dx mA/\(∀ f,RelO (fs.lookup f) (mA f))/\PySem.Within mA (fs.map (·.1))
 | .own _=>∃ o,h.get? a=some o
 | .xd fs=>∃ mA,h.Ns1 a mA/\∀ f,RelO (fs.lookup f) (mA f)
 | .rng lo hi=>∃ t u v,h.get? a=some { cls:=.type "range",data:=.fields #[.int lo t,.int hi u,.int 1 v] }
 | .frz o u=>h.get? a=some o/\ObjOk H h a u
 | .tbl ps=>h.get? a=some { cls:=.none,data:=.fields ps }
 | .met f x=>h.get? a=some (PySem.W.methodObj (.ref f) (.ref x))
 | .ext φ=>φ h/\(∃ o,h.get? a=some o)/\∀ h1 h2:Heap,φ h1->(∀ o,h1.get? a=some o->h2.get? a=some o)->φ h2
def HOk (H:Hp) (h:Heap):Prop:=∀ a o,H a=some o->ObjOk P w H h a o
end
section
variable {P:Program} {w:World} {H H':Hp} {h h':Heap} {a:Addr} {o:HO}
theorem ObjOk.lt (x:ObjOk P w H h a o):a < h.objs.size:=by
 cases o with
 | lst xs=>obtain ⟨_,_,_,_,e⟩:=x; exact Heap.lt_size e
 | tup xs=>obtain ⟨_,_,_,p⟩:=x; exact p.lt
 | dK kvs=>obtain ⟨_,_,_,_,o,_,_,e,_⟩:=x; exact Heap.lt_size e
 | dT kvs=>obtain ⟨_,_,_,_,o,_,_,e,_⟩:=x; exact Heap.lt_size e
 | set S n=>obtain ⟨o,_,_,_,e,_⟩:=x; exact Heap.lt_size e
 | ins C dx fs=>obtain ⟨_,_,_,e,_⟩:=x; exact Heap.lt_size e
 | own y=>obtain ⟨_,e⟩:=x; exact Heap.lt_size e
 | xd fs=>obtain ⟨_,⟨_,_,_,e,_⟩,_⟩:=x; exact Heap.lt_size e
 | rng lo hi=>obtain ⟨_,_,_,e⟩:=x; exact Heap.lt_size e
 | frz ob u=>obtain ⟨e,_⟩:=x; exact Heap.lt_size e
 | tbl ps=>exact Heap.lt_size (show h.get? a=some _ from x)
 | met f y=>exact Heap.lt_size (show h.get? a=some _ from x)
 | ext φ=>obtain ⟨_,⟨_,e⟩,_⟩:=x; exact Heap.lt_size e
theorem Paired.mapP {α β:Type} {F G:α->β->Prop}:∀ {l₁:List α} {l₂:List β},Paired F l₁ l₂->(∀ a b,F a b->G a b)->Paired G l₁ l₂
 | _,_,.nil,_=>.nil
 | _,_,.cons r t,f=>.cons (f _ _ r) (Paired.mapP t f)
theorem ObjOk.stay (x:ObjOk P w H h a o) (k:∀ b u,(b=a\/H b=some (.own a))->h.get? b=some u->h'.get? b=some u)
  (ho:∀ b,H b=some (.own a)->H' b=some (.own a)) (ht:∀ b xs,H b=some (.tup xs)->H' b=some (.tup xs)):ObjOk P w H' h' a o:=by
 induction o with
 | lst xs=>obtain ⟨z,its,n,r,e⟩:=x; exact ⟨z,its,n,r,k _ _ (.inl rfl) e⟩
 | tup xs=>obtain ⟨z,its,r,ob,e,c⟩:=x; exact ⟨z,its,r,ob,k _ _ (.inl rfl) e,c⟩
 | dK kvs=>obtain ⟨z,y,vs,r,ob,es,ep,e,c⟩:=x; exact ⟨z,y,vs,r,ob,es,ep,k _ _ (.inl rfl) e,c⟩
 | dT kvs =>
  obtain ⟨z,y,xs,r,ob,es,ep,e,c⟩:=x;exact ⟨z,y,xs,Paired.mapP r fun p q z=>⟨z.1,ht _ _ z.2.1,z.2.2⟩,ob,es,ep,k _ _ (.inl rfl) e,c⟩
 | set S n=>obtain ⟨ob,es,ep,t,e,c⟩:=x; exact ⟨ob,es,ep,t,k _ _ (.inl rfl) e,c⟩
 | ins C dx fs =>
  obtain ⟨d,z,ne,e,mA,⟨od,es,ep,e2,c⟩,r⟩:=x;exact ⟨ho _ d,z,ne,k _ _ (.inl rfl) e,mA,⟨od,es,ep,k _ _ (.inr d) e2,c⟩,r⟩
 | own y=>obtain ⟨ob,e⟩:=x; exact ⟨ob,k _ _ (.inl rfl) e⟩
 | xd fs=>obtain ⟨mA,⟨od,es,ep,e,c⟩,r⟩:=x; exact ⟨mA,⟨od,es,ep,k _ _ (.inl rfl) e,c⟩,r⟩
 | rng lo hi=>obtain ⟨t,u,v,e⟩:=x; exact ⟨t,u,v,k _ _ (.inl rfl) e⟩
 | frz ob u ih=>obtain ⟨e,q⟩:=x; exact ⟨k _ _ (.inl rfl) e,ih q⟩
 | tbl ps =>
  have e:h.get? a=some { cls:=.none,data:=.fields ps }:=x;show h'.get? a=some { cls:=.none,data:=.fields ps };exact k a _ (.inl rfl) e
 | met f y =>
  have e:h.get? a=some (PySem.W.methodObj (.ref f) (.ref y)):=x;show h'.get? a=some (PySem.W.methodObj (.ref f) (.ref y));exact k a _ (.inl rfl) e
 | ext φ=>obtain ⟨p,⟨o,e⟩,st⟩:=x; exact ⟨st _ _ p fun o q=>k _ _ (.inl rfl) q,⟨o,k _ _ (.inl rfl) e⟩,st⟩
theorem HOk.lt (x:HOk P w H h) (e:H a=some o):a < h.objs.size:=(x a o e).lt
theorem HOk.fresh (x:HOk P w H h) (e:h.objs.size<=a):H a=none:=by
 cases q:H a with
 | none=>rfl
 | some u=>exact absurd (Nat.lt_of_lt_of_le (x.lt q) e) (Nat.lt_irrefl _)
theorem HOk.kept (x:HOk P w H h) (k:∀ b u,h.get? b=some u->h'.get? b=some u):HOk P w H h':=fun a o e =>
 (x a o e).stay (fun b u _ q=>k b u q) (fun _ q=>q) fun _ _ q=>q
theorem HOk.laid (x:HOk P w H h) (k:∀ b u,h.get? b=some u->h'.get? b=some u) (hp:h.objs.size<=a) (new:ObjOk P w (upd H a o) h' a o):HOk P w (upd H a o) h':=fun b u e=>by
 have hn:=x.fresh hp;by_cases hb:b=a
 ·subst hb; rw [D5] at e; cases e; exact new
 ·rw [D8 hb] at e;exact (x b u e).stay (fun c v _ q=>k c v q) (fun c q=>by rw [D8 (F5 q hn)]; exact q) fun c xs q=>by rw [D8 (F5 q hn)]; exact q
end
def Rd (H:Hp) (a:Addr) (u:HO):Prop:=H a=some u\/∃ o,H a=some (.frz o u)
theorem Rd.ok {P:Program} {w:World} {H:Hp} {h:Heap} {a:Addr} {u:HO} (r:Rd H a u) (x:HOk P w H h):ObjOk P w H h a u:=by
 rcases r with r | ⟨o,r⟩
 ·exact x a u r
 ·obtain ⟨_,q⟩:=x a _ r;exact q
def Mut:Option HO->Prop
 | some (.lst _)=>True
 | some (.dK _)=>True
 | some (.dT _)=>True
 | some (.set _ _)=>True
 | some (.ins _ _ _)=>True
 | some (.ext _)=>True
 | _=>False
section
variable {P:Program} {w:World} {H:Hp} {h h':Heap} {x e:Addr} {o':HO}
theorem HOk.write (ok:HOk P w H h) (mu:Mut (H x)) (he:e=x\/H e=some (.own x)) (k:∀ b u,b≠e->h.get? b=some u->h'.get? b=some u) (heo:∃ u,h'.get? e=some u)
  (new:ObjOk P w (upd H x o') h' x o'):HOk P w (upd H x o') h':=fun b u q=>by
 have nown:∀ c y,H c=some (.own y)->c≠x:=fun c y r z=>by subst z; rw [r] at mu; exact mu
 have ntup:∀ c xs,H c=some (.tup xs)->c≠x:=fun c xs r z=>by subst z; rw [r] at mu; exact mu
 by_cases hb:b=x
 ·subst hb; rw [D5] at q; cases q; exact new
 ·rw [D8 hb] at q;by_cases hbe:b=e
  ·have q':H b=some (.own x):=by
    rcases he with z | z
    ·exact absurd (hbe.trans z) hb
    ·rw [hbe]; exact z
   rw [q] at q'; cases q';obtain ⟨v,hv⟩:=heo;exact ⟨v,by rw [hbe]; exact hv⟩
  ·refine (ok b u q).stay (fun c v hc r=>k c v ?_ r) (fun c r=>by rw [D8 (nown c b r)]; exact r) fun c xs r=>by rw [D8 (ntup c xs r)]; exact r
   rcases hc with rfl | hc
   ·exact hbe
   ·rintro rfl;rcases he with z | z
    ·exact nown c b hc z
    ·rw [hc] at z; cases z; exact hb rfl
end
structure Un (fs ex:List Addr) (H H':Hp) (h h':Heap):Prop where
 keep:∀ b o,h.get? b=some o->H b=none->b ∉ fs->b ∉ ex->h'.get? b=some o
 slot:∀ b o,h.get? b=some o->H b=none->b ∈ fs->b ∉ ex->∃ sl,h'.get? b=some { o with slots:=sl }
 free:∀ b o,h.get? b=some o->H b=none->b ∉ ex->H' b=none
 there:∀ b o,h.get? b=some o->b ∉ ex->∃ o',h'.get? b=some o'
 tups:∀ b xs,H b=some (.tup xs)->H' b=some (.tup xs)
 frzs:∀ b o u,H b=some (.frz o u)->H' b=some (.frz o u)
 tbls:∀ b ps,H b=some (.tbl ps)->∃ more,H' b=some (.tbl (ps++more))
section
variable {fs fs' ex ex':List Addr} {H H1 H2:Hp} {h h1 h2 h':Heap} {a x e:Addr} {o:HO}
theorem Un.any (u:Un fs ex H H1 h h1) {b:Addr} {ob:Obj} (q:h.get? b=some ob) (n:H b=none) (hx:b ∉ ex):∃ sl,h1.get? b=some { ob with slots:=sl }:=by
 by_cases hb:b ∈ fs
 ·exact u.slot b ob q n hb hx
 ·exact ⟨ob.slots,u.keep b ob q n hb hx⟩
theorem Un.kept (k:∀ b u,h.get? b=some u->h'.get? b=some u):Un fs ex H H h h' :=
 ⟨fun b ob q _ _ _=>k b ob q,fun b ob q _ _ _=>⟨ob.slots,k b ob q⟩,fun _ _ _ n _=>n,fun b ob q _=>⟨ob,k b ob q⟩,fun _ _ q=>q,fun _ _ _ q=>q,fun _ ps q=>⟨#[],by rw [q]; simp⟩⟩
theorem Un.refl:Un fs ex H H h h:=Un.kept fun _ _ q=>q
theorem Un.laid (k:∀ b u,h.get? b=some u->h'.get? b=some u) (hp:h.objs.size<=a) (hn:H a=none):Un fs ex H (upd H a o) h h' where
 keep:=fun b u q _ _ _=>k b u q
 slot:=fun b u q _ _ _=>⟨u.slots,k b u q⟩
 free:=fun b u q n _=>by rw [D8 (Nat.ne_of_lt (Nat.lt_of_lt_of_le (Heap.lt_size q) hp))]; exact n
 there:=fun b u q _=>⟨u,k b u q⟩
 tups:=fun b xs q=>by rw [D8 (F5 q hn)]; exact q
 frzs:=fun b u xs q=>by rw [D8 (F5 q hn)]; exact q
 tbls:=fun b ps q=>⟨#[],by rw [D8 (F5 q hn),q]; simp⟩
theorem Un.write (mu:Mut (H x)) (he:e=x\/H e=some (.own x)) (k:∀ b u,b≠e->h.get? b=some u->h'.get? b=some u) (heo:∃ u,h'.get? e=some u):Un fs ex H (upd H x o) h h':=by
 have hx:∀ b,H b=none->b≠x:=fun b n z=>by subst z; rw [n] at mu; exact mu
 have hb:∀ b,H b=none->b≠e:=fun b n z=>by
  subst z;rcases he with r | r
  ·exact hx b n r
  ·rw [n] at r; cases r
 have hm:∀ b u,H b=some u->¬ Mut (some u)->b≠x:=fun b u q nm z=>by subst z; rw [q] at mu; exact nm mu
 refine ⟨fun b u q n _ _=>k b u (hb b n) q,fun b u q n _ _=>⟨u.slots,k b u (hb b n) q⟩,fun b u q n _=>by rw [D8 (hx b n)]; exact n,fun b u q _=>?_,
  fun b xs q=>by rw [D8 (hm b _ q fun z=>z)]; exact q,fun b u xs q=>by rw [D8 (hm b _ q fun z=>z)]; exact q,fun b ps q=>⟨#[],by rw [D8 (hm b _ q fun z=>z),q]; simp⟩⟩
 by_cases hbe:b=e
 ·subst hbe; exact heo
 ·exact ⟨u,k b u hbe q⟩
end
def trk (h:Heap) (H:Hp):List Addr:=(List.range h.objs.size).filter fun a=>(H a).isSome
def hidT (h:Heap) (H:Hp):Heap:=PySem.W.hideAll h (trk h H)
theorem A85 (h:Heap) (H:Hp):(hidT h H).objs.size=h.objs.size:=PySem.W.hideAll_size _ _
theorem B04 {h:Heap} {H:Hp} {b:Addr} {o:Obj} (e:h.get? b=some o) (n:H b=none):(hidT h H).get? b=some o :=
 PySem.W.hideAll_get _ e fun hm=>by
  have q:(H b).isSome=true:=(List.mem_filter.mp hm).2;rw [n] at q; simp at q
theorem B5e {h:Heap} {H:Hp} {b:Addr} {o:Obj} (e:(hidT h H).get? b=some o):h.get? b=some o/\H b=none:=by
 have e':h.get? b=some o:=PySem.W.of_hideAll (trk h H) e;refine ⟨e',?_⟩;cases q:H b with
 | none=>rfl
 | some x =>
  have hm:b ∈ trk h H:=List.mem_filter.mpr ⟨List.mem_range.mpr (Heap.lt_size e'),by simp [q]⟩;have z:(hidT h H).get? b=none:=PySem.W.hideAll_none (trk h H) hm;rw [z] at e; cases e
def B59 (g h:Heap) (L:Addr):List (Addr × Obj):=(List.range h.objs.size).filterMap fun a=>if a=L\/(g.get? a).isSome=true then none else (h.get? a).map fun o=>(a,o)
def rest (g h:Heap) (L d:Addr):List (Addr × Obj):=(B59 g h L).filter fun p=>decide (p.1≠d)
end L2
namespace L2
open PySem PySem.Spec PyProof.Rows
structure Mod (K:PySem.W.Frag) (mg:Str->Option Value) (base:Heap):Prop where
 kin:K.In base
 glob:base.Ns mainGlobals mg
 blt:∃ mb,base.Ns builtinsNs mb/\∀ x:Str,x≠"__name__"->mb x=bootBuiltins x
 nolimit:base.NoLimit
structure Cx where
 prog:Program
 w:World
 K:PySem.W.Frag
 mg:Str->Option Value
 base:Heap
 A:Around
 N:List Str
 s₀:Shared
 H₀:Hp
 env:Env
 outer:List Env
 stack:List Env
 ex:List Addr
 fn:Str->Bool
 calm:Bool
 pn:List (Addr × Obj)
 xe:Value->Shared->Prop
def frs (l:List Env):List Addr:=l.filterMap (·.frame)
abbrev Cx.fs (X:Cx):List Addr:=frs X.outer
def Vis (sc:Scope) (x:Str):Prop:=sc.names.lookup x=some .local\/sc.names.lookup x=some .cell\/sc.names.lookup x=some .free
def Loc (sc:Scope) (x:Str):Prop:=sc.names.lookup x=some .local\/sc.names.lookup x=some .cell
def Look (env:Env) (h:Heap) (m:Str->Option Value) (x:Str) (u:Value):Prop :=
 (env.kindOf x=some .local/\m x=some u)\/((env.kindOf x=some .cell\/env.kindOf x=some .free)/\∃ c,env.cells.lookup x=some c/\h.IsCell c (some u))
structure Cx.Ok (X:Cx):Prop where
 mod:Mod X.K X.mg X.base
 kind:X.env.scope.kind=.function
 glob:X.env.globals=mainGlobals
 blt:X.env.builtins=builtinsNs
 above:X.s₀.heap.objs.size<=X.env.locals
 inj:∀ x y c,X.env.cells.lookup x=some c->X.env.cells.lookup y=some c->x=y
 has:∀ x,(X.env.kindOf x=some .cell\/X.env.kindOf x=some .free)->∃ c,X.env.cells.lookup x=some c
 cab:∀ x c,X.fn x=true->X.env.cells.lookup x=some c->X.s₀.heap.objs.size<=c
 hd:X.calm=true->X.A.handled=none
 frames:X.A.frames=some X.stack
 stk:X.stack=X.outer\/(X.stack=X.env :: X.outer/\X.env.frame=some X.env.locals)
 exf:∀ b ∈ X.ex,b≠X.env.locals/\∀ x c,X.env.cells.lookup x=some c->c≠b
 bs:∀ b o,X.base.get? b=some o->X.s₀.heap.get? b=some o/\X.H₀ b=none
 bsz:X.base.objs.size<=X.s₀.heap.objs.size
 noex:∀ b o,X.base.get? b=some o->b ∉ X.ex
 exfs:∀ b ∈ X.ex,b ∉ X.fs
 funs:X.s₀.heap.FunFrames X.base X.outer
 frf:∀ b ∈ X.fs,X.H₀ b=none
structure Inv (X:Cx) (pins:List (Addr × Obj)) (σ:List (Option V)) (H:Hp) (s:Shared):Prop where
 ok:X.Ok
 os:s.os=X.s₀.os
 bare:AllBare s.gens
 base:Un X.fs X.ex X.H₀ H X.s₀.heap s.heap
 loc:∃ m,s.heap.Ns X.env.locals m/\∀ (i:Nat) (x:Str) (v:V),X.N[i]?=some x->σ[i]?=some (some v)->Vis X.env.scope x->∃ u,RelV v u/\Look X.env s.heap m x u
 cell:∀ x c,X.env.cells.lookup x=some c->∃ v,s.heap.IsCell c v
 free:H X.env.locals=none
 freeC:∀ x c,X.env.cells.lookup x=some c->H c=none
 pin:∀ p ∈ X.pn++pins,s.heap.get? p.1=some p.2/\H p.1=none/\p.1≠X.env.locals/\p.1 ∉ X.fs/\∀ v,p.2.data≠.cell v
 hok:HOk X.prog X.w H s.heap
 len:σ.length=X.N.length
section
variable {X:Cx} {pins:List (Addr × Obj)} {σ:List (Option V)} {H H':Hp} {s:Shared} {h':Heap}
theorem Cx.Ok.nofr (ok:X.Ok) {b:Addr} {o:Obj} (e:X.base.get? b=some o):b ∉ X.fs:=fun hb=>by
 have:=(ok.funs.mem hb).1;rw [e] at this; cases this
theorem Inv.bs (I:Inv X pins σ H s):∀ b o,X.base.get? b=some o->s.heap.get? b=some o/\H b=none:=fun b o e =>
 ⟨I.base.keep b o (I.ok.bs b o e).1 (I.ok.bs b o e).2 (I.ok.nofr e) (I.ok.noex b o e),I.base.free b o (I.ok.bs b o e).1 (I.ok.bs b o e).2 (I.ok.noex b o e)⟩
theorem Inv.bk (I:Inv X pins σ H s):∀ b o,X.base.get? b=some o->s.heap.get? b=some o:=fun b o e=>(I.bs b o e).1
theorem Inv.mod (I:Inv X pins σ H s):Mod X.K X.mg X.base:=I.ok.mod
theorem Inv.kIn (I:Inv X pins σ H s):X.K.In s.heap:=I.ok.mod.kin.keeps I.bk
theorem Inv.lt (I:Inv X pins σ H s):X.env.locals < s.heap.objs.size:=let ⟨_,hn,_⟩:=I.loc; hn.lt
theorem Inv.sz (I:Inv X pins σ H s):X.s₀.heap.objs.size<=s.heap.objs.size:=Nat.le_trans I.ok.above (Nat.le_of_lt I.lt)
theorem Inv.nofs (I:Inv X pins σ H s) {a:Addr} (h:s.heap.objs.size<=a):a ∉ X.fs:=fun hb=>by
 obtain ⟨_,o,ho,_⟩:=I.ok.funs.mem hb;exact absurd (Nat.lt_of_lt_of_le (Heap.lt_size ho) (Nat.le_trans I.sz h)) (Nat.lt_irrefl _)
theorem Inv.cne (I:Inv X pins σ H s):∀ x c,X.env.cells.lookup x=some c->c≠X.env.locals:=fun x c e z=>by
 obtain ⟨v,o,ho,hd⟩:=I.cell x c e;obtain ⟨m,⟨o',es,ep,ho',hd',_⟩,_⟩:=I.loc;rw [z,ho'] at ho; cases ho; rw [hd'] at hd; cases hd
theorem Inv.funs (I:Inv X pins σ H s):s.heap.FunFrames X.base X.outer:=by
 have all:∀ (l:List Env),(∀ b ∈ frs l,b ∈ X.fs)->X.s₀.heap.FunFrames X.base l->s.heap.FunFrames X.base l:=by
  intro l;induction l with
  | nil=>intro _ _; trivial
  | cons env r ih =>
   intro hs hl;obtain ⟨hk,⟨L,o,hf,hn,ho,hd⟩,hr⟩:=hl;have hL:L ∈ X.fs:=hs L (by unfold frs; rw [List.filterMap_cons,hf]; exact List.mem_cons_self);obtain ⟨sl,e⟩:=I.base.slot L o ho (I.ok.frf L hL) hL fun z=>I.ok.exfs L z hL;exact ⟨hk,⟨L,_,hf,hn,e,hd⟩,ih (fun b hb=>hs b (by unfold frs; rw [List.filterMap_cons,hf]; exact List.mem_cons_of_mem _ hb)) hr⟩
 exact all X.outer (fun _ hb=>hb) I.ok.funs
theorem Inv.stack (I:Inv X pins σ H s):s.heap.FunFrames X.base X.stack:=by
 rcases I.ok.stk with e | ⟨e,hf⟩
 ·rw [e]; exact I.funs
 ·rw [e];obtain ⟨m,hn,_⟩:=I.loc;refine .cons (by rw [I.ok.kind]; decide) hf hn ?_ I.funs;exact Heap.get?_none_of_le (Nat.le_trans I.ok.bsz I.ok.above)
theorem Inv.stkSub (I:Inv X pins σ H s):∀ b ∈ frs X.stack,b ∈ X.env.locals :: X.fs:=fun b hb=>by
 rcases I.ok.stk with e | ⟨e,hf⟩
 ·rw [e] at hb; exact List.mem_cons_of_mem _ hb
 ·rw [e] at hb;unfold frs at hb;rw [List.filterMap_cons,hf] at hb;exact hb
theorem Inv.stkFree (I:Inv X pins σ H s):∀ b ∈ frs X.stack,H b=none:=fun b hb=>by
 rcases List.mem_cons.mp (I.stkSub b hb) with e | hb
 ·rw [e]; exact I.free
 ·obtain ⟨_,o,ho,_⟩:=I.ok.funs.mem hb;exact I.base.free b o ho (I.ok.frf b hb) fun z=>I.ok.exfs b z hb
theorem Inv.step {g':Array GenState} {t':Nat} {d':Drawn} {ch:List Addr} (I:Inv X pins σ H s)
  (hch:∀ b ∈ ch,(b ∈ X.ex\/X.s₀.heap.objs.size<=b)/\b≠X.env.locals/\(∀ x c,X.env.cells.lookup x=some c->c≠b)/\∀ p ∈ X.pn++pins,p.1≠b)
  (keep:∀ b o,b≠X.env.locals->b ∉ X.fs->b ∉ ch->s.heap.get? b=some o->H b=none->h'.get? b=some o)
  (slot:∀ b o,b≠X.env.locals->b ∈ X.fs->b ∉ ch->s.heap.get? b=some o->H b=none->∃ sl,h'.get? b=some { o with slots:=sl }) (free:∀ b o,b ∉ ch->s.heap.get? b=some o->H b=none->H' b=none)
  (there:∀ b o,b ∉ ch->s.heap.get? b=some o->∃ o',h'.get? b=some o')
  (tups:∀ b xs,H b=some (.tup xs)->H' b=some (.tup xs)) (frzs:∀ b o u,H b=some (.frz o u)->H' b=some (.frz o u)) (tbls:∀ b ps,H b=some (.tbl ps)->∃ more,H' b=some (.tbl (ps++more)))
  (ns:∀ m,s.heap.Ns X.env.locals m->h'.Ns X.env.locals m) (hok:HOk X.prog X.w H' h') (hg:AllBare g') :
  Inv X pins σ H' { s with heap:=h',gens:=g',drawn:=d',toks:=t' }:=by
 have neL:∀ b o,X.s₀.heap.get? b=some o->b≠X.env.locals:=fun b o e=>Nat.ne_of_lt (Nat.lt_of_lt_of_le (Heap.lt_size e) I.ok.above);have neC:∀ b o,X.s₀.heap.get? b=some o->b ∉ X.ex->b ∉ ch:=fun b o e hx hb=>by
  rcases (hch b hb).1 with z | z
  ·exact hx z
  ·exact absurd (Nat.lt_of_lt_of_le (Heap.lt_size e) z) (Nat.lt_irrefl _)
 have cellK:∀ x c,X.env.cells.lookup x=some c->∀ v,s.heap.IsCell c v->h'.IsCell c v:=fun x c e v ⟨o,ho,hd⟩=>by
  have nch:c ∉ ch:=fun z=>(hch c z).2.2.1 x c e rfl;by_cases hc:c ∈ X.fs
  ·obtain ⟨sl,q⟩:=slot c o (I.cne x c e) hc nch ho (I.freeC x c e);exact ⟨_,q,hd⟩
  ·exact ⟨o,keep c o (I.cne x c e) hc nch ho (I.freeC x c e),hd⟩
 refine ⟨I.ok,I.os,hg,⟨fun b o e n hb hx=>?_,fun b o e n hb hx=>?_,fun b o e n hx=>?_,fun b o e hx=>?_,fun b xs e=>tups b xs (I.base.tups b xs e),fun b o xs e=>frzs b o xs (I.base.frzs b o xs e),fun b ps e=>?_⟩,?_,fun x c e=>?_,?_,fun x c e=>?_,fun p hp=>?_,hok,I.len⟩
 ·exact keep b o (neL b o e) hb (neC b o e hx) (I.base.keep b o e n hb hx) (I.base.free b o e n hx)
 ·obtain ⟨sl,e1⟩:=I.base.slot b o e n hb hx;obtain ⟨sl',e2⟩:=slot b _ (neL b o e) hb (neC b o e hx) e1 (I.base.free b o e n hx);exact ⟨sl',e2⟩
 ·obtain ⟨o',e1⟩:=I.base.there b o e hx;exact free b o' (neC b o e hx) e1 (I.base.free b o e n hx)
 ·obtain ⟨o',e1⟩:=I.base.there b o e hx;exact there b o' (neC b o e hx) e1
 ·obtain ⟨m1,e1⟩:=I.base.tbls b ps e;obtain ⟨m2,e2⟩:=tbls b _ e1;exact ⟨m1++m2,by rw [e2,Array.append_assoc]⟩
 ·obtain ⟨m,hn,hl⟩:=I.loc;refine ⟨m,ns m hn,fun i x v e1 e2 e3=>?_⟩;obtain ⟨u,r,l⟩:=hl i x v e1 e2 e3;refine ⟨u,r,?_⟩;rcases l with l | ⟨k,c,e,z⟩
  ·exact .inl l
  ·exact .inr ⟨k,c,e,cellK x c e _ z⟩
 ·obtain ⟨v,z⟩:=I.cell x c e;exact ⟨v,cellK x c e v z⟩
 ·obtain ⟨m,⟨o,_,_,ho,_⟩,_⟩:=I.loc;exact free _ o (fun z=>(hch _ z).2.1 rfl) ho I.free
 ·obtain ⟨v,o,ho,hd⟩:=I.cell x c e;exact free c o (fun z=>(hch c z).2.2.1 x c e rfl) ho (I.freeC x c e)
 ·obtain ⟨e,n,ne,nf,d⟩:=I.pin p hp;have nch:p.1 ∉ ch:=fun z=>(hch p.1 z).2.2.2 p hp rfl;exact ⟨keep p.1 p.2 ne nf nch e n,free p.1 p.2 nch e n,ne,nf,d⟩
theorem Inv.un {t':Nat} (I:Inv X pins σ H s) (u:Un X.fs [] H H' s.heap h') (hok:HOk X.prog X.w H' h'):Inv X pins σ H' { s with heap:=h',toks:=t' }:=by
 obtain ⟨m,⟨o,es,ep,ho,r⟩,_⟩:=id I.loc;obtain ⟨sl,hL⟩:=u.any ho I.free (by simp);exact I.step (g':=s.gens) (d':=s.drawn) (ch:=[]) (fun _ z=>nomatch z) (fun b o _ hb _ e n=>u.keep b o e n hb (by simp)) (fun b o _ hb _ e n=>u.slot b o e n hb (by simp)) (fun b o _ e n=>u.free b o e n (by simp)) (fun b o _ e=>u.there b o e (by simp)) u.tups u.frzs u.tbls (fun m' hm=>by
  obtain ⟨o',es',ep',ho',r'⟩:=hm;rw [ho] at ho'; cases ho';exact ⟨_,es',ep',hL,r'⟩) hok I.bare
theorem Inv.call {g':Array GenState} {t':Nat} {d':Drawn} {ch:List Addr} (I:Inv X pins σ H s) (u:Un (frs X.stack) ch H H' s.heap h') (hok:HOk X.prog X.w H' h') (hg:AllBare g')
  (hch:∀ b ∈ ch,(b ∈ X.ex\/X.s₀.heap.objs.size<=b)/\b≠X.env.locals/\(∀ x c,X.env.cells.lookup x=some c->c≠b)/\∀ p ∈ X.pn++pins,p.1≠b) :
  Inv X pins σ H' { s with heap:=h',gens:=g',drawn:=d',toks:=t' }:=by
 obtain ⟨m,⟨o,es,ep,ho,r⟩,_⟩:=id I.loc;obtain ⟨sl,hL⟩:=u.any ho I.free fun z=>(hch _ z).2.1 rfl;exact I.step (ch:=ch) hch (fun b o hL hb hc e n=>u.keep b o e n (fun z=>(List.mem_cons.mp (I.stkSub b z)).elim hL hb) hc) (fun b o _ _ hc e n=>u.any e n hc) (fun b o hc e n=>u.free b o e n hc) (fun b o hc e=>u.there b o e hc) u.tups u.frzs u.tbls (fun m' hm=>by
  obtain ⟨o',es',ep',ho',r'⟩:=hm;rw [ho] at ho'; cases ho';exact ⟨_,es',ep',hL,r'⟩) hok hg
theorem Inv.turned {t':Nat} {it:Addr} (I:Inv X pins σ H s) (k:∀ b o,b≠it->s.heap.get? b=some o->h'.get? b=some o) (hn:H it=none) (hL:it≠X.env.locals)
  (h1:it ∈ X.ex\/X.s₀.heap.objs.size<=it) (h2:∀ x c,X.env.cells.lookup x=some c->c≠it) (h3:∀ p ∈ X.pn++pins,p.1≠it):Inv X pins σ H { s with heap:=h',toks:=t' }:=by
 have nit:∀ b u,H b=some u->b≠it:=fun b u e z=>by rw [z,hn] at e; cases e
 refine I.step (g':=s.gens) (d':=s.drawn) (ch:=[it]) (fun b hb=>?_) (fun b o _ _ hc e _=>k b o (fun z=>hc (by simp [z])) e) (fun b o _ _ hc e _=>⟨o.slots,k b o (fun z=>hc (by simp [z])) e⟩) (fun _ _ _ _ n=>n)
  (fun b o hc e=>⟨o,k b o (fun z=>hc (by simp [z])) e⟩) (fun _ _ e=>e) (fun _ _ _ e=>e) (fun b ps e=>⟨#[],by rw [e]; simp⟩) (fun m hm=>?_) (fun b u e=>?_) I.bare
 ·have e:b=it:=by simpa using hb
  subst e;exact ⟨h1,hL,h2,h3⟩
 ·obtain ⟨o,es,ep,ho,r⟩:=hm;exact ⟨o,es,ep,k _ o (Ne.symm hL) ho,r⟩
 ·refine (I.hok b u e).stay (fun c v hc q=>k c v ?_ q) (fun _ q=>q) fun _ _ q=>q;rcases hc with z | z
  ·rw [z]; exact nit b u e
  ·exact nit c _ z
theorem Inv.tok (I:Inv X pins σ H s) (t:Nat):Inv X pins σ H { s with toks:=t }:=I.un (h':=s.heap) (t':=t) Un.refl I.hok
theorem Inv.kept {t':Nat} (I:Inv X pins σ H s) (k:∀ b u,s.heap.get? b=some u->h'.get? b=some u):Inv X pins σ H { s with heap:=h',toks:=t' }:=I.un (Un.kept k) (I.hok.kept k)
theorem Inv.laid {a:Addr} {o:HO} {t':Nat} (I:Inv X pins σ H s) (k:∀ b u,s.heap.get? b=some u->h'.get? b=some u) (hp:s.heap.objs.size<=a) (new:ObjOk X.prog X.w (upd H a o) h' a o) :
  Inv X pins σ (upd H a o) { s with heap:=h',toks:=t' }:=I.un (Un.laid k hp (I.hok.fresh hp)) (I.hok.laid k hp new)
theorem Inv.write {x e:Addr} {o:HO} {t':Nat} (I:Inv X pins σ H s) (mu:Mut (H x)) (he:e=x\/H e=some (.own x)) (k:∀ b u,b≠e->s.heap.get? b=some u->h'.get? b=some u) (heo:∃ u,h'.get? e=some u)
  (new:ObjOk X.prog X.w (upd H x o) h' x o):Inv X pins σ (upd H x o) { s with heap:=h',toks:=t' }:=I.un (Un.write mu he k heo) (I.hok.write mu he k heo new)
theorem Inv.pins_of {pins':List (Addr × Obj)} (I:Inv X pins σ H s) (h:∀ p ∈ pins',s.heap.get? p.1=some p.2/\H p.1=none/\p.1≠X.env.locals/\p.1 ∉ X.fs/\∀ v,p.2.data≠.cell v):Inv X pins' σ H s :=
 ⟨I.ok,I.os,I.bare,I.base,I.loc,I.cell,I.free,I.freeC,fun p hp=>(List.mem_append.mp hp).elim (fun z=>I.pin p (List.mem_append_left _ z)) (h p),I.hok,I.len⟩
theorem A36 {N:List Str} (hN:N.Nodup) {i j:Nat} {x:Str} (a:N[i]?=some x) (b:N[j]?=some x):i=j:=by
 obtain ⟨h1,e1⟩:=List.getElem?_eq_some_iff.mp a;obtain ⟨h2,e2⟩:=List.getElem?_eq_some_iff.mp b;exact (List.getElem_inj hN).mp (e1.trans e2.symm)
theorem A0r {M:Model} {A:Around} {E:Value->Shared->Prop} {i:Nat} {x:Str} {v:V} {u:Value} {Q:Unit->Shared->Prop} (I:Inv X pins σ H s) (hN:X.N.Nodup) (hi:X.N[i]?=some x) (hx:Loc X.env.scope x) (r:RelV v u)
  (h:∀ s',Inv X pins (σ.set i (some v)) H s'->(∃ a,Heap.SameBut a s.heap s'.heap/\(a=X.env.locals\/X.env.cells.lookup x=some a))->Q () s') (hf:X.fn x=true\/X.env.scope.names.lookup x=some .local:=by first | exact .inl rfl | exact .inr rfl | assumption):wpAny M A (storeName X.env x u) Q E s:=by
 obtain ⟨m,hn,hl⟩:=id I.loc;have hcls:(X.env.scope.kind == .class || (X.env.scope.kind == .module && X.env.locals != X.env.globals))=false:=by rw [I.ok.kind]; rfl
 have hiσ:i < σ.length:=by rw [I.len]; exact (List.getElem?_eq_some_iff.mp hi).1
 have cne:=I.cne;have tracked:∀ {a:Addr} {h':Heap},(∃ o,s.heap.get? a=some o/\H a=none)->Heap.SameBut a s.heap h'->HOk X.prog X.w H h':=fun {a h'} ha hs b ob e=>by
  obtain ⟨_,_,hfree⟩:=ha;refine (I.hok b ob e).stay (fun c w' hc q=>(hs.2 c ?_).trans q) (fun _ q=>q) fun _ _ q=>q;rintro rfl;rcases hc with rfl | hc
  ·rw [hfree] at e; cases e
  ·rw [hfree] at hc; cases hc
 rcases hx with hk | hk
 ·refine wpAny_storeName_local hk hn (fun h' hn' hs=>?_) hcls;obtain ⟨oL,_,_,hoL,_⟩:=id hn;refine h _ ⟨I.ok,I.os,I.bare,⟨fun b o e n hb hx=>?_,fun b o e n hb hx=>?_,I.base.free,fun b o e hx=>?_,I.base.tups,I.base.frzs,I.base.tbls⟩,⟨_,hn',fun j y v' e1 e2 e3=>?_⟩,fun y c e=>?_,I.free,I.freeC,fun p hp=>?_,tracked ⟨oL,hoL,I.free⟩ hs,by simpa using I.len⟩ ⟨_,hs,.inl rfl⟩
  ·exact (hs.2 b (Nat.ne_of_lt (Nat.lt_of_lt_of_le (Heap.lt_size e) I.ok.above))).trans (I.base.keep b o e n hb hx)
  ·obtain ⟨sl,e1⟩:=I.base.slot b o e n hb hx;exact ⟨sl,(hs.2 b (Nat.ne_of_lt (Nat.lt_of_lt_of_le (Heap.lt_size e) I.ok.above))).trans e1⟩
  ·obtain ⟨o',e1⟩:=I.base.there b o e hx;exact ⟨o',(hs.2 b (Nat.ne_of_lt (Nat.lt_of_lt_of_le (Heap.lt_size e) I.ok.above))).trans e1⟩
  ·by_cases hj:j=i
   ·subst hj;rw [hi] at e1; cases e1;rw [List.getElem?_set_self hiσ] at e2;cases e2;exact ⟨u,r,.inl ⟨hk,by simp⟩⟩
   ·rw [List.getElem?_set_ne (Ne.symm hj)] at e2;obtain ⟨u',r',q⟩:=hl j y v' e1 e2 e3;refine ⟨u',r',?_⟩;rcases q with ⟨k,e⟩ | ⟨k,c,e,z⟩
    ·refine .inl ⟨k,?_⟩;have:y≠x:=fun e=>hj (A36 hN e1 (e ▸ hi));simp [this,e]
    ·exact .inr ⟨k,c,e,z.sameBut hs (cne y c e)⟩
  ·obtain ⟨w',z⟩:=I.cell y c e;exact ⟨w',z.sameBut hs (cne y c e)⟩
  ·obtain ⟨e,n,ne,nf,d⟩:=I.pin p hp;exact ⟨(hs.2 p.1 ne).trans e,n,ne,nf,d⟩
 ·have hfn:X.fn x=true:=by
   rcases hf with z | z
   ·exact z
   ·rw [z] at hk; cases hk
  obtain ⟨c,hc⟩:=I.ok.has x (.inl hk);obtain ⟨w',z⟩:=I.cell x c hc;refine wpAny_storeName_cell I.ok.kind hk hc z (fun h' hc' hs=>?_);obtain ⟨oc,hoc,hocd⟩:=id z;refine h { s with heap:=h' } ⟨I.ok,I.os,I.bare,⟨fun b o e n hb hx=>?_,fun b o e n hb hx=>?_,I.base.free,fun b o e hx=>?_,I.base.tups,I.base.frzs,I.base.tbls⟩,⟨m,hn.sameBut hs (Ne.symm (cne x c hc)),fun j y v' e1 e2 e3=>?_⟩,fun y c' e=>?_,I.free,I.freeC,fun p hp=>?_,tracked ⟨oc,hoc,I.freeC x c hc⟩ hs,by simpa using I.len⟩ ⟨c,hs,.inr hc⟩
  ·exact (hs.2 b (Nat.ne_of_lt (Nat.lt_of_lt_of_le (Heap.lt_size e) (I.ok.cab x c hfn hc)))).trans (I.base.keep b o e n hb hx)
  ·obtain ⟨sl,e1⟩:=I.base.slot b o e n hb hx;exact ⟨sl,(hs.2 b (Nat.ne_of_lt (Nat.lt_of_lt_of_le (Heap.lt_size e) (I.ok.cab x c hfn hc)))).trans e1⟩
  ·obtain ⟨o',e1⟩:=I.base.there b o e hx;exact ⟨o',(hs.2 b (Nat.ne_of_lt (Nat.lt_of_lt_of_le (Heap.lt_size e) (I.ok.cab x c hfn hc)))).trans e1⟩
  ·by_cases hj:j=i
   ·subst hj;rw [hi] at e1; cases e1;rw [List.getElem?_set_self hiσ] at e2;cases e2;exact ⟨u,r,.inr ⟨.inl hk,c,hc,hc'⟩⟩
   ·rw [List.getElem?_set_ne (Ne.symm hj)] at e2;obtain ⟨u',r',q⟩:=hl j y v' e1 e2 e3;refine ⟨u',r',?_⟩;rcases q with q | ⟨k,c',e,z'⟩
    ·exact .inl q
    ·refine .inr ⟨k,c',e,z'.sameBut hs ?_⟩;rintro rfl;exact hj (A36 hN e1 (I.ok.inj _ _ _ e hc ▸ hi))
  ·by_cases hcc:c'=c
   ·subst hcc; exact ⟨_,hc'⟩
   ·obtain ⟨w2,z2⟩:=I.cell y c' e;exact ⟨w2,z2.sameBut hs hcc⟩
  ·obtain ⟨e,n,ne,nf,d⟩:=I.pin p hp;refine ⟨(hs.2 p.1 ?_).trans e,n,ne,nf,d⟩;intro q;rw [q,hoc] at e;have q':oc=p.2:=Option.some.inj e;exact d w' (by rw [<- q']; exact hocd)
theorem T3 {M:Model} {A:Around} {E:Value->Shared->Prop} {i:Nat} {x:Str} {v:V} {u:Value} {Q:Unit->Shared->Prop} (I:Inv X pins σ H s) (hN:X.N.Nodup) (hi:X.N[i]?=some x) (hx:Loc X.env.scope x) (r:RelV v u)
  (h:∀ s',Inv X pins (σ.set i (some v)) H s'->Q () s') (hf:X.fn x=true\/X.env.scope.names.lookup x=some .local:=by first | exact .inl rfl | exact .inr rfl | assumption):wpAny M A (storeName X.env x u) Q E s :=
 A0r I hN hi hx r (fun s' I' _=>h s' I') hf
theorem Inv.call' {s':Shared} {ch:List Addr} (I:Inv X pins σ H s) (ho:s'.os=s.os) (u:Un (frs X.stack) ch H H' s.heap s'.heap) (hok:HOk X.prog X.w H' s'.heap) (hg:AllBare s'.gens)
  (hch:∀ b ∈ ch,(b ∈ X.ex\/X.s₀.heap.objs.size<=b)/\b≠X.env.locals/\(∀ x c,X.env.cells.lookup x=some c->c≠b)/\∀ p ∈ X.pn++pins,p.1≠b):Inv X pins σ H' s':=by
 obtain ⟨h',g',d',t',o'⟩:=s';have e:o'=s.os:=ho;subst e;exact I.call (g':=g') (t':=t') (d':=d') u hok hg hch
end
abbrev XK:=Value->Option Addr->Hp->Prop
abbrev St:=List (Option V)
abbrev VK:=V->Hp->Prop
abbrev TE:=St->Hp->VK->Prop
abbrev TT:=St->Hp->(Bool->Hp->Prop)->Prop
abbrev TA:=St->Hp->(List V->Hp->Prop)->Prop
structure Ends where
 nx:St->Hp->Prop
 rt:VK
 bk:St->Hp->Prop:=fun _ _=>False
 ct:St->Hp->Prop:=fun _ _=>False
abbrev TS:=Ends->St->Hp->Prop
def EP (X:Cx) (pins:List (Addr × Obj)) (σ:St) (Q:VK) (u:Value) (s':Shared):Prop:=∃ v H',Inv X pins σ H' s'/\RelV v u/\Q v H'
def TP (X:Cx) (pins:List (Addr × Obj)) (σ:St) (Q:Bool->Hp->Prop) (b:Bool) (s':Shared):Prop:=∃ H',Inv X pins σ H' s'/\Q b H'
def AP (X:Cx) (pins:List (Addr × Obj)) (σ:St) (Q:List V->Hp->Prop) (us:List Value) (s':Shared):Prop:=∃ vs H',Inv X pins σ H' s'/\Vals vs us/\Q vs H'
def SP (X:Cx) (pins:List (Addr × Obj)) (D:Ends) (f:Flow) (s':Shared):Prop :=
 match f with
 | .next=>∃ σ' H',Inv X pins σ' H' s'/\D.nx σ' H'
 | .brk=>∃ σ' H',Inv X pins σ' H' s'/\D.bk σ' H'
 | .cont=>∃ σ' H',Inv X pins σ' H' s'/\D.ct σ' H'
 | .ret u=>∃ v σ' H',Inv X pins σ' H' s'/\RelV v u/\D.rt v H'
def PE (X:Cx) (e:Expr) (t:TE):Prop :=
 ∀ (pins:List (Addr × Obj)) (s:Shared) (σ:St) (H:Hp) (Q:VK),Inv X pins σ H s->t σ H Q->wpAny (model X.prog X.w) X.A (eval e X.env) (EP X pins σ Q) X.xe s
def PT (X:Cx) (e:Expr) (t:TT):Prop :=
 ∀ (pins:List (Addr × Obj)) (s:Shared) (σ:St) (H:Hp) (Q:Bool->Hp->Prop),Inv X pins σ H s->t σ H Q->wpAny (model X.prog X.w) X.A (isTrue e X.env (eval e X.env)) (TP X pins σ Q) X.xe s
def PW (X:Cx) (e:Expr) (t:TT):Prop :=
 ∀ (whole:Sem Value) (pins:List (Addr × Obj)) (s:Shared) (σ:St) (H:Hp) (Q:Bool->Hp->Prop),Inv X pins σ H s->t σ H Q->wpAny (model X.prog X.w) X.A (isTrue e X.env whole) (TP X pins σ Q) X.xe s
theorem PW.pt {X:Cx} {e:Expr} {t:TT} (h:PW X e t):PT X e t:=h _
def PA (X:Cx) (es:List Expr) (t:TA):Prop :=
 ∀ (pos:Pos) (pins:List (Addr × Obj)) (s:Shared) (σ:St) (H:Hp) (Q:List V->Hp->Prop),Inv X pins σ H s->t σ H Q->wpAny (model X.prog X.w) X.A (spliced (backTo pos (starEach es X.env))) (AP X pins σ Q) X.xe s
def PS (X:Cx) (st:Stmt) (t:TS):Prop :=
 ∀ (pins:List (Addr × Obj)) (s:Shared) (σ:St) (H:Hp) (D:Ends),Inv X pins σ H s->t D σ H->wpAny (model X.prog X.w) X.A (exec st X.env) (SP X pins D) X.xe s
def PSs (X:Cx) (st:List Stmt) (t:TS):Prop :=
 ∀ (pins:List (Addr × Obj)) (s:Shared) (σ:St) (H:Hp) (D:Ends),Inv X pins σ H s->t D σ H->wpAny (model X.prog X.w) X.A (execs st X.env) (SP X pins D) X.xe s
theorem thn {α:Type} {t:Sem α} {Q Q':α->Shared->Prop} {M:Model} {A:Around} {E:Value->Shared->Prop} {s:Shared} (h:wpAny M A t Q E s) (hQ:∀ a s,Q a s->Q' a s):wpAny M A t Q' E s:=wpAny_mono h hQ fun _ _ x=>x
end L2
namespace L2
open PySem PySem.Spec PyProof.Rows
section
variable {X:Cx}
theorem bin {a b:Expr} {ta tb:TE} (ha:PE X a ta) (hb:PE X b tb) {pins:List (Addr × Obj)} {s:Shared} {σ:St} {H:Hp} {R:V->V->Hp->Prop} (I:Inv X pins σ H s) (h:ta σ H fun x H1=>tb σ H1 fun y H2=>R x y H2)
  {α:Type} {Q:α->Shared->Prop} {f:Value->Value->Sem α}
  (hf:∀ v u s2 x y H2,Inv X pins σ H2 s2->RelV x v->RelV y u->R x y H2->wpAny (model X.prog X.w) X.A (f v u) Q X.xe s2) :
  wpAny (model X.prog X.w) X.A (eval a X.env) (fun v s₁=>wpAny (model X.prog X.w) X.A (eval b X.env) (fun u s₂=>wpAny (model X.prog X.w) X.A (f v u) Q X.xe s₂) X.xe s₁) X.xe s:=by
 refine thn (ha pins s σ H _ I h) fun v s1 ⟨x,H1,I1,r1,q1⟩=>?_;refine thn (hb pins s1 σ H1 _ I1 q1) fun u s2 ⟨y,H2,I2,r2,q2⟩=>?_;exact hf v u s2 x y H2 I2 r1 r2 q2
def tVar (i:Nat):TE:=fun σ H Q=>∃ v,σ[i]?=some (some v)/\Q v H
def tC (v:V):TE:=fun _ H Q=>Q v H
theorem B7c {i:Nat} {x:Str} {pos:Pos} (hN:X.N[i]?=some x) (hv:Vis X.env.scope x) (hd:(x == ("__debug__":Str))=false:=by decide) (hcd:(x == ("__classdict__":Str))=false:=by decide):PE X (.Name x pos) (tVar i):=by
 intro pins s σ H Q I h;obtain ⟨v,e,h⟩:=h;obtain ⟨m,hn,hl⟩:=I.loc;obtain ⟨u,r,l⟩:=hl i x v hN e hv;have fin:EP X pins σ Q u s:=⟨v,H,I,r,h⟩;rcases l with ⟨hk,hm⟩ | ⟨hk,c,hc,hcell⟩
 ·exact wpAny_Name (wpAny_loadName_local I.ok.kind hk hn hm fin) hd
 ·rcases hk with hk | hk
  ·exact wpAny_Name (wpAny_loadName_cell I.ok.kind hk hc hcell fin) hd
  ·exact wpAny_Name (wpAny_loadName_free I.ok.kind hk hc hcell fin hcd) hd
theorem F8 {i j pos}:PE X (.Constant (.int i) j pos) (tC (.int i)):=fun _ _ _ H _ I h=>wpAny_Constant_int ⟨.int i,H,I.tok _,⟨_,rfl⟩,h⟩
theorem B9y {b j pos}:PE X (.Constant (.bool b) j pos) (tC (.bl b)):=fun _ _ _ H _ I h=>Constant_bool ⟨.bl b,H,I,rfl,h⟩
theorem B7h {j pos}:PE X (.Constant .none j pos) (tC .non):=fun _ _ _ H _ I h=>Constant_none ⟨.non,H,I,rfl,h⟩
theorem B7e {x j pos}:PE X (.Constant (.str x) j pos) (tC (.str x)):=fun _ _ _ H _ I h=>Calls.Constant_str ⟨.str x,H,I.tok _,⟨_,rfl⟩,h⟩
def Gl (X:Cx) (x:Str):Prop:=X.env.kindOf x=some .globalImplicit
theorem A8r {E:Value->Shared->Prop} {pins:List (Addr × Obj)} {s:Shared} {σ:St} {H:Hp} {x:Str} {u:Value} {pos:Pos} {Q:Value->Shared->Prop} (I:Inv X pins σ H s) (hg:Gl X x) (hm:X.mg x=some u) (h:Q u s)
  (hd:(x == ("__debug__":Str))=false:=by decide):wpAny (model X.prog X.w) X.A (eval (.Name x pos) X.env) Q E s :=
 Calls.Name_function_global I.ok.kind hg (Calls.loadGlobal_global (by rw [I.ok.glob]; exact I.mod.glob.keeps I.bk) hm h) hd
theorem X7 {E:Value->Shared->Prop} {pins:List (Addr × Obj)} {s:Shared} {σ:St} {H:Hp} {x:Str} {u:Value} {pos:Pos} {Q:Value->Shared->Prop} (I:Inv X pins σ H s) (hg:Gl X x) (hm:X.mg x=none) (hv:bootBuiltins x=some u) (h:Q u s)
  (hn:x≠"__name__":=by decide) (hd:(x == ("__debug__":Str))=false:=by decide):wpAny (model X.prog X.w) X.A (eval (.Name x pos) X.env) Q E s:=by
 obtain ⟨mb,h1,h2⟩:=I.mod.blt;exact Calls.Name_function_global I.ok.kind hg (Calls.loadGlobal_builtin (by rw [I.ok.glob]; exact I.mod.glob.keeps I.bk) hm (by rw [I.ok.blt]; exact h1.keeps I.bk) ((h2 x hn).trans hv) h) hd
theorem B4k {x:Str} {v:V} {u:Value} {pos:Pos} (hg:Gl X x) (hm:X.mg x=some u) (r:RelV v u) (hd:(x == ("__debug__":Str))=false:=by decide):PE X (.Name x pos) (tC v) :=
 fun _ _ _ H _ I h=>A8r I hg hm ⟨v,H,I,r,h⟩ hd
theorem B4n {x:Str} {v:V} {u:Value} {pos:Pos} (hg:Gl X x) (hm:X.mg x=none) (hv:bootBuiltins x=some u) (r:RelV v u) (hn:x≠"__name__":=by decide) (hd:(x == ("__debug__":Str))=false:=by decide):PE X (.Name x pos) (tC v) :=
 fun _ _ _ H _ I h=>X7 I hg hm hv ⟨v,H,I,r,h⟩ hn hd
variable {a b:Expr} {ta tb:TE} {pos:Pos}
def PC (X:Cx) (op:CmpOp) (a b:Expr) (t:TE):Prop :=
 ∀ (pins:List (Addr × Obj)) (s:Shared) (σ:St) (H:Hp) (Q:VK),Inv X pins σ H s->t σ H Q ->
  wpAny (model X.prog X.w) X.A (eval a X.env) (fun v s₁=>wpAny (model X.prog X.w) X.A (eval b X.env) (fun u s₂=>wpAny (model X.prog X.w) X.A (compareOp op v u) (EP X pins σ Q) X.xe s₂) X.xe s₁) X.xe s
theorem B0y (b:Expr) {op:CmpOp} (h:op≠.In) (h2:op≠.NotIn):behindInMarks op b=false:=by
 have e1:(op == CmpOp.In)=false:=by cases op <;> first | rfl | exact absurd rfl h
 have e2:(op == CmpOp.NotIn)=false:=by cases op <;> first | rfl | exact absurd rfl h2
 cases b <;> simp [behindInMarks,e1,e2]
def tB (t:TE):TT:=fun σ H Q=>t σ H fun x H1=>∃ c,x=.bl c/\Q c H1
theorem C0b {op:CmpOp} {t:TE} (h:PC X op a b t) (h1:behindInMarks op b=false:=by first | exact B0y _ (by decide) (by decide) | rfl):PT X (.Compare a [op] [b] pos) (tB t):=by
 intro pins s σ H Q I hw;refine wpAny_isTrue_Compare1 (thn (h pins s σ H _ I hw) fun v s1 h1=>thn h1 fun u s2 h2=>thn h2 fun c s3 ⟨x,H1,I1,r1,q1⟩=>?_) h1;obtain ⟨d,rfl,q⟩:=q1;cases r1;exact wpAny_truthy_bool ⟨H1,I1,q⟩
theorem B13 {e:Expr} {t:TE} (h:PE X e t) (he:∀ whole,isTrue e X.env whole=(do let v <- whole; standAt e.pos; holding [v] (truthy v)):=by intro _; rfl):PT X e (tB t):=by
 intro pins s σ H Q I hw;refine isTrue_plain (thn (h pins s σ H _ I hw) fun v s1 ⟨x,H1,I1,r1,q1⟩=>?_) (he _);obtain ⟨d,rfl,q⟩:=q1;cases r1;exact wpAny_truthy_bool ⟨H1,I1,q⟩
variable {tA tB':TT} {rest:List Expr}
def tAnd (t u:TT):TT:=fun σ H Q=>t σ H fun c H1=>if c=true then u σ H1 Q else Q false H1
def tOr (t u:TT):TT:=fun σ H Q=>t σ H fun c H1=>if c=true then Q true H1 else u σ H1 Q
def tNot (t:TT):TT:=fun σ H Q=>t σ H fun c H1=>Q (!c) H1
theorem B38 (ha:PT X a tA):PW X (.BoolOp .And [a] pos) tA:=by
 intro wh pins s σ H Q I h;refine isTrue_and (thn (ha pins s σ H Q I h) fun c s1 e=>?_);cases c with
 | true=>exact isTrue_and_nil e
 | false=>exact e
theorem B65 (ha:PT X a tA):PW X (.BoolOp .Or [a] pos) tA:=by
 intro wh pins s σ H Q I h;refine isTrue_or (thn (ha pins s σ H Q I h) fun c s1 e=>?_);cases c with
 | false=>exact isTrue_or_nil e
 | true=>exact e
theorem B66 (ha:PT X a tA) (hb:PW X (.BoolOp .And (b :: rest) pos) tB'):PW X (.BoolOp .And (a :: b :: rest) pos) (tAnd tA tB'):=by
 intro wh pins s σ H Q I h;refine isTrue_and (thn (ha pins s σ H _ I h) fun c s1 ⟨H1,I1,q1⟩=>?_);cases c with
 | true=>exact hb wh pins s1 σ H1 Q I1 q1
 | false=>exact ⟨H1,I1,q1⟩
theorem B9t (ha:PT X a tA) (hb:PW X (.BoolOp .Or (b :: rest) pos) tB'):PW X (.BoolOp .Or (a :: b :: rest) pos) (tOr tA tB'):=by
 intro wh pins s σ H Q I h;refine isTrue_or (thn (ha pins s σ H _ I h) fun c s1 ⟨H1,I1,q1⟩=>?_);cases c with
 | true=>exact ⟨H1,I1,q1⟩
 | false=>exact hb wh pins s1 σ H1 Q I1 q1
theorem B67 (ha:PT X a tA):PT X (.UnaryOp .Not a pos) (tNot tA):=by
 intro pins s σ H Q I h;exact isTrue_not (ha pins s σ H (fun c H1=>Q (!c) H1) I h)
def B3u (ta tb:TE):TE:=fun σ H Q=>ta σ H fun x H1=>∃ c,x=.bl c/\if c=true then tb σ H1 Q else Q (.bl false) H1
def tOrV (ta tb:TE):TE:=fun σ H Q=>ta σ H fun x H1=>∃ c,x=.bl c/\if c=true then Q (.bl true) H1 else tb σ H1 Q
def B3s (ta:TE):TE:=fun σ H Q=>ta σ H fun x H1=>∃ c,x=.bl c/\Q (.bl (!c)) H1
theorem B7f {op} {t:TE} (h:PE X a t):PE X (.BoolOp op [a] pos) t:=fun pins s σ H Q I hw=>BoolOp_one (h pins s σ H Q I hw)
theorem B7i (ha:PE X a ta) (hb:PE X (.BoolOp .And (b :: rest) pos) tb):PE X (.BoolOp .And (a :: b :: rest) pos) (B3u ta tb):=by
 intro pins s σ H Q I h;refine BoolOp_and (thn (ha pins s σ H _ I h) fun v s1 ⟨x,H1,I1,r1,q1⟩=>?_);obtain ⟨c,rfl,q1⟩:=q1;cases r1;refine wpAny_truthy_bool ?_;cases c with
 | true=>exact hb pins s1 σ H1 Q I1 q1
 | false=>exact ⟨.bl false,H1,I1,rfl,q1⟩
theorem B9w (ha:PE X a ta) (hb:PE X (.BoolOp .Or (b :: rest) pos) tb):PE X (.BoolOp .Or (a :: b :: rest) pos) (tOrV ta tb):=by
 intro pins s σ H Q I h;refine BoolOp_or (thn (ha pins s σ H _ I h) fun v s1 ⟨x,H1,I1,r1,q1⟩=>?_);obtain ⟨c,rfl,q1⟩:=q1;cases r1;refine wpAny_truthy_bool ?_;cases c with
 | false=>exact hb pins s1 σ H1 Q I1 q1
 | true=>exact ⟨.bl true,H1,I1,rfl,q1⟩
theorem B7g (ha:PE X a ta):PE X (.UnaryOp .Not a pos) (B3s ta):=by
 intro pins s σ H Q I h;refine UnaryOp_ (thn (ha pins s σ H _ I h) fun v s1 ⟨x,H1,I1,r1,q1⟩=>?_);obtain ⟨c,rfl,q1⟩:=q1;cases r1;exact not_of (wpAny_truthy_bool ⟨.bl (!c),H1,I1,rfl,q1⟩)
end
end L2
namespace L2
open PySem PySem.Spec PyProof.Rows
def SqL (K:PySem.W.Frag) (H:Hp) (a:Addr) (xs:List V):Prop :=
 Rd H a (.lst xs) \/
  ∃ (o:Obj) (its:Array Value) (n:Nat),K.lookup a=some o/\o.cls=.type "list"/\o.dict=none/\o.data=.seq its n/\its.size<=sizeLine/\Vals xs its.toList
def SqT (K:PySem.W.Frag) (H:Hp) (a:Addr) (xs:List V):Prop :=
 Rd H a (.tup xs) \/
  ∃ (o:Obj) (its:Array Value) (n:Nat),K.lookup a=some o/\o.cls=.type "tuple"/\o.data=.seq its n/\its.size<=sizeLine/\Vals xs its.toList
def absV:Value->Option V
 | .none=>some .non
 | .bool b=>some (.bl b)
 | .int i _=>some (.int i)
 | .str x _=>some (.str x)
 | .bytes b _=>some (.byt b)
 | .float b _=>some (.flt b)
 | .ref a=>some (.ref a)
 | .type n=>some (.ty n)
 | _=>none
theorem RelV.abs {x:V} {u:Value} (r:RelV x u):absV u=some x:=by
 cases x with
 | non=>cases r; rfl
 | bl _=>cases r; rfl
 | int _=>obtain ⟨t,rfl⟩:=r; rfl
 | str _=>obtain ⟨t,rfl⟩:=r; rfl
 | byt _=>obtain ⟨t,rfl⟩:=r; rfl
 | flt _=>obtain ⟨t,rfl⟩:=r; rfl
 | ref _=>cases r; rfl
 | ty _=>cases r; rfl
theorem RelV.inj {x y:V} {u:Value} (r:RelV x u) (q:RelV y u):x=y:=Option.some.inj (r.abs.symm.trans q.abs)
theorem Vals.inj:∀ {xs ys:List V} {us:List Value},Vals xs us->Vals ys us->xs=ys
 | _,_,_,.nil,.nil=>rfl
 | _,_,_,.cons r t,.cons r' t'=>by rw [r.inj r',Vals.inj t t']
section
variable {X:Cx} {pins:List (Addr × Obj)} {σ:St} {H:Hp} {s:Shared} {a:Addr} {xs ys:List V}
theorem SqL.of {K:PySem.W.Frag} (h:H a=some (.lst xs)):SqL K H a xs:=.inl (.inl h)
theorem SqT.of {K:PySem.W.Frag} (h:H a=some (.tup xs)):SqT K H a xs:=.inl (.inl h)
theorem Inv.list (I:Inv X pins σ H s) (h:SqL X.K H a xs):∃ its:List Value,Vals xs its/\PlainL s.heap a its.toArray/\xs.length<=sizeLine:=by
 rcases h with h | ⟨o,its,n,hk,hc,hd,hs,hz,r⟩
 ·obtain ⟨z,its,n,r,e⟩:=h.ok I.hok;exact ⟨its,r,⟨_,n,e,rfl,rfl,rfl⟩,z⟩
 ·refine ⟨its.toList,r,⟨o,n,I.kIn a o hk,hc,hd,by simpa using hs⟩,?_⟩;have e:=r.length;simp only [Array.length_toList] at e;omega
theorem Inv.tuple (I:Inv X pins σ H s) (h:SqT X.K H a xs):∃ its:List Value,Vals xs its/\IsTup s.heap a its.toArray/\xs.length<=sizeLine:=by
 rcases h with h | ⟨o,its,n,hk,hc,hs,hz,r⟩
 ·obtain ⟨z,its,r,p⟩:=h.ok I.hok;exact ⟨its,r,p,z⟩
 ·refine ⟨its.toList,r,⟨o,I.kIn a o hk,hc,n,by simpa using hs⟩,?_⟩;have e:=r.length;simp only [Array.length_toList] at e;omega
theorem Inv.list_inj (I:Inv X pins σ H s) (h:SqL X.K H a xs) (h':SqL X.K H a ys):xs=ys:=by
 obtain ⟨its,r,⟨o,n,e,_,_,d⟩,_⟩:=I.list h;obtain ⟨its',r',⟨o',n',e',_,_,d'⟩,_⟩:=I.list h';rw [e] at e'; cases e';rw [d] at d';injection d' with d1 _
 have:its=its':=by simpa using congrArg Array.toList d1
 subst this;exact r.inj r'
theorem Inv.tuple_inj (I:Inv X pins σ H s) (h:SqT X.K H a xs) (h':SqT X.K H a ys):xs=ys:=by
 obtain ⟨its,r,⟨o,e,_,n,d⟩,_⟩:=I.tuple h;obtain ⟨its',r',⟨o',e',_,n',d'⟩,_⟩:=I.tuple h';rw [e] at e'; cases e';rw [d] at d';injection d' with d1 _
 have:its=its':=by simpa using congrArg Array.toList d1
 subst this;exact r.inj r'
end
abbrev Cx.wish (X:Cx) (E:Value->Shared->Prop):Cx:={ X with xe:=E }
abbrev Cx.nox (X:Cx):Cx:=X.wish fun _ _=>False
theorem Cx.Ok.wish {X:Cx} (ok:X.Ok) (E:Value->Shared->Prop):(X.wish E).Ok :=
 ⟨ok.mod,ok.kind,ok.glob,ok.blt,ok.above,ok.inj,ok.has,ok.cab,ok.hd,ok.frames,ok.stk,ok.exf,ok.bs,ok.bsz,ok.noex,ok.exfs,ok.funs,ok.frf⟩
theorem Cx.Ok.unwish {X:Cx} {E:Value->Shared->Prop} (ok:(X.wish E).Ok):X.Ok :=
 ⟨ok.mod,ok.kind,ok.glob,ok.blt,ok.above,ok.inj,ok.has,ok.cab,ok.hd,ok.frames,ok.stk,ok.exf,ok.bs,ok.bsz,ok.noex,ok.exfs,ok.funs,ok.frf⟩
section
variable {X:Cx} {pins:List (Addr × Obj)} {σ:St} {H:Hp} {s:Shared} {E:Value->Shared->Prop}
theorem Inv.wish (I:Inv X pins σ H s) (E:Value->Shared->Prop):Inv (X.wish E) pins σ H s:=⟨I.ok.wish E,I.os,I.bare,I.base,I.loc,I.cell,I.free,I.freeC,I.pin,I.hok,I.len⟩
theorem Inv.unwish (I:Inv (X.wish E) pins σ H s):Inv X pins σ H s:=⟨I.ok.unwish,I.os,I.bare,I.base,I.loc,I.cell,I.free,I.freeC,I.pin,I.hok,I.len⟩
theorem SP.unwish {D:Ends} {f:Flow} {s':Shared} (h:SP (X.wish E) pins D f s'):SP X pins D f s':=by
 cases f with
 | next=>obtain ⟨σ',H',I,q⟩:=h; exact ⟨σ',H',I.unwish,q⟩
 | brk=>obtain ⟨σ',H',I,q⟩:=h; exact ⟨σ',H',I.unwish,q⟩
 | cont=>obtain ⟨σ',H',I,q⟩:=h; exact ⟨σ',H',I.unwish,q⟩
 | ret u=>obtain ⟨v,σ',H',I,r,q⟩:=h; exact ⟨v,σ',H',I.unwish,r,q⟩
theorem PSs.nox {st:List Stmt} {t:TS} (h:PSs X.nox st t):PSs X st t:=fun pins s σ H D I hw =>
 wpAny_mono (h pins s σ H D (I.wish _) hw) (fun _ _ q=>q.unwish) fun _ _ z=>False.elim z
end
section
variable {X:Cx} {st:Stmt} {rest:List Stmt} {t u:TS} {e:Expr} {te:TE} {pos:Pos}
def B3t:TS:=fun D σ H=>D.nx σ H
def tSeq (t u:TS):TS:=fun D σ H=>t { D with nx:=u D } σ H
theorem A2e:PSs X [] B3t:=fun _ _ σ H _ I h=>wpAny_execs_nil ⟨σ,H,I,h⟩
theorem L3 (h1:PS X st t) (h2:PSs X rest u):PSs X (st :: rest) (tSeq t u):=by
 intro pins s σ H D I h;refine wpAny_execs_cons (thn (h1 pins s σ H { D with nx:=u D } I h) fun f s1 q=>?_);cases f with
 | next =>
  obtain ⟨σ',H',I',q⟩:=q;exact h2 pins s1 σ' H' D I' q
 | ret v=>exact q
 | brk=>exact q
 | cont=>exact q
theorem R5 (h1:PS X st t):PSs X [st] t:=by
 intro pins s σ H D I h;refine wpAny_execs_cons (thn (h1 pins s σ H D I h) fun f s1 q=>?_);cases f with
 | next=>exact wpAny_execs_nil q
 | ret v=>exact q
 | brk=>exact q
 | cont=>exact q
theorem Inv.quiet {pins:List (Addr × Obj)} {σ:St} {H:Hp} {s:Shared} (I:Inv X pins σ H s):interactive X.env=false:=by simp [interactive,I.ok.kind]
def A51 (te:TE):TS:=fun D σ H=>te σ H fun _ H1=>D.nx σ H1
theorem B4d (he:PE X e te) (hs:swapsWith e none pos.line X.env=pure false:=by rfl):PS X (.Expr e pos) (A51 te):=by
 intro pins s σ H D I h;exact wpAny_Expr_any (thn (he pins s σ H _ I h) fun v s1 ⟨x,H1,I1,r1,q1⟩=>⟨σ,H1,I1,q1⟩) I.quiet hs
def tRet (te:TE):TS:=fun D σ H=>te σ H D.rt
theorem A3p (he:PE X e te):PS X (.Return (some e) pos) (tRet te):=by
 intro pins s σ H D I h;exact wpAny_Return_some (thn (he pins s σ H _ I h) fun v s1 ⟨x,H1,I1,r1,q1⟩=>⟨x,σ,H1,I1,r1,q1⟩)
def tIfS (c:TT) (t u:TS):TS:=fun D σ H=>c σ H fun b H1=>if b=true then t D σ H1 else u D σ H1
theorem B4c {c:Expr} {a b:List Stmt} {tc:TT} (hc:PT X c tc) (ha:PSs X a t) (hb:PSs X b u):PS X (.If c a b pos) (tIfS tc t u):=by
 intro pins s σ H D I h;refine wpAny_If (thn (hc pins s σ H _ I h) fun d s1 ⟨H1,I1,q1⟩=>?_);cases d with
 | true=>exact ha pins s1 σ H1 D I1 q1
 | false=>exact hb pins s1 σ H1 D I1 q1
end
abbrev TG:=V->St->Hp->(St->Hp->Prop)->Prop
abbrev TGs:=List V->St->Hp->(St->Hp->Prop)->Prop
def PG (X:Cx) (target:Expr) (t:TG):Prop :=
 ∀ (pins:List (Addr × Obj)) (s:Shared) (σ:St) (H:Hp) (v:V) (u:Value) (Q:St->Hp->Prop),Inv X pins σ H s->RelV v u->t v σ H Q ->
  wpAny (model X.prog X.w) X.A (assign target X.env u) (fun _ s'=>∃ σ' H',Inv X pins σ' H' s'/\Q σ' H') X.xe s
def PGs (X:Cx) (ts:List Expr) (t:TGs):Prop :=
 ∀ (pins:List (Addr × Obj)) (s:Shared) (σ:St) (H:Hp) (vs:List V) (us:List Value) (Q:St->Hp->Prop),Inv X pins σ H s->Vals vs us->t vs σ H Q ->
  wpAny (model X.prog X.w) X.A (assignInOrder ((assignEach ts X.env).map (·.2)) us) (fun _ s'=>∃ σ' H',Inv X pins σ' H' s'/\Q σ' H') X.xe s
abbrev TSet:=V->V->V->Hp->(Hp->Prop)->Prop
def PSet (X:Cx) (t:TSet):Prop :=
 ∀ (pins:List (Addr × Obj)) (s:Shared) (σ:St) (H:Hp) (o i v:V) (ov iv u:Value) (Q:Hp->Prop),Inv X pins σ H s->RelV o ov->RelV i iv->RelV v u->t o i v H Q ->
  wpAny (model X.prog X.w) X.A (setItem ov iv u) (fun _ s'=>∃ H',Inv X pins σ H' s'/\Q H') X.xe s
section
variable {X:Cx} {pos:Pos}
def A0b (i:Nat):TG:=fun v σ H Q=>Q (σ.set i (some v)) H
theorem A61 {i:Nat} {x:Str} (hN:X.N.Nodup) (hi:X.N[i]?=some x) (hx:Loc X.env.scope x) (hf:X.fn x=true\/X.env.scope.names.lookup x=some .local:=by first | exact .inl rfl | exact .inr rfl | assumption):PG X (.Name x pos) (A0b i):=by
 intro pins s σ H v u Q I r h;exact wpAny_assign_Name (T3 I hN hi hx r (fun s' I'=>⟨_,H,I',h⟩) hf)
def gNil:TGs:=fun vs σ H Q=>vs=[]/\Q σ H
def A87 (t:TG) (u:TGs):TGs:=fun vs σ H Q=>∃ v r,vs=v :: r/\t v σ H fun σ' H'=>u r σ' H' Q
theorem B4i:PGs X [] gNil:=by
 intro pins s σ H vs us Q I r h;obtain ⟨e,h⟩:=h;subst e;cases r;exact assignInOrder_nil ⟨σ,H,I,h⟩
theorem B0o {e:Expr} {es:List Expr} {t:TG} {u:TGs} (h1:PG X e t) (h2:PGs X es u)
  (hs:(assignEach (e :: es) X.env).map (·.2)=assign e X.env :: (assignEach es X.env).map (·.2):=by rfl):PGs X (e :: es) (A87 t u):=by
 intro pins s σ H vs us Q I r h;obtain ⟨v,vr,e1,h⟩:=h;subst e1;cases r with
 | cons r rr =>
  rw [hs];refine assignInOrder_cons (thn (h1 pins s σ H _ _ _ I r h) fun _ s1 ⟨σ1,H1,I1,q1⟩=>?_);exact h2 pins s1 σ1 H1 _ _ Q I1 rr q1
def gTup (K:PySem.W.Frag) (n:Nat) (t:TGs):TG:=fun v σ H Q=>∃ a xs,v=.ref a/\SqT K H a xs/\xs.length=n/\t xs σ H Q
theorem B7b {es:List Expr} {k:Nat} {t:TGs} {n:Nat} (hc:X.calm=true) (h:PGs X es t)
  (hn:(assignEach es X.env).length=n:=by rfl) (hst:(assignEach es X.env).findIdx? (·.1)=none:=by rfl):PG X (.Tuple es k pos) (gTup X.K n t):=by
 intro pins s σ H v u Q I r hw;obtain ⟨a,xs,e1,hq,hl,hw⟩:=hw;subst e1;cases r;obtain ⟨its,rv,ht,hz⟩:=I.tuple hq;refine assign_Tuple_tuple (I.ok.hd hc) ht (by simp [hn,<- hl,rv.length]) hst fun h' hx=>?_;have I1:Inv X pins σ H { s with heap:=h' }:=I.kept (t':=s.toks) fun b o e=>hx b o (Nat.ne_of_lt (Heap.lt_size e)) e;exact h pins _ σ H xs _ Q I1 (by simpa using rv) hw
def gSub (to ti:TE) (t:TSet):TG:=fun v σ H Q=>to σ H fun o H1=>ti σ H1 fun i H2=>t o i v H2 fun H3=>Q σ H3
theorem A3r {o i:Expr} {to ti:TE} {t:TSet} (ho:PE X o to) (hi:PE X i ti) (hs:PSet X t)
  (ha:∀ v,assign (.Subscript o i pos) X.env v=(do
   let ov <- holding [v] (eval o X.env)
   let iv <- holding [v,ov] (eval i X.env)
   standAt pos
   holding [v,ov,iv] (setItem ov iv v)
   release [v,ov,iv] []):=by intro _; rfl):PG X (.Subscript o i pos) (gSub to ti t):=by
 intro pins s σ H v u Q I r h;rw [ha];refine wpAny_bind (wpAny_holding (thn (ho pins s σ H _ I h) fun ov s1 ⟨x,H1,I1,r1,q1⟩=>?_));refine wpAny_bind (wpAny_holding (thn (hi pins s1 σ H1 _ I1 q1) fun iv s2 ⟨y,H2,I2,r2,q2⟩=>?_));refine wpAny_bind (wpAny_standAt (wpAny_bind (wpAny_holding (thn (hs pins s2 σ H2 x y v ov iv u _ I2 r1 r2 r q2) fun _ s3 ⟨H3,I3,q3⟩=>?_))));exact wpAny_release ⟨σ,H3,I3,q3⟩
def tAsg (te:TE) (g:TG):TS:=fun D σ H=>te σ H fun x H1=>g x σ H1 D.nx
theorem A3q {tg e:Expr} {te:TE} {g:TG} (he:PE X e te) (hg:PG X tg g) (hs:swapsWithSole [tg] e pos.line X.env=pure false:=by rfl) (hw:swappedStores [tg] e X.env=pure none:=by rfl)
  (h1:(assignEach [tg] X.env).map (·.2)=[assign tg X.env]:=by rfl):PS X (.Assign [tg] e pos) (tAsg te g):=by
 intro pins s σ H D I h;refine wpAny_Assign_stores (thn (he pins s σ H _ I h) fun v s1 ⟨x,H1,I1,r1,q1⟩=>?_) hs hw;rw [h1];exact thn (hg pins s1 σ H1 x v _ I1 r1 q1) fun _ s2 q=>q
theorem X1 {i:Nat} {x:Str} {e:Expr} {te:TE} {pos':Pos} (hN:X.N.Nodup) (hi:X.N[i]?=some x) (hx:Loc X.env.scope x) (he:PE X e te) (hs:swapsWith e (some (.Name x pos')) pos.line X.env=pure false:=by rfl) (hf:X.fn x=true\/X.env.scope.names.lookup x=some .local:=by first | exact .inl rfl | exact .inr rfl | assumption) :
  PS X (.Assign [.Name x pos'] e pos) (tAsg te (A0b i)):=by
 intro pins s σ H D I h;refine wpAny_Assign_Name (thn (he pins s σ H _ I h) fun v s1 ⟨y,H1,I1,r1,q1⟩=>?_) hs;exact T3 I1 hN hi hx r1 (fun s2 I2=>⟨_,H1,I2,q1⟩) hf
def tPar (i j:Nat) (ta:TA):TS:=fun D σ H=>ta σ H fun vs H1=>∃ v w,vs=[v,w]/\D.nx ((σ.set i (some v)).set j (some w)) H1
theorem B68 {i j:Nat} {x y:Str} {a b:Expr} {ta:TA} {px py pt:Pos} {kt k2 pt2} (hc:X.calm=true) (hN:X.N.Nodup) (hi:X.N[i]?=some x) (hj:X.N[j]?=some y) (hij:i≠j)
  (hx:X.env.scope.names.lookup x=some .local) (hy:X.env.scope.names.lookup y=some .local) (ha:PA X [a,b] ta)
  (hw:swappedStores [.Tuple [.Name x px,.Name y py] kt pt] (.Tuple [a,b] k2 pt2) X.env=pure (some [x,y]))
  (hs:swapsWithSole [.Tuple [.Name x px,.Name y py] kt pt] (.Tuple [a,b] k2 pt2) pos.line X.env=pure false:=by rfl) :
  PS X (.Assign [.Tuple [.Name x px,.Name y py] kt pt] (.Tuple [a,b] k2 pt2) pos) (tPar i j ta):=by
 intro pins s σ H D I h;rw [exec_Assign_arm];refine wpAny_bind (wpAny_standAt ?_);rw [hs];refine wpAny_bind (wpAny_pure ?_);rw [if_neg (by decide)];refine wpAny_bind (Tuple_ (thn (ha _ pins s σ H _ I h) fun us s1 ⟨vs,H1,I1,r1,q1⟩=>?_));obtain ⟨v,w,e1,q1⟩:=q1;subst e1;obtain ⟨u1,u2,rfl,rv,rw'⟩:∃ u1 u2,us=[u1,u2]/\RelV v u1/\RelV w u2:=by
  cases r1 with
  | cons p q =>
   cases q with
   | cons p' q' =>
    cases q';exact ⟨_,_,rfl,p,p'⟩
 refine wpAny_newObj_type ?_ (by show 2<=sizeLine; decide);have I2:Inv X pins σ H1 { s1 with heap:=s1.heap.push { cls:=.type "tuple",data:=.seq [u1,u2].toArray } }:=I1.kept (t':=s1.toks) fun b o e=>Heap.get?_push_of_some _ e;rw [hw];refine wpAny_bind (wpAny_pure ?_);show wpAny (model X.prog X.w) X.A (do rule "assign.swapped-stores"; let items <- unpackItems (.ref s1.heap.objs.size) 2 none; assignInOrder [fun v=>bindName X.env y v,fun v=>bindName X.env x v] items.reverse; pure Flow.next) _ _ _;refine wpAny_bind (wpAny_rule (wpAny_bind (unpackItems_tuple (items:=#[u1,u2]) (I.ok.hd hc) (IsTup.new s1.heap _) fun h' hx'=>?_)));have I3:=I2.kept (h':=h') (t':=s1.toks) fun b o e=>hx' b o (Nat.ne_of_lt (Heap.lt_size e)) e;show wpAny _ _ (assignInOrder [fun v=>bindName X.env y v,fun v=>bindName X.env x v] [u2,u1] >>= fun _=>pure Flow.next) _ _ _;refine wpAny_bind (assignInOrder_cons (wpAny_bindName (T3 I3 hN hj (.inl hy) rw' (fun s2 I4=>?_) (.inr hy))));refine assignInOrder_cons (wpAny_bindName (T3 I4 hN hi (.inl hx) rv (fun s3 I5=>assignInOrder_nil (wpAny_pure ?_)) (.inr hx)));rw [List.set_comm _ _ (Ne.symm hij)] at I5;exact ⟨_,H1,I5,q1⟩
end
section
variable {X:Cx} {pos:Pos}
def A5z (c:TT) (tb:TS):TS:=fun D σ H=>∃ W:Nat->St->Hp->Prop,(∃ m,W m σ H)/\∀ m σ H,W m σ H ->
 c σ H fun b H1=>if b=true then ∃ N:St->Hp->Prop,(∀ σ' H',N σ' H'->∃ m',m' < m/\W m' σ' H')/\tb { D with nx:=N,ct:=N,bk:=D.nx } σ H1 else D.nx σ H1
theorem B0l {c:Expr} {body:List Stmt} {tc:TT} {tb:TS} (hp:PassesOwn (model X.prog X.w) X.A X.env X.xe) (hc:PT X c tc) (hb:PSs X body tb):PS X (.While c body [] pos) (A5z tc tb):=by
 intro pins s σ H D I h;obtain ⟨W,⟨m0,w0⟩,turn⟩:=h;refine wpAny_While (codeAny_whileLoop (fun n s'=>∃ σ' H',Inv X pins σ' H' s'/\W n σ' H') ?_ m0 ⟨σ,H,I,w0⟩);rintro n s1 ⟨σ1,H1,I1,w1⟩;refine wpAny_passesOwn hp (thn (hc pins s1 σ1 H1 _ I1 (turn n σ1 H1 w1)) fun b s2 ⟨H2,I2,q2⟩=>?_);cases b with
 | true =>
  obtain ⟨N,hN,q2⟩:=q2;rw [if_pos rfl];refine wpAny_passesOwn hp (thn (hb pins s2 σ1 H2 _ I2 q2) fun f s3 q3=>?_);cases f with
  | next =>
   obtain ⟨σ3,H3,I3,n3⟩:=q3;obtain ⟨m',hm,w3⟩:=hN σ3 H3 n3;exact ⟨m',hm,σ3,H3,I3,w3⟩
  | cont =>
   obtain ⟨σ3,H3,I3,n3⟩:=q3;obtain ⟨m',hm,w3⟩:=hN σ3 H3 n3;exact ⟨m',hm,σ3,H3,I3,w3⟩
  | brk=>exact q3
  | ret v=>exact q3
 | false =>
  rw [if_neg Bool.false_ne_true];exact wpAny_execs_nil ⟨σ1,H2,I2,q2⟩
end
structure It where
 go:Nat->Hp->Prop
 yld:Nat->Hp->V->Hp->Prop
 stop:Nat->Hp->Prop
def FpOk (X:Cx) (pins:List (Addr × Obj)) (H:Hp) (b:Addr):Prop :=
 H b=none/\b≠X.env.locals/\b ∉ X.fs/\(b ∈ X.ex\/X.s₀.heap.objs.size<=b)/\(∀ x c,X.env.cells.lookup x=some c->c≠b)/\∀ p ∈ X.pn++pins,p.1≠b
theorem Inv.fpOk {X:Cx} {pins:List (Addr × Obj)} {σ:St} {H H':Hp} {s:Shared} {b:Addr} (I:Inv X pins σ H s) (hb:s.heap.objs.size<=b) (hn:H' b=none):FpOk X pins H' b:=by
 refine ⟨hn,Nat.ne_of_gt (Nat.lt_of_lt_of_le I.lt hb),I.nofs hb,.inr (Nat.le_trans I.sz hb),fun x c e z=>?_,fun p hp z=>?_⟩
 ·obtain ⟨v,q⟩:=I.cell x c e;exact absurd (Nat.lt_of_lt_of_le q.lt (by rw [z]; exact hb)) (Nat.lt_irrefl _)
 ·exact absurd (Nat.lt_of_lt_of_le (Heap.lt_size (I.pin p hp).1) (by rw [z]; exact hb)) (Nat.lt_irrefl _)
structure Turn (P:Program) (w:World) (K:PySem.W.Frag) (tg:Expr) (J:It) (fp:List Addr) (it:Addr) (tn:Nat->Heap->Prop):Prop where
  mem:it ∈ fp
  obj:∀ i h,tn i h->∀ b ∈ fp,∃ o,h.get? b=some o/\∀ v,o.data≠.cell v
  keep:∀ i h h',tn i h->(∀ b ∈ fp,∀ o,h.get? b=some o->h'.get? b=some o)->tn i h'
  item:∀ (X:Cx),X.prog=P->X.w=w->X.K=K->X.calm=true->∀ (i:Nat) (pins:List (Addr × Obj)) (s:Shared) (σ:St) (H:Hp) (E:Value->Shared->Prop),Inv X pins σ H s->(∀ b ∈ fp,FpOk X pins H b)->tn i s.heap->J.go i H ->
    wpAny (model P w) X.A (pyNext (.ref it)) (fun r s1=>∃ u,r=some u /\
      wpAny (model P w) X.A (letOwnedTupleGo tg (.ref it) u) (fun _ s2=>∃ x H',Inv X pins σ H' s2/\RelV x u/\J.yld i H x H'/\tn (i + 1) s2.heap/\∀ b ∈ fp,H' b=none) E s1) E s
  done:∀ (X:Cx),X.prog=P->X.w=w->X.K=K->X.calm=true->∀ (i:Nat) (pins:List (Addr × Obj)) (s:Shared) (σ:St) (H:Hp) (E:Value->Shared->Prop),Inv X pins σ H s->(∀ b ∈ fp,FpOk X pins H b)->tn i s.heap->J.stop i H ->
    wpAny (model P w) X.A (pyNext (.ref it)) (fun r s1=>r=none/\Inv X pins σ H s1) E s
  self:∀ (A:Around) (i:Nat) (s:Shared) (Q:Value->Shared->Prop) (E:Value->Shared->Prop),tn i s.heap->Q (.ref it) s->wpAny (model P w) A (pyIter (.ref it)) Q E s
abbrev TI:=St->Hp->(It->Hp->Prop)->Prop
def PIE (X:Cx) (pins:List (Addr × Obj)) (σ:St) (tg:Expr) (R:It->Hp->Prop) (itv:Value) (s2:Shared):Prop :=
 ∃ (it:Addr) (fp:List Addr) (tn:Nat->Heap->Prop) (J:It) (H':Hp),itv=.ref it/\Inv X pins σ H' s2/\Turn X.prog X.w X.K tg J fp it tn/\tn 0 s2.heap/\(∀ b ∈ fp,FpOk X pins H' b)/\R J H'
def PI (X:Cx) (tg iter:Expr) (wi:TI):Prop :=
 ∀ (pins:List (Addr × Obj)) (s:Shared) (σ:St) (H:Hp) (R:It->Hp->Prop),Inv X pins σ H s->wi σ H R ->
  wpAny (model X.prog X.w) X.A (eval iter X.env) (fun v s1=>wpAny (model X.prog X.w) X.A (pyIter v) (PIE X pins σ tg R) X.xe s1) X.xe s
theorem B5v {M:Model} {A:Around} {E:Value->Shared->Prop} {s:Shared} {tg:Expr} {it:Addr} {u:Value} {o:Obj} {n:String} {vs:Array Value} {Q:Unit->Shared->Prop} (ho:s.heap.get? it=some o) (hc:o.cls=.type n) (hd:o.data=.fields vs)
    (hn:["enumerate","zip","dict_itemiterator","dict_reverseitemiterator","odict_iterator","itertools.zip_longest","itertools.pairwise"].contains n=false) (hQ:Q () s):wpAny M A (letOwnedTupleGo tg (.ref it) u) Q E s:=by
  unfold letOwnedTupleGo;cases tg <;> first
    | exact wpAny_pure hQ
    | (cases u <;> first
        | exact wpAny_pure hQ
        | (refine wpAny_bind (wpAny_load ho ?_)
           rw [hc,hd];show wpAny M A (if (["enumerate","zip","dict_itemiterator","dict_reverseitemiterator","odict_iterator","itertools.zip_longest","itertools.pairwise"].contains n && vs[0]? == some (rawInt _))=true then _ else _) Q E s;rw [if_neg (by intro h; rw [hn,Bool.false_and] at h; cases h)];exact wpAny_pure hQ))
def Itl (K:PySem.W.Frag) (a:Addr):It :=
 ⟨fun i H=>∃ xs x,SqL K H a xs/\xs[i]?=some x,fun i H x H'=>H'=H/\∀ xs,SqL K H a xs->xs[i]?=some x,fun i H=>∃ xs,SqL K H a xs/\xs.length<=i⟩
def Itt (K:PySem.W.Frag) (a:Addr):It :=
 ⟨fun i H=>∃ xs x,SqT K H a xs/\xs[i]?=some x,fun i H x H'=>H'=H/\∀ xs,SqT K H a xs->xs[i]?=some x,fun i H=>∃ xs,SqT K H a xs/\xs.length<=i⟩
def Itr (lo:Int) (n:Nat):It:=⟨fun i _=>i < n,fun i H x H'=>H'=H/\x=.int (lo + i),fun i _=>n<=i⟩
theorem A5v {P:Program} {w:World} {K:PySem.W.Frag} {tg:Expr} (a it:Addr):Turn P w K tg (Itl K a) [it] it (fun i h=>h.IsListIter it a i) where
 mem:=by simp
 obj:=fun i h st b hb=>by
  have e:b=it:=by simpa using hb
  subst e;obtain ⟨o,e,c,d⟩:=st;exact ⟨o,e,fun v z=>by rw [d] at z; cases z⟩
 keep:=fun i h h' st k=>st.at fun o e=>k it (by simp) o e
 item:=by
  intro X hP hw hK hc i pins s σ H E I hf st hg;subst hP hw hK;obtain ⟨xs,x,hq,hx⟩:=hg;obtain ⟨its,rv,p,hz⟩:=I.list hq;obtain ⟨u,hu,ru⟩:=rv.get hx;obtain ⟨f0,f1,f2,f3,f4,f5⟩:=hf it (by simp);refine wpAny_pyNext_list_item st p.isList (x:=u) (by simpa using hu) fun h' st' sb=>?_;have I1:Inv X pins σ H { s with heap:=h' }:=I.turned (t':=s.toks) (fun b o hb e=>(sb.2 b hb).trans e) f0 f1 f3 f4 f5;obtain ⟨o,e,c,d⟩:=id st';exact ⟨u,rfl,B5v (s:={ s with heap:=h' }) e c d (by decide) ⟨x,H,I1,ru,⟨rfl,fun ys hy=>by rw [I.list_inj hy hq]; exact hx⟩,st',fun b hb=>(hf b hb).1⟩⟩
 done:=by
  intro X hP hw hK hc i pins s σ H E I hf st hg;subst hP hw hK;obtain ⟨xs,hq,hx⟩:=hg;obtain ⟨its,rv,p,hz⟩:=I.list hq;obtain ⟨f0,f1,f2,f3,f4,f5⟩:=hf it (by simp);have hl:=rv.length;exact wpAny_pyNext_list_end (I.ok.hd hc) st p.isList (by simp; omega) fun h' eb=>⟨rfl,I.turned (t':=s.toks) (fun b o hb e=>eb b o hb e) f0 f1 f3 f4 f5⟩
 self:=fun _ _ _ _ _ st h=>wpAny_pyIter_listiter st h
theorem A4r {P:Program} {w:World} {K:PySem.W.Frag} {tg:Expr} (a it:Addr):Turn P w K tg (Itt K a) [it] it (fun i h=>h.IsTupleIter it a i) where
 mem:=by simp
 obj:=fun i h st b hb=>by
  have e:b=it:=by simpa using hb
  subst e;obtain ⟨o,e,c,d⟩:=st;exact ⟨o,e,fun v z=>by rw [d] at z; cases z⟩
 keep:=fun i h h' st k=>st.at fun o e=>k it (by simp) o e
 item:=by
  intro X hP hw hK hc i pins s σ H E I hf st hg;subst hP hw hK;obtain ⟨xs,x,hq,hx⟩:=hg;obtain ⟨its,rv,p,hz⟩:=I.tuple hq;obtain ⟨u,hu,ru⟩:=rv.get hx;obtain ⟨f0,f1,f2,f3,f4,f5⟩:=hf it (by simp);refine wpAny_pyNext_tuple_item st (show s.heap.IsTuple a its.toArray from p) (x:=u) (by simpa using hu) fun h' st' sb=>?_;have I1:Inv X pins σ H { s with heap:=h' }:=I.turned (t':=s.toks) (fun b o hb e=>(sb.2 b hb).trans e) f0 f1 f3 f4 f5;obtain ⟨o,e,c,d⟩:=id st';exact ⟨u,rfl,B5v (s:={ s with heap:=h' }) e c d (by decide) ⟨x,H,I1,ru,⟨rfl,fun ys hy=>by rw [I.tuple_inj hy hq]; exact hx⟩,st',fun b hb=>(hf b hb).1⟩⟩
 done:=by
  intro X hP hw hK hc i pins s σ H E I hf st hg;subst hP hw hK;obtain ⟨xs,hq,hx⟩:=hg;obtain ⟨its,rv,p,hz⟩:=I.tuple hq;obtain ⟨f0,f1,f2,f3,f4,f5⟩:=hf it (by simp);have hl:=rv.length;exact wpAny_pyNext_tuple_end (I.ok.hd hc) st (show s.heap.IsTuple a its.toArray from p) (by simp; omega) fun h' eb=>⟨rfl,I.turned (t':=s.toks) (fun b o hb e=>eb b o hb e) f0 f1 f3 f4 f5⟩
 self:=fun _ _ _ _ _ st h=>wpAny_pyIter_tupleiter st h
theorem A4s {P:Program} {w:World} {K:PySem.W.Frag} {tg:Expr} (it:Addr) (lo:Int) (n:Nat):Turn P w K tg (Itr lo n) [it] it (fun i h=>IsRangeIter h it (lo + (i:Nat) * 1) ((n:Int) - (i:Nat)) 1) where
 mem:=by simp
 obj:=fun i h st b hb=>by
  have e:b=it:=by simpa using hb
  subst e;exact ⟨_,st,fun v z=>by
   have z':Data.fields _=Data.cell v:=z;cases z'⟩
 keep:=fun i h h' st k=>k it (by simp) _ st
 item:=by
  intro X hP hw hK hc i pins s σ H E I hf st hg;subst hP hw hK;obtain ⟨f0,f1,f2,f3,f4,f5⟩:=hf it (by simp);have W:=Walks.range (prog:=X.prog) (w:=X.w) (I.ok.hd hc) it lo 1 n;refine W.item i s _ _ hg st fun v h' tk hv st' kk=>?_;obtain ⟨t,rfl⟩:=hv;have I1:Inv X pins σ H { s with heap:=h',toks:=tk }:=I.turned (fun b o hb e=>kk b o (by simpa using hb) e) f0 f1 f3 f4 f5;refine ⟨_,rfl,B5v (s:={ s with heap:=h',toks:=tk }) (n:="range_iterator") st' rfl rfl (by decide) ⟨.int (lo + i),H,I1,⟨t,?_⟩,⟨rfl,rfl⟩,st',fun b hb=>(hf b hb).1⟩⟩;rw [Int.mul_one]
 done:=by
  intro X hP hw hK hc i pins s σ H E I hf st hg;subst hP hw hK;obtain ⟨f0,f1,f2,f3,f4,f5⟩:=hf it (by simp);exact wpAny_pyNext_range_end (I.ok.hd hc) st (by have:n<=i:=hg; omega) fun h' eb=>⟨rfl,I.turned (t':=s.toks) (fun b o hb e=>eb b o hb e) f0 f1 f3 f4 f5⟩
 self:=fun _ _ _ _ _ st h=>wpAny_pyIter_rangeiter st h
end L2
namespace L2
open PySem PySem.Spec PyProof.Rows
section
variable {X:Cx} {tg:Expr}
theorem A3j {pins:List (Addr × Obj)} {σ:St} {H:Hp} {s:Shared} {R:It->Hp->Prop} {E:Value->Shared->Prop} {lo hi:Int} {t u v:Tok} {tk:Nat} (I:Inv X pins σ H s) (h1:-(2 ^ 62)<=lo) (h2:lo < 2 ^ 62) (h3:-(2 ^ 62)<=hi) (h4:hi < 2 ^ 62)
  (q:R (Itr lo (hi - lo).toNat) H):wpAny (model X.prog X.w) X.A (pyIter (.ref s.heap.objs.size)) (PIE X pins σ tg R) E { s with heap:=s.heap.push { cls:=.type "range",data:=.fields #[.int lo t,.int hi u,.int 1 v] },toks:=tk }:=by
 refine wpAny_pyIter_range (IsRange.new ..) (small_one h1 h2 h3 h4) ?_;have I1:Inv X pins σ H { s with heap:=s.heap.push { cls:=.type "range",data:=.fields #[.int lo t,.int hi u,.int 1 v] },toks:=tk }:=I.kept fun b o e=>Heap.get?_push_of_some _ e;refine ⟨(s.heap.push { cls:=.type "range",data:=.fields #[.int lo t,.int hi u,.int 1 v] }).objs.size,[(s.heap.push { cls:=.type "range",data:=.fields #[.int lo t,.int hi u,.int 1 v] }).objs.size],_,_,H,rfl,
  I1.kept (t':=tk) fun b o e=>Heap.get?_push_of_some _ e,A4s _ lo (hi - lo).toNat,?_,fun b hb=>?_,q⟩
 ·have e1:lo + ((0:Nat):Int) * 1=lo:=by simp
  have e2:(((hi - lo).toNat:Nat):Int) - ((0:Nat):Int)=Builtin.Range.rangeSize lo hi 1:=by rw [rangeSize_one]; split <;> omega
  show IsRangeIter _ _ (lo + ((0:Nat):Int) * 1) ((((hi - lo).toNat:Nat):Int) - ((0:Nat):Int)) 1;rw [e1,e2];exact Heap.get?_push_size _ rfl
 ·have e:b=(s.heap.push { cls:=.type "range",data:=.fields #[.int lo t,.int hi u,.int 1 v] }).objs.size:=by simpa using hb
  subst e;exact I1.fpOk (Nat.le_refl _) (I1.hok.fresh (Nat.le_refl _))
def B5r (ta:TA):TI:=fun σ H R=>ta σ H fun vs H1=>∃ j:Int,vs=[.int j]/\-(2 ^ 62)<=j/\j < 2 ^ 62/\R (Itr 0 j.toNat) H1
def B5q (ta:TA):TI:=fun σ H R=>ta σ H fun vs H1=>∃ i j:Int,vs=[.int i,.int j]/\(-(2 ^ 62)<=i/\i < 2 ^ 62/\-(2 ^ 62)<=j/\j < 2 ^ 62)/\R (Itr i (j - i).toNat) H1
theorem A02 {a:Expr} {ta:TA} {p pos:Pos} (hg:Gl X "range") (hm:X.mg "range"=none) (ha:PA X [a] ta) (hs:starEach [a] X.env=[(false,eval a X.env)]:=by rfl):PI X tg (.Call (.Name "range" p) [a] [] pos) (B5r ta):=by
 intro pins s σ H R I h;refine Call_ (X7 I hg hm boot_range (PyProof.Rows.callWith_type1 (thn (ha pos pins s σ H _ I h) fun us s1 ⟨vs,H1,I1,r1,q1⟩=>?_) hs rfl));obtain ⟨j,e,q1,q2,q⟩:=q1;subst e;cases r1 with
 | cons r rr =>
  cases rr;obtain ⟨t,rfl⟩:=r;exact call_range_1 (A3j I1 (by omega) (by omega) q1 q2 (by simpa using q))
theorem A60 {a b:Expr} {ta:TA} {p pos:Pos} (hg:Gl X "range") (hm:X.mg "range"=none) (ha:PA X [a,b] ta) (hs:starEach [a,b] X.env=[(false,eval a X.env),(false,eval b X.env)]:=by rfl) (hs2:starEach [b] X.env=[(false,eval b X.env)]:=by rfl) :
  PI X tg (.Call (.Name "range" p) [a,b] [] pos) (B5q ta):=by
 intro pins s σ H R I h;refine Call_ (X7 I hg hm boot_range (PyProof.Rows.callWith_type1 (thn (ha pos pins s σ H _ I h) fun us s1 ⟨vs,H1,I1,r1,q1⟩=>?_) (by rw [hs,hs2]) (by rw [hs2]; rfl)));obtain ⟨i,j,e,⟨q1,q2,q3,q4⟩,q⟩:=q1;subst e;cases r1 with
 | cons r rr =>
  cases rr with
  | cons r' rr =>
   cases rr;obtain ⟨t,rfl⟩:=r;obtain ⟨t',rfl⟩:=r';exact call_range_2 (A3j I1 q1 q2 q3 q4 q)
def tFor (wi:TI) (g:TG) (tb:TS):TS:=fun D σ H=>wi σ H fun J H1=>∃ W:Nat->Nat->St->Hp->Prop,(∃ m,W 0 m σ H1)/\∀ i m σ H,W i m σ H ->
 (J.stop i H/\D.nx σ H)\/(J.go i H/\∃ N:St->Hp->Prop,(∀ σ' H',N σ' H'->∃ m',m' < m/\W (i + 1) m' σ' H')/\∀ x H',J.yld i H x H'->g x σ H' fun σ2 H2=>tb { D with nx:=N,ct:=N,bk:=D.nx } σ2 H2)
def A01 (fp:List Addr) (h:Heap):List (Addr × Obj):=fp.filterMap fun b=>(h.get? b).map fun o=>(b,o)
theorem P7 {fp:List Addr} {h:Heap} {b:Addr} {o:Obj} (hb:b ∈ fp) (e:h.get? b=some o):(b,o) ∈ A01 fp h:=List.mem_filterMap.mpr ⟨b,hb,by rw [e]; rfl⟩
theorem A73 {fp:List Addr} {h:Heap} {p:Addr × Obj} (hp:p ∈ A01 fp h):p.1 ∈ fp/\h.get? p.1=some p.2:=by
 obtain ⟨b,hb,e⟩:=List.mem_filterMap.mp hp;cases q:h.get? b with
 | none=>rw [q] at e; cases e
 | some o =>
  rw [q] at e;have e':(b,o)=p:=Option.some.inj e;subst e';exact ⟨hb,q⟩
theorem Inv.pinned {pins:List (Addr × Obj)} {σ:St} {H:Hp} {s:Shared} {fp:List Addr} (I:Inv X pins σ H s) (hf:∀ b ∈ fp,FpOk X pins H b) (ho:∀ b ∈ fp,∃ o,s.heap.get? b=some o/\∀ v,o.data≠.cell v):Inv X (pins++A01 fp s.heap) σ H s :=
 I.pins_of fun p hp=>(List.mem_append.mp hp).elim (fun z=>I.pin p (List.mem_append_right _ z)) fun z=>by
  obtain ⟨hb,e⟩:=A73 z;obtain ⟨f0,f1,f2,_⟩:=hf p.1 hb;obtain ⟨o,e',d⟩:=ho p.1 hb;rw [e] at e'; cases e';exact ⟨e,f0,f1,f2,d⟩
theorem Inv.unpinned {pins pl:List (Addr × Obj)} {σ:St} {H:Hp} {s:Shared} (I:Inv X (pins++pl) σ H s):Inv X pins σ H s:=I.pins_of fun p hp=>I.pin p (List.mem_append_right _ (List.mem_append_left _ hp))
theorem B14 {iter:Expr} {body:List Stmt} {wi:TI} {g:TG} {tb:TS} {pos:Pos} (hp:PassesOwn (model X.prog X.w) X.A X.env X.xe) (hc:X.calm=true) (hi:PI X tg iter wi) (hg:PG X tg g) (hb:PSs X body tb)
  (hs:∀ x,foldedSetIterable iter X.env x=pure x:=by intro _; rfl):PS X (.For tg iter body [] pos) (tFor wi g tb):=by
 intro pins s σ H D I h;refine wpAny_For (thn (hi pins s σ H _ I h) fun v s1 h1=>thn h1 fun itv s2 h2=>?_) hs;obtain ⟨it,fp,tn,J,H2,e,I2,T,st2,f2,W,⟨m0,w0⟩,turn⟩:=h2;subst e;have stat:∀ {H':Hp},(∀ b ∈ fp,H' b=none)->∀ b ∈ fp,FpOk X pins H' b:=fun hn b hb=>⟨hn b hb,(f2 b hb).2⟩;refine codeAny_forLoop_any (fun n s'=>∃ i σ' H',Inv X pins σ' H' s'/\tn i s'.heap/\(∀ b ∈ fp,H' b=none)/\W i n σ' H') ?_ m0 ⟨0,σ,H2,I2,st2,fun b hb=>(f2 b hb).1,w0⟩;rintro n s3 ⟨i,σ3,H3,I3,st3,fr3,w3⟩;rcases turn i n σ3 H3 w3 with ⟨stop,qn⟩ | ⟨go,N,hN,step⟩
 ·refine wpAny_passesOwn hp (thn (T.done X rfl rfl rfl hc i pins s3 σ3 H3 X.xe I3 (stat fr3) st3 stop) fun r s4 ⟨hr,I4⟩=>?_);subst hr;exact wpAny_execs_nil ⟨σ3,H3,I4,qn⟩
 ·refine wpAny_passesOwn hp (thn (T.item X rfl rfl rfl hc i pins s3 σ3 H3 X.xe I3 (stat fr3) st3 go) fun r s4 ⟨u,hr,h4⟩=>?_);subst hr;refine wpAny_passesOwn hp (thn h4 fun _ s5 ⟨x,H5,I5,r5,y5,st5,fr5⟩=>?_);have I5':=I5.pinned (stat fr5) (T.obj _ _ st5);refine wpAny_passesOwn hp (thn (hg _ s5 σ3 H5 x u _ I5' r5 (step x H5 y5)) fun _ s6 ⟨σ6,H6,I6,q6⟩=>?_);refine wpAny_passesOwn hp (thn (hb _ s6 σ6 H6 _ I6 q6) fun f s7 q7=>?_);have again:∀ {σ7:St} {H7:Hp},Inv X (pins++A01 fp s5.heap) σ7 H7 s7->N σ7 H7->∃ m,m < n/\∃ i σ' H',Inv X pins σ' H' s7/\tn i s7.heap/\(∀ b ∈ fp,H' b=none)/\W i m σ' H':=fun {σ7 H7} I7 n7=>by
   obtain ⟨m',hm,w7⟩:=hN σ7 H7 n7;refine ⟨m',hm,i + 1,σ7,H7,I7.unpinned,T.keep _ _ _ st5 fun b hb o e=>(I7.pin (b,o) (List.mem_append_right _ (List.mem_append_right _ (P7 hb e)))).1,fun b hb=>?_,w7⟩;obtain ⟨o,e,d⟩:=T.obj _ _ st5 b hb;exact (I7.pin (b,o) (List.mem_append_right _ (List.mem_append_right _ (P7 hb e)))).2.1
  cases f with
  | next=>obtain ⟨σ7,H7,I7,n7⟩:=q7; exact again I7 n7
  | cont=>obtain ⟨σ7,H7,I7,n7⟩:=q7; exact again I7 n7
  | brk=>obtain ⟨σ7,H7,I7,q7⟩:=q7; exact ⟨σ7,H7,I7.unpinned,q7⟩
  | ret v=>obtain ⟨x7,σ7,H7,I7,r7,q7⟩:=q7; exact ⟨x7,σ7,H7,I7.unpinned,r7,q7⟩
end
theorem A88 {lo:Int} {n:Nat} {g:TG} {tb:TS} {D:Ends} {σ:St} {H:Hp} (Pv:Nat->St->Hp->Prop) (h0:Pv 0 σ H)
  (hs:∀ i σ H,i < n->Pv i σ H->g (.int (lo + i)) σ H fun σ2 H2=>tb { D with nx:=Pv (i + 1),ct:=Pv (i + 1),bk:=D.nx } σ2 H2) (hd:∀ σ H,Pv n σ H->D.nx σ H) :
  ∃ W:Nat->Nat->St->Hp->Prop,(∃ m,W 0 m σ H)/\∀ i m σ H,W i m σ H ->
   ((Itr lo n).stop i H/\D.nx σ H)\/((Itr lo n).go i H/\∃ N:St->Hp->Prop,(∀ σ' H',N σ' H'->∃ m',m' < m/\W (i + 1) m' σ' H')/\∀ x H',(Itr lo n).yld i H x H'->g x σ H' fun σ2 H2=>tb { D with nx:=N,ct:=N,bk:=D.nx } σ2 H2):=by
 refine ⟨fun i m σ H=>m=n - i/\i<=n/\Pv i σ H,⟨n,by simp,Nat.zero_le _,h0⟩,?_⟩;rintro i m σ H ⟨rfl,hi,p⟩;by_cases hlt:i < n
 ·refine .inr ⟨hlt,Pv (i + 1),fun σ' H' p'=>⟨n - (i + 1),by omega,rfl,hlt,p'⟩,fun x H' y=>?_⟩;obtain ⟨e,y⟩:=y;subst e y;exact hs i σ _ hlt p
 ·have e:i=n:=by omega
  subst e;exact .inl ⟨Nat.le_refl _,hd σ H p⟩
end L2
namespace L2
open PySem PySem.Spec PyProof.Rows
abbrev R2:=V->V->Hp->VK->Prop
def OpR (X:Cx) (f:Value->Value->Sem Value) (r:R2):Prop :=
 ∀ (pins:List (Addr × Obj)) (s:Shared) (σ:St) (H:Hp) (x y:V) (v u:Value) (Q:VK),Inv X pins σ H s->RelV x v->RelV y u->r x y H Q ->
  wpAny (model X.prog X.w) X.A (f v u) (EP X pins σ Q) X.xe s
def UnR (X:Cx) (f:Value->Sem Value) (r:V->Hp->VK->Prop):Prop :=
 ∀ (pins:List (Addr × Obj)) (s:Shared) (σ:St) (H:Hp) (x:V) (v:Value) (Q:VK),Inv X pins σ H s->RelV x v->r x H Q ->
  wpAny (model X.prog X.w) X.A (f v) (EP X pins σ Q) X.xe s
def CallR (X:Cx) (f:Value) (r:List V->Hp->VK->Prop):Prop :=
 ∀ (pins:List (Addr × Obj)) (s:Shared) (σ:St) (H:Hp) (xs:List V) (us:List Value) (Q:VK),Inv X pins σ H s->Vals xs us->r xs H Q ->
  wpAny (model X.prog X.w) X.A (call f us) (EP X pins σ Q) X.xe s
def tOp (r:R2) (ta tb:TE):TE:=fun σ H Q=>ta σ H fun x H1=>tb σ H1 fun y H2=>r x y H2 Q
def tUn (r:V->Hp->VK->Prop) (ta:TE):TE:=fun σ H Q=>ta σ H fun x H1=>r x H1 Q
def rI (C:Int->Int->Prop) (g:Int->Int->V):R2:=fun x y H Q=>∃ i j,x=.int i/\y=.int j/\C i j/\Q (g i j) H
def rI0 (g:Int->Int->V):R2:=fun x y H Q=>∃ i j,x=.int i/\y=.int j/\Q (g i j) H
def rU (g:Int->V):V->Hp->VK->Prop:=fun x H Q=>∃ i,x=.int i/\Q (g i) H
section
variable {X:Cx} {a b c:Expr} {ta tb tc:TE} {pos:Pos}
theorem binT (ha:PE X a ta) (hb:PE X b tb) {pins:List (Addr × Obj)} {s:Shared} {σ:St} {H:Hp} {R:V->V->Hp->Prop} (I:Inv X pins σ H s)
  (h:ta σ H fun x H1=>tb σ H1 fun y H2=>R x y H2) {Q:Value->Shared->Prop} {f:Value->Value->Sem Value}
  (hf:∀ v u s2 x y H2,Inv X pins σ H2 s2->RelV x v->RelV y u->R x y H2->wpAny (model X.prog X.w) X.A (f v u) Q X.xe s2) :
  wpAny (model X.prog X.w) X.A (eval a X.env) (fun v s₁=>wpAny (model X.prog X.w) X.A (eval b X.env) (fun u s₂=>wpAny (model X.prog X.w) X.A (f v u) Q X.xe s₂) X.xe s₁) X.xe s:=by
 refine thn (ha pins s σ H _ I h) fun v s1 ⟨x,H1,I1,r1,q1⟩=>?_;refine thn (hb pins s1 σ H1 _ I1 q1) fun u s2 ⟨y,H2,I2,r2,q2⟩=>?_;exact hf v u s2 x y H2 I2 r1 r2 q2
theorem M7 {op:Operator} {r:R2} (ho:OpR X (binaryOp op) r) (ha:PE X a ta) (hb:PE X b tb):PE X (.BinOp a op b pos) (tOp r ta tb):=by
 intro pins s σ H Q I h;exact wpAny_BinOp (binT ha hb I h fun v u s2 x y H2 I2 rx ry q=>ho pins s2 σ H2 x y v u Q I2 rx ry q)
theorem B9v {op:UnaryOp} {r:V->Hp->VK->Prop} (ho:UnR X (unaryOp op) r) (ha:PE X a ta):PE X (.UnaryOp op a pos) (tUn r ta):=by
 intro pins s σ H Q I h;exact UnaryOp_ (thn (ha pins s σ H _ I h) fun v s1 ⟨x,H1,I1,r1,q1⟩=>ho pins s1 σ H1 x v Q I1 r1 q1)
theorem opI {f:Value->Value->Sem Value} {C:Int->Int->Prop} {g:Int->Int->Int}
  (rule:∀ (i j:Int) (t u:Tok) (s:Shared) (Q:Value->Shared->Prop) (E:Value->Shared->Prop),C i j->Q (.int (g i j) s.toks) { s with toks:=s.toks + 1 }->wpAny (model X.prog X.w) X.A (f (.int i t) (.int j u)) Q E s) :
  OpR X f (rI C fun i j=>.int (g i j)):=by
 intro pins s σ H x y v u Q I rx ry h;obtain ⟨i,j,rfl,rfl,hc,q⟩:=h;obtain ⟨t,rfl⟩:=rx;obtain ⟨t',rfl⟩:=ry;exact rule i j t t' s _ _ hc ⟨.int (g i j),H,I.tok _,⟨_,rfl⟩,q⟩
theorem opI0 {f:Value->Value->Sem Value} {g:Int->Int->Int}
  (rule:∀ (i j:Int) (t u:Tok) (s:Shared) (Q:Value->Shared->Prop) (E:Value->Shared->Prop),Q (.int (g i j) s.toks) { s with toks:=s.toks + 1 }->wpAny (model X.prog X.w) X.A (f (.int i t) (.int j u)) Q E s) :
  OpR X f (rI0 fun i j=>.int (g i j)):=by
 intro pins s σ H x y v u Q I rx ry h;obtain ⟨i,j,rfl,rfl,q⟩:=h;obtain ⟨t,rfl⟩:=rx;obtain ⟨t',rfl⟩:=ry;exact rule i j t t' s _ _ ⟨.int (g i j),H,I.tok _,⟨_,rfl⟩,q⟩
theorem opB0 {f:Value->Value->Sem Value} {g:Int->Int->Bool}
  (rule:∀ (i j:Int) (t u:Tok) (s:Shared) (Q:Value->Shared->Prop) (E:Value->Shared->Prop),Q (.bool (g i j)) s->wpAny (model X.prog X.w) X.A (f (.int i t) (.int j u)) Q E s) :
  OpR X f (rI0 fun i j=>.bl (g i j)):=by
 intro pins s σ H x y v u Q I rx ry h;obtain ⟨i,j,rfl,rfl,q⟩:=h;obtain ⟨t,rfl⟩:=rx;obtain ⟨t',rfl⟩:=ry;exact rule i j t t' s _ _ ⟨.bl (g i j),H,I,rfl,q⟩
def CPow (i j:Int):Prop:=0<=j/\j<=1000000/\i.natAbs < 2 ^ 64
theorem G9:OpR X (binaryOp .Add) (rI0 fun i j=>.int (i + j)):=opI0 fun _ _ _ _ _ _ _ q=>add_int q
theorem A05:OpR X (binaryOp .Sub) (rI0 fun i j=>.int (i - j)):=opI0 fun _ _ _ _ _ _ _ q=>sub_int q
theorem P4:OpR X (binaryOp .Mod) (rI (fun _ j=>0 < j) fun i j=>.int (i % j)):=opI fun i j _ _ _ _ _ hc q=>by
 have h1:(0:Int) < j:=hc;exact mod_int' (by omega) (by rw [Int.fmod_eq_emod_of_nonneg i (by omega)]; exact q)
theorem X4:OpR X (binaryOp .Pow) (rI CPow fun i j=>.int (i ^ j.toNat)):=opI fun _ _ _ _ _ _ _ hc q=>pow_int_small hc.1 hc.2.1 hc.2.2 q
theorem unI {f:Value->Sem Value} {g:Int->Int}
  (rule:∀ (i:Int) (t:Tok) (s:Shared) (Q:Value->Shared->Prop) (E:Value->Shared->Prop),Q (.int (g i) s.toks) { s with toks:=s.toks + 1 }->wpAny (model X.prog X.w) X.A (f (.int i t)) Q E s) :
  UnR X f (rU fun i=>.int (g i)):=by
 intro pins s σ H x v Q I rx h;obtain ⟨i,rfl,q⟩:=h;obtain ⟨t,rfl⟩:=rx;exact rule i t s _ _ ⟨.int (g i),H,I.tok _,⟨_,rfl⟩,q⟩
theorem B6e:UnR X (unaryOp .USub) (rU fun i=>.int (-i)):=unI fun _ _ _ _ _ q=>neg_int q
end
section
variable {X:Cx} {a b c:Expr} {ta tb tc:TE} {pos:Pos}
theorem B26 {pins:List (Addr × Obj)} {σ:St} {H:Hp} {s:Shared} {Q:VK} {k k':Bool} (I:Inv X pins σ H s) (q:Q (.bl k) H) (e:k=k'):EP X pins σ Q (.bool k') s:=by
 subst e;exact ⟨.bl k,H,I,rfl,q⟩
theorem A06:OpR X (compareOp .Lt) (rI0 fun i j=>.bl (decide (i < j))):=opB0 fun _ _ _ _ _ _ _ q=>lt_int q
theorem B7t:OpR X (compareOp .LtE) (rI0 fun i j=>.bl (decide (i<=j))):=opB0 fun _ _ _ _ _ _ _ q=>le_int q
theorem R6:OpR X (compareOp .Gt) (rI0 fun i j=>.bl (decide (j < i))):=opB0 fun _ _ _ _ _ _ _ q=>gt_int q
theorem B7w:OpR X (compareOp .GtE) (rI0 fun i j=>.bl (decide (j<=i))):=opB0 fun _ _ _ _ _ _ _ q=>ge_int q
theorem B7u:OpR X (compareOp .Is) (fun x y H Q=>y=.non/\Q (.bl (decide (x=.non))) H):=by
 intro pins s σ H x y v u Q I rx ry h;obtain ⟨rfl,q⟩:=h;cases ry;refine is_none_gen (B26 I q ?_);cases x <;> first
  | (cases rx; rfl)
  | (obtain ⟨t,rfl⟩:=rx; rfl)
theorem B49:OpR X (compareOp .IsNot) (fun x y H Q=>y=.non/\Q (.bl (!decide (x=.non))) H):=by
 intro pins s σ H x y v u Q I rx ry h;obtain ⟨rfl,q⟩:=h;cases ry;refine isnot_none_gen (B26 I q ?_);cases x <;> first
  | (cases rx; rfl)
  | (obtain ⟨t,rfl⟩:=rx; rfl)
theorem C2 (b:Expr) {op:CmpOp} (h:op≠.In:=by decide) (h2:op≠.NotIn:=by decide):behindInMarks op b=false:=by
 have e1:(op == CmpOp.In)=false:=by cases op <;> first | rfl | exact absurd rfl h
 have e2:(op == CmpOp.NotIn)=false:=by cases op <;> first | rfl | exact absurd rfl h2
 cases b <;> simp [behindInMarks,e1,e2]
theorem Z4 {op:CmpOp} {r:R2} (ho:OpR X (compareOp op) r) (ha:PE X a ta) (hb:PE X b tb) (hm:behindInMarks op b=false):PE X (.Compare a [op] [b] pos) (tOp r ta tb):=by
 intro pins s σ H Q I h;exact wpAny_Compare1 (binT ha hb I h fun v u s2 x y H2 I2 rx ry q=>ho pins s2 σ H2 x y v u Q I2 rx ry q) hm
def A50 (t:TE):TT:=fun σ H Q=>t σ H fun x H'=>∃ k,x=.bl k/\Q k H'
theorem A6k {op:CmpOp} {r:R2} (ho:OpR X (compareOp op) r) (ha:PE X a ta) (hb:PE X b tb) (hm:behindInMarks op b=false):PT X (.Compare a [op] [b] pos) (A50 (tOp r ta tb)):=by
 intro pins s σ H Q I h;refine wpAny_isTrue_Compare1 (thn (ha pins s σ H _ I h) fun v s1 ⟨x,H1,I1,r1,q1⟩=>thn (hb pins s1 σ H1 _ I1 q1) fun u s2 ⟨y,H2,I2,r2,q2⟩ =>
  thn (ho pins s2 σ H2 x y v u _ I2 r1 r2 q2) fun c s3 ⟨z,H3,I3,r3,k,e,q3⟩=>?_) hm
 subst e;cases r3;exact wpAny_truthy_bool ⟨H3,I3,q3⟩
def A52 (r r':R2) (ta tb tc:TE):TE:=fun σ H Q=>ta σ H fun x H1=>tb σ H1 fun y H2=>r x y H2 fun z H3=>∃ k,z=.bl k /\
 (if k=true then tc σ H3 fun w' H4=>r' y w' H4 Q else Q (.bl false) H3)
theorem B0k {op op':CmpOp} {r r':R2} (ho:OpR X (compareOp op) r) (ho':OpR X (compareOp op') r') (ha:PE X a ta) (hb:PE X b tb) (hc:PE X c tc)
  (hm:lastMarks [op,op'] [b,c]=false:=by with_unfolding_all rfl):PT X (.Compare a [op,op'] [b,c] pos) (A50 (A52 r r' ta tb tc)):=by
 intro pins s σ H Q I h;refine isTrue_chain (thn (ha pins s σ H _ I h) fun v s1 ⟨x,H1,I1,r1,q1⟩=>test_link (thn (hb pins s1 σ H1 _ I1 q1) fun u s2 ⟨y,H2,I2,r2,q2⟩ =>
  thn (ho pins s2 σ H2 x y v u _ I2 r1 r2 q2) fun d s3 ⟨z,H3,I3,r3,k,e,q3⟩=>?_)) hm
 subst e;cases r3;refine wpAny_truthy_bool ?_;cases k with
 | false =>
  obtain ⟨k',e',q'⟩:=q3;cases e';exact ite_ff ⟨H3,I3,q'⟩
 | true =>
  refine ite_tt (test_last (thn (hc pins s3 σ H3 _ I3 q3) fun w' s4 ⟨z',H4,I4,r4,q4⟩=>thn (ho' pins s4 σ H4 y z' u w' _ I4 r2 r4 q4) fun d' s5 ⟨z2,H5,I5,r5,k2,e2,q5⟩=>?_));subst e2;cases r5;exact wpAny_truthy_bool ⟨H5,I5,q5⟩
theorem X5:(sizeLine:Nat) < 2 ^ 63:=by rw [sizeLine_eq]; decide
theorem A16 {x:V} {us:List Value} (r:Vals [x] us):∃ u,us=[u]/\RelV x u:=by
 cases r with
 | cons r1 r2=>cases r2; exact ⟨_,rfl,r1⟩
theorem B6d {x y:V} {us:List Value} (r:Vals [x,y] us):∃ u w',us=[u,w']/\RelV x u/\RelV y w':=by
 cases r with
 | cons r1 r2 =>
  cases r2 with
  | cons r3 r4=>cases r4; exact ⟨_,_,rfl,r1,r3⟩
theorem B1c:CallR X (.builtin "abs") (fun xs H Q=>∃ i,xs=[.int i]/\Q (.int (if i < 0 then -i else i)) H):=by
 intro pins s σ H xs us Q I r h;obtain ⟨i,rfl,q⟩:=h;obtain ⟨u,rfl,t,rfl⟩:=A16 r;exact call_abs_int fun u tk=>⟨.int (if i < 0 then -i else i),H,I.tok _,⟨_,rfl⟩,q⟩
theorem A9s (hc:X.calm=true):CallR X (.builtin "max") (fun xs H Q=>∃ i j,xs=[.int i,.int j]/\Q (.int (if j > i then j else i)) H):=by
 intro pins s σ H xs us Q I r h;obtain ⟨i,j,rfl,q⟩:=h;obtain ⟨u,w',rfl,⟨t,rfl⟩,⟨t',rfl⟩⟩:=B6d r;refine max_two_ints (I.ok.hd hc) fun h' tk k=>⟨_,H,I.kept k,?_,q⟩;by_cases hj:j > i
 ·rw [if_pos hj,if_pos hj]; exact ⟨_,rfl⟩
 ·rw [if_neg hj,if_neg hj]; exact ⟨_,rfl⟩
theorem A9r (hc:X.calm=true):CallR X (.builtin "min") (fun xs H Q=>∃ i j,xs=[.int i,.int j]/\Q (.int (if j < i then j else i)) H):=by
 intro pins s σ H xs us Q I r h;obtain ⟨i,j,rfl,q⟩:=h;obtain ⟨u,w',rfl,⟨t,rfl⟩,⟨t',rfl⟩⟩:=B6d r;refine min_two_ints (I.ok.hd hc) fun h' tk k=>⟨_,H,I.kept k,?_,q⟩;by_cases hj:j < i
 ·rw [if_pos hj,if_pos hj]; exact ⟨_,rfl⟩
 ·rw [if_neg hj,if_neg hj]; exact ⟨_,rfl⟩
theorem A1v:CallR X (.type "int") (fun xs H Q=>(∃ i,xs=[.int i]/\Q (.int i) H)\/∃ k,xs=[.bl k]/\Q (.int (if k then 1 else 0)) H):=by
 intro pins s σ H xs us Q I r h;rcases h with ⟨i,rfl,q⟩ | ⟨k,rfl,q⟩
 ·obtain ⟨u,rfl,t,rfl⟩:=A16 r;exact call_int_int ⟨.int i,H,I,⟨_,rfl⟩,q⟩
 ·obtain ⟨u,rfl,r1⟩:=A16 r;cases r1;exact call_int_bool ⟨.int (if k then 1 else 0),H,I.tok _,⟨_,rfl⟩,q⟩
end
end L2
namespace L2
open PySem PySem.Spec PyProof.Rows
section
variable {prog:Program} {w:World} {A:Around} {E:Value->Shared->Prop} {s:Shared} {K:PySem.W.Frag} {x dx C f:Addr} {mA:Str->Option Value} {name:Str} {v:Value}
end
theorem RelO.none_of {o:Option Value} (r:RelO none o):o=none:=by
 cases o with
 | none=>rfl
 | some u=>exact (show False from r).elim
section
variable {P:Program} {w:World} {H H':Hp} {h h':Heap} {a C dx:Addr} {fs fs':List (Str × V)}
end
structure Cls (K:PySem.W.Frag) (C:Addr):Prop where
 pg:PySem.W.plainGet K C Str.empty=true
 hd:PySem.W.hasDictIn K C=true
 po:PySem.W.plainOver K C=true
 sa:PySem.W.findIn K (.ref C) "__setattr__"=some (some (.builtin "object.__setattr__"))
theorem Cls.get {K:PySem.W.Frag} {C:Addr} (c:Cls K C) (f:Str):PySem.W.plainGet K C f=true:=c.pg
section
variable {X:Cx} {pins:List (Addr × Obj)} {σ:St} {H:Hp} {s:Shared} {a C dx:Addr} {fs:List (Str × V)} {f:Str} {v:V} {A:Around} {E:Value->Shared->Prop}
end
section
variable {X:Cx} {o e value:Expr} {f:Str} {pos pos' tpos:Pos} {ta tv:TE}
end
section
variable {X:Cx} {pins:List (Addr × Obj)} {σ:St} {H:Hp} {s:Shared} {A:Around} {E:Value->Shared->Prop} {Q:Value->Shared->Prop} {c:Value} {b:Bool}
end
end L2
namespace L2
open PySem PySem.Spec PyProof.Rows
structure Room (k:Nat) (A:Around):Prop where
 hd:A.handled=none
 gd:A.guards=some []
 dp:A.depth + 3 * k + 5 < recursionLimit
 un:A.units + 16 * k + 200 < cLine
theorem Room.mono {j k:Nat} {A:Around} (r:Room k A) (h:j<=k):Room j A:=⟨r.hd,r.gd,by have:=r.dp; omega,by have:=r.un; omega⟩
theorem Room.mo {j k:Nat} {A:Around} (r:Room k A) (h:j<=k:=by first | decide | omega):Room j A:=r.mono h
theorem Room.deeper {k:Nat} {A:Around} (r:Room (k + 1) A) (env:Env):Room k (A.deeper env) :=
 ⟨r.hd,r.gd,by have:=r.dp; show A.depth + 1 + 3 * k + 5 < _; omega,by have:=r.un; show A.units + 3 + 16 * k + 200 < _; omega⟩
theorem Room.depth {k:Nat} {A:Around} (r:Room k A):A.depth < recursionLimit:=by have:=r.dp; omega
theorem Room.units {k:Nat} {A:Around} (r:Room k A):A.units + 64 < cLine:=by have:=r.un; omega
def tNil:TA:=fun _ H Q=>Q [] H
def L9 (ta:TE) (tr:TA):TA:=fun σ H Q=>ta σ H fun x H1=>tr σ H1 fun xs H2=>Q (x :: xs) H2
section
variable {X:Cx} {e:Expr} {es:List Expr} {te:TE} {t:TA} {pos:Pos}
theorem X2:PA X [] tNil:=fun _ _ _ _ H Q I h=>Calls.spliced_nil ⟨[],H,I,.nil,h⟩
theorem Q3 (ha:PE X e te) (hr:PA X es t) (hs:starEach (e :: es) X.env=(false,eval e X.env) :: starEach es X.env:=by rfl):PA X (e :: es) (L9 te t):=by
 intro pos pins s σ H Q I h;rw [hs];show wpAny _ _ (spliced ((false,eval e X.env) :: backTo pos (starEach es X.env))) _ _ s;refine Calls.spliced_cons (thn (ha pins s σ H _ I h) fun u s1 ⟨x,H1,I1,r1,q1⟩=>?_);exact thn (hr pos pins s1 σ H1 _ I1 q1) fun us s2 ⟨xs,H2,I2,r2,q2⟩=>⟨x :: xs,H2,I2,.cons r1 r2,q2⟩
def tTup (t:TA):TE:=fun σ H Q=>t σ H fun xs H1=>xs.length<=sizeLine/\∀ p,H1 p=none->Q (.ref p) (upd H1 p (.tup xs))
def tLst (t:TA):TE:=fun σ H Q=>t σ H fun xs H1=>xs.length<=sizeLine/\∀ p,H1 p=none->Q (.ref p) (upd H1 p (.lst xs))
theorem B7d {x1} (h:PA X es t):PE X (.Tuple es x1 pos) (tTup t):=by
 intro pins s σ H Q I hq;refine wpAny_Tuple_spliced (thn (h pos pins s σ H _ I hq) fun us s1 ⟨xs,H1,I1,r,z,q⟩=>⟨by rw [<- r.length]; exact z,?_⟩);have hf:H1 s1.heap.objs.size=none:=I1.hok.fresh (Nat.le_refl _);refine ⟨.ref s1.heap.objs.size,upd H1 s1.heap.objs.size (.tup xs),I1.laid (t':=s1.toks) (fun b u e=>Heap.get?_push_of_some _ e) (Nat.le_refl _) ?_,rfl,q _ hf⟩;exact ⟨z,us,r,⟨_,Heap.get?_push_size _ rfl,rfl,_,rfl⟩⟩
theorem A62 (h:PA X es t):PE X (.List es pos) (tLst t):=by
 intro pins s σ H Q I hq;refine wpAny_List_spliced (thn (h pos pins s σ H _ I hq) fun us s1 ⟨xs,H1,I1,r,z,q⟩=>⟨by rw [<- r.length]; exact z,?_⟩);have hf:H1 s1.heap.objs.size=none:=I1.hok.fresh (Nat.le_refl _);refine ⟨.ref s1.heap.objs.size,upd H1 s1.heap.objs.size (.lst xs),I1.laid (t':=s1.toks) (fun b u e=>Heap.get?_push_of_some _ e) (Nat.le_refl _) ?_,rfl,q _ hf⟩;exact ⟨z,us,0,r,Heap.get?_push_size _ rfl⟩
end
abbrev Sp:=List V->Hp->VK->XK->Prop
abbrev CXT:=List Env->Hp->Shared->XK->Value->Shared->Prop
structure Env0 (P:Program) (w:World) (K:PySem.W.Frag) (mg:Str->Option Value) (base:Heap) (A:Around) (outer:List Env) (s:Shared) (H:Hp):Prop where
 frames:A.frames=some outer
 mod:Mod K mg base
 bs:∀ b o,base.get? b=some o->s.heap.get? b=some o/\H b=none
 bsz:base.objs.size<=s.heap.objs.size
 funs:s.heap.FunFrames base outer
 frf:∀ b ∈ frs outer,H b=none
 hok:HOk P w H s.heap
 bare:AllBare s.gens
def CE (outer:List Env) (P:Program) (w:World) (H:Hp) (s:Shared) (Q:VK) (u:Value) (s':Shared):Prop :=
 ∃ v H',s'.os=s.os/\AllBare s'.gens/\Un (frs outer) [] H H' s.heap s'.heap/\HOk P w H' s'.heap/\RelV v u/\Q v H'
def CR (CX:CXT) (outer:List Env) (P:Program) (w:World) (H:Hp) (s:Shared) (Q:VK) (E:XK) (r:Result) (s':Shared):Prop :=
 match r with
 | .ok (.ret u)=>CE outer P w H s Q u s'
 | .ok _=>False
 | .error e=>CX outer H s E e s'
structure FnOk (P:Program) (w:World) (K:PySem.W.Frag) (mg:Str->Option Value) (base:Heap) (CX:CXT) (k:Nat) (f:Addr) (fd:FuncData) (ps:List Str) (sp:Sp):Prop where
 len:∀ vs H Q E,sp vs H Q E->vs.length=ps.length
 run:∀ (A:Around) (outer:List Env) (s:Shared) (H:Hp) (args:Args) (us:List Value) (vs:List V) (Q:VK) (E:XK),Room k A->Env0 P w K mg base A outer s H->BindsTo s fd args (ps.zip us)->Vals vs us->sp vs H Q E ->
  codeAny (model P w) A (.call (.ref f) args) (CR CX outer P w H s Q E) s
theorem FnOk.imp {P:Program} {w:World} {K:PySem.W.Frag} {mg:Str->Option Value} {base:Heap} {CX:CXT} {k:Nat} {f:Addr} {fd:FuncData} {ps:List Str} {sp sp':Sp} (F:FnOk P w K mg base CX k f fd ps sp)
  (h:∀ vs H Q E,sp' vs H Q E->sp vs H Q E):FnOk P w K mg base CX k f fd ps sp' :=
 ⟨fun vs H Q E q=>F.len vs H Q E (h _ _ _ _ q),fun A outer s H args us vs Q E hr he hb hv hs=>F.run A outer s H args us vs Q E hr he hb hv (h _ _ _ _ hs)⟩
section
variable {X:Cx} {pins:List (Addr × Obj)} {σ:St} {H:Hp} {s s':Shared}
theorem Inv.env0 (I:Inv X pins σ H s):Env0 X.prog X.w X.K X.mg X.base X.A X.stack s H :=
 ⟨I.ok.frames,I.ok.mod,I.bs,Nat.le_trans I.ok.bsz I.sz,I.stack,I.stkFree,I.hok,I.bare⟩
theorem Inv.after {Q:VK} {u:Value} (I:Inv X pins σ H s) (h:CE X.stack X.prog X.w H s Q u s'):EP X pins σ Q u s':=by
 obtain ⟨v,H',os,bare,un,hok,r,q⟩:=h;obtain ⟨hh,g,d,t,os'⟩:=s';obtain rfl:os'=s.os:=os;exact ⟨v,H',I.call (h':=hh) (g':=g) (d':=d) (t':=t) (ch:=[]) un hok bare (fun b z=>absurd z (by simp)),r,q⟩
end
def Y6 (sp:Sp) (dvs:List V) (E:XK) (t:TA):TE:=fun σ H Q=>t σ H fun vs H1=>sp (vs++dvs) H1 Q E
def Binds (K:PySem.W.Frag) (fd:FuncData) (ps:List Str) (ds:List Value):Prop :=
 ∀ (s:Shared) (us:List Value),K.In s.heap->(us++ds).length=ps.length->BindsTo s fd ⟨us,[]⟩ (ps.zip (us++ds))
theorem Binds.all {K:PySem.W.Frag} {fd:FuncData} {ps:List Str} (h:∀ us:List Value,us.length=ps.length->bindArgs fd ⟨us,[]⟩=pure (ps.zip us)):Binds K fd ps []:=fun s us _ hl=>by
 rw [List.append_nil] at hl ⊢;exact .of_eq (h us hl)
def A4q (CX:CXT) (X:Cx) (E:XK):Prop:=∀ (pins:List (Addr × Obj)) (σ:St) (H:Hp) (s:Shared) (e:Value) (s':Shared),Inv X pins σ H s->CX X.stack H s E e s'->X.xe e s'
section
variable {X:Cx} {CX:CXT} {k:Nat} {f C:Addr} {fd:FuncData} {ps:List Str} {sp:Sp} {dvs:List V} {ds:List Value} {E:XK} {x m:Str} {p pos apos:Pos} {e o:Expr} {es:List Expr} {ta:TE} {t:TA}
theorem B6s {pins:List (Addr × Obj)} {σ:St} {H:Hp} {s:Shared} {Q:VK} {us:List Value} {vs:List V} (F:FnOk X.prog X.w X.K X.mg X.base CX k f fd ps sp) (hr:Room k X.A) (hb:Binds X.K fd ps ds) (hd:Vals dvs ds) (hx:A4q CX X E)
  (I:Inv X pins σ H s) (r:Vals vs us) (h:sp (vs++dvs) H Q E):wpAny (model X.prog X.w) X.A (call (.ref f) us) (EP X pins σ Q) X.xe s:=by
 have r2:Vals (vs++dvs) (us++ds):=r.append hd;have hl:(us++ds).length=ps.length:=by rw [<- r2.length]; exact F.len _ _ _ _ h
 refine wpAny_call (codeAny_mono (F.run X.A X.stack s H ⟨us,[]⟩ (us++ds) (vs++dvs) Q E hr I.env0 (hb s us I.kIn hl) r2 h) fun r s' hq=>?_);cases r with
 | error e=>exact hx pins σ H s e s' I hq
 | ok fl =>
  cases fl with
  | ret u=>exact I.after hq
  | next=>exact False.elim hq
  | brk=>exact False.elim hq
  | cont=>exact False.elim hq
theorem B4m (F:FnOk X.prog X.w X.K X.mg X.base CX k f fd ps sp) (hr:Room k X.A) (hg:Gl X x) (hm:X.mg x=some (.ref f)) (hk:PySem.W.keepIn X.K (.ref f)=true) (hb:Binds X.K fd ps ds) (hd:Vals dvs ds) (hx:A4q CX X E)
  (ha:PA X (e :: es) t) (hdb:(x == ("__debug__":Str))=false:=by decide) (he:starEach (e :: es) X.env=(false,eval e X.env) :: starEach es X.env:=by rfl) (hpl:(backTo pos (starEach es X.env)).any (·.1)=false:=by rfl) :
  PE X (.Call (.Name x p) (e :: es) [] pos) (Y6 sp dvs E t):=by
 intro pins s σ H Q I h;refine wpAny_Call_Name_kw (A8r I hg hm ?_ hdb);refine PySem.W.callWith_K (h₀:=X.base) I.ok.mod.kin hk (thn (ha pos pins s σ H _ I h) fun us s1 ⟨vs,H1,I1,r,q⟩=>⟨I1.kIn,?_⟩) he hpl;exact B6s F hr hb hd hx I1 r q
end
section
variable {X:Cx} {CX:CXT} {k:Nat} {f C:Addr} {fd:FuncData} {ps ks:List Str} {sp:Sp} {E:XK} {x m:Str} {p pos apos kpos:Pos} {e o:Expr} {es:List Expr} {kws:List Keyword} {te ta:TE} {t tk:TA} {nm:Option Str}
variable {g:List Value->List Value->List Value} {gV:List V->List V->List V}
end
structure FnScope (N P:List Str) (sc:Scope):Prop where
 kind:sc.kind=.function
 co:sc.isCoroutine=false
 gen:sc.isGenerator=false
 nd:N.Nodup
 pre:N.take P.length=P
 par:∀ x ∈ P,sc.names.lookup x=some .local\/sc.names.lookup x=some .cell
 nofree:∀ y ∈ sc.names,y.2≠.free
theorem A1z {kindOf:Str->Option NameKind} {x:Str}:∀ {binds:List (Str × Value)} {m:Str->Option Value},(∀ v,(x,v) ∉ binds)->bindL kindOf binds m x=m x
 | [],_,_=>rfl
 | (n,v) :: r,m,h=>by
  unfold bindL;rw [A1z fun w hw=>h w (List.mem_cons_of_mem _ hw)];split
  ·have:x≠n:=by rintro rfl; exact h v List.mem_cons_self
   simp [this]
  ·rfl
theorem A11 {kindOf:Str->Option NameKind} {x:Str}:∀ {binds:List (Str × Value)} {m:Str->Option Value},(∀ v,(x,v) ∉ binds)->bindC kindOf binds m x=m x
 | [],_,_=>rfl
 | (n,v) :: r,m,h=>by
  unfold bindC;rw [A11 fun w hw=>h w (List.mem_cons_of_mem _ hw)];split
  ·rfl
  ·have:x≠n:=by rintro rfl; exact h v List.mem_cons_self
   simp [this]
theorem A10 {kindOf:Str->Option NameKind} {x:Str} {v:Value}:∀ {P:List Str} {vs:List Value} {i:Nat} {m:Str->Option Value},P.Nodup->P[i]?=some x->vs[i]?=some v->kindOf x=some .local ->
  bindL kindOf (P.zip vs) m x=some v
 | [],_,_,_,_,h,_,_=>by simp at h
 | _ :: _,[],_,_,_,_,h,_=>by simp at h
 | p :: P,w :: vs,0,m,nd,h1,h2,hk=>by
  simp at h1 h2; subst h1; subst h2;show bindL kindOf ((p,w) :: P.zip vs) m p=_;unfold bindL;rw [A1z fun v hv=>(List.nodup_cons.mp nd).1 (List.of_mem_zip hv).1,if_pos hk];simp
 | p :: P,w :: vs,i + 1,m,nd,h1,h2,hk=>by
  show bindL kindOf ((p,w) :: P.zip vs) m x=_;unfold bindL;exact A10 (i:=i) (List.nodup_cons.mp nd).2 (by simpa using h1) (by simpa using h2) hk
theorem A12 {kindOf:Str->Option NameKind} {x:Str} {v:Value}:∀ {P:List Str} {vs:List Value} {i:Nat} {m:Str->Option Value},P.Nodup->P[i]?=some x->vs[i]?=some v->kindOf x≠some .local ->
  bindC kindOf (P.zip vs) m x=some v
 | [],_,_,_,_,h,_,_=>by simp at h
 | _ :: _,[],_,_,_,_,h,_=>by simp at h
 | p :: P,w :: vs,0,m,nd,h1,h2,hk=>by
  simp at h1 h2; subst h1; subst h2;show bindC kindOf ((p,w) :: P.zip vs) m p=_;unfold bindC;rw [A11 fun v hv=>(List.nodup_cons.mp nd).1 (List.of_mem_zip hv).1,if_neg hk];simp
 | p :: P,w :: vs,i + 1,m,nd,h1,h2,hk=>by
  show bindC kindOf ((p,w) :: P.zip vs) m x=_;unfold bindC;exact A12 (i:=i) (List.nodup_cons.mp nd).2 (by simpa using h1) (by simpa using h2) hk
def start (N:List Str) (vs:List V):St:=vs.map some++List.replicate (N.length - vs.length) none
def cxOf (CX:CXT) (P:Program) (w:World) (K:PySem.W.Frag) (mg:Str->Option Value) (base:Heap) (N:List Str) (qual:Str) (scope:Scope) (f:Addr) (cd:Value) (A:Around) (outer:List Env) (s:Shared) (H:Hp) (E:XK):Cx where
 prog:=P
 w:=w
 K:=K
 mg:=mg
 base:=base
 A:=A.deeper (envOfC qual scope s.heap.objs.size f cd)
 N:=N
 s₀:=s
 H₀:=H
 env:=envOfC qual scope s.heap.objs.size f cd
 outer:=outer
 stack:=envOfC qual scope s.heap.objs.size f cd :: outer
 ex:=[]
 calm:=true
 fn:=fun _=>true
 pn:=[]
 xe:=fun e s'=>wpAny (model P w) (A.deeper (envOfC qual scope s.heap.objs.size f cd)) (leaving (envOfC qual scope s.heap.objs.size f cd) e) (fun _ s''=>CX outer H s E e s'') (fun e' s''=>CX outer H s E e' s'') s'
theorem A4k {sc:Scope} {n:Nat} {x:Str} (h:sc.names.lookup x=some .cell):∃ c,(cellsFrom n sc.names []).lookup x=some c:=by
 have q:=PySem.W.cellsFrom_some sc.names n [] (.inl h);exact Option.isSome_iff_exists.mp q
theorem A83 {CX:CXT} {P:Program} {w:World} {K:PySem.W.Frag} {mg:Str->Option Value} {base:Heap} {N ps:List Str} {qual:Str} {scope:Scope} {f:Addr} {cd:Value} {A:Around} {outer:List Env} {s s1:Shared} {H:Hp} {E:XK} {us:List Value} {vs:List V}
  (S:FnScope N ps scope) (hd:A.handled=none) (e0:Env0 P w K mg base A outer s H) (hl:vs.length=ps.length) (r:Vals vs us)
  (x:InCallC s s.heap.objs.size (bindL (envOfC qual scope s.heap.objs.size f cd).kindOf (ps.zip us) fun _=>none) (cellsFrom (s.heap.objs.size + 1) scope.names []) (bindC (envOfC qual scope s.heap.objs.size f cd).kindOf (ps.zip us) fun _=>none) s1) :
  Inv (cxOf CX P w K mg base N qual scope f cd A outer s H E) [] (start N vs) H s1:=by
 have hpl:ps.length<=N.length:=by have:=congrArg List.length S.pre; rw [List.length_take] at this; omega
 obtain ⟨h1,tk,rfl,hk⟩:=x.done;have noA:∀ b:Addr,b ∉ (cxOf CX P w K mg base N qual scope f cd A outer s H E).ex:=fun b z=>absurd (show b ∈ ([]:List Addr) from z) (by simp);refine ⟨⟨e0.mod,S.kind,rfl,rfl,Nat.le_refl _,fun y z c h1 h2=>?_,fun y hy=>?_,fun y c _ h=>?_,fun _=>hd,Around.frames_deeper e0.frames,.inr ⟨rfl,rfl⟩,fun b z=>absurd z (noA b),e0.bs,e0.bsz,fun b _ _=>noA b,fun b z=>absurd z (noA b),e0.funs,e0.frf⟩,
  rfl,e0.bare,Un.kept hk,⟨_,x.toInCall.ns,fun i y v h1 h2 h3=>?_⟩,fun y c h=>⟨_,x.cell y c h⟩,e0.hok.fresh (Nat.le_refl _),fun y c h=>?_,fun p hp=>absurd (show p ∈ ([]:List (Addr × Obj)) from hp) (by simp),e0.hok.kept hk,?_⟩
 ·exact name_of_addr x.apart (PySem.mem_of_lookup h1) (PySem.mem_of_lookup h2)
 ·have hy:scope.names.lookup y=some .cell\/scope.names.lookup y=some .free:=hy;rcases hy with hy | hy
  ·exact A4k hy
  ·exact absurd rfl (S.nofree _ (PySem.mem_of_lookup hy))
 ·exact Nat.le_of_lt (x.above y c (PySem.mem_of_lookup h))
 ·have hi:i < vs.length:=by
   unfold start at h2;by_cases hi:i < vs.length
   ·exact hi
   ·rw [List.getElem?_append_right (by simpa using hi)] at h2;rw [List.getElem?_replicate] at h2;split at h2 <;> cases h2
  have ha:vs[i]?=some v:=by
   unfold start at h2;rw [List.getElem?_append_left (by simpa using hi),List.getElem?_map] at h2;cases e:vs[i]? with
   | none=>rw [e] at h2; cases h2
   | some a=>rw [e] at h2; cases h2; rfl
  obtain ⟨u,hu,rv⟩:=r.get ha;have hp:ps[i]?=some y:=by
   rw [<- S.pre,List.getElem?_take_of_lt (by omega)]; exact h1
  have ndP:ps.Nodup:=by rw [<- S.pre]; exact S.nd.sublist (List.take_sublist _ _)
  refine ⟨u,rv,?_⟩;rcases S.par y (List.mem_of_getElem? hp) with k | k
  ·exact .inl ⟨k,A10 ndP hp hu k⟩
  ·obtain ⟨c,e⟩:=A4k (n:=s.heap.objs.size + 1) k;refine .inr ⟨.inl k,c,e,?_⟩;have q:=x.cell y c e;rw [A12 ndP hp hu (by show scope.names.lookup y≠_; rw [k]; decide)] at q;exact q
 ·exact e0.hok.fresh (Nat.le_of_lt (x.above y c (PySem.mem_of_lookup h)))
 ·unfold start;show _=N.length;rw [List.length_append,List.length_map,List.length_replicate];omega
theorem B93 {CX:CXT} {P:Program} {w:World} {K:PySem.W.Frag} {mg:Str->Option Value} {base:Heap} {k:Nat} {f:Addr} {name qual:Str} {params:Arguments} {body:List Stmt} {scope:Scope} {dV kV doc pm cdv ct oc:Value} {an od:Option Addr}
  {osl:Array (Option Value)} {N ps:List Str} {sp:Sp} (lk:K.lookup f=some ⟨oc,od,.func (PySem.W.fnOf name qual params body scope dV kV doc pm an cdv ct),osl⟩) (hcd:PySem.W.codeIn K cdv qual=true) (S:FnScope N ps scope)
  (len:∀ vs H Q E,sp vs H Q E->vs.length=ps.length)
  (hbody:∀ (A:Around) (outer:List Env) (s:Shared) (H:Hp) (vs:List V) (Q:VK) (E:XK),Room k (A.deeper (envOfC qual scope s.heap.objs.size f cdv))->sp vs H Q E ->
   ∃ t,PSs (cxOf CX P w K mg base N qual scope f cdv A outer s H E) body t/\t { nx:=fun _ H'=>Q .non H',rt:=Q } (start N vs) H) :
  FnOk P w K mg base CX (k + 1) f (PySem.W.fnOf name qual params body scope dV kV doc pm an cdv ct) ps sp:=by
 refine ⟨len,fun A outer s H args us vs Q E hr e0 hb r hsp=>?_⟩;have hl:=len _ _ _ _ hsp;have KX:K.In s.heap:=e0.mod.kin.keeps fun b o e=>(e0.bs b o e).1;have lim:s.heap.NoLimit:=e0.mod.nolimit.keeps fun b o e=>(e0.bs b o e).1;have hkind:∀ y ∈ ps.zip us,scope.names.lookup y.1=some .local\/(scope.names.lookup y.1=some .cell/\((cellsFrom (s.heap.objs.size + 1) scope.names []).lookup y.1).isSome=true):=fun ⟨n,v⟩ hy=>by
  rcases S.par n (List.of_mem_zip hy).1 with q | q
  ·exact .inl q
  ·exact .inr ⟨q,PySem.W.cellsFrom_some _ _ _ (.inl q)⟩
 refine codeAny_call_function hr.depth (KX _ _ lk) rfl S.co S.gen rfl (PySem.W.codeRec_of KX hcd) (hb _ _ _ _ ?_);refine wpAny_newFunctionEnv_cells S.kind hkind fun env he s1 x=>?_;subst he;refine ⟨lim.keeps x.toInCall.keep,codeAny_func ?_⟩;obtain ⟨t,ht,hq⟩:=hbody A outer s H vs Q E (hr.deeper _) hsp;have I:Inv (cxOf CX P w K mg base N qual scope f cdv A outer s H E) [] (start N vs) H s1:=A83 S hr.hd e0 hl r x;refine wpAny_mono (ht [] s1 (start N vs) H _ I hq) (fun fl s' hs=>?_) fun e s' hs=>hs;have fin:∀ {σ':St} {H':Hp} {v:V} {u:Value},Inv (cxOf CX P w K mg base N qual scope f cdv A outer s H E) [] σ' H' s'->RelV v u->Q v H'->CE outer P w H s Q u s' :=
  fun {σ' H' v u} J rv q=>⟨v,H',J.os,J.bare,J.base,J.hok,rv,q⟩
 cases fl with
 | ret u =>
  obtain ⟨v,σ',H',J,rv,q⟩:=hs;exact fin J rv q
 | next =>
  obtain ⟨σ',H',J,q⟩:=hs;exact fin (v:=V.non) (u:=Value.none) J rfl q
 | brk =>
  obtain ⟨_,_,_,q⟩:=hs;exact False.elim q
 | cont =>
  obtain ⟨_,_,_,q⟩:=hs;exact False.elim q
end L2
namespace L2
open PySem PySem.Spec PyProof.Rows
section
variable {X:Cx} {x:Str} {p pos:Pos} {e:Expr} {es:List Expr} {t:TA} {id T:String} {r:List V->Hp->VK->Prop}
def tCB (r:List V->Hp->VK->Prop) (t:TA):TE:=fun σ H Q=>t σ H fun vs H1=>r vs H1 Q
theorem A3s (hc:CallR X (.builtin id) r) (hg:Gl X x) (hm:X.mg x=none) (hv:bootBuiltins x=some (.builtin id)) (ha:PA X (e :: es) t) (hn:x≠"__name__":=by decide) (hdb:(x == ("__debug__":Str))=false:=by decide)
  (he:starEach (e :: es) X.env=(false,eval e X.env) :: starEach es X.env:=by rfl) (hpl:(backTo pos (starEach es X.env)).any (·.1)=false:=by rfl):PE X (.Call (.Name x p) (e :: es) [] pos) (tCB r t):=by
 intro pins s σ H Q I h;refine wpAny_Call_Name_kw (X7 I hg hm hv ?_ hn hdb);exact PyProof.Rows.callWith_builtin1 (thn (ha pos pins s σ H _ I h) fun us s1 ⟨vs,H1,I1,r1,q1⟩=>hc pins s1 σ H1 vs us Q I1 r1 q1) he hpl
theorem A03 (hc:CallR X (.type T) r) (hg:Gl X x) (hm:X.mg x=none) (hv:bootBuiltins x=some (.type T)) (ha:PA X (e :: es) t) (hn:x≠"__name__":=by decide) (hdb:(x == ("__debug__":Str))=false:=by decide)
  (he:starEach (e :: es) X.env=(false,eval e X.env) :: starEach es X.env:=by rfl) (hpl:(backTo pos (starEach es X.env)).any (·.1)=false:=by rfl):PE X (.Call (.Name x p) (e :: es) [] pos) (tCB r t):=by
 intro pins s σ H Q I h;refine wpAny_Call_Name_kw (X7 I hg hm hv ?_ hn hdb);exact PyProof.Rows.callWith_type1 (thn (ha pos pins s σ H _ I h) fun us s1 ⟨vs,H1,I1,r1,q1⟩=>hc pins s1 σ H1 vs us Q I1 r1 q1) he hpl
end
end L2
namespace HT
open PySem PyProof.Rows
section
open PySem.SeqAt
open PySem.AutoSeq1 (wpAny_loadPart')
open PySem.MeetsSeq PySem.MeetsSeq2 PySem.MeetsSeq3
end
section
variable {prog:Program} {w:World} {A:Around} {E:Value->Shared->Prop} {s:Shared}
def sIx (n d:Nat):Option Int->Nat
 | none=>d
 | some v=>if v < 0 then (v + (n:Int)).toNat else min v.toNat n
theorem sIx_none (n d:Nat):sIx n d none=d:=rfl
theorem sIx_nat (n d k:Nat):sIx n d (some (k:Int))=min k n:=by
 show (if (k:Int) < 0 then ((k:Int) + (n:Int)).toNat else min (k:Int).toNat n)=min k n;rw [if_neg (by omega),Int.toNat_natCast]
theorem B6r (n d:Nat) (hd:d<=n) (o:Option Int):sIx n d o<=n:=by
 cases o with
 | none=>exact hd
 | some v =>
  show (if v < 0 then (v + (n:Int)).toNat else min v.toNat n)<=n;by_cases hv:v < 0
  ·rw [if_pos hv]; omega
  ·rw [if_neg hv]; exact Nat.min_le_right _ _
theorem A9m (v:Int) (n d:Nat):(if v < 0 then max (v + (n:Int)) 0 else min v (n:Int))=((sIx n d (some v):Nat):Int):=by
 show (if v < 0 then max (v + (n:Int)) 0 else min v (n:Int))=(((if v < 0 then (v + (n:Int)).toNat else min v.toNat n):Nat):Int);by_cases hv:v < 0
 ·simp only [if_pos hv]; omega
 ·simp only [if_neg hv]; omega
theorem A5k (lo hi:Option Int) (n:Nat):Builtin.Slice.sliceAdjust lo hi 1 (n:Int)=(((sIx n 0 lo:Nat):Int),((sIx n n hi:Nat):Int)):=by
 have h1:¬ ((1:Int) < 0):=by omega
 unfold Builtin.Slice.sliceAdjust;simp only [h1,if_false];refine Prod.ext ?_ ?_
 ·cases lo with
  | none=>rfl
  | some v=>exact A9m v n 0
 ·cases hi with
  | none=>rfl
  | some v=>exact A9m v n n
theorem A41 (i j:Nat):Builtin.Slice.slicePlaces (i:Int) (j:Int) 1=j - i:=by
 unfold Builtin.Slice.slicePlaces;have h1:(1:Int) > 0:=by omega
 simp only [h1,if_true,Int.ediv_one];split <;> omega
theorem W8 {v:Value} {o:Option Int} {Q:Option Int->Shared->Prop} (p:IsPart v o) (h:Q o s):wpAny (model prog w) A (Builtin.Slice.slicePartIndex v) Q E s:=by
 cases p with
 | none=>exact slicePart_none h
 | int i t=>exact slicePart_int h
theorem S6 {sl:Addr} {vl vu:Value} {lo hi:Option Int} {n:Nat} {Q:Int × Int × Nat->Shared->Prop} (hs:s.heap.IsSliceOf sl vl vu .none) (pl:IsPart vl lo) (pu:IsPart vu hi)
  (h:Q (((sIx n 0 lo:Nat):Int),1,sIx n n hi - sIx n 0 lo) s):wpAny (model prog w) A (Builtin.Slice.sliceApplied (.ref sl) (pure (n:Int))) Q E s:=by
 obtain ⟨os,hos,hcs,hds⟩:=id hs;unfold Builtin.Slice.sliceApplied Builtin.Slice.sliceFields;refine wpAny_bind (wpAny_bind (wpAny_field hos hds (x:=vl) rfl (wpAny_bind (wpAny_field hos hds (x:=vu) rfl (wpAny_bind (wpAny_field hos hds (x:=.none) rfl (wpAny_pure ?_)))))));refine wpAny_bind (slicePart_none ?_);show wpAny _ _ (if ((1:Int) == 0)=true then _ else _) _ _ s;rw [if_neg (by decide)];refine wpAny_bind (W8 pl (wpAny_bind (W8 pu (wpAny_bind (wpAny_pure ?_)))));show wpAny _ _ (match Builtin.Slice.sliceAdjust lo hi 1 (n:Int) with | (lo,hi)=>pure (lo,(1:Int),Builtin.Slice.slicePlaces lo hi 1)) _ _ s;rw [A5k lo hi n];show wpAny _ _ (pure (((sIx n 0 lo:Nat):Int),(1:Int),Builtin.Slice.slicePlaces ((sIx n 0 lo:Nat):Int) ((sIx n n hi:Nat):Int) 1)) _ _ s;rw [A41];exact wpAny_pure h
theorem B0m (xs:Array Value) (i k:Nat):((List.range k).filterMap fun (m:Nat)=>xs[((i:Int) + (m:Int) * 1).toNat]?).toArray=((xs.toList.drop i).take k).toArray:=by
 have e:(fun (m:Nat)=>xs[((i:Int) + (m:Int) * 1).toNat]?)=fun m=>xs[i + m]?:=by
  funext m
  have:((i:Int) + (m:Int) * 1).toNat=i + m:=by omega
  rw [this]
 rw [e];have:=pick_run xs i k;rw [List.filterMap_map] at this;have e2:((fun x=>xs[x]?) ∘ fun x=>i + x)=fun m=>xs[i + m]?:=rfl;rw [e2] at this;rw [this]
theorem getItem_tuple_cut {t sl:Addr} {items:Array Value} {vl vu:Value} {lo hi:Option Int} {Q:Value->Shared->Prop} (ht:IsTup s.heap t items) (hs:s.heap.IsSliceOf sl vl vu .none) (pl:IsPart vl lo) (pu:IsPart vu hi)
  (hw:¬ (sIx items.size 0 lo=0/\sIx items.size items.size hi=items.size))
  (h:Q (.ref s.heap.objs.size) { s with heap:=s.heap.push { cls:=.type "tuple",data:=.seq ((items.toList.drop (sIx items.size 0 lo)).take (sIx items.size items.size hi - sIx items.size 0 lo)).toArray } })
  (hsz:items.size<=sizeLine):wpAny (model prog w) A (getItem (.ref t) (.ref sl)) Q E s:=by
 have htake:sizeOk (.seq ((items.toList.drop (sIx items.size 0 lo)).take (sIx items.size items.size hi - sIx items.size 0 lo)).toArray):=by
  show ((items.toList.drop (sIx items.size 0 lo)).take (sIx items.size items.size hi - sIx items.size 0 lo)).toArray.size<=sizeLine;rw [List.size_toArray,List.length_take,List.length_drop,Array.length_toList];omega
 have hj:sIx items.size items.size hi<=items.size:=B6r _ _ (Nat.le_refl _) hi;obtain ⟨os,hos,hcs,hds⟩:=id hs;have hTs:s.TypeIs (.ref sl) "slice":=⟨os,hos,hcs⟩;unfold getItem;try with_reducible refine wpAny_holding ?_
 first | refine wpAny_bind (wpAny_pure ?_) | skip
 refine wpAny_bind (wpAny_sequenceKey ht.typeIs (by decide) ?_);refine wpAny_bind (wpAny_callSpecial?_slot (name:=Str.ofString "__getitem__") ht.typeIs PyProof.Rows.slot_tuple_getitem
  (wpAny_call_entry PyProof.Rows.slot_tuple_getitem ht.typeIs entry_tuple_getitem ?_ (args_tuple_getitem _ _)))
 show wpAny _ _ (Builtin.Tuple.tupleItemsOf (.ref t) >>= _) _ _ s;refine wpAny_bind (tupleItemsOf_ ht ?_);refine wpAny_bind (wpAny_typeOf hTs ?_);rw [if_pos (by decide)];refine wpAny_bind (S6 hs pl pu ?_);have hno:¬ ((((sIx items.size 0 lo:Nat):Int) == 0 && (1:Int) == 1 && (sIx items.size items.size hi - sIx items.size 0 lo) == items.size)=true):=by
  intro q;rw [Bool.and_eq_true,Bool.and_eq_true] at q;have q1:((sIx items.size 0 lo:Nat):Int)=0:=eq_of_beq q.1.1;have q2:sIx items.size items.size hi - sIx items.size 0 lo=items.size:=eq_of_beq q.2;exact hw ⟨by omega,by omega⟩
 show wpAny _ _ (if (((sIx items.size 0 lo:Nat):Int) == 0 && (1:Int) == 1 && (sIx items.size items.size hi - sIx items.size 0 lo) == items.size)=true then _ else _) _ _ s;rw [if_neg hno,B0m];first
  | exact wpAny_bind (m:=Builtin.Tuple.tupleExact _) (wpAny_newObj_type (wpAny_pure ⟨_,rfl,wpAny_pure h⟩) htake)
  | exact wpAny_bind (m:=Builtin.Tuple.tupleExact _) (wpAny_newObj_type (wpAny_bind (wpAny_pure (wpAny_pure ⟨_,rfl,wpAny_pure h⟩))) htake)
  | exact wpAny_bind (wpAny_bind (m:=Builtin.Tuple.tupleExact _) (wpAny_newObj_type (wpAny_pure (wpAny_pure ⟨_,rfl,wpAny_pure h⟩)) htake))
  | exact wpAny_bind (wpAny_bind (m:=Builtin.Tuple.tupleExact _) (wpAny_newObj_type (wpAny_pure ⟨_,rfl,wpAny_pure h⟩) htake))
end
end HT
namespace L2
open PySem PySem.Spec PyProof.Rows
abbrev TO:=St->Hp->(Option Int->Hp->Prop)->Prop
def PO (X:Cx) (e:Option Expr) (t:TO):Prop :=
 ∀ (pins:List (Addr × Obj)) (s:Shared) (σ:St) (H:Hp) (Q:Option Int->Hp->Prop),Inv X pins σ H s->t σ H Q ->
  wpAny (model X.prog X.w) X.A (evalPart e X.env) (fun u s'=>∃ o H',Inv X pins σ H' s'/\IsPart u o/\Q o H') X.xe s
def A18:TO:=fun _ H Q=>Q none H
def B3r (t:TE):TO:=fun σ H Q=>t σ H fun x H1=>∃ i,x=.int i/\Q (some i) H1
section
variable {X:Cx} {e:Expr} {te:TE} {lo hi:Option Expr} {tl th:TO} {pos p2:Pos}
theorem B4f:PO X none A18:=by
 intro pins s σ H Q I h;rw [evalPart_none];exact wpAny_pure ⟨none,H,I,.none,h⟩
theorem B4e (h:PE X e te):PO X (some e) (B3r te):=by
 intro pins s σ H Q I hw;rw [evalPart_some];refine thn (h pins s σ H _ I hw) fun u s1 ⟨x,H1,I1,r1,q1⟩=>?_;obtain ⟨i,rfl,q⟩:=q1;obtain ⟨t,rfl⟩:=r1;exact ⟨some i,H1,I1,.int i t,q⟩
def SlR (X:Cx) (r:V->Option Int->Option Int->Hp->VK->Prop):Prop :=
 ∀ (pins:List (Addr × Obj)) (s:Shared) (σ:St) (H:Hp) (x:V) (v vl vu:Value) (lo hi:Option Int) (sl:Addr) (Q:VK),Inv X pins σ H s->RelV x v->s.heap.IsSliceOf sl vl vu .none->IsPart vl lo->IsPart vu hi->r x lo hi H Q ->
  ∃ T id,typeLookup (.type T) "__getitem__"=pure (some (.builtin id))/\s.TypeIs v T/\wpAny (model X.prog X.w) X.A (getItem v (.ref sl)) (EP X pins σ Q) X.xe s
theorem SlR.or {r r':V->Option Int->Option Int->Hp->VK->Prop} (h:SlR X r) (h':SlR X r'):SlR X (fun x lo hi H Q=>r x lo hi H Q\/r' x lo hi H Q):=by
 intro pins s σ H x v vl vu lo hi sl Q I rx hs pl pu q;rcases q with q | q
 ·exact h pins s σ H x v vl vu lo hi sl Q I rx hs pl pu q
 ·exact h' pins s σ H x v vl vu lo hi sl Q I rx hs pl pu q
def tSl (r:V->Option Int->Option Int->Hp->VK->Prop) (te:TE) (tl th:TO):TE:=fun σ H Q=>te σ H fun x H1=>tl σ H1 fun l H2=>th σ H2 fun u H3=>r x l u H3 Q
theorem B0p {r:V->Option Int->Option Int->Hp->VK->Prop} (hr:SlR X r) (he:PE X e te) (hl:PO X lo tl) (hu:PO X hi th):PE X (.Subscript e (.Slice lo hi none p2) pos) (tSl r te tl th):=by
 intro pins s σ H Q I h;refine Subscript_ (thn (he pins s σ H _ I h) fun v s1 ⟨x,H1,I1,r1,q1⟩=>?_);refine wpAny_Slice (thn (hl pins s1 σ H1 _ I1 q1) fun vl s2 ⟨l,H2,I2,pl,q2⟩=>thn (hu pins s2 σ H2 _ I2 q2) fun vu s3 ⟨u,H3,I3,pu,q3⟩=>?_);rw [evalPart_none];refine wpAny_pure ?_;have I4:Inv X pins σ H3 { s3 with heap:=s3.heap.push { cls:=.type "slice",data:=.fields #[vl,vu,.none] } }:=I3.kept (t':=s3.toks) fun b ob q=>Heap.get?_push_of_some _ q;obtain ⟨T,id,hT,ht,hg⟩:=hr pins { s3 with heap:=s3.heap.push { cls:=.type "slice",data:=.fields #[vl,vu,.none] } } σ H3 x v vl vu l u s3.heap.objs.size Q I4 r1 (Heap.IsSliceOf.new ..) pl pu q3;show wpAny (model X.prog X.w) X.A (subscriptTail e (.Slice lo hi none p2) v (.ref s3.heap.objs.size)) (EP X pins σ Q) X.xe { s3 with heap:=s3.heap.push { cls:=.type "slice",data:=.fields #[vl,vu,.none] } };exact tail_any (ops:=[.ref s3.heap.objs.size,v]) ht hT hg (by with_unfolding_all rfl)
def cutV (xs:List V) (lo hi:Option Int):List V:=(xs.drop (HT.sIx xs.length 0 lo)).take (HT.sIx xs.length xs.length hi - HT.sIx xs.length 0 lo)
theorem V6 (xs:List V) (lo hi:Option Int):(cutV xs lo hi).length<=xs.length:=by
 unfold cutV;rw [List.length_take,List.length_drop];omega
def rSlT (K:PySem.W.Frag):V->Option Int->Option Int->Hp->VK->Prop:=fun x lo hi H Q=>∃ a xs,x=.ref a/\SqT K H a xs /\
 ¬ (HT.sIx xs.length 0 lo=0/\HT.sIx xs.length xs.length hi=xs.length)/\∀ p,H p=none->Q (.ref p) (upd H p (.tup (cutV xs lo hi)))
theorem B6n:SlR X (rSlT X.K):=by
 intro pins s σ H x v vl vu lo hi sl Q I rx hs pl pu h;obtain ⟨a,xs,rfl,hx,hw,q⟩:=h;cases rx;obtain ⟨its,r,ht,hz⟩:=I.tuple hx;have hlen:its.toArray.size=xs.length:=by rw [List.size_toArray]; exact r.length.symm
 refine ⟨"tuple",_,PyProof.Rows.slot_tuple_getitem.lookup,ht.typeIs,?_⟩;refine HT.getItem_tuple_cut ht hs pl pu (by rw [hlen]; exact hw) ?_ (by rw [hlen]; exact hz);rw [hlen];refine ⟨.ref s.heap.objs.size,_,I.laid (t':=s.toks) (o:=.tup (cutV xs lo hi)) (fun b ob q=>Heap.get?_push_of_some _ q) (Nat.le_refl _) ?_,rfl,q _ (I.hok.fresh (Nat.le_refl _))⟩;exact ⟨Nat.le_trans (V6 xs lo hi) hz,_,(r.drop (HT.sIx xs.length 0 lo)).take (HT.sIx xs.length xs.length hi - HT.sIx xs.length 0 lo),IsTup.new _ _⟩
theorem Vals.nil_iff {xs:List V} {us:List Value} (r:Vals xs us):us=[] ↔ xs=[]:=by
 cases r with
 | nil=>simp
 | cons _ _=>simp
end
end L2
namespace L2
open PySem PySem.Spec PyProof.Rows
def ixN (n:Nat) (i:Int):Option Nat:=if 0<=i then (if i < n then some i.toNat else none) else if -(n:Int)<=i then some (i + n).toNat else none
def atI {α:Type} (xs:List α) (i:Int):Option α:=(ixN xs.length i).bind fun j=>xs[j]?
theorem A81 {n:Nat} {i:Int} {j:Nat} (h:ixN n i=some j):seqIndex? i n=some j/\j < n/\-(n:Int)<=i/\i < n:=by
 unfold ixN at h;by_cases h0:0<=i
 ·rw [if_pos h0] at h;by_cases h1:i < n
  ·rw [if_pos h1] at h;have e:i.toNat=j:=Option.some.inj h;exact ⟨by rw [seqIndex_of h0 h1,e],by omega,by omega,h1⟩
  ·rw [if_neg h1] at h; cases h
 ·rw [if_neg h0] at h;by_cases h1:-(n:Int)<=i
  ·rw [if_pos h1] at h;have e:(i + n).toNat=j:=Option.some.inj h;exact ⟨by rw [seqIndex_neg (by omega) h1,e],by omega,h1,by omega⟩
  ·rw [if_neg h1] at h; cases h
theorem A25 {α:Type} {xs:List α} {i:Int} {v:α} (h:atI xs i=some v):∃ j,seqIndex? i xs.length=some j/\xs[j]?=some v/\j < xs.length/\-(xs.length:Int)<=i/\i < xs.length:=by
 unfold atI at h;cases e:ixN xs.length i with
 | none=>rw [e] at h; cases h
 | some j =>
  rw [e] at h;obtain ⟨h1,h2,h3,h4⟩:=A81 e;exact ⟨j,h1,h,h2,h3,h4⟩
theorem G4 {α:Type} {xs:List α} {j:Nat} {v:α} (h:xs[j]?=some v):atI xs (j:Int)=some v:=by
 have hj:j < xs.length:=(List.getElem?_eq_some_iff.mp h).1;have e:ixN xs.length (j:Int)=some j:=by
  unfold ixN;rw [if_pos (by omega),if_pos (by omega)]; simp
 unfold atI; rw [e]; exact h
def A97 (b:Expr):Prop:=∀ o i,subscripted b false o i=operate [o,i] (getItem o i)
def IxR (X:Cx) (r:R2):Prop :=
 ∀ (value slice:Expr) (pins:List (Addr × Obj)) (s:Shared) (σ:St) (H:Hp) (x y:V) (v u:Value) (Q:VK),Inv X pins σ H s->RelV x v->RelV y u->r x y H Q ->
  subscripted slice false v u=operate [v,u] (getItem v u)->wpAny (model X.prog X.w) X.A (subscriptTail value slice v u) (EP X pins σ Q) X.xe s
def MtR (X:Cx) (id:String) (r:V->List V->Hp->VK->Prop):Prop :=
 ∀ (pins:List (Addr × Obj)) (s:Shared) (σ:St) (H:Hp) (x:V) (xs:List V) (v:Value) (us:List Value) (Q:VK),Inv X pins σ H s->RelV x v->Vals xs us->r x xs H Q ->
  wpAny (model X.prog X.w) X.A (call (.builtin id) (v :: us)) (EP X pins σ Q) X.xe s
section
variable {X:Cx} {a b:Expr} {ta tb:TE} {pos:Pos}
theorem IxR.or {r r':R2} (h:IxR X r) (h':IxR X r'):IxR X (fun x y H Q=>r x y H Q\/r' x y H Q):=by
 intro value slice pins s σ H x y v u Q I rx ry q hs;rcases q with q | q
 ·exact h value slice pins s σ H x y v u Q I rx ry q hs
 ·exact h' value slice pins s σ H x y v u Q I rx ry q hs
theorem Z3 {r:R2} (hr:IxR X r) (ha:PE X a ta) (hb:PE X b tb) (hs:A97 b):PE X (.Subscript a b pos) (tOp r ta tb):=by
 intro pins s σ H Q I h;exact Subscript_ (binT ha hb I h fun v u s2 x y H2 I2 rx ry q=>hr a b pins s2 σ H2 x y v u Q I2 rx ry q (hs _ _))
def rIxL (K:PySem.W.Frag):R2:=fun x y H Q=>∃ p xs i v,x=.ref p/\y=.int i/\SqL K H p xs/\atI xs i=some v/\Q v H
def rIxT (K:PySem.W.Frag):R2:=fun x y H Q=>∃ p xs i v,x=.ref p/\y=.int i/\SqT K H p xs/\atI xs i=some v/\Q v H
def rIxS:R2:=fun x y H Q=>∃ z i c,x=.str z/\y=.int i/\z.length<=sizeLine/\atI z.cps.toList i=some c/\Q (.str ⟨#[c]⟩) H
theorem ix_list:IxR X (rIxL X.K):=by
 intro value slice pins s σ H x y v u Q I rx ry h hs;obtain ⟨p,xs,i,z,rfl,rfl,hq,he,q⟩:=h;cases rx;obtain ⟨t,rfl⟩:=ry;obtain ⟨its,r,pl,hz⟩:=I.list hq;obtain ⟨j,h1,h2,h3,h4,h5⟩:=A25 he;obtain ⟨w,ew,rw'⟩:=r.get h2;have hl:=r.length;have hn:=X5;have fin:EP X pins σ Q w s:=⟨z,H,I,rw',q⟩;by_cases h0:0<=i
 ·have hj:i.toNat=j:=by
   rw [seqIndex_of h0 h5] at h1;exact Option.some.inj h1
  exact item_listR pl.isList h0 (by omega) (by rw [hj]; simpa using ew) fin hs
 ·have hj:(i + (its.toArray.size:Int)).toNat=j:=by
   rw [seqIndex_neg (by omega) h4] at h1;rw [List.size_toArray,<- hl];exact Option.some.inj h1
  exact subscriptTail_builtinR (x:=w) pl.isList.typeIs slot_list_getitem.lookup
   (wpAny_getItem_list_neg (Q:=fun r s'=>r=w/\EP X pins σ Q r s') pl.isList (by omega) (by rw [List.size_toArray] <;> omega) (by omega) (by rw [hj]; simpa using ew) ⟨rfl,fin⟩) hs
theorem ix_tup:IxR X (rIxT X.K):=by
 intro value slice pins s σ H x y v u Q I rx ry h hs;obtain ⟨p,xs,i,z,rfl,rfl,hq,he,q⟩:=h;cases rx;obtain ⟨t,rfl⟩:=ry;obtain ⟨its,r,pl,hz⟩:=I.tuple hq;obtain ⟨j,h1,h2,h3,h4,h5⟩:=A25 he;obtain ⟨w,ew,rw'⟩:=r.get h2;have hl:=r.length;have hn:=X5;have fin:EP X pins σ Q w s:=⟨z,H,I,rw',q⟩;exact subscriptTail_builtinR (x:=w) pl.typeIs slot_tuple_getitem.lookup
  (getItem_tuple (j:=j) (Q:=fun r s'=>r=w/\EP X pins σ Q r s') pl (by omega) (by omega) (by rw [List.size_toArray,<- hl]; exact h1) (by simpa using ew) ⟨rfl,fin⟩) hs
theorem B8q:IxR X rIxS:=by
 intro value slice pins s σ H x y v u Q I rx ry h hs;obtain ⟨z,i,c,rfl,rfl,hz,he,q⟩:=h;obtain ⟨t,rfl⟩:=rx;obtain ⟨t',rfl⟩:=ry;obtain ⟨j,h1,h2,h3,h4,h5⟩:=A25 he;have hl:z.cps.toList.length=z.length:=by simp [Str.length]
 rw [hl] at h1 h4 h5;have hn:=X5;exact tail_any (typeIs_str s z t) slot_str_getitem.lookup (getItem_str (c:=c) (by
  have e1:decide (i < -(2 ^ 63:Int))=false:=decide_eq_false (by omega);have e2:decide (i ≥ 2 ^ 63)=false:=decide_eq_false (by omega);rw [e1,e2,Bool.or_false]) (by rw [h1]; simpa using h2) ⟨.str ⟨#[c]⟩,H,I.tok _,⟨_,rfl⟩,q⟩) hs
def rIx (K:PySem.W.Frag):R2:=fun x y H Q=>rIxL K x y H Q\/rIxT K x y H Q\/rIxS x y H Q
theorem B8r:IxR X (rIx X.K):=ix_list.or (ix_tup.or B8q)
theorem A5c (its:List Value) (n j:Nat) (u:Value):Obj.mapSeq (·.setIfInBounds j u) { cls:=.type "list",data:=.seq its.toArray n }={ cls:=.type "list",data:=.seq (its.set j u).toArray n }:=by
 simp [Obj.mapSeq]
theorem Inv.lst {pins:List (Addr × Obj)} {σ:St} {H:Hp} {s:Shared} {p:Addr} {xs:List V} (I:Inv X pins σ H s) (h:H p=some (.lst xs)) :
  ∃ (its:List Value) (n:Nat),Vals xs its/\s.heap.get? p=some { cls:=.type "list",data:=.seq its.toArray n }/\xs.length<=sizeLine:=by
 obtain ⟨z,its,n,r,e⟩:=I.hok p _ h;exact ⟨its,n,r,e,z⟩
theorem Inv.lstUpd {pins:List (Addr × Obj)} {σ:St} {H:Hp} {s:Shared} {p:Addr} {xs ys:List V} {its its':List Value} {n n':Nat} {f:Obj->Obj} (I:Inv X pins σ H s) (h:H p=some (.lst xs))
  (ho:s.heap.get? p=some { cls:=.type "list",data:=.seq its.toArray n }) (hf:f { cls:=.type "list",data:=.seq its.toArray n }={ cls:=.type "list",data:=.seq its'.toArray n' }) (r:Vals ys its') (hz:ys.length<=sizeLine) (t:Nat) :
  Inv X pins σ (upd H p (.lst ys)) { s with heap:=s.heap.update p f,toks:=t }:=by
 have e:(s.heap.update p f).get? p=some { cls:=.type "list",data:=.seq its'.toArray n' }:=by
  rw [Heap.get?_update_self f ho (by rw [hf] <;> rfl),hf]
 refine I.write (x:=p) (e:=p) (by rw [h]; trivial) (.inl rfl) (fun b u hb q=>(Heap.get?_update_other _ _ (Ne.symm hb)).trans q) ⟨_,e⟩ ?_;exact ⟨hz,its',n',r,e⟩
def B34:V->V->V->Hp->(Hp->Prop)->Prop:=fun o i v H Q=>∃ p xs k j,o=.ref p/\i=.int k/\H p=some (.lst xs)/\ixN xs.length k=some j/\Q (upd H p (.lst (xs.set j v)))
theorem J0:PSet X B34:=by
 intro pins s σ H o i v ov iv u Q I ro ri rv h;obtain ⟨p,xs,k,j,rfl,rfl,hp,hj,q⟩:=h;cases ro;obtain ⟨t,rfl⟩:=ri;obtain ⟨its,n,r,ho,hz⟩:=I.lst hp;obtain ⟨h1,h2,h3,h4⟩:=A81 hj;have hl:=r.length;have hn:=X5;have I':Inv X pins σ (upd H p (.lst (xs.set j v))) { s with heap:=s.heap.update p (Obj.mapSeq (·.setIfInBounds j u)) } :=
  I.lstUpd hp ho (A5c its n j u) (r.set rv j) (by rw [List.length_set]; exact hz) s.toks
 by_cases h0:0<=k
 ·have hk:k.toNat=j:=by
   rw [seqIndex_of h0 h4] at h1;exact Option.some.inj h1
  exact PySem.W.ki_setAt ho h0 (by omega) (by rw [List.size_toArray,<- hl]; exact h4) (by rw [hk]; exact ⟨_,I',q⟩)
 ·have hk:(k + (its.toArray.size:Int)).toNat=j:=by
   rw [seqIndex_neg (by omega) h3] at h1;rw [List.size_toArray,<- hl];exact Option.some.inj h1
  exact PySem.W.ki_setBack ho (by omega) (by rw [List.size_toArray,<- hl]; exact h3) (by omega) (by rw [hk]; exact ⟨_,I',q⟩)
theorem A0t (lo hi:Option Int) (n:Nat):(sliceBounds lo hi none n).1=((HT.sIx n 0 lo:Nat):Int)/\(sliceBounds lo hi none n).2.1=((HT.sIx n n hi:Nat):Int)/\(sliceBounds lo hi none n).2.2=1:=by
 refine ⟨?_,?_,rfl⟩
 ·cases lo with
  | none=>simp [sliceBounds,HT.sIx]
  | some i =>
   simp only [sliceBounds,HT.sIx,Option.getD_none,show (1:Int) > 0 by decide,if_true];by_cases h:i < 0
   ·simp only [h,if_true] <;> omega
   ·simp only [h,if_false] <;> omega
 ·cases hi with
  | none=>simp [sliceBounds,HT.sIx]
  | some i =>
   simp only [sliceBounds,HT.sIx,Option.getD_none,show (1:Int) > 0 by decide,if_true];by_cases h:i < 0
   ·simp only [h,if_true] <;> omega
   ·simp only [h,if_false] <;> omega
theorem Y9 (its:List Value) (lo hi:Option Int):slicePick its.toArray lo hi none=((its.drop (HT.sIx its.length 0 lo)).take (HT.sIx its.length its.length hi - HT.sIx its.length 0 lo)).toArray:=by
 obtain ⟨h1,h2,h3⟩:=A0t lo hi its.toArray.size;unfold slicePick;rw [h1,h2,h3];simp only [sliceRange_one,pick_run,List.size_toArray] <;> rfl
def rSlL (K:PySem.W.Frag):V->Option Int->Option Int->Hp->VK->Prop:=fun x lo hi H Q=>∃ a xs,x=.ref a/\SqL K H a xs/\∀ p,H p=none->Q (.ref p) (upd H p (.lst (cutV xs lo hi)))
theorem B30:SlR X (rSlL X.K):=by
 intro pins s σ H x v vl vu lo hi sl Q I rx hs pl pu h;obtain ⟨a,xs,rfl,hx,q⟩:=h;cases rx;obtain ⟨its,r,ht,hz⟩:=I.list hx;have hlen:=r.length;refine ⟨"list",_,slot_list_getitem.lookup,ht.isList.typeIs,?_⟩;refine wpAny_getItem_list_slice ht.isList hs pl pu .none (by simp) ?_ (by rw [List.size_toArray] <;> omega)
 rw [Y9,<- hlen];refine ⟨.ref s.heap.objs.size,_,I.laid (t':=s.toks) (o:=.lst (cutV xs lo hi)) (fun b ob q=>Heap.get?_push_of_some _ q) (Nat.le_refl _) ?_,rfl,q _ (I.hok.fresh (Nat.le_refl _))⟩;exact ⟨Nat.le_trans (V6 xs lo hi) hz,_,0,(r.drop (HT.sIx xs.length 0 lo)).take (HT.sIx xs.length xs.length hi - HT.sIx xs.length 0 lo),Heap.get?_push_size _ rfl⟩
theorem call_len_seq:CallR X (.builtin "len") (fun xs H Q=>∃ p ys,xs=[.ref p]/\(SqL X.K H p ys\/SqT X.K H p ys)/\Q (.int ys.length) H):=by
 intro pins s σ H xs us Q I r h;obtain ⟨p,ys,rfl,hq,q⟩:=h;obtain ⟨u,rfl,rx⟩:=A16 r;cases rx;have hn:=X5;rcases hq with hq | hq
 ·obtain ⟨its,r',pl,hz⟩:=I.list hq;have hlen:=r'.length;exact Calls.call_len_list pl.isList (by simp only [List.size_toArray] <;> omega) ⟨.int ys.length,H,I.tok _,⟨s.toks + 1,by rw [List.size_toArray,hlen]⟩,q⟩
 ·obtain ⟨its,r',pl,hz⟩:=I.tuple hq;have hlen:=r'.length;exact len_tuple pl (by simp only [List.size_toArray] <;> omega) ⟨.int ys.length,H,I.tok _,⟨s.toks + 1,by rw [List.size_toArray,hlen]⟩,q⟩
theorem A1u:CallR X (.builtin "len") (fun xs H Q=>∃ z,xs=[.str z]/\z.length<=sizeLine/\Q (.int z.length) H):=by
 intro pins s σ H xs us Q I r h;obtain ⟨z,rfl,hz,q⟩:=h;obtain ⟨u,rfl,t,rfl⟩:=A16 r;have hn:=X5;exact len_str (by omega) ⟨.int z.length,H,I.tok _,⟨_,rfl⟩,q⟩
theorem CallR.or {f:Value} {r r':List V->Hp->VK->Prop} (h:CallR X f r) (h':CallR X f r'):CallR X f (fun xs H Q=>r xs H Q\/r' xs H Q):=by
 intro pins s σ H xs us Q I rs q;rcases q with q | q
 ·exact h pins s σ H xs us Q I rs q
 ·exact h' pins s σ H xs us Q I rs q
theorem A1t:CallR X (.type "list") (fun xs H Q=>∃ p ys,xs=[.ref p]/\(SqL X.K H p ys\/SqT X.K H p ys)/\∀ l,H l=none->Q (.ref l) (upd H l (.lst ys))):=by
 intro pins s σ H xs us Q I r h;obtain ⟨p,ys,rfl,hq,q⟩:=h;obtain ⟨u,rfl,rx⟩:=A16 r;cases rx;have fin:∀ (its:List Value),Vals ys its->ys.length<=sizeLine->∀ (h':Heap) (c':Nat),(∀ b o',s.heap.get? b=some o'->h'.get? b=some o') ->
   h'.get? s.heap.objs.size=some { cls:=.type "list",dict:=none,data:=.seq its.toArray c',slots:=#[] }->EP X pins σ Q (.ref s.heap.objs.size) { s with heap:=h' }:=fun its r' hz h' c' kp e =>
  ⟨.ref s.heap.objs.size,_,I.laid (t':=s.toks) kp (Nat.le_refl _) (show ObjOk X.prog X.w _ h' _ (.lst ys) from ⟨hz,its,c',r',e⟩),rfl,q _ (I.hok.fresh (Nat.le_refl _))⟩
 rcases hq with hq | hq
 ·obtain ⟨its,r',pl,hz⟩:=I.list hq;have hlen:=r'.length;obtain ⟨o,ho,hc,n,hd⟩:=pl.isList;exact call_list_seq p (.inl rfl) ho hc hd (fun h' c' kp e=>fin its r' hz h' c' kp e) (by simp only [List.size_toArray] <;> omega)
 ·obtain ⟨its,r',pl,hz⟩:=I.tuple hq;have hlen:=r'.length;obtain ⟨o,ho,hc,n,hd⟩:=pl;exact call_list_seq p (.inr rfl) ho hc hd (fun h' c' kp e=>fin its r' hz h' c' kp e) (by simp only [List.size_toArray] <;> omega)
theorem A0g:CallR X (.type "tuple") (fun xs H Q=>∃ p ys,xs=[.ref p]/\((SqL X.K H p ys/\∀ l,H l=none->Q (.ref l) (upd H l (.tup ys)))\/(SqT X.K H p ys/\Q (.ref p) H))):=by
 intro pins s σ H xs us Q I r h;obtain ⟨p,ys,rfl,h⟩:=h;obtain ⟨u,rfl,rx⟩:=A16 r;cases rx;rcases h with ⟨hq,q⟩ | ⟨hq,q⟩
 ·obtain ⟨its,r',pl,hz⟩:=I.list hq;have hlen:=r'.length;refine call_tuple_list pl.isList (fun h' kp=>?_) (by simp only [List.size_toArray] <;> omega)
  have I1:Inv X pins σ H { s with heap:=h' }:=I.kept (t':=s.toks) kp;have I2:Inv X pins σ (upd H h'.objs.size (.tup ys)) { s with heap:=h'.push { cls:=.type "tuple",data:=.seq its.toArray } } :=
   I1.laid (t':=s.toks) (fun b o e=>Heap.get?_push_of_some _ e) (Nat.le_refl _) (show ObjOk X.prog X.w _ _ _ (.tup ys) from ⟨hz,its,r',IsTup.new _ _⟩)
  exact ⟨.ref h'.objs.size,_,I2,rfl,q _ (I1.hok.fresh (Nat.le_refl _))⟩
 ·obtain ⟨its,r',pl,hz⟩:=I.tuple hq;exact call_tuple_same pl ⟨.ref p,H,I,rfl,q⟩
def tyV (K:PySem.W.Frag) (T:String) (x:V) (H:Hp):Prop:=match x with
 | .str _=>T="str"
 | .int _=>T="int"
 | .ref p=>(T="list"/\∃ xs,SqL K H p xs)\/(T="tuple"/\∃ o,K.lookup p=some o/\o.cls=.type "tuple"/\o.dict=none) \/
   (T="dict"/\((∃ kvs,H p=some (.dK kvs))\/∃ kvs,H p=some (.dT kvs)))\/(T="set"/\∃ S n,H p=some (.set S n))
 | _=>False
theorem B6h {pins:List (Addr × Obj)} {σ:St} {H:Hp} {s:Shared} {T:String} {x:V} {v:Value} (I:Inv X pins σ H s) (r:RelV x v) (ty:tyV X.K T x H) :
  s.TypeIs v T/\∀ a,v=.ref a->∃ ob,s.heap.get? a=some ob/\ob.dict=none:=by
 cases x with
 | str z =>
  obtain ⟨t,rfl⟩:=r;cases (show T="str" from ty);exact ⟨typeIs_str s z t,fun _ e=>nomatch e⟩
 | int i =>
  obtain ⟨t,rfl⟩:=r;cases (show T="int" from ty);exact ⟨typeIs_int s i t,fun _ e=>nomatch e⟩
 | ref p =>
  cases r;rcases ty with ⟨rfl,xs,hq⟩ | ⟨rfl,o,hk,hc,hd⟩ | ⟨rfl,hk⟩ | ⟨rfl,S,n,hk⟩
  ·obtain ⟨its,_,pl,_⟩:=I.list hq;refine ⟨pl.isList.typeIs,fun a e=>?_⟩;cases e;obtain ⟨o,n,e,c,hd,_⟩:=pl;exact ⟨o,e,hd⟩
  ·refine ⟨⟨o,I.kIn p o hk,hc⟩,fun a e=>?_⟩;cases e;exact ⟨o,I.kIn _ o hk,hd⟩
  ·have z:∃ o,s.heap.get? p=some o/\o.ExactDict:=by
    rcases hk with ⟨kvs,hk⟩ | ⟨kvs,hk⟩
    ·obtain ⟨_,_,_,_,o,_,_,e,ex,_⟩:=I.hok p _ hk;exact ⟨o,e,ex⟩
    ·obtain ⟨_,_,_,_,o,_,_,e,ex,_⟩:=I.hok p _ hk;exact ⟨o,e,ex⟩
   obtain ⟨o,e,ex⟩:=z;refine ⟨⟨o,e,ex.1⟩,fun a e2=>?_⟩;cases e2;exact ⟨o,e,ex.2.1⟩
  ·obtain ⟨o,_,_,_,e,ex,_⟩:=I.hok p _ hk;refine ⟨⟨o,e,ex.1⟩,fun a e2=>?_⟩;cases e2;exact ⟨o,e,ex.2.1⟩
 | _=>exact False.elim ty
def tBM (K:PySem.W.Frag) (T:String) (r:V->List V->Hp->VK->Prop) (to:TE) (t:TA):TE:=fun σ H Q=>to σ H fun x H1=>tyV K T x H1/\t σ H1 fun xs H2=>r x xs H2 Q
variable {o e:Expr} {es:List Expr} {to:TE} {t:TA} {name:Str} {apos cpos:Pos} {T id:String} {r:V->List V->Hp->VK->Prop}
theorem B9x (pa:PlainAttrs T) (slot:Slot T name id) (hty:typeOf (.builtin id)=pure (.type "method_descriptor")) (hm:MtR X id r) (ho:PE X o to) (ha:PA X (e :: es) t)
  (hbase:attributeBase o name X.env (eval o X.env)=eval o X.env:=by rfl)
  (hfew:((backTo cpos (starEach (e :: es) X.env)).all (fun x=>!x.1) && (backToKw cpos (keywordEach [] X.env)).all (fun x=>x.1.isSome)
   && decide ((e :: es).length + ([]:List Keyword).length + (if ([]:List Keyword).isEmpty then 0 else 1) < 30))=true:=by rfl)
  (hline:(apos.endLine == cpos.line)=true:=by rfl) (hs:starEach (e :: es) X.env=(false,eval e X.env) :: starEach es X.env:=by rfl) (hplain:(backTo cpos (starEach es X.env)).any (·.1)=false:=by rfl) :
  PE X (.Call (.Attribute o name apos) (e :: es) [] cpos) (tBM X.K T r to t):=by
 intro pins s σ H Q I h;refine wpAny_Call_method_late hbase hfew hline rfl (thn (ho pins s σ H _ I h) fun v s1 ⟨x,H1,I1,r1,ty,q1⟩=>?_);obtain ⟨h1,h2⟩:=B6h I1 r1 ty;refine ⟨T,id,pa,slot,hty,h1,h2,?_⟩;have hA:=ha cpos pins s1 σ H1 _ I1 q1;rw [hs] at hA ⊢;refine Calls.callWith_builtin (by show (false || (backTo cpos (starEach es X.env)).any (·.1))=false; rw [hplain] <;> rfl) (Calls.evalArgs_plain ?_)
 exact thn hA fun us s2 ⟨vs,H2,I2,r2,q2⟩=>hm pins s2 σ H2 x vs v us Q I2 r1 r2 q2
end
end L2
namespace L2
open PySem PySem.Spec PyProof.Rows
def MtM (X:Cx) (id:String) (r:V->List V->Hp->VK->Prop):Prop :=
 ∀ (pins:List (Addr × Obj)) (s:Shared) (σ:St) (H:Hp) (x:V) (xs:List V) (v:Value) (us:List Value) (Q:VK),Inv X pins σ H s->RelV x v->Vals xs us->r x xs H Q ->
  wpAny (model X.prog X.w) X.A (call (.builtin id) (v :: us)) (EP X pins σ Q) X.xe s
theorem Vals.one:∀ {x:V} {us:List Value},Vals [x] us->∃ u,us=[u]/\RelV x u
 | _,_,.cons r .nil=>⟨_,rfl,r⟩
theorem Vals.two:∀ {x y:V} {us:List Value},Vals [x,y] us->∃ u v,us=[u,v]/\RelV x u/\RelV y v
 | _,_,_,.cons r (.cons q .nil)=>⟨_,_,rfl,r,q⟩
theorem Vals.zero:∀ {us:List Value},Vals [] us->us=[]
 | _,.nil=>rfl
theorem Vals.dropLast {xs:List V} {us:List Value} (h:Vals xs us):Vals xs.dropLast us.dropLast:=by
 induction h with
 | nil=>exact .nil
 | cons r t ih =>
  cases t with
  | nil=>exact .nil
  | cons q t'=>exact .cons r ih
theorem Vals.eraseIdx:∀ {xs:List V} {us:List Value} (i:Nat),Vals xs us->Vals (xs.eraseIdx i) (us.eraseIdx i)
 | _,_,_,.nil=>.nil
 | _,_,0,.cons _ t=>t
 | _,_,i + 1,.cons r t=>.cons r (Vals.eraseIdx i t)
theorem Vals.reverse {xs:List V} {us:List Value} (h:Vals xs us):Vals xs.reverse us.reverse:=by
 induction h with
 | nil=>exact .nil
 | cons r t ih=>rw [List.reverse_cons,List.reverse_cons]; exact Vals.append ih (.cons r .nil)
theorem Vals.rep {xs:List V} {us:List Value} (h:Vals xs us):∀ k:Nat,Vals (List.replicate k xs).flatten (List.replicate k us).flatten
 | 0=>.nil
 | k + 1=>by
  rw [List.replicate_succ,List.replicate_succ,List.flatten_cons,List.flatten_cons];exact Vals.append h (Vals.rep h k)
section
variable {X:Cx} {pins:List (Addr × Obj)} {σ:St} {H:Hp} {s:Shared} {l b:Addr} {xs ys zs:List V}
theorem Inv.lset {its its':List Value} {n:Nat} {f:Array Value->Array Value} {t':Nat} (I:Inv X pins σ H s) (hH:H l=some (.lst xs))
  (e:s.heap.get? l=some { cls:=.type "list",data:=.seq its.toArray n }) (hf:f its.toArray=its'.toArray) (hv:Vals ys its') (hz:ys.length<=sizeLine) :
  Inv X pins σ (upd H l (.lst ys)) { s with heap:=s.heap.update l (Obj.mapSeq f),toks:=t' }:=by
 have q:=PySem.IsL.update e f;rw [hf] at q;refine I.write (x:=l) (e:=l) (by rw [hH]; exact trivial) (.inl rfl) (fun b' u hb hu=>(Heap.get?_update_other s.heap (Obj.mapSeq f) (Ne.symm hb)).trans hu) ⟨_,q⟩ ?_;exact ⟨hz,its',_,hv,q⟩
theorem Inv.lnew {its:List Value} {t':Nat} (I:Inv X pins σ H s) (hv:Vals ys its) (hz:ys.length<=sizeLine) :
  Inv X pins σ (upd H s.heap.objs.size (.lst ys)) { s with heap:=s.heap.push { cls:=.type "list",data:=.seq its.toArray },toks:=t' } :=
 I.laid (fun _ _ q=>Heap.get?_push_of_some _ q) (Nat.le_refl _) ⟨hz,its,0,hv,Heap.get?_push_size _ rfl⟩
theorem Inv.fresh (I:Inv X pins σ H s):H s.heap.objs.size=none:=I.hok.fresh (Nat.le_refl _)
theorem Inv.lstM (I:Inv X pins σ H s) (hH:H l=some (.lst xs)):xs.length<=sizeLine/\∃ (its:List Value) (n:Nat),Vals xs its/\xs.length=its.length/\s.heap.get? l=some { cls:=.type "list",data:=.seq its.toArray n }:=by
 obtain ⟨z,its,n,r,e⟩:=I.hok l _ hH;exact ⟨z,its,n,r,r.length,e⟩
end
section
variable {X:Cx}
def A2c:V->List V->Hp->VK->Prop:=fun x vs H Q=>∃ l xs y,x=.ref l/\vs=[y]/\H l=some (.lst xs)/\xs.length < sizeLine/\Q .non (upd H l (.lst (xs++[y])))
theorem G2:MtM X "list.append" A2c:=by
 intro pins s σ H x vs v us Q I rx rv h;obtain ⟨l,xs,y,rfl,rfl,hH,hz,q⟩:=h;cases rx;obtain ⟨u,rfl,ru⟩:=rv.one;obtain ⟨z,its,n,r,hl,e⟩:=I.lstM hH;refine call_meets F.slot_list_append ⟨_,e,rfl⟩ F.entry_list_append (F.args_list_append_2 _ _) (PySem.list_append l its.toArray n u (by rw [List.size_toArray]; omega)) ⟨e,?_⟩;refine ⟨.non,_,I.lset (its':=its++[u]) hH e (by simp) (r.append (.cons ru .nil)) ?_,rfl,q⟩;rw [List.length_append,List.length_singleton];omega
end
section
variable {prog:Program} {w:World} {A:Around} {E:Value->Shared->Prop} {s:Shared}
end
section
variable {X:Cx}
end
end L2
namespace Att
open PySem PySem.W PySem.Calls PyProof.Rows
theorem V3 {P:Params} {h:Heap}:∀ (ns:List Int) (vs:List Value),WellAll P h vs (ns.map WData.int)->IntsAre vs ns:=by
 intro ns;induction ns with
 | nil =>
  intro vs w;rw [List.map_nil] at w;cases w;exact .nil
 | cons n ns ih =>
  intro vs w;rw [List.map_cons] at w;cases w with
  | cons a b =>
   cases a;exact .cons _ _ (ih _ b)
theorem A6c {l:OpenLaw} {n:Nat} (hn:l.most=some n) {P:Params} {h:Heap} {args:List WData} {vals:List Value}
  (hpre:l.row.toRowW.claim.pre args=true) (hwl:WellAll P h vals args) :
  ∃ a vs ns,vals=[Value.ref a]/\args=[WData.list (ns.map WData.int)]/\h.get? a=some { cls:=.type "list",data:=.seq vs.toArray }/\IntsAre vs ns/\ns.length<=n:=by
 have hsh:WShape.hasAll [] args [.list .int]=true:=(pre_splitW hpre).1;have hc:l.pre.holds [] { args:=args }=true:=(pre_splitW hpre).2;obtain ⟨d,r,rfl,h1,h2⟩:=hasAllW_cons hsh;obtain rfl:=hasAllW_nil h2;obtain ⟨xs,rfl,h3⟩:=hasW_list h1;obtain ⟨ns,rfl⟩:=items_int h3;have hlen:ns.length<=n:=by
  unfold OpenLaw.pre at hc;have h4:(WTm.not (.lt (.lit (.int (n:Int))) (.len (.arg 0)))).holds [] { args:=[.list (ns.map .int)] }=true:=by
   have h4:=(holds_andW hc).1;rw [hn] at h4;exact h4
  have h5:=condW_of h4 (w_not (w_lt w_lit (w_len_list (w_arg rfl))));rw [List.length_map] at h5;refine Nat.le_of_not_lt fun q=>?_;have q':(n:Int) < ((ns.length:Nat):Int):=by omega
  first
   | (rw [decide_eq_true q'] at h5; exact absurd h5 (by decide))
   | (simp at h5; omega)
 cases hwl with
 | cons w1 w2 =>
  cases w2;cases w1 with
  | list ho hall=>exact ⟨_,_,ns,rfl,rfl,ho,V3 ns _ hall,hlen⟩
theorem A6z (l:OpenLaw) (args:List WData):l.row.toRowW.claim.post args (.bool true) args=true :=
 postW_of (r:=l.row.toRowW) (X:=(true == true))
  (show WShape.has [] (.bool true) .bool=true by first | rfl | decide | simp [WShape.has,WShape.arms,WShape.armsAll])
  (show (WTm.eq .res (.lit (.bool true))).value [] { args:=args,res:=some (.bool true),after:=args }=some (.bool (true == true)) from w_eq_bool (w_res rfl) w_lit) rfl
theorem attach_call {l:OpenLaw} {n:Nat} {q:Program} {loose:List Str} {XP:(Str->Option Value)->Heap->Prop} {YP:World->Heap->Prop} {d:DefRec}
  (hn:l.most=some n) (hdf:d.params.defaults=[])
  (call:∀ (w:World) (s₀ s₁:Shared) (mg mb:Str->Option Value) (fa:Addr) (o:Obj) (pm cd doc:Value) (a:Addr) (vs:List Value) (ns:List Int),
   Ground q loose [] XP w s₀ mg mb s₁.heap->YP w s₁.heap ->
   s₁.heap.get? fa=some o->o.data=.func (docDef d.name d.params d.body d.scope pm cd doc)->s₁.heap.CodeRec cd d.name->mg d.name=some (.ref fa) ->
   s₁.heap.get? a=some { cls:=.type "list",data:=.seq vs.toArray }->IntsAre vs ns->ns.length<=n->s₁.gens=#[] ->
   codeAny (model l.prog w) callerA (.call (.ref fa) ⟨[.ref a],[]⟩) (fun r s'=>r=.ok (.ret (.bool true))/\OldK s₁.heap s'.heap/\s'.os=s₁.os/\AllBare s'.gens) s₁) :
  WalkO q loose XP YP l.row.toRowW d [] (fun f vs=>PySem.call f vs):=by
 intro w s₀ s₁ mg mb G Y fa o pm cd doc dV kV ho hd hcd hD hmg hg args vals as hpre hlay hrd hwl hlo;obtain rfl:dV=.none:=Dflts.none hD hdf;obtain rfl:kV=.none:=Dflts.noKw hD;obtain ⟨a,vs,ns,rfl,rfl,hobj,hints,hlen⟩:=A6c hn hpre hwl;refine enter_call (codeAny_mono (call w s₀ s₁ mg mb fa o pm cd doc a vs ns G Y ho (fd_plain hd) hcd hmg hobj hints hlen hg) fun r s' hq=>?_);obtain ⟨rfl,h2,h3,h4⟩:=hq;exact ⟨.inl ⟨.bool true,.bool true,[],rfl,fun _=>rfl,.bool true,A6z l _,fun _=>⟨List.Pairwise.nil,fun _ hm=>(nomatch hm)⟩⟩,h2,h3,h4⟩
section
variable {prog:Program} {w:World} {A:Around} {E:Value->Shared->Prop} {s:Shared} {K:Frag}
end
end Att
namespace L2
open PySem PySem.Spec PyProof.Rows
theorem A0o:∀ {vs:List Value} {ns:List Int},IntsAre vs ns->Vals (ns.map V.int) vs
 | _,_,.nil=>.nil
 | _,_,.cons n t h=>.cons ⟨t,rfl⟩ (A0o h)
def Only (H:Hp):Prop:=∀ b,H b=none\/∃ o xs,H b=some (.frz o (.lst xs))
theorem B00 {P:Program} {w:World} {K:PySem.W.Frag} {mg mb:Str->Option Value} {CX:CXT} {k:Nat} {fa a:Addr} {fd:FuncData} {x:Str} {sp:Sp} {s₁:Shared} {vs:List Value} {ns:List Int}
  (KX:K.In s₁.heap) (hns:s₁.heap.Ns mainGlobals mg) (hb:s₁.heap.Ns builtinsNs mb) (hbb:∀ x:Str,x≠"__name__"->mb x=bootBuiltins x) (hlim:s₁.heap.NoLimit) (hg:s₁.gens=#[])
  (ha:s₁.heap.get? a=some { cls:=.type "list",data:=.seq vs.toArray }) (hi:IntsAre vs ns) (hl:ns.length<=sizeLine) (hr:Room k callerA)
  (F:∀ base:Heap,K.In base->base.Ns mainGlobals mg->FnOk P w K mg base CX k fa fd [x] sp) (hbind:∀ (s:Shared) (u:Value),BindsTo s fd ⟨[u],[]⟩ [(x,u)])
  (hsp:∀ H:Hp,Only H->SqL K H a (ns.map V.int)->sp [.ref a] H (fun v _=>v=.bl true) fun _ _ _=>False)
  (hCX:∀ H e s',CX [] H s₁ (fun _ _ _=>False) e s'->False) :
  codeAny (model P w) callerA (.call (.ref fa) ⟨[.ref a],[]⟩) (fun r s'=>r=.ok (.ret (.bool true))/\OldK s₁.heap s'.heap/\s'.os=s₁.os/\AllBare s'.gens) s₁:=by
 have rv:=A0o hi;have lenV:=hi.length;have core:∀ H:Hp,Only H->SqL K H a (ns.map V.int)->HOk P w H s₁.heap->(∀ b,H b≠none->b=a)->(H a≠none->K.lookup a=none) ->
   codeAny (model P w) callerA (.call (.ref fa) ⟨[.ref a],[]⟩) (fun r s'=>r=.ok (.ret (.bool true))/\OldK s₁.heap s'.heap/\s'.os=s₁.os/\AllBare s'.gens) s₁:=by
  intro H hO hS hok hA hK;have base_of:∀ {b:Addr} {o:Obj},s₁.heap.get? b=some o->H b=none->(hidT s₁.heap H).get? b=some o:=fun e n=>B04 e n;have noA:∀ {b:Addr} {o:Obj} {es:Array DictEntry} {ep:Nat},s₁.heap.get? b=some o->o.data=.dict es ep->H b=none:=fun {b o es ep} e d=>by
   cases q:H b with
   | none=>rfl
   | some u =>
    have e':b=a:=hA b (by rw [q]; simp);subst e';rw [ha] at e; cases e;have d':Data.seq vs.toArray _=Data.dict es ep:=d;cases d'
  have nsK:∀ {b:Addr} {m:Str->Option Value},s₁.heap.Ns b m->(hidT s₁.heap H).Ns b m:=fun {b m} ⟨o,es,ep,e,d,r⟩=>⟨o,es,ep,base_of e (noA e d),d,r⟩;have hKb:K.In (hidT s₁.heap H):=fun b o e=>base_of (KX b o e) (by
   cases q:H b with
   | none=>rfl
   | some u =>
    have e':b=a:=hA b (by rw [q]; simp);subst e';rw [hK (by rw [q]; simp)] at e; cases e)
  have hM:Mod K mg (hidT s₁.heap H):=⟨hKb,nsK hns,⟨mb,nsK hb,hbb⟩,let ⟨mc,h1,h2⟩:=hlim; ⟨mc,nsK h1,h2⟩⟩;have e0:Env0 P w K mg (hidT s₁.heap H) callerA [] s₁ H:=⟨rfl,hM,fun b o e=>B5e e,Nat.le_of_eq (A85 _ _),trivial,fun b hb=>absurd (show b ∈ ([]:List Addr) from hb) (by simp),hok,.of_eq hg⟩;refine codeAny_mono ((F _ hKb (nsK hns)).run callerA [] s₁ H ⟨[.ref a],[]⟩ [.ref a] [.ref a] _ _ hr e0 (hbind s₁ (.ref a)) (.cons rfl .nil) (hsp H hO hS)) fun r s' h=>?_;cases r with
  | error e=>exact (hCX H e s' h).elim
  | ok fl =>
   cases fl with
   | next=>exact False.elim h
   | brk=>exact False.elim h
   | cont=>exact False.elim h
   | ret u =>
    obtain ⟨v,H',os,bare,un,hok',r',q⟩:=h;have q':v=.bl true:=q;subst q';obtain rfl:u=Value.bool true:=r';refine ⟨rfl,OldK.of_keep fun b o e=>?_,os,bare⟩;cases q:H b with
    | none=>exact un.keep b o e q (by intro z; exact absurd (show b ∈ ([]:List Addr) from z) (by simp)) (by simp)
    | some u =>
     rcases hO b with z | ⟨ob,xs,z⟩
     ·rw [q] at z; cases z
     ·have z2:=un.frzs b ob _ z;obtain ⟨e1,_⟩:=hok b _ z;obtain ⟨e2,_⟩:=hok' b _ z2;rw [e] at e1; cases e1;exact e2
 cases hk:K.lookup a with
 | some o =>
  have e:=KX a o hk;rw [ha] at e;cases e;refine core (fun _=>none) (fun _=>.inl rfl) (.inr ⟨_,vs.toArray,_,hk,rfl,rfl,rfl,by rw [List.size_toArray,lenV]; exact hl,by simpa using rv⟩) (fun b u z=>by have z':(none:Option HO)=some u:=z; cases z') (fun b z=>absurd rfl z) fun z=>absurd rfl z
 | none =>
  refine core (fun b=>if b=a then some (.frz { cls:=.type "list",data:=.seq vs.toArray } (.lst (ns.map V.int))) else none) (fun b=>?_) (.inl (.inr ⟨{ cls:=.type "list",data:=.seq vs.toArray },if_pos rfl⟩)) (fun b u z=>?_) (fun b z=>?_) fun _=>hk
  ·by_cases hb:b=a
   ·exact .inr ⟨_,_,if_pos hb⟩
   ·exact .inl (if_neg hb)
  ·by_cases hb:b=a
   ·have z':=(if_pos hb).symm.trans z;cases z';subst hb;exact ⟨ha,by rw [List.length_map]; exact hl,vs,_,rv,ha⟩
   ·have z':=(if_neg hb).symm.trans z;cases z'
  ·by_cases hb:b=a
   ·exact hb
   ·exact absurd (if_neg hb) z
end L2
namespace L2
open PySem PySem.Spec PyProof.Rows
theorem B3p {l:PySem.W.OpenLaw} {n k:Nat} {q:Program} {loose:List Str} {XP:(Str->Option Value)->Heap->Prop} {YP:World->Heap->Prop} {d:DefRec} {K:Params->PySem.W.Frag} {CX:World->CXT} {sp:World->Sp} {x:Str}
  (hn:l.most=some n) (hn2:n<=sizeLine) (hdf:d.params.defaults=[]) (hr:Room k callerA)
  (hY:∀ (w:World) (h:Heap),YP w h->(K w.params).In h)
  (F:∀ (w:World) (mg:Str->Option Value) (fa:Addr) (h:Heap),(K w.params).In h->h.Ns mainGlobals mg->mg d.name=some (.ref fa) ->
   ∃ fd:FuncData,(∀ (s:Shared) (u:Value),BindsTo s fd ⟨[u],[]⟩ [(x,u)]) /\
    ∀ base:Heap,(K w.params).In base->base.Ns mainGlobals mg->FnOk l.prog w (K w.params) mg base (CX w) k fa fd [x] (sp w))
  (hsp:∀ (w:World) (H:Hp) (a:Addr) (ns:List Int),ns.length<=n->Only H->SqL (K w.params) H a (ns.map V.int)->sp w [.ref a] H (fun v _=>v=.bl true) fun _ _ _=>False)
  (hCX:∀ (w:World) (H:Hp) (s:Shared) (e:Value) (s':Shared),CX w [] H s (fun _ _ _=>False) e s'->False) :
  PySem.W.WalkO q loose XP YP l.row.toRowW d [] (fun f vs=>PySem.call f vs):=by
 refine Att.attach_call hn hdf fun w s₀ s₁ mg mb fa o pm cd doc a vs ns G Y ho hd hcd hmg hobj hints hlen hg=>?_;have KX:=hY w _ Y;obtain ⟨fd,hb,hF⟩:=F w mg fa _ KX G.T.g hmg;exact B00 KX G.T.g G.T.b G.T.builtins G.T.nolimit hg hobj hints (Nat.le_trans hlen hn2) hr hF hb (fun H hO hS=>hsp w H a ns hlen hO hS) fun H e s'=>hCX w H s₁ e s'
end L2
namespace L2
open PySem PySem.Spec PyProof.Rows
abbrev CX0:CXT:=fun _ _ _ _ _ _=>False
abbrev E0:XK:=fun _ _ _=>False
theorem B8 {X:Cx}:A4q CX0 X E0:=fun _ _ _ _ _ _ _ h=>h.elim
structure Fun (K:PySem.W.Frag) (x qual:Str) (st:Stmt) (f:Addr) (fd:FuncData):Prop where
 ex:∃ (oc:Value) (od:Option Addr) (kV doc pm:Value) (an:Option Addr) (cdv ct:Value) (osl:Array (Option Value)),
  fd=PySem.W.fnOf x qual (B2 st) (B1 st) (A5 st) .none kV doc pm an cdv ct/\K.lookup f=some ⟨oc,od,.func fd,osl⟩/\PySem.W.codeIn K cdv qual=true
 kp:PySem.W.keepIn K (.ref f)=true
section
variable {P:Program} {w:World} {K:PySem.W.Frag} {mg:Str->Option Value} {base:Heap}
theorem Fun.ok {x qual:Str} {st:Stmt} {f:Addr} {fd:FuncData} {N ps:List Str} {k:Nat} {sp:Sp} (F:Fun K x qual st f fd) (S:FnScope N ps (A5 st)) (len:∀ vs H Q E,sp vs H Q E->vs.length=ps.length)
  (hbody:∀ (cdv:Value) (A:Around) (outer:List Env) (s:Shared) (H:Hp) (vs:List V) (Q:VK) (E:XK),Room k (A.deeper (envOfC qual (A5 st) s.heap.objs.size f cdv))->sp vs H Q E ->
   ∃ t,PSs (cxOf CX0 P w K mg base N qual (A5 st) f cdv A outer s H E).nox (B1 st) t/\t { nx:=fun _ H'=>Q .non H',rt:=Q } (start N vs) H):FnOk P w K mg base CX0 (k + 1) f fd ps sp:=by
 obtain ⟨oc,od,kV,doc,pm,an,cdv,ct,osl,rfl,lk,hcd⟩:=F.ex;refine B93 lk hcd S len fun A outer s H vs Q E hr hsp=>?_;obtain ⟨t,h,q⟩:=hbody cdv A outer s H vs Q E hr hsp;exact ⟨t,h.nox,q⟩
theorem Fun.binds {x qual:Str} {st:Stmt} {f:Addr} {fd:FuncData} {ps:List Str} (F:Fun K x qual st f fd)
  (h:∀ (kV doc pm:Value) (an:Option Addr) (cdv ct:Value) (us:List Value),us.length=ps.length->bindArgs (PySem.W.fnOf x qual (B2 st) (B1 st) (A5 st) .none kV doc pm an cdv ct) ⟨us,[]⟩=pure (ps.zip us)):Binds K fd ps []:=by
 obtain ⟨oc,od,kV,doc,pm,an,cdv,ct,osl,rfl,lk,hcd⟩:=F.ex;exact .all (h kV doc pm an cdv ct)
theorem E7 {x qual:Str} {st:Stmt} {f:Addr} {oc:Value} {od an:Option Addr} {osl:Array (Option Value)} {kV doc pm cdv ct:Value} (l:K.lookup f=some ⟨oc,od,.func (PySem.W.fnOf x qual (B2 st) (B1 st) (A5 st) .none kV doc pm an cdv ct),osl⟩)
  (c:PySem.W.codeIn K cdv qual=true) (k:PySem.W.keepIn K (.ref f)=true):Fun K x qual st f (PySem.W.fnOf x qual (B2 st) (B1 st) (A5 st) .none kV doc pm an cdv ct):=⟨⟨oc,od,kV,doc,pm,an,cdv,ct,osl,rfl,l,c⟩,k⟩
end
theorem U1 {n:Nat} (h:n<=1000):n < sizeLine:=Nat.lt_of_le_of_lt h (by decide)
section
variable {X:Cx}
theorem pv (i:Nat) {x:Str} {pos:Pos} (hN:X.N[i]?=some x:=by rfl) (hv:Vis X.env.scope x:=by first | exact Or.inl rfl | exact Or.inr (Or.inl rfl) | exact Or.inr (Or.inr rfl)) (hd:(x == ("__debug__":Str))=false:=by decide)
  (hcd:(x == ("__classdict__":Str))=false:=by decide):PE X (.Name x pos) (tVar i):=B7c hN hv hd hcd
end
theorem iteF {A B:Prop} (h:B):if false=true then A else B:=by
 rw [if_neg Bool.false_ne_true];exact h
theorem iteT {A B:Prop} (h:A):if true=true then A else B:=by
 rw [if_pos rfl];exact h
theorem ite2 {c A B:Prop} [Decidable c] (h1:c->A) (h2:¬ c->B):if c then A else B:=by
 by_cases h:c
 ·rw [if_pos h];exact h1 h
 ·rw [if_neg h];exact h2 h
def Same (H H':Hp):Prop:=∀ b o,H b=some o->H' b=some o
theorem Same.refl (H:Hp):Same H H:=fun _ _ h=>h
theorem Same.trans {H H1 H2:Hp} (a:Same H H1) (b:Same H1 H2):Same H H2:=fun c o h=>b c o (a c o h)
theorem Same.seq {K:PySem.W.Frag} {H H':Hp} {a:Addr} {xs:List V} (e:Same H H') (h:SqL K H a xs):SqL K H' a xs:=by
 rcases h with (h | ⟨o,h⟩) | h
 ·exact .inl (.inl (e _ _ h))
 ·exact .inl (.inr ⟨o,e _ _ h⟩)
 ·exact .inr h
end L2
namespace My
def Sm (k:Nat) (x:Int):Prop:=x.natAbs < 2 ^ k
theorem Sm.mono {k l:Nat} {x:Int} (h:Sm k x) (e:k<=l):Sm l x:=Nat.lt_of_lt_of_le h (Nat.pow_le_pow_right (by decide) e)
theorem Sm.mul {k l:Nat} {x y:Int} (h:Sm k x) (g:Sm l y):Sm (k + l) (x * y):=by
 unfold Sm at *;rw [Int.natAbs_mul,Nat.pow_add];rcases Nat.eq_zero_or_pos y.natAbs with e | e
 ·rw [e,Nat.mul_zero]; exact Nat.mul_pos (Nat.two_pow_pos _) (Nat.two_pow_pos _)
 ·exact Nat.lt_of_lt_of_le (Nat.mul_lt_mul_of_pos_right h e) (Nat.mul_le_mul_left _ (Nat.le_of_lt g))
theorem Sm.add {k:Nat} {x y:Int} (h:Sm k x) (g:Sm k y):Sm (k + 1) (x + y):=by
 unfold Sm at *;rw [Nat.pow_succ];have:=Int.natAbs_add_le x y;omega
theorem Sm.neg {k:Nat} {x:Int} (h:Sm k x):Sm k (-x):=by
 unfold Sm at *;rw [Int.natAbs_neg]; exact h
theorem Sm.sub {k:Nat} {x y:Int} (h:Sm k x) (g:Sm k y):Sm (k + 1) (x - y):=by
 rw [Int.sub_eq_add_neg]; exact h.add g.neg
theorem Sm.le {k:Nat} {x y:Int} (h:Sm k x) (g:y.natAbs<=x.natAbs):Sm k y:=Nat.lt_of_le_of_lt g h
theorem Sm.log {k:Nat} {x:Int} (h:Sm k x) (hk:0 < k):x.natAbs.log2 < k:=by
 by_cases h0:x.natAbs=0
 ·rw [h0]; exact hk
 ·exact (Nat.log2_lt h0).mpr h
theorem A86 (a b:Int):Int.gcd b (a % b)=Int.gcd a b:=by
 have h:a % b=a + b * (-(a / b)):=by
  have:=Int.emod_def a b;rw [this,Int.mul_neg]; omega
 rw [h,Int.gcd_add_mul_left_right,Int.gcd_comm]
theorem B5w (a b:Int):Int.gcd (if a < 0 then -a else a) (if b < 0 then -b else b)=Int.gcd a b:=by
 unfold Int.gcd;congr 1
 ·split <;> omega
 ·split <;> omega
theorem A4f (a:Int) (h:0<=a):((Int.gcd a 0:Nat):Int)=a:=by
 rw [Int.gcd_zero_right]; omega
def sh (t b:Int):Int:=if b < 0 then -((Int.gcd t b:Nat):Int) else ((Int.gcd t b:Nat):Int)
theorem B6o {t b:Int} (h:b≠0):sh t b≠0:=by
 have:Int.gcd t b≠0:=fun e=>h (Int.gcd_eq_zero_iff.mp e).2;unfold sh; split <;> omega
theorem B6p (t b:Int):(sh t b).natAbs=Int.gcd t b:=by
 unfold sh; split <;> omega
theorem A3h (t b:Int):sh t b ∣ t:=by
 unfold sh; split
 ·exact Int.neg_dvd.mpr (Int.gcd_dvd_left ..)
 ·exact Int.gcd_dvd_left ..
theorem B0f (t b:Int):sh t b ∣ b:=by
 unfold sh; split
 ·exact Int.neg_dvd.mpr (Int.gcd_dvd_right ..)
 ·exact Int.gcd_dvd_right ..
theorem A8o {t b:Int} (h:b≠0):t.fdiv (sh t b)=(Rat.divInt t b).num:=by
 rw [Int.fdiv_eq_ediv_of_dvd (A3h t b),Rat.num_divInt,Int.gcd_comm b t];unfold sh;split
 ·rename_i h1;rw [Int.sign_eq_neg_one_of_neg h1,Int.ediv_neg,Int.neg_one_mul,Int.neg_ediv_of_dvd (Int.gcd_dvd_left ..)]
 ·rename_i h1;rw [Int.sign_eq_one_of_pos (by omega),Int.one_mul]
theorem B5n {t b:Int} (h:b≠0):b.fdiv (sh t b)=((Rat.divInt t b).den:Int):=by
 rw [Int.fdiv_eq_ediv_of_dvd (B0f t b),Rat.den_divInt,if_neg h,Int.gcd_comm b t];unfold sh;split
 ·rename_i h1;rw [Int.ediv_neg,Int.natCast_ediv];have e:(b.natAbs:Int)=-b:=by omega
  rw [e,Int.neg_ediv_of_dvd (Int.gcd_dvd_right ..)]
 ·rename_i h1;rw [Int.natCast_ediv];have e:(b.natAbs:Int)=b:=by omega
  rw [e]
theorem B8c (t b:Int):(Rat.divInt t b).num.natAbs<=t.natAbs:=by
 by_cases h:b=0
 ·subst h; simp [Rat.divInt_zero]
 ·rw [<- A8o h,Int.fdiv_eq_ediv_of_dvd (A3h t b)];have:=Int.natAbs_ediv_le_natAbs t (sh t b);exact this
theorem B86 {t b:Int} (h:b≠0):(Rat.divInt t b).den<=b.natAbs:=by
 rw [Rat.den_divInt,if_neg h];exact Nat.div_le_self _ _
def SmQ (k:Nat) (q:Rat):Prop:=Sm k q.num/\Sm k (q.den:Int)
theorem den0 (q:Rat):(q.den:Int)≠0:=by have:=q.den_nz; omega
theorem denp (q:Rat):0 < (q.den:Int):=by have:=q.den_nz; omega
theorem den2 (p q:Rat):(p.den:Int) * (q.den:Int)≠0:=Int.mul_ne_zero (den0 p) (den0 q)
theorem B63 (p q:Rat):Rat.divInt (p.num * q.den + q.num * p.den) ((p.den:Int) * q.den)=p + q:=by
 rw [<- Rat.divInt_add_divInt _ _ (den0 p) (den0 q),Rat.num_divInt_den,Rat.num_divInt_den]
theorem B61 (p q:Rat):Rat.divInt (p.num * q.den - q.num * p.den) ((p.den:Int) * q.den)=p - q:=by
 rw [<- Rat.divInt_sub_divInt _ _ (den0 p) (den0 q),Rat.num_divInt_den,Rat.num_divInt_den]
theorem B62 (p q:Rat):Rat.divInt (p.num * q.num) ((p.den:Int) * q.den)=p * q:=by
 rw [<- Rat.divInt_mul_divInt,Rat.num_divInt_den,Rat.num_divInt_den]
theorem B9s (p q:Rat):Rat.divInt (p.num * q.den) ((p.den:Int) * q.num)=p / q:=by
 rw [Rat.div_def,Rat.inv_def,<- Rat.divInt_mul_divInt,Rat.num_divInt_den]
def W:LQ->Nat
 | []=>1
 | q :: r=>q.den * W r
def S:LQ->Rat
 | []=>0
 | q :: r=>q + S r
theorem A14 (a b:LQ):S (a++b)=S a + S b:=by
 induction a with
 | nil=>simp only [List.nil_append,S,Rat.zero_add]
 | cons q r ih=>simp only [List.cons_append,S,ih,Rat.add_assoc]
end My
namespace My
def SmR (n d:Nat) (q:Rat):Prop:=Sm n q.num/\Sm d (q.den:Int)
theorem SmR.mono {n d n' d':Nat} {q:Rat} (h:SmR n d q) (h1:n<=n') (h2:d<=d'):SmR n' d' q:=⟨h.1.mono h1,h.2.mono h2⟩
theorem SmR.q {n d:Nat} {q:Rat} (h:SmR n d q) (h1:n<=3900) (h2:d<=3900):SmQ 3900 q:=⟨h.1.mono h1,h.2.mono h2⟩
theorem SmR.low {n d:Nat} {t b:Int} (h:Sm n t) (g:Sm d b) (hb:b≠0):SmR n d (Rat.divInt t b) :=
 ⟨h.le (B8c t b),g.le (by simpa using B86 hb)⟩
theorem SmR.add {a b c e:Nat} {p q:Rat} (h:SmR a b p) (g:SmR c e q):SmR (max (a + e) (c + b) + 1) (b + e) (p + q):=by
 rw [<- B63];exact SmR.low (((h.1.mul g.2).mono (Nat.le_max_left ..)).add ((g.1.mul h.2).mono (Nat.le_max_right ..))) (h.2.mul g.2) (den2 p q)
theorem SmR.sub {a b c e:Nat} {p q:Rat} (h:SmR a b p) (g:SmR c e q):SmR (max (a + e) (c + b) + 1) (b + e) (p - q):=by
 rw [<- B61];exact SmR.low (((h.1.mul g.2).mono (Nat.le_max_left ..)).sub ((g.1.mul h.2).mono (Nat.le_max_right ..))) (h.2.mul g.2) (den2 p q)
theorem SmR.mul {a b c e:Nat} {p q:Rat} (h:SmR a b p) (g:SmR c e q):SmR (a + c) (b + e) (p * q):=by
 rw [<- B62];exact SmR.low (h.1.mul g.1) (h.2.mul g.2) (den2 p q)
theorem B8b {q:Rat} (h:q≠0):q.num≠0:=fun e=>h (Rat.num_eq_zero.mp e)
theorem SmR.div {a b c e:Nat} {p q:Rat} (h:SmR a b p) (g:SmR c e q) (hq:q≠0):SmR (a + e) (b + c) (p / q):=by
 rw [<- B9s];exact SmR.low (h.1.mul g.2) (h.2.mul g.1) (Int.mul_ne_zero (den0 p) (B8b hq))
theorem A3m {t b:Int} (h:0<=t) (hb:0 < b):0<=Rat.divInt t b:=(Rat.divInt_nonneg_iff_of_pos_right hb).mpr h
theorem B9r {t b:Int} (h:0 < t) (hb:0 < b):0 < Rat.divInt t b:=by
 refine Rat.lt_of_le_of_ne (A3m (by omega) hb) fun e=>?_;have h1:Rat.divInt 0 b=Rat.divInt t b:=by rw [Rat.zero_divInt]; exact e
 have:=(Rat.divInt_eq_divInt_iff (by omega) (by omega)).mp h1;have h2:t * b=0:=by simpa using this.symm
 rcases Int.mul_eq_zero.mp h2 with z | z <;> omega
theorem A39 (p q:Rat):decide (p.num * q.den < q.num * p.den)=decide (p < q):=by
 rw [Bool.eq_iff_iff,decide_eq_true_iff,decide_eq_true_iff,Rat.lt_iff]
def Dec:LR->Prop
 | []=>True
 | [_]=>True
 | c :: d :: r=>d.1 < c.1/\Dec (d :: r)
theorem Dec.snoc:∀ {r:LR} {c d:Rat × Rat},Dec (r++[c])->d.1 < c.1->Dec (r++[c]++[d])
 | [],c,d,_,h=>⟨h,trivial⟩
 | [e],c,d,hd,h=>⟨hd.1,h,trivial⟩
 | e :: f :: r,c,d,hd,h=>⟨hd.1,Dec.snoc (r:=f :: r) hd.2 h⟩
end My
namespace L2
open PySem PySem.Spec PyProof.Rows
section
variable {X:Cx}
theorem Y1 {x:Int} (h:My.Sm 8000 x):Builtin.Int.intBits x<=2 ^ 20:=by
 have e:(2:Nat) ^ 20=1048576:=by decide
 have h2:=h.log (by decide);unfold Builtin.Int.intBits;split <;> omega
def B6b (i j:Int):Prop:=My.Sm 8000 i/\My.Sm 8000 j
def B99 (_ j:Int):Prop:=j≠0/\My.Sm 8000 j
theorem F7:OpR X (binaryOp .Mult) (rI B6b fun i j=>.int (i * j)):=opI fun _ _ _ _ _ _ _ hc q=>mul_int q (.of_bits (Y1 hc.1) (Y1 hc.2))
theorem N2:OpR X (binaryOp .FloorDiv) (rI B99 fun i j=>.int (i.fdiv j)):=opI fun _ _ _ _ _ _ _ hc q =>
 floordiv_int hc.1 q (.inl (PyProof.noPylong_of_log2 (Nat.lt_of_lt_of_le (hc.2.log (by decide)) (by decide))))
def kitB (T c:String):Option Bool:=if (Value.type T == Value.type c)=true then some true else if PySem.W.kitMeta c=true then (fastBuiltinMro T).map (·.contains (Value.type c)) else none
theorem B01 (K:PySem.W.Frag) {T c:String} {b:Bool} (h:kitB T c=some b):PySem.W.kitOne K (.type T) (.type c)=some b:=h
def TyV (K:PySem.W.Frag) (H:Hp) (x:V) (T:String):Prop:=match x with
 | .non=>T="NoneType"
 | .bl _=>T="bool"
 | .int _=>T="int"
 | .str _=>T="str"
 | .ref a=>(T="list"/\∃ xs,SqL K H a xs)\/(T="tuple"/\∃ xs,SqT K H a xs)\/(T="dict"/\∃ kvs,H a=some (.dK kvs))
 | _=>False
theorem A20:CallR X (.builtin "isinstance") (fun xs H Q=>∃ x c T b,xs=[x,.ty c]/\TyV X.K H x T/\kitB T c=some b/\Q (.bl b) H):=by
 intro pins s σ H xs us Q I r h;obtain ⟨x,c,T,b,rfl,ty,e,q⟩:=h;obtain ⟨u,v,rfl,ru,rv⟩:=Vals.two r;cases (show v=Value.type c from rv);have fin:∀ tk,EP X pins σ Q (.bool b) { s with toks:=tk }:=fun tk=>⟨.bl b,H,I.tok tk,rfl,q⟩;have e':=B01 X.K e;cases x with
 | non=>cases (show T=_ from ty); cases (show u=Value.none from ru); exact PySem.W.kia_one PySem.W.kitx_none I.kIn True.intro e' (fun z=>nomatch z) fin
 | bl y=>cases (show T=_ from ty); cases (show u=Value.bool y from ru); exact PySem.W.kia_one PySem.W.kitx_bool I.kIn True.intro e' (fun z=>nomatch z) fin
 | int i=>cases (show T=_ from ty); obtain ⟨t,q'⟩:=(show ∃ t,u=Value.int i t from ru); cases q'; exact PySem.W.kia_one PySem.W.kitx_int I.kIn True.intro e' (fun z=>nomatch z) fin
 | str y=>cases (show T=_ from ty); obtain ⟨t,q'⟩:=(show ∃ t,u=Value.str y t from ru); cases q'; exact PySem.W.kia_one PySem.W.kitx_str I.kIn True.intro e' (fun z=>nomatch z) fin
 | ref a =>
  cases (show u=Value.ref a from ru);rcases (show _\/_\/_ from ty) with ⟨rfl,xs,h⟩ | ⟨rfl,xs,h⟩ | ⟨rfl,kvs,h⟩
  ·obtain ⟨its,_,⟨o,n,h1,h2,_⟩,_⟩:=I.list h;exact PySem.W.kia_one PySem.W.kitx_list I.kIn ⟨o,h1,h2⟩ e' (fun z=>nomatch z) fin
  ·obtain ⟨its,_,⟨o,h1,h2,_⟩,_⟩:=I.tuple h;exact PySem.W.kia_one PySem.W.kitx_tuple I.kIn ⟨o,h1,h2⟩ e' (fun z=>nomatch z) fin
  ·obtain ⟨_,_,vs,_,p⟩:=(show ObjOk X.prog X.w H s.heap a (.dK kvs) from I.hok a _ h);obtain ⟨o,es,ep,h1,h2,_⟩:=p;exact PySem.W.kia_one PySem.W.kitx_dict I.kIn ⟨o,h1,h2.1⟩ e' (fun z=>nomatch z) fin
 | byt _=>exact (show False from ty).elim
 | flt _=>exact (show False from ty).elim
 | ty _=>exact (show False from ty).elim
end
def encV:V->PyData
 | .int i=>.int i
 | .str x=>.str x
 | _=>.none
def encK:Key->PyData
 | .inl i=>.int i
 | .inr x=>.str x
def B94 (p:Key × V):PyData × PyData:=(encK p.1,encV p.2)
mutual
inductive Den (K:PySem.W.Frag) (H:Hp):V->PyData->Prop
 | non:Den K H .non .none
 | bl (b:Bool):Den K H (.bl b) (.bool b)
 | int (i:Int):Den K H (.int i) (.int i)
 | str (x:Str):Den K H (.str x) (.str x)
 | lst {a:Addr} {xs:List V} {ds:LP}:SqL K H a xs->DenAll K H xs ds->Den K H (.ref a) (.list ds)
 | tup {a:Addr} {xs:List V} {ds:LP}:SqT K H a xs->DenAll K H xs ds->Den K H (.ref a) (.tuple ds)
 | dct {a:Addr} {kvs:List (Key × V)}:H a=some (.dK kvs)->Den K H (.ref a) (.dict (kvs.map B94))
inductive DenAll (K:PySem.W.Frag) (H:Hp):List V->LP->Prop
 | nil:DenAll K H [] []
 | cons {x:V} {xs:List V} {d:PyData} {ds:LP}:Den K H x d->DenAll K H xs ds->DenAll K H (x :: xs) (d :: ds)
end
section
variable {X:Cx} {pins:List (Addr × Obj)} {σ:St} {H:Hp} {s:Shared}
mutual
theorem Den.reads (I:Inv X pins σ H s):∀ {x:V} {d:PyData} {u:Value},Den X.K H x d->RelV x u->d.canLay0=true->∃ as,Reads s.heap u d as
 | _,_,u,.non,r,_=>by cases (show u=Value.none from r); exact ⟨_,.none⟩
 | _,_,u,.bl b,r,_=>by cases (show u=Value.bool b from r); exact ⟨_,.bool b⟩
 | _,_,u,.int i,r,_=>by obtain ⟨t,q⟩:=(show ∃ t,u=Value.int i t from r); cases q; exact ⟨_,.int i t⟩
 | _,_,u,.str x,r,_=>by obtain ⟨t,q⟩:=(show ∃ t,u=Value.str x t from r); cases q; exact ⟨_,.str x t⟩
 | _,_,u,.lst (a:=a) h ds,r,cl=>by
  cases (show u=Value.ref a from r);obtain ⟨its,rv,⟨o,n,h1,h2,_,h3⟩,_⟩:=I.list h;obtain ⟨as,q⟩:=DenAll.reads I ds rv cl;exact ⟨_,.list h1 h2 h3 (by simpa using q)⟩
 | _,_,u,.tup (a:=a) h ds,r,cl=>by
  cases (show u=Value.ref a from r);obtain ⟨its,rv,⟨o,h1,h2,n,h3⟩,_⟩:=I.tuple h;obtain ⟨as,q⟩:=DenAll.reads I ds rv cl;exact ⟨_,.tuple h1 h2 h3 (by simpa using q)⟩
 | _,_,_,.dct _,_,cl=>absurd (show false=true from cl) Bool.false_ne_true
theorem DenAll.reads (I:Inv X pins σ H s):∀ {xs:List V} {ds:LP} {us:List Value},DenAll X.K H xs ds->Vals xs us->PyData.canLayAll0 ds=true->∃ as,ReadsAll s.heap us ds as
 | _,_,_,.nil,.nil,_=>⟨_,.nil⟩
 | _,d :: ds,_,.cons h t,.cons r rs,cl=>by
  have cl':(d.canLay0 && PyData.canLayAll0 ds)=true:=cl;rw [Bool.and_eq_true] at cl';obtain ⟨as,q⟩:=Den.reads I h r cl'.1;obtain ⟨bs,q'⟩:=DenAll.reads I t rs cl'.2;exact ⟨_,.cons q q'⟩
end
end
section
variable {X:Cx}
def rEqD (K:PySem.W.Frag):R2:=fun x y H Q=>∃ dx dy,Den K H x dx/\Den K H y dy/\dx.canLay0=true/\dy.canLay0=true/\dx.depth<=60/\Q (.bl (PyData.eqv dx dy)) H
def rNeD (K:PySem.W.Frag):R2:=fun x y H Q=>∃ dx dy,Den K H x dx/\Den K H y dy/\dx.canLay0=true/\dy.canLay0=true/\dx.depth<=60/\Q (.bl (!PyData.eqv dx dy)) H
theorem B7x (hu:X.A.units + 64 < cLine):OpR X (compareOp .Eq) (rEqD X.K):=by
 intro pins s σ H x y v u Q I rx ry h;obtain ⟨dx,dy,h1,h2,c1,c2,hd,q⟩:=h;obtain ⟨as,r1⟩:=h1.reads I rx c1;obtain ⟨bs,r2⟩:=h2.reads I ry c2;exact PySem.SeqAt.compareEq_reads r1 r2 c1 c2 (by omega) ⟨.bl _,H,I,rfl,q⟩
theorem B7s (hu:X.A.units + 64 < cLine):OpR X (compareOp .NotEq) (rNeD X.K):=by
 intro pins s σ H x y v u Q I rx ry h;obtain ⟨dx,dy,h1,h2,c1,c2,hd,q⟩:=h;obtain ⟨as,r1⟩:=h1.reads I rx c1;obtain ⟨bs,r2⟩:=h2.reads I ry c2;exact PySem.SeqAt.compareNe_reads r1 r2 c1 c2 (by omega) ⟨.bl _,H,I,rfl,q⟩
end
def Kp (p:Addr) (H H':Hp):Prop:=∀ b o,b≠p->H b=some o->H' b=some o
theorem Kp.upd {p:Addr} {H:Hp} {o:HO}:Kp p H (upd H p o):=fun b u n e=>by rw [D8 n]; exact e
theorem Kp.trans {p:Addr} {H H1 H2:Hp} (a:Kp p H H1) (b:Kp p H1 H2):Kp p H H2:=fun c o n e=>b c o n (a c o n e)
theorem Kp.refl {p:Addr} {H:Hp}:Kp p H H:=fun _ _ _ e=>e
theorem Same.kp {p:Addr} {H H':Hp} (a:Same H H'):Kp p H H':=fun b o _ e=>a b o e
theorem Same.upd {p:Addr} {H:Hp} {o:HO} (h:H p=none):Same H (upd H p o):=fun b u e=>by rw [D8 (F5 e h)]; exact e
theorem SqT.same {K:PySem.W.Frag} {H H':Hp} {a:Addr} {xs:List V} (e:Same H H') (h:SqT K H a xs):SqT K H' a xs:=by
 rcases h with (h | ⟨o,h⟩) | h
 ·exact .inl (.inl (e _ _ h))
 ·exact .inl (.inr ⟨o,e _ _ h⟩)
 ·exact .inr h
theorem at0 {α:Type} {x:α} {xs:List α}:atI (x :: xs) 0=some x:=G4 (j:=0) rfl
theorem at1 {α:Type} {x y:α} {xs:List α}:atI (x :: y :: xs) 1=some y:=G4 (j:=1) rfl
theorem at2 {α:Type} {x y z:α} {xs:List α}:atI (x :: y :: z :: xs) 2=some z:=G4 (j:=2) rfl
theorem at3 {α:Type} {x y z w:α} {xs:List α}:atI (x :: y :: z :: w :: xs) 3=some w:=G4 (j:=3) rfl
end L2
namespace L2
open PySem PySem.Spec PyProof.Rows
theorem A1o {prog:Program} {w:World} {A:Around} {R:Result->Shared->Prop} {s:Shared} {elt target iter:Expr} {ifs:List Expr} {scope:Scope} {pos:Pos} {it acc:Value} {env:Env} (I:Nat->Shared->Prop)
    (turn:∀ n s,I n s->wpAny (model prog w) A (pyNext it) (fun r s₁=>match r with
      | none=>R (.ok .next) s₁
      | some v=>wpAny (model prog w) A (letOwnedTupleGo target it v) (fun _ s₁'=>wpAny (model prog w) A (assign target env v) (fun _ s₂ =>
          wpAny (model prog w) A (forIn ifs true fun c r=>if r=true then do let ok <- isTrue c env (eval c env); pure (ForInStep.yield ok) else pure (ForInStep.yield r)) (fun ok s₃ =>
            if ok=true then wpAny (model prog w) A (eval elt env) (fun x s₄ =>
              wpAny (model prog w) A (call (.builtin "list.append") [acc,x]) (fun _ s₅=>∃ m,m < n/\I m s₅) (fun _ _=>False) s₄) (fun _ _=>False) s₃
            else ∃ m,m < n/\I m s₃) (fun _ _=>False) s₂) (fun _ _=>False) s₁') (fun _ _=>False) s₁) (fun _ _=>False) s)
    (n:Nat) (h:I n s):codeAny (model prog w) A (.compLoop (.ListComp elt [⟨target,iter,ifs,0⟩] scope pos) 0 it acc env) R s:=by
  refine codeAny_loop rfl I (fun n s hI=>?_) n h;show wpAny _ A ((compTurn (.ListComp elt [⟨target,iter,ifs,0⟩] scope pos) 0 it acc env).onRaise (fun x=>do noteFrame x env; theTreesLotGoes x)) _ _ s;refine wpAny_noted ?_;rw [compTurn_list];refine wpAny_bind (wpAny_standAt (wpAny_bind (wpAny_mono (turn n s hI) (fun r s₁ h₁=>?_) fun _ _ h'=>h'.elim)));cases r with
  | none=>exact wpAny_pure h₁
  | some v =>
    refine wpAny_bind (wpAny_mono h₁ (fun _ s₁' h₁'=>?_) fun _ _ h'=>h'.elim);refine wpAny_bind (wpAny_mono h₁' (fun _ s₂ h₂=>wpAny_bind (wpAny_mono h₂ (fun ok s₃ h₃=>?_) fun _ _ h'=>h'.elim)) fun _ _ h'=>h'.elim);cases ok with
    | false=>exact wpAny_pure ⟨rfl,h₃⟩
    | true =>
      exact wpAny_bind (wpAny_bind (wpAny_mono h₃ (fun x s₄ h₄=>wpAny_bind (wpAny_mono h₄ (fun _ s₅ h₅=>wpAny_pure (wpAny_pure ⟨rfl,h₅⟩)) fun _ _ h'=>h'.elim)) fun _ _ h'=>h'.elim))
def PTs (X:Cx) (ifs:List Expr) (t:TT):Prop :=
 ∀ (pins:List (Addr × Obj)) (s:Shared) (σ:St) (H:Hp) (Q:Bool->Hp->Prop),Inv X pins σ H s->t σ H Q ->
  wpAny (model X.prog X.w) X.A (forIn ifs true fun c r=>if r=true then do let ok <- isTrue c X.env (eval c X.env); pure (ForInStep.yield ok) else pure (ForInStep.yield r)) (TP X pins σ Q) X.xe s
def tYes:TT:=fun _ H Q=>Q true H
theorem B4a {X:Cx}:PTs X [] tYes:=fun pins s σ H Q I h=>wpAny_tests_nil ⟨H,I,h⟩
theorem B39 {X:Cx} {c:Expr} {t:TT} (h:PT X c t):PTs X [c] t:=fun pins s σ H Q I hw=>wpAny_tests_one (h pins s σ H Q I hw)
def Cx.block (X:Cx) (scope:Scope) (cl:List (Str × Addr)) (N':List Str) (s2:Shared) (H2:Hp) (fp:List Addr):Cx where
 prog:=X.prog
 w:=X.w
 K:=X.K
 mg:=X.mg
 base:=X.base
 A:=X.A
 N:=N'
 s₀:=s2
 H₀:=H2
 env:=compEnvC scope cl s2.heap.objs.size X.env
 outer:=X.stack
 stack:=X.stack
 ex:=fp
 fn:=fun _=>false
 calm:=X.calm
 pn:=[]
 xe:=fun _ _=>False
structure CompSc (X:Cx) (scope:Scope) (cl:List (Str × Addr)) (N':List Str) (cap:List (Option Nat)):Prop where
 clos:closureFor scope X.env=pure cl
 sub:∀ x c,cl.lookup x=some c->X.env.cells.lookup x=some c
 has:∀ x,((relabel scope X.env).names.lookup x=some .cell\/(relabel scope X.env).names.lookup x=some .free)->∃ c,cl.lookup x=some c
 kind:scope.kind=.function
 cell:∀ y ∈ scope.names,y.2≠.cell
 names:∀ y ∈ scope.names,y.2=.local->scope.names.lookup y.1=some .local
 nd:N'.Nodup
 len:cap.length=N'.length
 noloc:∀ x c,cl.lookup x=some c->X.env.kindOf x≠some .local
 capt:∀ (i:Nat) (x:Str) (j:Nat),N'[i]?=some x->cap[i]?=some (some j)->X.N[j]?=some x/\((relabel scope X.env).names.lookup x=some .cell\/(relabel scope X.env).names.lookup x=some .free)/\Vis X.env.scope x/\∃ c,cl.lookup x=some c
def capσ (cap:List (Option Nat)) (σ:St):St:=cap.map fun o=>o.bind fun j=>(σ[j]?).join
section
variable {X:Cx} {pins:List (Addr × Obj)} {σ:St} {H:Hp} {s:Shared} {scope:Scope} {cl:List (Str × Addr)} {N':List Str} {cap:List (Option Nat)} {fp:List Addr}
theorem B1i (I:Inv X pins σ H s) (C:CompSc X scope cl N' cap) (hf:∀ b ∈ fp,FpOk X pins H b) (ho:∀ b ∈ fp,∃ o,s.heap.get? b=some o):(X.block scope cl N' s H fp).Ok where
 mod:=I.ok.mod
 kind:=C.kind
 glob:=I.ok.glob
 blt:=I.ok.blt
 above:=Nat.le_refl _
 inj:=fun x y c h1 h2=>I.ok.inj x y c (C.sub x c h1) (C.sub y c h2)
 has:=fun x h=>C.has x h
 cab:=fun x c h _=>absurd (show false=true from h) Bool.false_ne_true
 hd:=I.ok.hd
 frames:=I.ok.frames
 stk:=.inl rfl
 exf:=fun b hb=>⟨fun z=>by
  obtain ⟨o,e⟩:=ho b hb;exact absurd (Heap.lt_size e) (by rw [z]; exact Nat.lt_irrefl _),fun x c h=>(hf b hb).2.2.2.2.1 x c (C.sub x c h)⟩
 bs:=I.bs
 bsz:=Nat.le_trans I.ok.bsz I.sz
 noex:=fun b o e hb=>by
  rcases (hf b hb).2.2.2.1 with z | z
  ·exact I.ok.noex b o e z
  ·exact absurd (Nat.lt_of_lt_of_le (Heap.lt_size e) (Nat.le_trans I.ok.bsz z)) (Nat.lt_irrefl _)
 exfs:=fun b hb z=>by
  rcases List.mem_cons.mp (I.stkSub b z) with e | e
  ·exact (hf b hb).2.1 e
  ·exact (hf b hb).2.2.1 e
 funs:=I.stack
 frf:=I.stkFree
theorem A90 {h1:Heap} {tk:Nat} {m:Str->Option Value} (I:Inv X pins σ H s) (C:CompSc X scope cl N' cap) (hf:∀ b ∈ fp,FpOk X pins H b) (ho:∀ b ∈ fp,∃ o,s.heap.get? b=some o)
  (hn:h1.Ns s.heap.objs.size m) (hk:∀ b o,s.heap.get? b=some o->h1.get? b=some o):Inv (X.block scope cl N' s H fp) [] (capσ cap σ) H { s with heap:=h1,toks:=tk } where
 ok:=B1i I C hf ho
 os:=rfl
 bare:=I.bare
 base:=Un.kept hk
 loc:=⟨m,hn,fun i x v h1' h2 h3=>by
  unfold capσ at h2;rw [List.getElem?_map] at h2;cases e:cap[i]? with
  | none=>rw [e] at h2; cases h2
  | some o =>
   rw [e] at h2;cases o with
   | none=>cases h2
   | some j =>
    obtain ⟨q1,q2,q3,c,q4⟩:=C.capt i x j h1' e;have hv:(σ[j]?).join=some v:=Option.some.inj h2;have hσ:σ[j]?=some (some v):=by
     cases z:σ[j]? with
     | none=>rw [z] at hv; cases hv
     | some y=>rw [z] at hv; cases (show y=some v from hv); rfl
    obtain ⟨m0,hn0,hl0⟩:=I.loc;obtain ⟨u,r,l⟩:=hl0 j x v q1 hσ q3;refine ⟨u,r,.inr ⟨q2,c,q4,?_⟩⟩;rcases l with ⟨l1,_⟩ | ⟨_,c',l2,l3⟩
    ·exact absurd l1 (C.noloc x c q4)
    ·have:=C.sub x c q4;rw [l2] at this;cases this;exact l3.keeps hk⟩
 cell:=fun x c h=>by
  obtain ⟨v,z⟩:=I.cell x c (C.sub x c h);exact ⟨v,z.keeps hk⟩
 free:=I.hok.fresh (Nat.le_refl _)
 freeC:=fun x c h=>I.freeC x c (C.sub x c h)
 pin:=fun p hp=>absurd (show p ∈ ([]:List (Addr × Obj)) from hp) (by simp)
 hok:=I.hok.kept hk
 len:=by unfold capσ; rw [List.length_map]; exact C.len
theorem A9z {H':Hp} {s':Shared} {h':Heap} {σ':St} {pl:List (Addr × Obj)} (I:Inv X pins σ H s) (J:Inv (X.block scope cl N' s H fp) pl σ' H' s') (hf:∀ b ∈ fp,FpOk X pins H b) (hs:Heap.SameBut s.heap.objs.size s'.heap h') :
  Inv X pins σ H' { s' with heap:=h' }:=by
 have ne:∀ b o,s.heap.get? b=some o->b≠s.heap.objs.size:=fun b o e=>Nat.ne_of_lt (Heap.lt_size e);have B:Un (frs X.stack) fp H H' s.heap s'.heap:=J.base;refine I.call' (s':={ s' with heap:=h' }) (ch:=fp) J.os ⟨fun b o e n h1 h2=>?_,fun b o e n h1 h2=>?_,B.free,fun b o e h2=>?_,B.tups,B.frzs,B.tbls⟩ ?_ J.bare (fun b hb=>?_)
 ·show h'.get? b=some o;rw [hs.2 b (ne b o e)]; exact B.keep b o e n h1 h2
 ·show ∃ sl,h'.get? b=_;rw [hs.2 b (ne b o e)]; exact B.slot b o e n h1 h2
 ·show ∃ o',h'.get? b=_;rw [hs.2 b (ne b o e)]; exact B.there b o e h2
 ·intro b u e;have hfree:H' s.heap.objs.size=none:=J.free;have nC:∀ c v,H' c=some v->c≠s.heap.objs.size:=fun c v q z=>by rw [z,hfree] at q; cases q
  refine (J.hok b u e).stay (fun c v hc q=>?_) (fun _ q=>q) fun _ _ q=>q;show h'.get? c=some v;have:c≠s.heap.objs.size:=by
   rcases hc with z | z
   ·rw [z]; exact nC b u e
   ·exact nC c _ z
  rw [hs.2 c this]; exact q
 ·obtain ⟨f0,f1,f2,f3,f4,f5⟩:=hf b hb;exact ⟨f3,f1,f4,f5⟩
end
def A1p (J:It) (g:TG) (tt:TT) (te:TE) (D:Addr) (Fin:Hp->Prop) (σ0:St) (H1:Hp):Prop :=
 ∃ W:Nat->Nat->St->Hp->List V->Prop,(∃ m,W 0 m σ0 (upd H1 D (.lst [])) [])/\∀ i m σ' H' ys,W i m σ' H' ys->H' D=some (.lst ys)/\ys.length < sizeLine /\
  ((J.stop i H'/\Fin H')\/(J.go i H'/\∀ x H2,J.yld i H' x H2->g x σ' H2 fun σ2 H3=>tt σ2 H3 fun b H4=>if b=true then
   te σ2 H4 fun y H5=>∃ zs,H5 D=some (.lst zs)/\zs.length < sizeLine/\∃ m',m' < m/\W (i + 1) m' σ2 (upd H5 D (.lst (zs++[y]))) (zs++[y])
   else ∃ m',m' < m/\W (i + 1) m' σ2 H4 ys))
def B0a (wi:TI) (g:TG) (tt:TT) (te:TE) (cap:List (Option Nat)):TE:=fun σ H Q=>wi σ H fun J H1=>∀ D,H1 D=none->A1p J g tt te D (fun H'=>Q (.ref D) H') (capσ cap σ) H1
section
variable {X:Cx} {scope:Scope} {cl:List (Str × Addr)} {N':List Str} {cap:List (Option Nat)} {elt tg iter:Expr} {ifs:List Expr} {wi:TI} {g:TG} {tt:TT} {te:TE} {pos:Pos}
theorem A1y {pins:List (Addr × Obj)} {σ:St} {H2:Hp} {s2:Shared} {it:Addr} {fp:List Addr} {tn:Nat->Heap->Prop} {J:It} {E:Value->Shared->Prop} {RR:Value->Addr->Result->Shared->Prop} {Fin:Addr->Hp->Prop}
  (hc:X.calm=true) (C:CompSc X scope cl N' cap) (I2:Inv X pins σ H2 s2) (T:Turn X.prog X.w X.K tg J fp it tn) (st2:tn 0 s2.heap) (f2:∀ b ∈ fp,FpOk X pins H2 b)
  (hg:∀ s3 H3 fp,PG (X.block scope cl N' s3 H3 fp) tg g) (ht:∀ s3 H3 fp,PTs (X.block scope cl N' s3 H3 fp) ifs tt) (he:∀ s3 H3 fp,PE (X.block scope cl N' s3 H3 fp) elt te)
  (go:∀ D,H2 D=none->A1p J g tt te D (Fin D) (capσ cap σ) H2)
  (out:∀ (D C:Addr) (s':Shared) (m:Str->Option Value) (H':Hp),s'.heap.Ns C m->C≠X.env.locals->H' C=none->X.s₀.heap.objs.size<=C->(∀ x c,X.env.cells.lookup x=some c->c≠C)->(∀ p ∈ X.pn++pins,p.1≠C)->Fin D H'->Inv X pins σ H' s'->RR (.ref D) C (.ok .next) s') :
  wpAny (model X.prog X.w) X.A (newList []) (fun acc s₃=>wpAny (model X.prog X.w) X.A (newFunctionEnv scope X.env.globals cl [] X.env.qual none .none (some X.env)) (fun cenv s₄ =>
   codeAny (model X.prog X.w) X.A (.compStart (.ListComp elt [⟨tg,iter,ifs,0⟩] scope pos) 0 (.ref it) acc { cenv with scope:=relabel scope X.env }) (RR acc cenv.locals) s₄) E s₃) E s2:=by
 refine wpAny_newObj_type (wpAny_newFunctionEnv C.cell (by intro y hy; simp at hy) (fun h₁ hns₁ hsb₁=>?_) C.kind);have hD:H2 s2.heap.objs.size=none:=I2.hok.fresh (Nat.le_refl _);obtain ⟨W,⟨m0,w0⟩,turn⟩:=go _ hD;have I3:Inv X pins σ (upd H2 s2.heap.objs.size (.lst [])) { s2 with heap:=s2.heap.push { cls:=.type "list",dict:=none,data:=.seq ([]:List Value).toArray } } :=
  I2.laid (t':=s2.toks) (o:=.lst []) (fun b u e=>Heap.get?_push_of_some _ e) (Nat.le_refl _) ⟨Nat.zero_le _,[],0,.nil,Heap.get?_push_size _ rfl⟩
 have f3:∀ b ∈ fp,FpOk X pins (upd H2 s2.heap.objs.size (.lst [])) b:=fun b hb=>by
  obtain ⟨f0,fr⟩:=f2 b hb;obtain ⟨o,e,_⟩:=T.obj _ _ st2 b hb;exact ⟨by rw [D8 (Nat.ne_of_lt (Heap.lt_size e))]; exact f0,fr⟩
 generalize hs3:({ s2 with heap:=s2.heap.push { cls:=.type "list",dict:=none,data:=.seq ([]:List Value).toArray } }:Shared)=s3 at hns₁ hsb₁ I3 ⊢;have o3:∀ b o,s2.heap.get? b=some o->s3.heap.get? b=some o:=fun b o e=>by rw [<- hs3]; exact Heap.get?_push_of_some _ e
 have hk:∀ b o,s3.heap.get? b=some o->h₁.get? b=some o:=fun b o e=>by
  rw [hsb₁.2 b (Nat.ne_of_lt (Heap.lt_size e))]; exact Heap.get?_push_of_some _ e
 have st3:tn 0 s3.heap:=T.keep _ _ _ st2 fun b _ o e=>o3 b o e;have ho:∀ b ∈ fp,∃ o,s3.heap.get? b=some o:=fun b hb=>let ⟨o,e,_⟩:=T.obj _ _ st3 b hb; ⟨o,e⟩;have I4:=A90 (tk:=s3.toks + ([]:List (Str × Value)).length) I3 C f3 ho hns₁ hk;have st4:tn 0 h₁:=T.keep _ _ _ st3 fun b _ o e=>hk b o e;have hX:∀ {H':Hp} {pl:List (Addr × Obj)},(∀ b ∈ fp,H' b=none)->(∀ p ∈ pl,p.1 ∉ fp)->∀ b ∈ fp,FpOk (X.block scope cl N' s3 (upd H2 s2.heap.objs.size (.lst [])) fp) pl H' b:=fun {H' pl} hn hp b hb=>by
  refine ⟨hn b hb,I4.ok.exf b hb |>.1,I4.ok.exfs b hb,.inl hb,(I4.ok.exf b hb).2,fun p hp' z=>?_⟩;have hp'':p ∈ pl:=by simpa [Cx.block] using hp'
  exact hp p hp'' (by rw [z]; exact hb)
 have fr3:∀ b ∈ fp,(upd H2 s2.heap.objs.size (.lst [])) b=none:=fun b hb=>(f3 b hb).1;have loop:∀ s₅:Shared,s₅={ s3 with heap:=h₁,toks:=s3.toks + ([]:List (Str × Value)).length } ->
   codeAny (model X.prog X.w) X.A (.compLoop (.ListComp elt [⟨tg,iter,ifs,0⟩] scope pos) 0 (.ref it) (.ref s2.heap.objs.size) (compEnvC scope cl s3.heap.objs.size X.env)) (RR (.ref s2.heap.objs.size) s3.heap.objs.size) s₅:=by
  rintro s₅ rfl;refine A1o (fun n s'=>∃ i σ' H' ys,Inv (X.block scope cl N' s3 (upd H2 s2.heap.objs.size (.lst [])) fp) [] σ' H' s'/\tn i s'.heap/\(∀ b ∈ fp,H' b=none)/\W i n σ' H' ys) ?_ m0 ⟨0,_,_,[],I4,st4,fr3,w0⟩;rintro n s6 ⟨i,σ6,H6,ys,I6,st6,fr6,w6⟩;obtain ⟨hl6,hz6,hgo⟩:=turn i n σ6 H6 ys w6;rcases hgo with ⟨stop,fin⟩ | ⟨go',step⟩
  ·refine wpAny_mono (T.done (X.block scope cl N' s3 (upd H2 s2.heap.objs.size (.lst [])) fp) rfl rfl rfl hc i [] s6 σ6 H6 (fun _ _=>False) I6 (hX fr6 (fun _ z=>nomatch z)) st6 stop) (fun r s7 ⟨hr,I7⟩=>?_) fun _ _ z=>z.elim;subst hr;obtain ⟨m7,hn7,_⟩:=id I7.loc;refine out _ _ s7 m7 H6 hn7 (Nat.ne_of_gt I3.lt) I7.free I3.sz (fun x c e z=>?_) (fun p hp z=>?_) fin (A9z I3 I7 f3 (.refl ..))
   ·obtain ⟨v,q⟩:=I3.cell x c e;exact absurd q.lt (by rw [z]; exact Nat.lt_irrefl _)
   ·exact absurd (Heap.lt_size (I3.pin p hp).1) (by rw [z]; exact Nat.lt_irrefl _)
  ·refine wpAny_mono (T.item (X.block scope cl N' s3 (upd H2 s2.heap.objs.size (.lst [])) fp) rfl rfl rfl hc i [] s6 σ6 H6 (fun _ _=>False) I6 (hX fr6 (fun _ z=>nomatch z)) st6 go') (fun r s7 ⟨u,hr,h7⟩=>?_) fun _ _ z=>z.elim;subst hr;refine wpAny_mono h7 (fun _ s8 ⟨x,H8,I8,r8,y8,st8,fr8⟩=>?_) fun _ _ z=>z.elim;have I8':=I8.pinned (hX fr8 (fun _ z=>nomatch z)) (T.obj _ _ st8);have again:∀ {s9:Shared} {σ9:St} {H9:Hp},Inv (X.block scope cl N' s3 (upd H2 s2.heap.objs.size (.lst [])) fp) ([]++A01 fp s8.heap) σ9 H9 s9->∀ {zs:List V},(∃ m',m' < n/\W (i + 1) m' σ9 H9 zs) ->
     ∃ m,m < n/\∃ i σ' H' ys,Inv (X.block scope cl N' s3 (upd H2 s2.heap.objs.size (.lst [])) fp) [] σ' H' s9/\tn i s9.heap/\(∀ b ∈ fp,H' b=none)/\W i m σ' H' ys:=fun {s9 σ9 H9} I9 {zs} ⟨m',hm,w9⟩=>by
    refine ⟨m',hm,i + 1,σ9,H9,zs,I9.unpinned,T.keep _ _ _ st8 fun b hb o e=>(I9.pin (b,o) (List.mem_append_right _ (List.mem_append_right _ (P7 hb e)))).1,fun b hb=>?_,w9⟩;obtain ⟨o,e,d⟩:=T.obj _ _ st8 b hb;exact (I9.pin (b,o) (List.mem_append_right _ (List.mem_append_right _ (P7 hb e)))).2.1
   refine wpAny_mono (hg _ _ _ _ s8 σ6 H8 x u _ I8' r8 (step x H8 y8)) (fun _ s9 ⟨σ9,H9,I9,q9⟩=>?_) fun _ _ z=>z.elim;refine wpAny_mono (ht _ _ _ _ s9 σ9 H9 _ I9 q9) (fun ok s10 ⟨H10,I10,q10⟩=>?_) fun _ _ z=>z.elim;cases ok with
   | false=>exact again I10 q10
   | true =>
    rw [if_pos rfl];refine wpAny_mono (he _ _ _ _ s10 σ9 H10 _ I10 q10) (fun yv s11 ⟨y,H11,I11,r11,zs,hz,hlen,q11⟩=>?_) fun _ _ z=>z.elim;refine wpAny_mono (G2 (X:=X.block scope cl N' s3 (upd H2 s2.heap.objs.size (.lst [])) fp) _ s11 σ9 H11 (.ref s2.heap.objs.size) [y] (.ref s2.heap.objs.size) [yv] (fun _ H'=>∃ m',m' < n/\W (i + 1) m' σ9 H' (zs++[y])) I11 rfl (.cons r11 .nil) ⟨_,zs,y,rfl,rfl,hz,hlen,q11⟩) (fun _ s12 ⟨_,H12,I12,_,q12⟩=>?_) fun _ _ z=>z.elim;exact again I12 q12
 exact codeAny_compStart_list (loop _ rfl) (T.self _ 0 _ _ _ st4 (loop _ rfl))
theorem B4l (hc:X.calm=true) (C:CompSc X scope cl N' cap) (hi:PI X tg iter wi) (hg:∀ s3 H3 fp,PG (X.block scope cl N' s3 H3 fp) tg g) (ht:∀ s3 H3 fp,PTs (X.block scope cl N' s3 H3 fp) ifs tt)
  (he:∀ s3 H3 fp,PE (X.block scope cl N' s3 H3 fp) elt te) (hs:∀ x,foldedSetIterable iter X.env x=pure x:=by intro _; rfl):PE X (.ListComp elt [⟨tg,iter,ifs,0⟩] scope pos) (B0a wi g tt te cap):=by
 intro pins s σ H Q I h;rw [eval_ListComp];refine wpAny_comprehension_free (use:=none) rfl hs C.clos C.kind C.names (thn (hi pins s σ H _ I h) fun v s1 h1=>thn h1 fun itv s2 h2=>?_);obtain ⟨it,fp,tn,J,H2,e,I2,T,st2,f2,go⟩:=h2;subst e;refine A1y (RR:=fun acc C=>compPost (model X.prog X.w) X.A X.xe none (EP X pins σ Q) acc C) (Fin:=fun D H'=>Q (.ref D) H') hc C I2 T st2 f2 hg ht he go ?_;intro D C' s' m H' hn n1 n2 n3 n4 n5 fin inv;exact ⟨m,hn,fun h' hs'=>⟨.ref D,H',inv.turned (t':=s'.toks) (fun b o hb e=>(hs'.2 b hb).trans e) n2 n1 (.inr n3) n4 n5,rfl,fin⟩⟩
end
end L2
namespace L2
open PySem PySem.Spec PyProof.Rows
def A1r (env:Env):List (Str × NameKind)->List (Str × Addr)->List (Str × Addr)
 | [],acc=>acc
 | (n,k) :: r,acc=>A1r env r (if (k == .free)=true then (n,(env.cells.lookup n).getD 0) :: acc else acc)
theorem A0f {env:Env}:∀ (l:List (Str × NameKind)) (acc:List (Str × Addr)),(∀ p ∈ l,p.2=.free->(env.cells.lookup p.1).isSome=true) ->
  (forIn l acc (fun x s=>match x with
   | (name,kind)=>if (kind == NameKind.free)=true then do
     let a <- cellOf env name
     pure (ForInStep.yield ((name,a) :: s))
    else pure (ForInStep.yield s)):Sem (List (Str × Addr)))=pure (A1r env l acc)
 | [],acc,_=>rfl
 | (n,k) :: r,acc,h=>by
  rw [List.forIn_cons];have hr:=fun p hp=>h p (List.mem_cons_of_mem _ hp);by_cases hk:(k == NameKind.free)=true
  ·have h1:=h (n,k) List.mem_cons_self (by simpa using hk);obtain ⟨c,hc⟩:=Option.isSome_iff_exists.mp h1;have hc:env.cells.lookup n=some c:=hc;have e1:cellOf env n=pure c:=by unfold cellOf; rw [hc]
   simp only [hk,if_true,e1,pure_bind];rw [A0f r _ hr];show _=pure (A1r env r (if (k == .free)=true then (n,(env.cells.lookup n).getD 0) :: acc else acc));rw [if_pos hk,hc];rfl
  ·simp only [hk,Bool.false_eq_true,if_false,pure_bind];rw [A0f r _ hr];show _=pure (A1r env r (if (k == .free)=true then (n,(env.cells.lookup n).getD 0) :: acc else acc));rw [if_neg hk]
theorem A1q {env:Env}:∀ (l:List (Str × NameKind)) (acc:List (Str × Addr)) (p:Str × Addr),p ∈ A1r env l acc->p ∈ acc\/((p.1,NameKind.free) ∈ l/\p.2=(env.cells.lookup p.1).getD 0)
 | [],acc,p,h=>.inl h
 | (n,k) :: r,acc,p,h=>by
  rcases A1q r _ p h with z | ⟨z,e⟩
  ·by_cases hk:(k == NameKind.free)=true
   ·rw [if_pos hk] at z;rcases List.mem_cons.mp z with rfl | z
    ·right;have:k=.free:=by simpa using hk
     subst this;exact ⟨List.mem_cons_self,rfl⟩
    ·exact .inl z
   ·rw [if_neg hk] at z;exact .inl z
  ·exact .inr ⟨List.mem_cons_of_mem _ z,e⟩
theorem V7 {env:Env}:∀ (l:List (Str × NameKind)) (acc:List (Str × Addr)) (x:Str),((∃ c,(x,c) ∈ acc)\/(x,NameKind.free) ∈ l)->∃ c,(x,c) ∈ A1r env l acc
 | [],acc,x,h=>by
  rcases h with h | h
  ·exact h
  ·exact absurd h (by simp)
 | (n,k) :: r,acc,x,h=>by
  refine V7 r _ x ?_;rcases h with ⟨c,h⟩ | h
  ·left;by_cases hk:(k == NameKind.free)=true
   ·rw [if_pos hk]; exact ⟨c,List.mem_cons_of_mem _ h⟩
   ·rw [if_neg hk]; exact ⟨c,h⟩
  ·rcases List.mem_cons.mp h with e | h
   ·left;cases e;rw [if_pos (by rfl)];exact ⟨_,List.mem_cons_self⟩
   ·exact .inr h
theorem O3 {β:Type} {x:Str}:∀ {l:List (Str × β)} {c:β},(x,c) ∈ l->∃ c',l.lookup x=some c'
 | (n,d) :: r,c,h=>by
  by_cases e:x=n
  ·subst e; exact ⟨d,by simp [List.lookup_cons]⟩
  ·rcases List.mem_cons.mp h with z | z
   ·cases z; exact absurd rfl e
   ·obtain ⟨c',q⟩:=O3 z;refine ⟨c',?_⟩;rw [List.lookup_cons];have:(x == n)=false:=by simpa using e
    rw [this]; exact q
theorem P9 {scope:Scope} {env:Env} {x:Str} {k:NameKind} (hcell:∀ y ∈ scope.names,y.2≠.cell) (h:(relabel scope env).names.lookup x=some k) (hk:k=.cell\/k=.free):(x,NameKind.free) ∈ scope.names:=by
 have h1:=PySem.mem_of_lookup h;obtain ⟨⟨n,k'⟩,hm,e⟩:=List.mem_map.mp (show (x,k) ∈ scope.names.map _ from h1);dsimp only at e;split at e
 ·rename_i q;cases e;simp only [Bool.and_eq_true] at q;have:k'=.free:=by simpa using q.1.1
  subst this;exact hm
 ·cases e;rcases hk with rfl | rfl
  ·exact absurd rfl (hcell _ hm)
  ·exact hm
theorem P2 {env:Env} {x:Str}:∀ {l:List (Str × NameKind)},l.lookup x=some .free ->
  (l.map fun (n,k)=>if (k == NameKind.free && env.scope.kind == .function && env.kindOf n == some .cell) then (n,NameKind.cell) else (n,k)).lookup x=some .cell \/
  (l.map fun (n,k)=>if (k == NameKind.free && env.scope.kind == .function && env.kindOf n == some .cell) then (n,NameKind.cell) else (n,k)).lookup x=some .free
 | [],h=>by simp at h
 | (n,k) :: r,h=>by
  rw [List.lookup_cons] at h;rw [List.map_cons];dsimp only;by_cases e:(x == n)=true
  ·rw [e] at h;have hk:k=.free:=by simpa using h
   subst hk;by_cases q:(NameKind.free == NameKind.free && env.scope.kind == .function && env.kindOf n == some .cell)=true
   ·left; rw [if_pos q,List.lookup_cons,e]
   ·right; rw [if_neg q,List.lookup_cons,e]
  ·have e':(x == n)=false:=by simpa using e
   rw [e'] at h;have:=P2 (env:=env) h;by_cases q:(k == NameKind.free && env.scope.kind == .function && env.kindOf n == some .cell)=true
   ·rw [if_pos q,List.lookup_cons,e']; exact this
   ·rw [if_neg q,List.lookup_cons,e']; exact this
theorem A0u {scope:Scope} {env:Env} {x:Str} (h:scope.names.lookup x=some .free):(relabel scope env).names.lookup x=some .cell\/(relabel scope env).names.lookup x=some .free:=P2 h
theorem E8 {X:Cx} {scope:Scope} {N':List Str} {cap:List (Option Nat)}
  (h1:scope.names.all (fun p=>!(p.2 == .free) || ((X.env.cells.lookup p.1).isSome && !(X.env.kindOf p.1 == some .local)))=true)
  (hk:scope.kind=.function) (h2:scope.names.all (fun p=>!(p.2 == .cell))=true) (h3:scope.names.all (fun p=>!(p.2 == .local) || scope.names.lookup p.1 == some .local)=true)
  (nd:N'.Nodup) (len:cap.length=N'.length)
  (h4:(N'.zip cap).all (fun q=>match q.2 with | none=>true | some j=>(X.N[j]? == some q.1) && (scope.names.lookup q.1 == some .free) && (X.env.scope.names.lookup q.1 == some .cell || X.env.scope.names.lookup q.1 == some .free))=true) :
  CompSc X scope (A1r X.env scope.names []) N' cap:=by
 have hfree:∀ p ∈ scope.names,p.2=.free->(X.env.cells.lookup p.1).isSome=true/\X.env.kindOf p.1≠some .local:=fun p hp e=>by
  have:=List.all_eq_true.mp h1 p hp;rw [e] at this;have this:((X.env.cells.lookup p.1).isSome && !(X.env.kindOf p.1 == some .local))=true:=this;rw [Bool.and_eq_true] at this;refine ⟨this.1,fun z=>?_⟩;rw [z] at this;exact absurd this.2 (by decide)
 have hcell:∀ y ∈ scope.names,y.2≠.cell:=fun y hy e=>by
  have:=List.all_eq_true.mp h2 y hy;rw [e] at this;exact absurd this (by decide)
 have memsub:∀ x c,(A1r X.env scope.names []).lookup x=some c->(x,NameKind.free) ∈ scope.names/\X.env.cells.lookup x=some c:=fun x c h=>by
  rcases A1q _ _ _ (PySem.mem_of_lookup h) with z | ⟨z,e⟩
  ·exact absurd z (by simp)
  ·refine ⟨z,?_⟩;obtain ⟨c',hc'⟩:=Option.isSome_iff_exists.mp (hfree _ z rfl).1;have hc':X.env.cells.lookup x=some c':=hc';have e:c=(X.env.cells.lookup x).getD 0:=e;rw [hc'] at e ⊢;exact congrArg some e.symm
 refine ⟨?_,fun x c h=>(memsub x c h).2,fun x h=>?_,hk,hcell,fun y hy e=>?_,nd,len,fun x c h=>(hfree _ (memsub x c h).1 rfl).2,fun i x j hi hc=>?_⟩
 ·unfold closureFor;show (forIn scope.names [] _ >>= fun r=>pure r)=_;rw [A0f scope.names [] fun p hp e=>(hfree p hp e).1];rfl
 ·have hm:(x,NameKind.free) ∈ scope.names:=by
   rcases h with h | h
   ·exact P9 hcell h (.inl rfl)
   ·exact P9 hcell h (.inr rfl)
  obtain ⟨c,hc⟩:=V7 (env:=X.env) scope.names [] x (.inr hm);exact O3 hc
 ·have:=List.all_eq_true.mp h3 y hy;rw [e] at this;simpa using this
 ·have hz:(x,some j) ∈ N'.zip cap:=by
   refine List.mem_iff_getElem?.mpr ⟨i,?_⟩;rw [List.getElem?_zip_eq_some];exact ⟨hi,hc⟩
  have:=List.all_eq_true.mp h4 _ hz;simp only [Bool.and_eq_true,Bool.or_eq_true,beq_iff_eq] at this;obtain ⟨⟨q1,q2⟩,q3⟩:=this;refine ⟨q1,A0u q2,?_,?_⟩
  ·rcases q3 with q | q
   ·exact .inr (.inl q)
   ·exact .inr (.inr q)
  ·obtain ⟨c,hc⟩:=V7 (env:=X.env) scope.names [] x (.inr (PySem.mem_of_lookup q2));exact O3 hc
def T2 (wi:TI) (g:TG) (tt:TT) (te:TE) (cap:List (Option Nat)) (i:Nat):TS:=fun D σ H=>wi σ H fun J H1=>∀ l,H1 l=none->A1p J g tt te l (fun H'=>D.nx (σ.set i (some (.ref l))) H') (capσ cap σ) H1
section
variable {X:Cx} {scope:Scope} {cl:List (Str × Addr)} {N':List Str} {cap:List (Option Nat)} {elt tg iter:Expr} {ifs:List Expr} {wi:TI} {g:TG} {tt:TT} {te:TE} {pos spos py:Pos} {y:Str} {i:Nat}
theorem A4x (hc:X.calm=true) (hN:X.N.Nodup) (hi:X.N[i]?=some y) (hy:X.env.scope.names.lookup y=some .local) (C:CompSc X scope cl N' cap) (hit:PI X tg iter wi) (hg:∀ s3 H3 fp,PG (X.block scope cl N' s3 H3 fp) tg g)
  (ht:∀ s3 H3 fp,PTs (X.block scope cl N' s3 H3 fp) ifs tt) (he:∀ s3 H3 fp,PE (X.block scope cl N' s3 H3 fp) elt te)
  (hsw:swapsWith (.ListComp elt [⟨tg,iter,ifs,0⟩] scope pos) (some (.Name y py)) spos.line X.env=pure true) (hs:∀ x,foldedSetIterable iter X.env x=pure x:=by intro _; rfl) :
  PS X (.Assign [.Name y py] (.ListComp elt [⟨tg,iter,ifs,0⟩] scope pos) spos) (T2 wi g tt te cap i):=by
 intro pins s σ H D I h;rw [exec_Assign_Name_used _ _ _ _ hsw];refine wpAny_bind (wpAny_standAt (wpAny_bind ?_));show wpAny _ X.A (do let _ <- comprehension (.ListComp elt [⟨tg,iter,ifs,0⟩] scope pos) scope X.env _ (newList []) false (eval iter X.env) (some (assign (.Name y py) X.env))) _ _ s;refine wpAny_bind (wpAny_mono (wpAny_comprehension_free (use:=some (assign (.Name y py) X.env)) (Q:=fun _ s'=>SP X pins D .next s') rfl hs C.clos C.kind C.names
  (thn (hit pins s σ H _ I h) fun v s1 h1=>thn h1 fun itv s2 h2=>?_)) (fun _ s' hq=>wpAny_pure (wpAny_pure hq)) fun _ _ e=>e)
 obtain ⟨it,fp,tn,J,H2,e,I2,T,st2,f2,go⟩:=h2;subst e;refine A1y (RR:=fun acc C=>compPost (model X.prog X.w) X.A X.xe (some (assign (.Name y py) X.env)) (fun _ s'=>SP X pins D .next s') acc C) (Fin:=fun l H'=>D.nx (σ.set i (some (.ref l))) H') hc C I2 T st2 f2 hg ht he go ?_;intro l C' s' m H' hn n1 n2 n3 n4 n5 fin inv;show wpAny _ X.A (assign (.Name y py) X.env (.ref l)) _ _ _;refine wpAny_assign_Name (A0r (v:=.ref l) inv hN hi (.inl hy) rfl (fun s'' I'' ⟨a,sb,ha⟩=>?_) (.inr hy));have na:C'≠a:=by
  rcases ha with e | e
  ·rw [e]; exact n1
  ·exact (n4 _ _ e).symm
 exact ⟨m,hn.sameBut sb na,fun h' hs'=>⟨_,H',I''.turned (t':=s''.toks) (fun b o hb e=>(hs'.2 b hb).trans e) n2 n1 (.inr n3) n4 n5,fin⟩⟩
end
section
variable {X:Cx} {K:PySem.W.Frag}
theorem B02 (h:X.K=K):IxR X (rIxL K):=by subst h; exact ix_list
theorem B4j {pos:Pos} {es:List Expr} {k:Nat} {t:TGs} {n:Nat} (h:X.K=K) (hc:X.calm=true) (hg:PGs X es t)
  (hn:(assignEach es X.env).length=n:=by rfl) (hst:(assignEach es X.env).findIdx? (·.1)=none:=by rfl):PG X (.Tuple es k pos) (gTup K n t):=by subst h; exact B7b hc hg hn hst
end
end L2
namespace Prf
open PySem L2 My
abbrev Hpp:=L2.Hp
structure StAt (H:Hpp) (p:Addr):Prop where
 ex:∃ (c m:Int) (f:Bool),H p=some (.lst [.int c,.int m,.bl f])/\0<=m/\m < 2147483648
theorem StAt.same {H H':Hpp} {p:Addr} (h:StAt H p) (e:Same H H'):StAt H' p:=by
 obtain ⟨c,m,f,h,r⟩:=h.ex; exact ⟨c,m,f,e _ _ h,r⟩
theorem StAt.kp {H H':Hpp} {p l:Addr} (h:StAt H p) (n:p≠l) (e:Kp l H H'):StAt H' p:=by
 obtain ⟨c,m,f,h,r⟩:=h.ex; exact ⟨c,m,f,e _ _ n h,r⟩
def A57:Sp:=fun vs H Q _=>∃ (p:Addr) (n:Int),vs=[.ref p,.int n]/\StAt H p/\0 < n/\Sm 4000 n/\∀ d H',0<=d->d < n->StAt H' p->Kp p H H'->Q (.int d) H'
def B3x (K:PySem.W.Frag):Sp:=fun vs H Q _=>∃ (a:Addr) (ns:List Int),vs=[.ref a]/\SqL K H a (ns.map V.int)/\ns.length<=63/\∀ H',Q (.bl true) H'
theorem sm32 {m:Int} (h0:0<=m) (h1:m < 2147483648):Sm 8000 m:=Sm.mono (k:=32) (by unfold Sm; omega) (by decide)
theorem W7 {m:Int} (n:Nat) (h:m.natAbs < 2 ^ 64:=by decide):Sm 8000 m:=Sm.mono (k:=64) h (by decide)
theorem A58 {k:Nat} {t b:Int} (h:Sm k b) (hb:b≠0):Sm k ((Int.gcd t b:Nat):Int):=by
 have h1:Int.gcd t b ∣ b.natAbs:=Nat.gcd_dvd_right _ _;have h2:=Nat.le_of_dvd (by omega) h1;exact h.le (by simpa using h2)
theorem B6l {k:Nat} {t b:Int} (h:Sm k b) (hb:b≠0):Sm k (sh t b):=by
 have h1:Int.gcd t b ∣ b.natAbs:=Nat.gcd_dvd_right _ _;have h2:=Nat.le_of_dvd (by omega) h1;exact h.le (by rw [B6p]; exact h2)
end Prf
namespace Prf
open PySem L2 My
theorem Y0 (n:Nat) (h:(n:Int)<=1000000:=by decide):CPow 10 (n:Int):=⟨by omega,h,by decide⟩
theorem sm4 (n:Int) (h:n.natAbs < 2 ^ 64:=by decide):Sm 4000 n:=Sm.mono (k:=64) h (by decide)
theorem B6m (b:Bool):Sm 8000 (if b=true then (1:Int) else 0):=by cases b <;> exact W7 0
theorem B2w:kitB "tuple" "tuple"=some true:=by decide +kernel
theorem B22:kitB "int" "bool"=some false:=by decide +kernel
end Prf
namespace Prf
open PySem L2 My
inductive R2L {α:Type} (P:Addr->α->Prop):List V->List α->Prop
 | nil:R2L P [] []
 | cons {a:Addr} {q:α} {rs:List V} {qs:List α}:P a q->R2L P rs qs->R2L P (.ref a :: rs) (q :: qs)
section
variable {α:Type} {P P':Addr->α->Prop}
theorem R2L.get:∀ {rs qs} {i:Nat} {x:V},R2L P rs qs->rs[i]?=some x->∃ a q,x=.ref a/\qs[i]?=some q/\P a q
 | _,_,_,_,.nil,e=>by simp at e
 | _,_,0,_,.cons h _,e=>by simp at e; subst e; exact ⟨_,_,rfl,rfl,h⟩
 | _,_,i + 1,x,.cons _ t,e=>by
  obtain ⟨a,q,h1,h2,h3⟩:=R2L.get (i:=i) (x:=x) t (by simpa using e);exact ⟨a,q,h1,by simpa using h2,h3⟩
end
structure OfOk (cs:LR) (a b c d:Nat):Prop where
 ne:1<=cs.length
 le:cs.length<=5
 dec:Dec cs
 sm:∀ x ∈ cs,SmR a b x.1/\SmR c d x.2
def dq (q:Rat):PyData:=.tuple [.int q.num,.int q.den]
theorem B84 (q:Rat):(dq q).canLay0=true:=rfl
def dcn (c:Rat × Rat):PyData:=.tuple [dq c.1,dq c.2]
theorem N7 {k:Nat} {z:Int} {B:Nat} (h0:-(B:Int)<=z) (h1:z<=B) (hB:B < 2 ^ k):Sm k z:=by
 unfold Sm; omega
end Prf
set_option maxHeartbeats 4000000
namespace L2
open PySem
mutual
theorem Den.same {K:PySem.W.Frag} {F F':Hp} (e:Same F F'):∀ {v:V} {x:PyData},Den K F v x->Den K F' v x
 | _,_,.non=>.non
 | _,_,.bl b=>.bl b
 | _,_,.int i=>.int i
 | _,_,.str x=>.str x
 | _,_,.lst h t=>.lst (e.seq h) (DenAll.same e t)
 | _,_,.tup h t=>.tup (SqT.same e h) (DenAll.same e t)
 | _,_,.dct h=>.dct (e _ _ h)
theorem DenAll.same {K:PySem.W.Frag} {F F':Hp} (e:Same F F'):∀ {vs:List V} {xs:LP},DenAll K F vs xs->DenAll K F' vs xs
 | _,_,.nil=>.nil
 | _,_,.cons h t=>.cons (Den.same e h) (DenAll.same e t)
end
section
variable {K:PySem.W.Frag} {F:Hp}
theorem Den.intE {v:V} {i:Int} (h:Den K F v (.int i)):v=.int i:=by cases h; rfl
theorem Den.blE {v:V} {b:Bool} (h:Den K F v (.bool b)):v=.bl b:=by cases h; rfl
theorem Den.nonE {v:V} (h:Den K F v .none):v=.non:=by cases h; rfl
theorem Den.tupE {v:V} {xs:LP} (h:Den K F v (.tuple xs)):∃ a vs,v=.ref a/\SqT K F a vs/\DenAll K F vs xs:=by cases h; exact ⟨_,_,rfl,‹_›,‹_›⟩
theorem Den.lstE {v:V} {xs:LP} (h:Den K F v (.list xs)):∃ a vs,v=.ref a/\SqL K F a vs/\DenAll K F vs xs:=by cases h; exact ⟨_,_,rfl,‹_›,‹_›⟩
theorem DenAll.len:∀ {vs:List V} {xs:LP},DenAll K F vs xs->vs.length=xs.length
 | _,_,.nil=>rfl
 | _,_,.cons _ t=>congrArg (· + 1) (DenAll.len t)
theorem DenAll.get:∀ {vs:List V} {xs:LP} {i:Nat} {v:V},DenAll K F vs xs->vs[i]?=some v->∃ x,xs[i]?=some x/\Den K F v x
 | _,_,_,_,.nil,e=>by simp at e
 | _,_,0,_,.cons h _,e=>by simp at e; subst e; exact ⟨_,rfl,h⟩
 | _,_,i + 1,v,.cons _ t,e=>by
  obtain ⟨x,h1,h2⟩:=DenAll.get (i:=i) (v:=v) t (by simpa using e);exact ⟨x,by simpa using h1,h2⟩
theorem DenAll.at:∀ {vs:List V} {xs:LP} {i:Nat} {x:PyData},DenAll K F vs xs->xs[i]?=some x->∃ v,vs[i]?=some v/\Den K F v x
 | _,_,_,_,.nil,e=>by simp at e
 | _,_,0,_,.cons h _,e=>by simp at e; subst e; exact ⟨_,rfl,h⟩
 | _,_,i + 1,x,.cons _ t,e=>by
  obtain ⟨v,h1,h2⟩:=DenAll.at (i:=i) (x:=x) t (by simpa using e);exact ⟨v,by simpa using h1,h2⟩
theorem DenAll.app:∀ {vs us:List V} {xs ys:LP},DenAll K F vs xs->DenAll K F us ys->DenAll K F (vs++us) (xs++ys)
 | _,_,_,_,.nil,h=>h
 | _,_,_,_,.cons h t,h'=>.cons h (DenAll.app t h')
theorem DenAll.drop:∀ {vs:List V} {xs:LP} (n:Nat),DenAll K F vs xs->DenAll K F (vs.drop n) (xs.drop n)
 | _,_,0,h=>by simpa using h
 | _,_,_ + 1,.nil=>by simpa using DenAll.nil
 | _,_,n + 1,.cons _ t=>by simpa using DenAll.drop n t
theorem DenAll.take:∀ {vs:List V} {xs:LP} (n:Nat),DenAll K F vs xs->DenAll K F (vs.take n) (xs.take n)
 | _,_,0,_=>by simpa using DenAll.nil
 | _,_,_ + 1,.nil=>by simpa using DenAll.nil
 | _,_,n + 1,.cons h t=>by simpa using DenAll.cons h (DenAll.take n t)
theorem DenAll.dropLast {vs:List V} {xs:LP} (h:DenAll K F vs xs):DenAll K F vs.dropLast xs.dropLast:=by
 rw [List.dropLast_eq_take,List.dropLast_eq_take,h.len]; exact h.take _
theorem DenAll.atIE {vs:List V} {xs:LP} {i:Int} {x:PyData} (h:DenAll K F vs xs) (e:L2.atI xs i=some x):∃ v,L2.atI vs i=some v/\Den K F v x:=by
 unfold L2.atI at *;rw [h.len];cases q:ixN xs.length i with
 | none=>rw [q] at e; cases e
 | some j=>rw [q] at e; exact DenAll.at h e
end
end L2
namespace Pu
open PySem L2 My Prf
abbrev Frag:=PySem.W.Frag
inductive OT where
 | leaf (x:PyData) | nd (b:Bool) (a:Addr) (k:OT) | nil | cons (h t:OT)
def OT.fp:OT->List Addr
 | .leaf _=>[]
 | .nd _ a k=>a :: k.fp
 | .nil=>[]
 | .cons h t=>h.fp++t.fp
def OT.dat:OT->LP
 | .leaf x=>[x]
 | .nd true _ k=>[.list k.dat]
 | .nd false _ k=>[.tuple k.dat]
 | .nil=>[]
 | .cons h t=>h.dat++t.dat
inductive SV where
 | d (x:PyData) | own (xs:LP) | bor (xs:LP) | st | tr (t:OT) | bt (t:OT) | al (a:Addr)
def SV.foot (v:V):SV->Addr->Prop
 | .own _,a=>v=.ref a
 | .tr t,a=>a ∈ t.fp
 | _,_=>False
def SV.isRes:SV->Bool
 | .bor _=>false
 | .bt _=>false
 | .al _=>false
 | _=>true
abbrev PEnv:=List (Option SV)
structure Wd where
 M:Addr->Prop
 H:Hpp
 F:Hpp
structure Wd.Ok (w:Wd):Prop where
 sub:Same w.F w.H
 st:∀ p,w.M p->StAt w.H p
 nf:∀ p,w.M p->w.F p=none
structure Lw (w w':Wd):Prop where
 f:Same w.F w'.F
 h:∀ b o,w.H b=some o->¬ w.M b->w'.H b=some o
 m:∀ b,w.M b->w'.M b
 mn:∀ b,w'.M b->w.M b\/w.H b=none
 dom:∀ b,w'.H b=none->w.H b=none
structure Le (w w':Wd):Prop extends Lw w w' where
 n:∀ a o,w'.F a=some o->w.F a=some o\/w.H a=none
theorem Lw.refl (w:Wd):Lw w w:=⟨Same.refl _,fun _ _ h _=>h,fun _ h=>h,fun _ h=>.inl h,fun _ h=>h⟩
theorem Le.refl (w:Wd):Le w w:=⟨Lw.refl w,fun _ _ h=>.inl h⟩
theorem Lw.nm {w w':Wd} (a:Lw w w') {b:Addr} (h:w.H b≠none) (n:¬ w.M b):¬ w'.M b:=fun z=>(a.mn b z).elim n h
theorem Lw.trans {w w1 w2:Wd} (a:Lw w w1) (b:Lw w1 w2):Lw w w2 :=
 ⟨a.f.trans b.f,fun c o h n=>b.h c o (a.h c o h n) (a.nm (by rw [h]; simp) n),fun c h=>b.m c (a.m c h),
  fun c h=>(b.mn c h).elim (a.mn c) fun z=>.inr (a.dom c z),fun c h=>a.dom c (b.dom c h)⟩
theorem Le.trans {w w1 w2:Wd} (a:Le w w1) (b:Le w1 w2):Le w w2 :=
 ⟨a.toLw.trans b.toLw,fun c o h=>(b.n c o h).elim (a.n c o) fun z=>.inr (a.dom c z)⟩
theorem Le.fnone {w w':Wd} (a:Le w w') {l:Addr} (h:w.F l=none) (h':w.H l≠none):w'.F l=none:=by
  cases q:w'.F l with
  | none=>rfl
  | some o=>
   rcases a.n l o q with z | z
   · rw [h] at z; cases z
   · exact absurd z h'
structure Ct where
 K:Frag
 w0:Wd
 Z:Addr->Prop
def VV (K:Frag) (w:Wd) (v:V) (x:PyData):Prop:=Den K w.F v x\/∃ l vs xs,v=.ref l/\x=.list xs/\w.H l=some (.lst vs)/\¬ w.M l/\DenAll K w.F vs xs
def ho:Bool->List V->HO
 | true,vs=>.lst vs
 | false,vs=>.tup vs
def Tre (K:Frag) (w:Wd):OT->List V->Prop
 | .leaf x,vs=>∃ v,vs=[v]/\Den K w.F v x
 | .nd b a k,vs=>vs=[.ref a]/\∃ us,w.H a=some (ho b us)/\Tre K w k us
 | .nil,vs=>vs=[]
 | .cons h t,vs=>∃ v r,vs=v :: r/\Tre K w h [v]/\Tre K w t r
theorem Tre.mono {K:Frag} {w w':Wd} (a:Lw w w'):∀ {t:OT} {vs:List V},Tre K w t vs->(∀ a ∈ t.fp,¬ w.M a)->Tre K w' t vs
 | .leaf _,_,⟨v,e,h⟩,_=>⟨v,e,Den.same a.f h⟩
 | .nd _ p _,_,⟨e,us,h,k⟩,n=>⟨e,us,a.h _ _ h (n p (by simp [OT.fp])),Tre.mono a k fun q hq=>n q (by simp [OT.fp,hq])⟩
 | .nil,_,e,_=>e
 | .cons _ _,_,⟨v,r,e,h,t⟩,n=>⟨v,r,e,Tre.mono a h fun q hq=>n q (by simp [OT.fp,hq]),Tre.mono a t fun q hq=>n q (by simp [OT.fp,hq])⟩
theorem Tre.sameF {K:Frag} {M:Addr->Prop} {H F F':Hpp} (e:Same F F'):∀ {t:OT} {vs:List V},Tre K ⟨M,H,F⟩ t vs->Tre K ⟨M,H,F'⟩ t vs
 | .leaf _,_,⟨v,q,h⟩=>⟨v,q,Den.same e h⟩
 | .nd _ _ _,_,⟨q,us,h,k⟩=>⟨q,us,h,Tre.sameF e k⟩
 | .nil,_,q=>q
 | .cons _ _,_,⟨v,r,q,h,t⟩=>⟨v,r,q,Tre.sameF e h,Tre.sameF e t⟩
def VR (c:Ct) (w:Wd) (v:V):SV->Prop
 | .d x=>Den c.K w.F v x
 | .own xs=>∃ l vs,v=.ref l/\w.H l=some (.lst vs)/\w.F l=none/\¬ w.M l/\c.w0.H l=none/\DenAll c.K w.F vs xs
 | .bor xs=>Den c.K w.F v (.list xs)\/∃ l vs,v=.ref l/\c.w0.H l=some (.lst vs)/\¬ c.w0.M l/\DenAll c.K w.F vs xs
 | .st=>∃ p,v=.ref p/\w.M p
 | .tr t=>Tre c.K w t [v]/\(∀ a ∈ t.fp,w.H a≠none/\w.F a=none/\¬ w.M a/\c.w0.H a=none)/\t.fp.Nodup
 | .bt t=>Tre c.K ⟨c.w0.M,c.w0.H,w.F⟩ t [v]/\∀ a ∈ t.fp,¬ c.w0.M a
 | .al a=>v=.ref a
theorem A99 {H:Hpp} {p b:Addr} {o:HO} (h:upd H p o b=none):H b=none:=by
 unfold upd at h; split at h
 ·cases h
 ·exact h
theorem VR.foot {c:Ct} {w:Wd} {v:V} {a:Addr}:∀ {s:SV},VR c w v s->s.foot v a->w.H a≠none/\w.F a=none/\¬ w.M a/\c.w0.H a=none
 | .own _,⟨l,vs,e,h1,h2,h3,h4,_⟩,f=>by
  have:V.ref l=.ref a:=e.symm.trans f;cases this;exact ⟨by rw [h1]; simp,h2,h3,h4⟩
 | .tr _,h,f=>h.2.1 a f
theorem VV.mono {K:Frag} {w w':Wd} {v:V} {x:PyData} (a:Lw w w') (h:VV K w v x):VV K w' v x:=by
 rcases h with h | ⟨l,vs,xs,e,e',h1,h2,h3⟩
 ·exact .inl (Den.same a.f h)
 ·exact .inr ⟨l,vs,xs,e,e',a.h _ _ h1 h2,a.nm (by rw [h1]; simp) h2,DenAll.same a.f h3⟩
theorem VV.den {K:Frag} {w:Wd} {v:V} {x:PyData} (o:w.Ok) (h:VV K w v x):Den K w.H v x:=by
 rcases h with h | ⟨l,vs,xs,e,e',h1,h2,h3⟩
 ·exact Den.same o.sub h
 ·rw [e,e']; exact .lst (SqL.of h1) (DenAll.same o.sub h3)
theorem VR.mono {c:Ct} {w w':Wd} {v:V} (a:Le w w'):∀ {s:SV},VR c w v s->VR c w' v s
 | .d _,h=>Den.same a.f h
 | .own xs,⟨l,vs,e,h1,h2,h3,h4,h5⟩=>⟨l,vs,e,a.h _ _ h1 h3,a.fnone h2 (by rw [h1]; simp),a.nm (by rw [h1]; simp) h3,h4,DenAll.same a.f h5⟩
 | .bor xs,.inl h=>.inl (Den.same a.f h)
 | .bor xs,.inr ⟨l,vs,e,h1,h2,h3⟩=>.inr ⟨l,vs,e,h1,h2,DenAll.same a.f h3⟩
 | .st,⟨p,e,h⟩=>⟨p,e,a.m p h⟩
 | .bt t,⟨h,o⟩=>⟨h.sameF a.f,o⟩
 | .al _,h=>h
 | .tr t,⟨h,o,d⟩=>⟨h.mono a.toLw fun q hq=>(o q hq).2.2.1,fun q hq=>let ⟨h1,h2,h3,h4⟩:=o q hq; ⟨fun z=>h1 (a.dom q z),a.fnone h2 h1,a.nm h1 h3,h4⟩,d⟩
theorem Tre.writ {K:Frag} {w:Wd} {l:Addr} {us:List V}:∀ {t:OT} {vs:List V},Tre K w t vs->l ∉ t.fp->Tre K ⟨w.M,upd w.H l (.lst us),w.F⟩ t vs
 | .leaf _,_,h,_=>h
 | .nd _ p _,_,⟨e,ys,h,k⟩,n=>⟨e,ys,by show upd w.H l _ p=_; rw [D8 (fun z=>n (by simp [OT.fp,z]))]; exact h,Tre.writ k fun q=>n (by simp [OT.fp,q])⟩
 | .nil,_,e,_=>e
 | .cons _ _,_,⟨v,r,e,h,t⟩,n=>⟨v,r,e,Tre.writ h fun q=>n (by simp [OT.fp,q]),Tre.writ t fun q=>n (by simp [OT.fp,q])⟩
theorem VR.writ {c:Ct} {w:Wd} {v:V} {l:Addr} {us:List V} (hl:w.H l≠none):∀ {s:SV},VR c w v s->¬ s.foot v l->VR c ⟨w.M,upd w.H l (.lst us),w.F⟩ v s
 | .d _,h,_=>h
 | .own _,⟨l',vs,e,k1,k2,k3,k4,k5⟩,n=>⟨l',vs,e,by show upd w.H l _ l'=_; rw [D8 (fun z=>n (by rw [<- z]; exact e))]; exact k1,k2,k3,k4,k5⟩
 | .bor _,h,_=>h
 | .st,h,_=>h
 | .bt _,h,_=>h
 | .al _,h,_=>h
 | .tr _,⟨h,o,d⟩,n=>⟨h.writ n,fun a ha=>⟨fun z=>(o a ha).1 (A99 z),(o a ha).2⟩,d⟩
structure EnvOk (c:Ct) (w:Wd) (env:PEnv) (σ:St):Prop where
 wok:w.Ok
 le0:Le c.w0 w
 len:env.length=σ.length
 at':∀ (i:Nat) s,env[i]?=some (some s)->∃ v,σ[i]?=some (some v)/\VR c w v s
 own:∀ (i j:Nat) s t v u a,env[i]?=some (some s)->env[j]?=some (some t)->σ[i]?=some (some v)->σ[j]?=some (some u)->s.foot v a->t.foot u a->i=j
 zf:∀ a,c.Z a->w.F a=none/\w.H a≠none/\¬ w.M a
 zo:∀ a (j:Nat) t u,c.Z a->env[j]?=some (some t)->σ[j]?=some (some u)->¬ t.foot u a
def New (c:Ct) (env:PEnv) (σ:St) (v:V) (s:SV):Prop:=∀ a,s.foot v a->(∀ (j:Nat) t u,env[j]?=some (some t)->σ[j]?=some (some u)->¬ t.foot u a)/\¬ c.Z a
theorem EnvOk.look {c:Ct} {w:Wd} {env:PEnv} {σ:St} (E:EnvOk c w env σ) {j:Nat} {t:SV} {u:V} (h:env[j]?=some (some t)) (hu:σ[j]?=some (some u)):VR c w u t:=by
 obtain ⟨v,h1,h2⟩:=E.at' j t h;rw [hu] at h1; cases h1; exact h2
theorem EnvOk.fresh {c:Ct} {w:Wd} {env:PEnv} {σ:St} (E:EnvOk c w env σ) {p:Addr} (hp:w.H p=none):(∀ (j:Nat) t u,env[j]?=some (some t)->σ[j]?=some (some u)->¬ t.foot u p)/\¬ c.Z p :=
 ⟨fun _ _ _ h hu f=>((E.look h hu).foot f).1 hp,fun z=>(E.zf p z).2.1 hp⟩
theorem Lw.hsome {w w':Wd} (a:Lw w w') {l:Addr} (h:w.H l≠none):w'.H l≠none:=fun z=>h (a.dom l z)
theorem EnvOk.mono {c:Ct} {w w':Wd} {env:PEnv} {σ:St} (E:EnvOk c w env σ) (ok:w'.Ok) (a:Le w w'):EnvOk c w' env σ :=
 ⟨ok,E.le0.trans a,E.len,fun i s e=>let ⟨v,h1,h2⟩:=E.at' i s e; ⟨v,h1,h2.mono a⟩,E.own,fun b z=>let ⟨h1,h2,h3⟩:=E.zf b z; ⟨a.fnone h1 h2,a.hsome h2,a.nm h2 h3⟩,E.zo⟩
structure Res (c:Ct) (w:Wd) (env:PEnv) (σ:St) (w':Wd) (v:V) (s:SV):Prop where
 ev:EnvOk c w' env σ
 lw:Lw w w'
 val:VR c w' v s
 new:New c env σ v s
 res:s.isRes=true
theorem Res.data {c:Ct} {w:Wd} {env:PEnv} {σ:St} {v:V} {x:PyData} (E:EnvOk c w env σ) (h:Den c.K w.F v x):Res c w env σ w v (.d x) :=
 ⟨E,Lw.refl w,h,fun _ e=>(nomatch e),rfl⟩
def Wd.tup (w:Wd) (p:Addr) (o:HO):Wd:=⟨w.M,upd w.H p o,upd w.F p o⟩
def Wd.lay (w:Wd) (p:Addr) (o:HO):Wd:=⟨w.M,upd w.H p o,w.F⟩
theorem Wd.Ok.fnone {w:Wd} (o:w.Ok) {p:Addr} (h:w.H p=none):w.F p=none:=by
 cases q:w.F p with
 | none=>rfl
 | some u=>have:=o.sub p u q; rw [h] at this; cases this
theorem Wd.Ok.mne {w:Wd} (o:w.Ok) {p q:Addr} (h:w.H p=none) (hq:w.M q):q≠p:=by
 obtain ⟨c,m,f,e,_⟩:=(o.st q hq).ex;exact F5 e h
theorem N3 {H:Hpp} {p b:Addr} {o:HO} (h:upd H p o b=none):H b=none:=by
 unfold upd at h; split at h
 ·cases h
 ·exact h
theorem Wd.tup_ok {w:Wd} {p:Addr} {o:HO} (ok:w.Ok) (h:w.H p=none):(w.tup p o).Ok :=
 ⟨fun b u e=>by
  show upd w.H p o b=some u;have e':upd w.F p o b=some u:=e;unfold upd at e' ⊢;split at e'
  ·rename_i z; rw [if_pos z]; exact e'
  ·rename_i z; rw [if_neg z]; exact ok.sub b u e',
  fun q hq=>(ok.st q hq).same (Same.upd h),fun q hq=>by
  show upd w.F p o q=none;rw [D8 (ok.mne h hq)]; exact ok.nf q hq⟩
theorem Wd.lay_ok {w:Wd} {p:Addr} {o:HO} (ok:w.Ok) (h:w.H p=none):(w.lay p o).Ok :=
 ⟨ok.sub.trans (Same.upd h),fun q hq=>(ok.st q hq).same (Same.upd h),ok.nf⟩
theorem Wd.tup_le {w:Wd} {p:Addr} {o:HO} (ok:w.Ok) (h:w.H p=none):Le w (w.tup p o) :=
 ⟨⟨Same.upd (ok.fnone h),fun b u e _=>Same.upd h b u e,fun _ z=>z,fun _ z=>.inl z,fun b z=>N3 z⟩,fun a u e=>by
  have e':upd w.F p o a=some u:=e;unfold upd at e';split at e'
  ·rename_i z; rw [z]; exact .inr h
  ·exact .inl e'⟩
theorem Wd.lay_le {w:Wd} {p:Addr} {o:HO} (h:w.H p=none):Le w (w.lay p o) :=
 ⟨⟨Same.refl _,fun b u e _=>Same.upd h b u e,fun _ z=>z,fun _ z=>.inl z,fun b z=>N3 z⟩,fun a u e=>.inl e⟩
theorem Res.tup {c:Ct} {w:Wd} {env:PEnv} {σ:St} {p:Addr} {vs:List V} {xs:LP} (E:EnvOk c w env σ) (h:w.H p=none) (hd:DenAll c.K w.F vs xs):Res c w env σ (w.tup p (.tup vs)) (.ref p) (.d (.tuple xs)) :=
 ⟨E.mono (Wd.tup_ok E.wok h) (Wd.tup_le E.wok h),(Wd.tup_le E.wok h).toLw,.tup (SqT.of D5) (DenAll.same (Wd.tup_le E.wok h).f hd),fun _ e=>(nomatch e),rfl⟩
theorem Res.lst {c:Ct} {w:Wd} {env:PEnv} {σ:St} {p:Addr} {vs:List V} {xs:LP} (E:EnvOk c w env σ) (h:w.H p=none) (hd:DenAll c.K w.F vs xs):Res c w env σ (w.lay p (.lst vs)) (.ref p) (.own xs) :=
 ⟨E.mono (Wd.lay_ok E.wok h) (Wd.lay_le h),(Wd.lay_le h).toLw,⟨p,vs,rfl,D5,E.wok.fnone h,fun z=>E.wok.mne h z rfl,E.le0.dom p h,hd⟩,
  fun a f=>(by
  have:V.ref p=.ref a:=f;cases this;exact E.fresh h),rfl⟩
theorem Res.frz {c:Ct} {w w1:Wd} {env:PEnv} {σ:St} {v:V} {xs:LP} (R:Res c w env σ w1 v (.own xs)):∃ w',w'.H=w1.H/\EnvOk c w' env σ/\Lw w w'/\Den c.K w'.F v (.list xs):=by
 obtain ⟨E,lw,⟨l,vs,e,h1,h2,h3,h4,h5⟩,new,_⟩:=R;subst e;obtain ⟨n1,n2⟩:=new l rfl;have up:Same w1.F (upd w1.F l (.lst vs)):=Same.upd h2;have lw':Lw w1 ⟨w1.M,w1.H,upd w1.F l (.lst vs)⟩:=⟨up,fun _ _ h _=>h,fun _ h=>h,fun _ h=>.inl h,fun _ h=>h⟩;refine ⟨⟨w1.M,w1.H,upd w1.F l (.lst vs)⟩,rfl,⟨⟨fun b u q=>?_,E.wok.st,fun p hp=>?_⟩,⟨E.le0.toLw.trans lw',fun a u q=>?_⟩,E.len,fun i s q=>?_,E.own,fun a za=>?_,E.zo⟩,lw.trans lw',.lst (SqL.of D5) (DenAll.same up h5)⟩
 ·have q':upd w1.F l (.lst vs) b=some u:=q;unfold upd at q';split at q'
  ·rename_i z; rw [z]; exact h1.trans q'
  ·exact E.wok.sub b u q'
 ·show upd w1.F l (.lst vs) p=none;rw [D8 (fun z=>h3 (by rw [<- z]; exact hp))]; exact E.wok.nf p hp
 ·have q':upd w1.F l (.lst vs) a=some u:=q;unfold upd at q';split at q'
  ·rename_i z; rw [z]; exact .inr h4
  ·exact E.le0.n a u q'
 ·obtain ⟨v,g1,g2⟩:=E.at' i s q;refine ⟨v,g1,?_⟩;cases s with
  | d x=>exact Den.same up g2
  | own ys =>
   obtain ⟨l',us,e',k1,k2,k3,k4,k5⟩:=g2;subst e';refine ⟨l',us,rfl,k1,?_,k3,k4,DenAll.same up k5⟩;show upd w1.F l (.lst vs) l'=none;rw [D8 (fun z=>n1 i _ _ q g1 (by subst z; rfl))]; exact k2
  | bor ys =>
   rcases g2 with g | ⟨l',us,e',k1,k2,k3⟩
   ·exact .inl (Den.same up g)
   ·exact .inr ⟨l',us,e',k1,k2,DenAll.same up k3⟩
  | st=>exact g2
  | bt t=>exact ⟨g2.1.sameF up,g2.2⟩
  | al a=>exact g2
  | tr t =>
   obtain ⟨k1,k2,k3⟩:=g2;refine ⟨k1.mono lw' fun p hp=>(k2 p hp).2.2.1,fun p hp=>⟨(k2 p hp).1,?_,(k2 p hp).2.2⟩,k3⟩;show upd w1.F l (.lst vs) p=none;rw [D8 (fun z=>n1 i _ _ q g1 (by subst z; exact hp))]; exact (k2 p hp).2.1
 ·obtain ⟨z1,z2,z3⟩:=E.zf a za;refine ⟨?_,z2,z3⟩;show upd w1.F l (.lst vs) a=none;rw [D8 (fun z=>n2 (by subst z; exact za))]; exact z1
theorem EnvOk.set {c:Ct} {w:Wd} {env:PEnv} {σ:St} {v:V} {s:SV} {i:Nat} (E:EnvOk c w env σ) (h:VR c w v s) (new:New c env σ v s) :
  EnvOk c w (env.set i (some s)) (σ.set i (some v)):=by
 have hl:=E.len;have hd:∀ {j:Nat} {t:SV} {u:V},(env.set i (some s))[j]?=some (some t)->(σ.set i (some v))[j]?=some (some u)->(i=j/\t=s/\u=v)\/(i≠j/\env[j]?=some (some t)/\σ[j]?=some (some u)):=by
  intro j t u q q';rw [List.getElem?_set] at q q';by_cases e:i=j
  ·subst e;rw [if_pos rfl] at q q';split at q
   ·rename_i z;rw [if_pos (by omega)] at q';cases q; cases q'; exact .inl ⟨rfl,rfl,rfl⟩
   ·cases q
  ·rw [if_neg e] at q q';exact .inr ⟨e,q,q'⟩
 refine ⟨E.wok,E.le0,by simpa using hl,fun j t q=>?_,fun j k s1 t1 v1 u1 a q1 q2 q3 q4 f1 f2=>?_,E.zf,fun a j t u za q q'=>?_⟩
 ·rw [List.getElem?_set] at q ⊢;by_cases e:i=j
  ·subst e;rw [if_pos rfl] at q ⊢;split at q
   ·rename_i z;rw [if_pos (by omega)];cases q;exact ⟨v,rfl,h⟩
   ·cases q
  ·rw [if_neg e] at q ⊢;exact E.at' j t q
 ·rcases hd q1 q3 with ⟨e1,rfl,rfl⟩ | ⟨e1,p1,p3⟩
  ·rcases hd q2 q4 with ⟨e2,rfl,rfl⟩ | ⟨e2,q2,q4⟩
   ·exact e1.symm.trans e2
   ·exact absurd f2 ((new a f1).1 k _ _ q2 q4)
  ·rcases hd q2 q4 with ⟨e2,rfl,rfl⟩ | ⟨e2,p2,p4⟩
   ·exact absurd f1 ((new a f2).1 j _ _ p1 p3)
   ·exact E.own j k _ _ _ _ a p1 p2 p3 p4 f1 f2
 ·rcases hd q q' with ⟨_,rfl,rfl⟩ | ⟨_,q,q'⟩
  ·exact fun f=>(new a f).2 za
  ·exact E.zo a j t u za q q'
end Pu
namespace Pu
open PySem L2 My Prf
abbrev PX:=PEnv->(SV->PEnv->Prop)->Prop
abbrev PDt:=PEnv->(PyData->PEnv->Prop)->Prop
abbrev PTt:=PEnv->(Bool->PEnv->Prop)->Prop
abbrev PAr:=PEnv->(LP->PEnv->Prop)->Prop
abbrev PAs:=PEnv->(List SV->PEnv->Prop)->Prop
theorem Res.pre {c:Ct} {w w1 w2:Wd} {env:PEnv} {σ:St} {v:V} {s:SV} (a:Lw w w1) (R:Res c w1 env σ w2 v s):Res c w env σ w2 v s:=⟨R.ev,a.trans R.lw,R.val,R.new,R.res⟩
class RE (K:Frag) (te:TE) (pe:outParam PX):Prop where
 ok:∀ (c:Ct) (w:Wd) (env:PEnv) (σ:St) (Qp:SV->PEnv->Prop) (Q:VK),c.K=K->EnvOk c w env σ->pe env Qp->(∀ v s env' w',Res c w env' σ w' v s->Qp s env'->Q v w'.H)->te σ w.H Q
class RD (K:Frag) (te:TE) (pd:outParam PDt):Prop where
 ok:∀ (c:Ct) (w:Wd) (env:PEnv) (σ:St) (Qp:PyData->PEnv->Prop) (Q:VK),c.K=K->EnvOk c w env σ->pd env Qp->(∀ v x env' w',EnvOk c w' env' σ->Lw w w'->Den K w'.F v x->Qp x env'->Q v w'.H)->te σ w.H Q
class RW (K:Frag) (te:TE) (pd:outParam PDt):Prop where
 ok:∀ (c:Ct) (w:Wd) (env:PEnv) (σ:St) (Qp:PyData->PEnv->Prop) (Q:VK),c.K=K->EnvOk c w env σ->pd env Qp->(∀ v x env' w',EnvOk c w' env' σ->Lw w w'->VV K w' v x->Qp x env'->Q v w'.H)->te σ w.H Q
def SV.asD (s:SV) (k:PyData->Prop):Prop:=match s with
 | .d x=>k x
 | .own xs=>k (.list xs)
 | _=>False
def pdat (pe:PX) (env:PEnv) (Q:PyData->PEnv->Prop):Prop:=pe env fun s e=>s.asD fun x=>Q x e
instance rd_of {K:Frag} {te:TE} {pe:PX} [h:RE K te pe]:RD K te (pdat pe) where
 ok:=by
  rintro c w env σ Qp Q rfl E p k;refine h.ok c w env σ _ Q rfl E p fun v s env' w' R q=>?_;cases s with
  | d x=>exact k v x env' w' R.ev R.lw R.val q
  | own xs =>
   obtain ⟨w2,e,E2,l2,d2⟩:=R.frz;rw [<- e];exact k v _ env' w2 E2 l2 d2 q
  | bor xs=>exact (show False from q).elim
  | st=>exact (show False from q).elim
  | tr t=>exact (show False from q).elim
  | bt t=>exact (show False from q).elim
  | al t=>exact (show False from q).elim
instance (priority:=low) rw_of {K:Frag} {te:TE} {pd:PDt} [h:RD K te pd]:RW K te pd where
 ok:=fun c w env σ Qp Q e E p k=>h.ok c w env σ Qp Q e E p fun v x env' w' E' l d q=>k v x env' w' E' l (.inl d) q
def pVar (i:Nat) (env:PEnv) (Q:SV->PEnv->Prop):Prop:=match env[i]? with
 | some (some (.d x))=>Q (.d x) env
 | some (some (.own xs))=>Q (.d (.list xs)) (env.set i (some (.d (.list xs))))
 | some (some .st)=>Q .st env
 | _=>False
def A42 (i:Nat) (env:PEnv) (Q:PyData->PEnv->Prop):Prop:=match env[i]? with
 | some (some (.d x))=>Q x env
 | some (some (.own xs))=>Q (.list xs) env
 | some (some (.bor xs))=>Q (.list xs) env
 | _=>False
theorem EnvOk.frz {c:Ct} {w:Wd} {env:PEnv} {σ:St} {i:Nat} {xs:LP} (E:EnvOk c w env σ) (h:env[i]?=some (some (.own xs))) :
  ∃ w' v,w'.H=w.H/\σ[i]?=some (some v)/\EnvOk c w' (env.set i (some (.d (.list xs)))) σ/\Lw w w'/\Den c.K w'.F v (.list xs):=by
 obtain ⟨v,hv,hV⟩:=E.at' i _ h;have hV':=hV;obtain ⟨l,vs,e,h1,h2,h3,h4,h5⟩:=hV';have up:∀ {j:Nat} {t:SV},(env.set i none)[j]?=some (some t)->i≠j/\env[j]?=some (some t):=by
  intro j t q;rw [List.getElem?_set] at q;split at q
  ·split at q <;> cases q
  ·rename_i z; exact ⟨z,q⟩
 have E':EnvOk c w (env.set i none) σ:=⟨E.wok,E.le0,by simpa using E.len,fun j s q=>E.at' j s (up q).2,fun j k s t v u a q1 q2=>E.own j k s t v u a (up q1).2 (up q2).2,E.zf,fun a j t u za q=>E.zo a j t u za (up q).2⟩;have R:Res c w (env.set i none) σ w v (.own xs):=⟨E',Lw.refl w,hV,fun a f=>⟨fun j t u q z g=>(up q).1 (E.own i j _ _ _ _ a h (up q).2 hv z f g),fun za=>E.zo a i _ _ za h hv f⟩,rfl⟩;obtain ⟨w',e',E2,l2,d2⟩:=R.frz;refine ⟨w',v,e',hv,?_,l2,d2⟩;have E3:=E2.set (i:=i) (v:=v) (s:=.d (.list xs)) d2 (fun _ z=>nomatch z);rw [List.set_set] at E3;have hi:i < σ.length:=(List.getElem?_eq_some_iff.mp hv).1
 rwa [show σ.set i (some v)=σ by
  refine List.ext_getElem? fun j=>?_;rw [List.getElem?_set];split
  ·rename_i z; subst z; simp [hv]
  ·rfl] at E3
instance re_var {K:Frag} {i:Nat}:RE K (tVar i) (pVar i) where
 ok:=by
  rintro c w env σ Qp Q rfl E p k;unfold pVar at p;split at p
  ·rename_i x e;obtain ⟨v,h1,h2⟩:=E.at' i _ e;exact ⟨v,h1,k v _ env w (Res.data E h2) p⟩
  ·rename_i xs e;obtain ⟨w',v,e',hv,E',l,d⟩:=E.frz e;refine ⟨v,hv,?_⟩;rw [<- e'];exact k v (.d (.list xs)) _ w' ⟨E',l,d,fun _ z=>(nomatch z),rfl⟩ p
  ·rename_i e;obtain ⟨v,h1,h2⟩:=E.at' i _ e;exact ⟨v,h1,k v _ env w ⟨E,Lw.refl w,h2,fun _ z=>(nomatch z),rfl⟩ p⟩
  ·exact p.elim
theorem VR.vv {c:Ct} {w:Wd} {v:V} {xs:LP} (l:Le c.w0 w) (h:VR c w v (.bor xs)):VV c.K w v (.list xs):=by
 rcases h with h | ⟨l',vs,e,h1,h2,h3⟩
 ·exact .inl h
 ·exact .inr ⟨l',vs,xs,e,rfl,l.h _ _ h1 h2,l.nm (by rw [h1]; simp) h2,h3⟩
instance rw_var {K:Frag} {i:Nat}:RW K (tVar i) (A42 i) where
 ok:=by
  rintro c w env σ Qp Q rfl E p k;unfold A42 at p;split at p
  ·rename_i x e;obtain ⟨v,h1,h2⟩:=E.at' i _ e;exact ⟨v,h1,k v _ env w E (Lw.refl w) (.inl h2) p⟩
  ·rename_i xs e;obtain ⟨v,h1,l,vs,e',g1,g2,g3,g4,g5⟩:=E.at' i _ e;exact ⟨v,h1,k v _ env w E (Lw.refl w) (.inr ⟨l,vs,xs,e',rfl,g1,g3,g5⟩) p⟩
  ·rename_i xs e;obtain ⟨v,h1,h2⟩:=E.at' i _ e;exact ⟨v,h1,k v _ env w E (Lw.refl w) (h2.vv E.le0) p⟩
  ·exact p.elim
def pC (x:PyData) (env:PEnv) (Q:SV->PEnv->Prop):Prop:=Q (.d x) env
theorem Q4 {K:Frag} {v:V} {x:PyData} (h:∀ F,Den K F v x):RE K (tC v) (pC x) where
 ok:=by
  rintro c w env σ Qp Q rfl E p k;exact k _ _ env w (Res.data E (h _)) p
instance re_int {K:Frag} {i:Int}:RE K (tC (.int i)) (pC (.int i)):=Q4 fun _=>.int i
instance re_bl {K:Frag} {b:Bool}:RE K (tC (.bl b)) (pC (.bool b)):=Q4 fun _=>.bl b
instance re_non {K:Frag}:RE K (tC .non) (pC .none):=Q4 fun _=>.non
instance re_str {K:Frag} {x:Str}:RE K (tC (.str x)) (pC (.str x)):=Q4 fun _=>.str x
class GD (K:Frag) (a:Addr) (x:outParam PyData):Prop where
 ok:∀ F,Den K F (.ref a) x
instance re_glob {K:Frag} {a:Addr} {x:PyData} [h:GD K a x]:RE K (tC (.ref a)) (pC x):=Q4 h.ok
class RO (K:Frag) (r:R2) (pr:outParam (PyData->PyData->(SV->Prop)->Prop)):Prop where
 ok:∀ (c:Ct) (w:Wd) (env:PEnv) (σ:St) (x y:V) (dx dy:PyData) (Qp:SV->Prop) (Q:VK),c.K=K->EnvOk c w env σ->VV K w x dx->VV K w y dy->pr dx dy Qp->(∀ v s w',Res c w env σ w' v s->Qp s->Q v w'.H)->r x y w.H Q
def pOp (pr:PyData->PyData->(SV->Prop)->Prop) (pa pb:PDt) (env:PEnv) (Q:SV->PEnv->Prop):Prop:=pa env fun x e1=>pb e1 fun y e2=>pr x y fun s=>Q s e2
instance re_op {K:Frag} {r:R2} {ta tb:TE} {pr:PyData->PyData->(SV->Prop)->Prop} {pa pb:PDt} [h:RO K r pr] [ha:RW K ta pa] [hb:RW K tb pb]:RE K (tOp r ta tb) (pOp pr pa pb) where
 ok:=by
  rintro c w env σ Qp Q rfl E p k;refine ha.ok c w env σ _ _ rfl E p fun x dx e1 w1 E1 l1 v1 q1=>?_;refine hb.ok c w1 e1 σ _ _ rfl E1 q1 fun y dy e2 w2 E2 l2 v2 q2=>?_;exact h.ok c w2 e2 σ x y dx dy _ _ rfl E2 (v1.mono l2) v2 q2 fun v s w' R q=>k v s e2 w' (R.pre (l1.trans l2)) q
class SG (g:Int->Int->V) (gd:outParam (Int->Int->PyData)):Prop where
 ok:∀ i j K F,Den K F (g i j) (gd i j)
instance sg_int {f:Int->Int->Int}:SG (fun i j=>.int (f i j)) (fun i j=>.int (f i j)):=⟨fun _ _ _ _=>.int _⟩
instance sg_bl {f:Int->Int->Bool}:SG (fun i j=>.bl (f i j)) (fun i j=>.bool (f i j)):=⟨fun _ _ _ _=>.bl _⟩
def pI (C:Int->Int->Prop) (gd:Int->Int->PyData) (x y:PyData) (Q:SV->Prop):Prop:=match x,y with
 | .int i,.int j=>C i j/\Q (.d (gd i j))
 | _,_=>False
def pI0 (gd:Int->Int->PyData) (x y:PyData) (Q:SV->Prop):Prop:=match x,y with
 | .int i,.int j=>Q (.d (gd i j))
 | _,_=>False
theorem VV.intE {K:Frag} {w:Wd} {v:V} {i:Int} (h:VV K w v (.int i)):v=.int i:=by
 rcases h with h | ⟨l,vs,xs,e,e',_⟩
 ·exact h.intE
 ·cases e'
theorem VV.blE {K:Frag} {w:Wd} {v:V} {b:Bool} (h:VV K w v (.bool b)):v=.bl b:=by
 rcases h with h | ⟨l,vs,xs,e,e',_⟩
 ·exact h.blE
 ·cases e'
instance ro_I {K:Frag} {C:Int->Int->Prop} {g:Int->Int->V} {gd:Int->Int->PyData} [s:SG g gd]:RO K (rI C g) (pI C gd) where
 ok:=by
  rintro c w env σ x y dx dy Qp Q rfl E vx vy p k;unfold pI at p;split at p
  ·rename_i i j;exact ⟨i,j,vx.intE,vy.intE,p.1,k _ _ w (Res.data E (s.ok i j _ _)) p.2⟩
  ·exact p.elim
instance ro_I0 {K:Frag} {g:Int->Int->V} {gd:Int->Int->PyData} [s:SG g gd]:RO K (rI0 g) (pI0 gd) where
 ok:=by
  rintro c w env σ x y dx dy Qp Q rfl E vx vy p k;unfold pI0 at p;split at p
  ·rename_i i j;exact ⟨i,j,vx.intE,vy.intE,k _ _ w (Res.data E (s.ok i j _ _)) p⟩
  ·exact p.elim
def pEqD (x y:PyData) (Q:SV->Prop):Prop:=x.canLay0=true/\y.canLay0=true/\x.depth<=60/\Q (.d (.bool (PyData.eqv x y)))
def pNeD (x y:PyData) (Q:SV->Prop):Prop:=x.canLay0=true/\y.canLay0=true/\x.depth<=60/\Q (.d (.bool (!PyData.eqv x y)))
def isNo:PyData->Bool
 | .none=>true
 | _=>false
def rIsN:R2:=fun x y H Q=>y=.non/\Q (.bl (decide (x=.non))) H
def B6w:R2:=fun x y H Q=>y=.non/\Q (.bl (!decide (x=.non))) H
theorem A2m {X:Cx}:OpR X (compareOp .Is) rIsN:=B7u
theorem T5 {X:Cx}:OpR X (compareOp .IsNot) B6w:=B49
theorem Den.no {K:Frag} {F:Hpp} {v:V} {x:PyData} (h:Den K F v x):decide (v=.non)=isNo x:=by cases h <;> rfl
theorem VV.no {K:Frag} {w:Wd} {v:V} {x:PyData} (h:VV K w v x):decide (v=.non)=isNo x:=by
 rcases h with h | ⟨l,vs,xs,e,e',_⟩
 ·exact Den.no h
 ·subst e; subst e'; rfl
def pIsN (x y:PyData) (Q:SV->Prop):Prop:=y=.none/\Q (.d (.bool (isNo x)))
def B4x (x y:PyData) (Q:SV->Prop):Prop:=y=.none/\Q (.d (.bool (!isNo x)))
theorem VV.nonE {K:Frag} {w:Wd} {v:V} (h:VV K w v .none):v=.non:=by
 rcases h with h | ⟨l,vs,xs,e,e',_⟩
 ·exact h.nonE
 ·cases e'
instance ro_isN {K:Frag}:RO K rIsN pIsN where
 ok:=by
  rintro c w env σ x y dx dy Qp Q rfl E vx vy ⟨rfl,p⟩ k;refine ⟨vy.nonE,k _ _ w (Res.data E ?_) p⟩;rw [vx.no]; exact .bl _
instance ro_notN {K:Frag}:RO K B6w B4x where
 ok:=by
  rintro c w env σ x y dx dy Qp Q rfl E vx vy ⟨rfl,p⟩ k;refine ⟨vy.nonE,k _ _ w (Res.data E ?_) p⟩;rw [vx.no]; exact .bl _
def pGet (xs:LP) (i:Int) (Q:SV->Prop):Prop:=match atI xs i with
 | some z=>Q (.d z)
 | none=>False
def pIx (x y:PyData) (Q:SV->Prop):Prop:=match x,y with
 | .list xs,.int i=>pGet xs i Q
 | .tuple xs,.int i=>pGet xs i Q
 | _,_=>False
theorem VV.lst {K:Frag} {w:Wd} {v:V} {xs:LP} (o:w.Ok) (h:VV K w v (.list xs)):∃ a vs,v=.ref a/\SqL K w.H a vs/\DenAll K w.F vs xs:=by
 rcases h with h | ⟨l,vs,ys,e,e',h1,h2,h3⟩
 ·obtain ⟨a,vs,e,h1,h2⟩:=h.lstE;exact ⟨a,vs,e,o.sub.seq h1,h2⟩
 ·cases e'; exact ⟨l,vs,e,SqL.of h1,h3⟩
theorem VV.tup {K:Frag} {w:Wd} {v:V} {xs:LP} (o:w.Ok) (h:VV K w v (.tuple xs)):∃ a vs,v=.ref a/\SqT K w.H a vs/\DenAll K w.F vs xs:=by
 rcases h with h | ⟨l,vs,ys,e,e',h1,h2,h3⟩
 ·obtain ⟨a,vs,e,h1,h2⟩:=h.tupE;exact ⟨a,vs,e,SqT.same o.sub h1,h2⟩
 ·cases e'
instance ro_ix {K:Frag}:RO K (rIx K) pIx where
 ok:=by
  rintro c w env σ x y dx dy Qp Q rfl E vx vy p k;unfold pIx at p;split at p
  ·rename_i xs i;unfold pGet at p;split at p
   ·rename_i z hz;obtain ⟨a,vs,e,h1,h2⟩:=vx.lst E.wok;obtain ⟨v,g1,g2⟩:=h2.atIE hz;exact .inl ⟨a,vs,i,v,e,vy.intE,h1,g1,k _ _ w (Res.data E g2) p⟩
   ·exact p.elim
  ·rename_i xs i;unfold pGet at p;split at p
   ·rename_i z hz;obtain ⟨a,vs,e,h1,h2⟩:=vx.tup E.wok;obtain ⟨v,g1,g2⟩:=h2.atIE hz;exact .inr (.inl ⟨a,vs,i,v,e,vy.intE,h1,g1,k _ _ w (Res.data E g2) p⟩)
   ·exact p.elim
  ·exact p.elim
theorem A6 {X:Cx} {K:Frag} (h:X.K=K):IxR X (rIx K):=by subst h; exact B8r
def pU (gd:Int->PyData) (x:PyData) (Q:SV->Prop):Prop:=match x with
 | .int i=>Q (.d (gd i))
 | _=>False
def pUn (f:PyData->(SV->Prop)->Prop) (pa:PDt) (env:PEnv) (Q:SV->PEnv->Prop):Prop:=pa env fun x e=>f x fun s=>Q s e
instance re_neg {K:Frag} {ta:TE} {pa:PDt} {f:Int->Int} [ha:RW K ta pa]:RE K (tUn (rU fun i=>.int (f i)) ta) (pUn (pU fun i=>.int (f i)) pa) where
 ok:=by
  rintro c w env σ Qp Q rfl E p k;refine ha.ok c w env σ _ _ rfl E p fun x dx e1 w1 E1 l1 v1 q1=>?_;unfold pU at q1;split at q1
  ·rename_i i;exact ⟨i,v1.intE,k _ _ e1 w1 ((Res.data E1 (.int _)).pre l1) q1⟩
  ·exact q1.elim
inductive VVs (K:Frag) (w:Wd):List V->LP->Prop
 | nil:VVs K w [] []
 | cons {v:V} {x:PyData} {vs:List V} {xs:LP}:VV K w v x->VVs K w vs xs->VVs K w (v :: vs) (x :: xs)
class RAv (K:Frag) (ta:TA) (pa:outParam PAr):Prop where
 ok:∀ (c:Ct) (w:Wd) (env:PEnv) (σ:St) (Qp:LP->PEnv->Prop) (Q:List V->Hpp->Prop),c.K=K->EnvOk c w env σ->pa env Qp->(∀ vs xs env' w',EnvOk c w' env' σ->Lw w w'->VVs K w' vs xs->Qp xs env'->Q vs w'.H)->ta σ w.H Q
class RAd (K:Frag) (ta:TA) (pa:outParam PAr):Prop where
 ok:∀ (c:Ct) (w:Wd) (env:PEnv) (σ:St) (Qp:LP->PEnv->Prop) (Q:List V->Hpp->Prop),c.K=K->EnvOk c w env σ->pa env Qp->(∀ vs xs env' w',EnvOk c w' env' σ->Lw w w'->DenAll K w'.F vs xs->Qp xs env'->Q vs w'.H)->ta σ w.H Q
def pNil (env:PEnv) (Q:LP->PEnv->Prop):Prop:=Q [] env
def J3 (pa:PDt) (pr:PAr) (env:PEnv) (Q:LP->PEnv->Prop):Prop:=pa env fun x e1=>pr e1 fun xs e2=>Q (x :: xs) e2
instance rav_nil {K:Frag}:RAv K tNil pNil:=⟨fun c w env σ Qp Q _ E p k=>k [] [] env w E (Lw.refl w) .nil p⟩
instance rad_nil {K:Frag}:RAd K tNil pNil:=⟨fun c w env σ Qp Q _ E p k=>k [] [] env w E (Lw.refl w) .nil p⟩
instance rav_cons {K:Frag} {ta:TE} {tr:TA} {pa:PDt} {pr:PAr} [ha:RW K ta pa] [hr:RAv K tr pr]:RAv K (L9 ta tr) (J3 pa pr) where
 ok:=by
  rintro c w env σ Qp Q rfl E p k;refine ha.ok c w env σ _ _ rfl E p fun x dx e1 w1 E1 l1 v1 q1=>?_;refine hr.ok c w1 e1 σ _ _ rfl E1 q1 fun vs xs e2 w2 E2 l2 v2 q2=>?_;exact k _ _ e2 w2 E2 (l1.trans l2) (.cons (v1.mono l2) v2) q2
instance rad_cons {K:Frag} {ta:TE} {tr:TA} {pa:PDt} {pr:PAr} [ha:RD K ta pa] [hr:RAd K tr pr]:RAd K (L9 ta tr) (J3 pa pr) where
 ok:=by
  rintro c w env σ Qp Q rfl E p k;refine ha.ok c w env σ _ _ rfl E p fun x dx e1 w1 E1 l1 v1 q1=>?_;refine hr.ok c w1 e1 σ _ _ rfl E1 q1 fun vs xs e2 w2 E2 l2 v2 q2=>?_;exact k _ _ e2 w2 E2 (l1.trans l2) (.cons (Den.same l2.f v1) v2) q2
def pTup (pa:PAr) (env:PEnv) (Q:SV->PEnv->Prop):Prop:=pa env fun xs e=>xs.length<=1000/\Q (.d (.tuple xs)) e
def pLst (pa:PAr) (env:PEnv) (Q:SV->PEnv->Prop):Prop:=pa env fun xs e=>xs.length<=1000/\Q (.own xs) e
instance re_tup {K:Frag} {ta:TA} {pa:PAr} [ha:RAd K ta pa]:RE K (tTup ta) (pTup pa) where
 ok:=by
  rintro c w env σ Qp Q rfl E p k;refine ha.ok c w env σ _ _ rfl E p fun vs xs e1 w1 E1 l1 v1 q1=>⟨?_,fun p hp=>?_⟩
  ·rw [v1.len]; exact Nat.le_of_lt (U1 q1.1)
  ·exact k _ _ e1 _ ((Res.tup E1 hp v1).pre l1) q1.2
instance re_lst {K:Frag} {ta:TA} {pa:PAr} [ha:RAd K ta pa]:RE K (tLst ta) (pLst pa) where
 ok:=by
  rintro c w env σ Qp Q rfl E p k;refine ha.ok c w env σ _ _ rfl E p fun vs xs e1 w1 E1 l1 v1 q1=>⟨?_,fun p hp=>?_⟩
  ·rw [v1.len]; exact Nat.le_of_lt (U1 q1.1)
  ·exact k _ _ e1 _ ((Res.lst E1 hp v1).pre l1) q1.2
class RB (K:Frag) (r:List V->Hpp->VK->Prop) (pr:outParam (LP->(SV->Prop)->Prop)):Prop where
 ok:∀ (c:Ct) (w:Wd) (env:PEnv) (σ:St) (vs:List V) (xs:LP) (Qp:SV->Prop) (Q:VK),c.K=K->EnvOk c w env σ->VVs K w vs xs->pr xs Qp->(∀ v s w',Res c w env σ w' v s->Qp s->Q v w'.H)->r vs w.H Q
def pCB (pr:LP->(SV->Prop)->Prop) (pa:PAr) (env:PEnv) (Q:SV->PEnv->Prop):Prop:=pa env fun xs e=>pr xs fun s=>Q s e
instance re_cb {K:Frag} {r:List V->Hpp->VK->Prop} {ta:TA} {pr:LP->(SV->Prop)->Prop} {pa:PAr} [h:RB K r pr] [ha:RAv K ta pa]:RE K (tCB r ta) (pCB pr pa) where
 ok:=by
  rintro c w env σ Qp Q rfl E p k;refine ha.ok c w env σ _ _ rfl E p fun vs xs e1 w1 E1 l1 v1 q1=>?_;exact h.ok c w1 e1 σ vs xs _ _ rfl E1 v1 q1 fun v s w' R q=>k v s e1 w' (R.pre l1) q
def rAbs:List V->Hpp->VK->Prop:=fun xs H Q=>∃ i,xs=[.int i]/\Q (.int (if i < 0 then -i else i)) H
def rMax:List V->Hpp->VK->Prop:=fun xs H Q=>∃ i j,xs=[.int i,.int j]/\Q (.int (if j > i then j else i)) H
def rMin:List V->Hpp->VK->Prop:=fun xs H Q=>∃ i j,xs=[.int i,.int j]/\Q (.int (if j < i then j else i)) H
def rInt:List V->Hpp->VK->Prop:=fun xs H Q=>(∃ i,xs=[.int i]/\Q (.int i) H)\/∃ k,xs=[.bl k]/\Q (.int (if k then 1 else 0)) H
def B10 (K:Frag):List V->Hpp->VK->Prop:=fun xs H Q=>∃ p ys,xs=[.ref p]/\(SqL K H p ys\/SqT K H p ys)/\∀ l,H l=none->Q (.ref l) (upd H l (.lst ys))
def rIsi (K:Frag):List V->Hpp->VK->Prop:=fun xs H Q=>∃ x c T b,xs=[x,.ty c]/\TyV K H x T/\kitB T c=some b/\Q (.bl b) H
section
variable {X:Cx}
theorem A1w:CallR X (.builtin "abs") rAbs:=B1c
theorem A1s (hc:X.calm=true):CallR X (.builtin "max") rMax:=A9s hc
theorem A9q (hc:X.calm=true):CallR X (.builtin "min") rMin:=A9r hc
theorem A9u:CallR X (.type "int") rInt:=A1v
theorem A9t {K:Frag} (h:X.K=K):CallR X (.type "list") (B10 K):=by subst h; exact A1t
theorem G6 {K:Frag} (h:X.K=K):CallR X (.builtin "isinstance") (rIsi K):=by subst h; exact A20
end
def pLen (xs:LP) (Q:SV->Prop):Prop:=match xs with
 | [.list ys]=>Q (.d (.int ys.length))
 | [.tuple ys]=>Q (.d (.int ys.length))
 | _=>False
def pAbs (xs:LP) (Q:SV->Prop):Prop:=match xs with
 | [.int i]=>Q (.d (.int (if i < 0 then -i else i)))
 | _=>False
def pMax (xs:LP) (Q:SV->Prop):Prop:=match xs with
 | [.int i,.int j]=>Q (.d (.int (if j > i then j else i)))
 | _=>False
def pMin (xs:LP) (Q:SV->Prop):Prop:=match xs with
 | [.int i,.int j]=>Q (.d (.int (if j < i then j else i)))
 | _=>False
def pInt (xs:LP) (Q:SV->Prop):Prop:=match xs with
 | [.int i]=>Q (.d (.int i))
 | [.bool k]=>Q (.d (.int (if k then 1 else 0)))
 | _=>False
def A7c (xs:LP) (Q:SV->Prop):Prop:=match xs with
 | [.list ys]=>Q (.own ys)
 | [.tuple ys]=>Q (.own ys)
 | _=>False
instance rb_abs {K:Frag}:RB K rAbs pAbs where
 ok:=by
  rintro c w env σ vs xs Qp Q rfl E vv p k;unfold pAbs at p;split at p
  ·cases vv with | cons h t=>cases t; exact ⟨_,by rw [h.intE],k _ _ w (Res.data E (.int _)) p⟩
  ·exact p.elim
instance rb_max {K:Frag}:RB K rMax pMax where
 ok:=by
  rintro c w env σ vs xs Qp Q rfl E vv p k;unfold pMax at p;split at p
  ·cases vv with | cons h t=>cases t with | cons h' t=>cases t; exact ⟨_,_,by rw [h.intE,h'.intE],k _ _ w (Res.data E (.int _)) p⟩
  ·exact p.elim
instance rb_min {K:Frag}:RB K rMin pMin where
 ok:=by
  rintro c w env σ vs xs Qp Q rfl E vv p k;unfold pMin at p;split at p
  ·cases vv with | cons h t=>cases t with | cons h' t=>cases t; exact ⟨_,_,by rw [h.intE,h'.intE],k _ _ w (Res.data E (.int _)) p⟩
  ·exact p.elim
instance rb_int {K:Frag}:RB K rInt pInt where
 ok:=by
  rintro c w env σ vs xs Qp Q rfl E vv p k;unfold pInt at p;split at p
  ·cases vv with | cons h t=>cases t; exact .inl ⟨_,by rw [h.intE],k _ _ w (Res.data E (.int _)) p⟩
  ·cases vv with | cons h t=>cases t; exact .inr ⟨_,by rw [h.blE],k _ _ w (Res.data E (.int _)) p⟩
  ·exact p.elim
instance rb_lst {K:Frag}:RB K (B10 K) A7c where
 ok:=by
  rintro c w env σ vs xs Qp Q rfl E vv p k;unfold A7c at p;split at p
  ·cases vv with | cons h t=>cases t; obtain ⟨a,us,e,h1,h2⟩:=h.lst E.wok; exact ⟨a,us,by rw [e],.inl h1,fun l hl=>k _ _ _ (Res.lst E hl h2) p⟩
  ·cases vv with | cons h t=>cases t; obtain ⟨a,us,e,h1,h2⟩:=h.tup E.wok; exact ⟨a,us,by rw [e],.inr h1,fun l hl=>k _ _ _ (Res.lst E hl h2) p⟩
  ·exact p.elim
def tyD:PyData->String
 | .none=>"NoneType"
 | .bool _=>"bool"
 | .int _=>"int"
 | .str _=>"str"
 | .list _=>"list"
 | .tuple _=>"tuple"
 | .dict _=>"dict"
theorem Den.ty {K:Frag} {H:Hpp} {v:V} {x:PyData} (h:Den K H v x):TyV K H v (tyD x):=by
 cases h with
 | non=>rfl
 | bl=>rfl
 | int=>rfl
 | str=>rfl
 | lst h _=>exact .inl ⟨rfl,_,h⟩
 | tup h _=>exact .inr (.inl ⟨rfl,_,h⟩)
 | dct h=>exact .inr (.inr ⟨rfl,_,h⟩)
def pIsi (c:String) (pa:PDt) (env:PEnv) (Q:SV->PEnv->Prop):Prop:=pa env fun x e=>match kitB (tyD x) c with
 | some b=>Q (.d (.bool b)) e
 | none=>False
instance (priority:=high) re_isi {K:Frag} {ta:TE} {pa:PDt} {c:String} [ha:RW K ta pa]:RE K (tCB (rIsi K) (L9 ta (L9 (tC (.ty c)) tNil))) (pIsi c pa) where
 ok:=by
  rintro ct w env σ Qp Q rfl E p k;refine ha.ok ct w env σ _ _ rfl E p fun x dx e1 w1 E1 l1 v1 q1=>?_;split at q1
  ·rename_i b hb;exact ⟨x,c,_,b,rfl,Den.ty (v1.den E1.wok),hb,k _ _ e1 w1 ((Res.data E1 (.bl _)).pre l1) q1⟩
  ·exact q1.elim
end Pu
namespace Pu
open PySem L2 My Prf
class RT (K:Frag) (tt:TT) (pt:outParam PTt):Prop where
 ok:∀ (c:Ct) (w:Wd) (env:PEnv) (σ:St) (Qp:Bool->PEnv->Prop) (Q:Bool->Hpp->Prop),c.K=K->EnvOk c w env σ->pt env Qp->(∀ b env' w',EnvOk c w' env' σ->Lw w w'->Qp b env'->Q b w'.H)->tt σ w.H Q
def asB (x:PyData) (k:Bool->Prop):Prop:=match x with
 | .bool b=>k b
 | _=>False
def B0q (pa:PDt) (env:PEnv) (Q:Bool->PEnv->Prop):Prop:=pa env fun x e=>asB x fun b=>Q b e
instance rt_test {K:Frag} {ta:TE} {pa:PDt} [ha:RW K ta pa]:RT K (A50 ta) (B0q pa) where
 ok:=by
  rintro c w env σ Qp Q rfl E p k;refine ha.ok c w env σ _ _ rfl E p fun x dx e1 w1 E1 l1 v1 q1=>?_;unfold asB at q1;split at q1
  ·exact ⟨_,v1.blE,k _ e1 w1 E1 l1 q1⟩
  ·exact q1.elim
instance rt_B {K:Frag} {ta:TE} {pa:PDt} [ha:RW K ta pa]:RT K (tB ta) (B0q pa) where
 ok:=by
  rintro c w env σ Qp Q rfl E p k;refine ha.ok c w env σ _ _ rfl E p fun x dx e1 w1 E1 l1 v1 q1=>?_;unfold asB at q1;split at q1
  ·exact ⟨_,v1.blE,k _ e1 w1 E1 l1 q1⟩
  ·exact q1.elim
def pYes (env:PEnv) (Q:Bool->PEnv->Prop):Prop:=Q true env
instance rt_yes {K:Frag}:RT K tYes pYes:=⟨fun c w env σ Qp Q _ E p k=>k true env w E (Lw.refl w) p⟩
def pNot (pa:PTt) (env:PEnv) (Q:Bool->PEnv->Prop):Prop:=pa env fun b e=>Q (!b) e
def pAnd (pa pb:PTt) (env:PEnv) (Q:Bool->PEnv->Prop):Prop:=pa env fun b e=>if b=true then pb e Q else Q false e
def pOr (pa pb:PTt) (env:PEnv) (Q:Bool->PEnv->Prop):Prop:=pa env fun b e=>if b=true then Q true e else pb e Q
instance rt_not {K:Frag} {ta:TT} {pa:PTt} [ha:RT K ta pa]:RT K (tNot ta) (pNot pa) where
 ok:=by
  rintro c w env σ Qp Q rfl E p k;exact ha.ok c w env σ _ _ rfl E p fun b e1 w1 E1 l1 q1=>k _ e1 w1 E1 l1 q1
instance rt_and {K:Frag} {ta tb:TT} {pa pb:PTt} [ha:RT K ta pa] [hb:RT K tb pb]:RT K (tAnd ta tb) (pAnd pa pb) where
 ok:=by
  rintro c w env σ Qp Q rfl E p k;refine ha.ok c w env σ _ _ rfl E p fun b e1 w1 E1 l1 q1=>?_;cases b with
  | true=>exact hb.ok c w1 e1 σ _ _ rfl E1 q1 fun b e2 w2 E2 l2 q2=>k _ e2 w2 E2 (l1.trans l2) q2
  | false=>exact k _ e1 w1 E1 l1 q1
instance rt_or {K:Frag} {ta tb:TT} {pa pb:PTt} [ha:RT K ta pa] [hb:RT K tb pb]:RT K (tOr ta tb) (pOr pa pb) where
 ok:=by
  rintro c w env σ Qp Q rfl E p k;refine ha.ok c w env σ _ _ rfl E p fun b e1 w1 E1 l1 q1=>?_;cases b with
  | false=>exact hb.ok c w1 e1 σ _ _ rfl E1 q1 fun b e2 w2 E2 l2 q2=>k _ e2 w2 E2 (l1.trans l2) q2
  | true=>exact k _ e1 w1 E1 l1 q1
def B4w (pa:PDt) (env:PEnv) (Q:SV->PEnv->Prop):Prop:=pa env fun x e=>asB x fun b=>Q (.d (.bool (!b))) e
def B48 (pa:PDt) (pb:PX) (env:PEnv) (Q:SV->PEnv->Prop):Prop:=pa env fun x e=>asB x fun b=>if b=true then pb e Q else Q (.d (.bool false)) e
def pOrV (pa:PDt) (pb:PX) (env:PEnv) (Q:SV->PEnv->Prop):Prop:=pa env fun x e=>asB x fun b=>if b=true then Q (.d (.bool true)) e else pb e Q
instance re_notV {K:Frag} {ta:TE} {pa:PDt} [ha:RW K ta pa]:RE K (B3s ta) (B4w pa) where
 ok:=by
  rintro c w env σ Qp Q rfl E p k;refine ha.ok c w env σ _ _ rfl E p fun x dx e1 w1 E1 l1 v1 q1=>?_;unfold asB at q1;split at q1
  ·exact ⟨_,v1.blE,k _ _ e1 w1 ((Res.data E1 (.bl _)).pre l1) q1⟩
  ·exact q1.elim
instance re_andV {K:Frag} {ta tb:TE} {pa:PDt} {pb:PX} [ha:RW K ta pa] [hb:RE K tb pb]:RE K (B3u ta tb) (B48 pa pb) where
 ok:=by
  rintro c w env σ Qp Q rfl E p k;refine ha.ok c w env σ _ _ rfl E p fun x dx e1 w1 E1 l1 v1 q1=>?_;unfold asB at q1;split at q1
  ·rename_i b;refine ⟨_,v1.blE,?_⟩;cases b with
   | true=>exact hb.ok c w1 e1 σ _ _ rfl E1 q1 fun v s e2 w2 R q2=>k _ _ e2 w2 (R.pre l1) q2
   | false=>exact k _ _ e1 w1 ((Res.data E1 (.bl _)).pre l1) q1
  ·exact q1.elim
instance re_orV {K:Frag} {ta tb:TE} {pa:PDt} {pb:PX} [ha:RW K ta pa] [hb:RE K tb pb]:RE K (tOrV ta tb) (pOrV pa pb) where
 ok:=by
  rintro c w env σ Qp Q rfl E p k;refine ha.ok c w env σ _ _ rfl E p fun x dx e1 w1 E1 l1 v1 q1=>?_;unfold asB at q1;split at q1
  ·rename_i b;refine ⟨_,v1.blE,?_⟩;cases b with
   | false=>exact hb.ok c w1 e1 σ _ _ rfl E1 q1 fun v s e2 w2 R q2=>k _ _ e2 w2 (R.pre l1) q2
   | true=>exact k _ _ e1 w1 ((Res.data E1 (.bl _)).pre l1) q1
  ·exact q1.elim
inductive Md where
 | dat | vw | st | bt
def TV (K:Frag) (w:Wd) (v:V) (t:OT):Prop:=Tre K w t [v]/\∀ a ∈ t.fp,¬ w.M a
theorem TV.mono {K:Frag} {w w':Wd} {v:V} {t:OT} (a:Lw w w') (h:TV K w v t) (hs:∀ a ∈ t.fp,w.H a≠none):TV K w' v t :=
 ⟨h.1.mono a h.2,fun b hb=>a.nm (hs b hb) (h.2 b hb)⟩
theorem Tre.has {K:Frag} {w:Wd}:∀ {t:OT} {vs:List V},Tre K w t vs->∀ a ∈ t.fp,w.H a≠none
 | .leaf _,_,_,_,z=>nomatch z
 | .nd _ p _,_,⟨_,_,h,k⟩,a,z=>(List.mem_cons.mp z).elim (fun e=>by rw [e,h]; simp) (Tre.has k a)
 | .nil,_,_,_,z=>nomatch z
 | .cons _ _,_,⟨_,_,_,h,t⟩,a,z=>(List.mem_append.mp z).elim (Tre.has h a) (Tre.has t a)
inductive Args (K:Frag) (w:Wd):List Md->List V->List SV->Prop
 | nil:Args K w [] [] []
 | dat {v:V} {x:PyData} {md:List Md} {vs:List V} {as:List SV}:Den K w.F v x->Args K w md vs as->Args K w (.dat :: md) (v :: vs) (.d x :: as)
 | vw {v:V} {xs:LP} {md:List Md} {vs:List V} {as:List SV}:VV K w v (.list xs)->Args K w md vs as->Args K w (.vw :: md) (v :: vs) (.bor xs :: as)
 | bt {v:V} {t:OT} {md:List Md} {vs:List V} {as:List SV}:TV K w v t->Args K w md vs as->Args K w (.bt :: md) (v :: vs) (.bt t :: as)
 | st {v:V} {md:List Md} {vs:List V} {as:List SV}:(∃ p,v=.ref p/\w.M p)->Args K w md vs as->Args K w (.st :: md) (v :: vs) (.st :: as)
theorem Args.len {K:Frag} {w:Wd}:∀ {md vs as},Args K w md vs as->vs.length=md.length
 | _,_,_,.nil=>rfl
 | _,_,_,.dat _ t=>congrArg (· + 1) (Args.len t)
 | _,_,_,.vw _ t=>congrArg (· + 1) (Args.len t)
 | _,_,_,.st _ t=>congrArg (· + 1) (Args.len t)
 | _,_,_,.bt _ t=>congrArg (· + 1) (Args.len t)
abbrev PSp:=List SV->(SV->Prop)->Prop
def noZ:Addr->Prop:=fun _=>False
def spOf (K:Frag) (md:List Md) (psp:PSp):Sp:=fun vs H Q _=>∃ (w:Wd) (as:List SV) (Qp:SV->Prop),w.H=H/\w.Ok/\Args K w md vs as/\psp as Qp /\
 ∀ v s w',w'.Ok->Le w w'->VR ⟨K,w,noZ⟩ w' v s->s.isRes=true->Qp s->Q v w'.H
theorem spOf.len {K:Frag} {md:List Md} {psp:PSp} {n:Nat} (h:md.length=n):∀ vs H Q E,spOf K md psp vs H Q E->vs.length=n:=by
 rintro vs H Q E ⟨w,as,Qp,_,_,a,_⟩;exact a.len.trans h
class RAm (K:Frag) (md:List Md) (ta:TA) (pa:outParam PAs):Prop where
 ok:∀ (c:Ct) (w:Wd) (env:PEnv) (σ:St) (Qp:List SV->PEnv->Prop) (Q:List V->Hpp->Prop),c.K=K->EnvOk c w env σ->pa env Qp->(∀ vs as env' w',EnvOk c w' env' σ->Lw w w'->Args K w' md vs as->Qp as env'->Q vs w'.H)->ta σ w.H Q
def B4z (env:PEnv) (Q:List SV->PEnv->Prop):Prop:=Q [] env
def A7n (pa:PDt) (pr:PAs) (env:PEnv) (Q:List SV->PEnv->Prop):Prop:=pa env fun x e1=>pr e1 fun as e2=>Q (.d x :: as) e2
def asL (x:PyData) (k:LP->Prop):Prop:=match x with
 | .list xs=>k xs
 | _=>False
def A7l (pa:PDt) (pr:PAs) (env:PEnv) (Q:List SV->PEnv->Prop):Prop:=pa env fun x e1=>asL x fun xs=>pr e1 fun as e2=>Q (.bor xs :: as) e2
def isSt (o:Option (Option SV)) (k:Prop):Prop:=match o with
 | some (some .st)=>k
 | _=>False
def A3x (i:Nat) (pr:PAs) (env:PEnv) (Q:List SV->PEnv->Prop):Prop:=isSt env[i]? (pr env fun as e2=>Q (.st :: as) e2)
instance ram_nil {K:Frag}:RAm K [] tNil B4z:=⟨fun c w env σ Qp Q _ E p k=>k [] [] env w E (Lw.refl w) .nil p⟩
instance ram_dat {K:Frag} {md:List Md} {ta:TE} {tr:TA} {pa:PDt} {pr:PAs} [ha:RD K ta pa] [hr:RAm K md tr pr]:RAm K (.dat :: md) (L9 ta tr) (A7n pa pr) where
 ok:=by
  rintro c w env σ Qp Q rfl E p k;refine ha.ok c w env σ _ _ rfl E p fun x dx e1 w1 E1 l1 v1 q1=>?_;refine hr.ok c w1 e1 σ _ _ rfl E1 q1 fun vs xs e2 w2 E2 l2 v2 q2=>?_;exact k _ _ e2 w2 E2 (l1.trans l2) (.dat (Den.same l2.f v1) v2) q2
instance ram_vw {K:Frag} {md:List Md} {ta:TE} {tr:TA} {pa:PDt} {pr:PAs} [ha:RW K ta pa] [hr:RAm K md tr pr]:RAm K (.vw :: md) (L9 ta tr) (A7l pa pr) where
 ok:=by
  rintro c w env σ Qp Q rfl E p k;refine ha.ok c w env σ _ _ rfl E p fun x dx e1 w1 E1 l1 v1 q1=>?_;unfold asL at q1;split at q1
  ·refine hr.ok c w1 e1 σ _ _ rfl E1 q1 fun vs xs e2 w2 E2 l2 v2 q2=>?_;exact k _ _ e2 w2 E2 (l1.trans l2) (.vw (v1.mono l2) v2) q2
  ·exact q1.elim
instance ram_st {K:Frag} {md:List Md} {i:Nat} {tr:TA} {pr:PAs} [hr:RAm K md tr pr]:RAm K (.st :: md) (L9 (tVar i) tr) (A3x i pr) where
 ok:=by
  rintro c w env σ Qp Q rfl E p k;unfold A3x isSt at p;split at p
  ·rename_i e;obtain ⟨v,h1,h2⟩:=E.at' i _ e;refine ⟨v,h1,?_⟩;refine hr.ok c w env σ _ _ rfl E p fun vs xs e2 w2 E2 l2 v2 q2=>?_;obtain ⟨q,e',hm⟩:=h2;exact k _ _ e2 w2 E2 l2 (.st ⟨q,e',l2.m _ hm⟩ v2) q2
  ·exact p.elim
def B7r (psp:PSp) (pa:PAs) (env:PEnv) (Q:SV->PEnv->Prop):Prop:=pa env fun as e=>psp as fun s=>Q s e
theorem Res.called {c:Ct} {w w':Wd} {env:PEnv} {σ:St} {v:V} {s:SV} (E:EnvOk c w env σ) (ok:w'.Ok) (l:Le w w') (h:VR ⟨c.K,w,noZ⟩ w' v s) (r:s.isRes=true):Res c w env σ w' v s:=by
 refine ⟨E.mono ok l,l.toLw,?_,fun a f=>E.fresh (h.foot f).2.2.2,r⟩;cases s with
 | d x=>exact h
 | own xs=>obtain ⟨a,vs,e,h1,h2,h3,h4,h5⟩:=h; exact ⟨a,vs,e,h1,h2,h3,E.le0.dom _ h4,h5⟩
 | bor xs=>cases r
 | bt t=>cases r
 | al t=>cases r
 | st=>exact h
 | tr t=>exact ⟨h.1,fun a f=>⟨(h.2.1 a f).1,(h.2.1 a f).2.1,(h.2.1 a f).2.2.1,E.le0.dom _ (h.2.1 a f).2.2.2⟩,h.2.2⟩
instance re_call {K:Frag} {md:List Md} {psp:PSp} {E0':XK} {ta:TA} {pa:PAs} [ha:RAm K md ta pa]:RE K (Y6 (spOf K md psp) [] E0' ta) (B7r psp pa) where
 ok:=by
  rintro c w env σ Qp Q rfl E p k;refine ha.ok c w env σ _ _ rfl E p fun vs as e1 w1 E1 l1 a1 q1=>?_;rw [List.append_nil];exact ⟨w1,as,_,rfl,E1.wok,a1,q1,fun v s w' ok l h r q=>k v s e1 w' ((Res.called E1 ok l h r).pre l1) q⟩
structure PEnds where
 nx:PEnv->Prop
 rt:SV->PEnv->Prop
 bk:PEnv->Prop
 ct:PEnv->Prop
abbrev PSt:=PEnds->PEnv->Prop
structure EndsOk (c:Ct) (w:Wd) (Dp:PEnds) (D:Ends):Prop where
 nx:∀ env σ w',EnvOk c w' env σ->Same w.F w'.F->Dp.nx env->D.nx σ w'.H
 rt:∀ v s env σ w',EnvOk c w' env σ->VR c w' v s->s.isRes=true->Dp.rt s env->D.rt v w'.H
 bk:∀ env σ w',EnvOk c w' env σ->Same w.F w'.F->Dp.bk env->D.bk σ w'.H
 ct:∀ env σ w',EnvOk c w' env σ->Same w.F w'.F->Dp.ct env->D.ct σ w'.H
theorem EndsOk.on {c:Ct} {w w1:Wd} {Dp:PEnds} {D:Ends} (h:EndsOk c w Dp D) (s:Same w.F w1.F):EndsOk c w1 Dp D :=
 ⟨fun e σ w' E s'=>h.nx e σ w' E (s.trans s'),h.rt,fun e σ w' E s'=>h.bk e σ w' E (s.trans s'),fun e σ w' E s'=>h.ct e σ w' E (s.trans s')⟩
class RS (K:Frag) (ts:TS) (ps:outParam PSt):Prop where
 ok:∀ (c:Ct) (w:Wd) (env:PEnv) (σ:St) (Dp:PEnds) (D:Ends),c.K=K->EnvOk c w env σ->EndsOk c w Dp D->ps Dp env->ts D σ w.H
def B40 (D:PEnds) (env:PEnv):Prop:=D.nx env
def pSeq (p q:PSt) (D:PEnds) (env:PEnv):Prop:=p { D with nx:=q D } env
instance rs_next {K:Frag}:RS K B3t B40:=⟨fun c w env σ Dp D _ E h p=>h.nx env σ w E (Same.refl _) p⟩
instance rs_seq {K:Frag} {t u:TS} {p q:PSt} [ht:RS K t p] [hu:RS K u q]:RS K (tSeq t u) (pSeq p q) where
 ok:=by
  rintro c w env σ Dp D rfl E h pr;refine ht.ok c w env σ { Dp with nx:=q Dp } _ rfl E ⟨fun e1 σ1 w1 E1 s1 n1=>?_,h.rt,h.bk,h.ct⟩ pr;exact hu.ok c w1 e1 σ1 Dp D rfl E1 (h.on s1) n1
def B46 (pe:PX) (D:PEnds) (env:PEnv):Prop:=pe env fun _ e=>D.nx e
instance (priority:=low) rs_drop {K:Frag} {te:TE} {pe:PX} [he:RE K te pe]:RS K (A51 te) (B46 pe) where
 ok:=by
  rintro c w env σ Dp D rfl E h p;exact he.ok c w env σ _ _ rfl E p fun v s e1 w1 R q=>h.nx e1 σ w1 R.ev R.lw.f q
def pRet (pe:PX) (D:PEnds) (env:PEnv):Prop:=pe env fun s e=>D.rt s e
instance (priority:=low) rs_ret {K:Frag} {te:TE} {pe:PX} [he:RE K te pe]:RS K (tRet te) (pRet pe) where
 ok:=by
  rintro c w env σ Dp D rfl E h p;exact he.ok c w env σ _ _ rfl E p fun v s e1 w1 R q=>h.rt v s e1 σ w1 R.ev R.val R.res q
def B4u (i:Nat) (D:PEnds) (env:PEnv):Prop:=match env[i]? with
 | some (some (.bor _))=>False
 | some (some (.bt _))=>False
 | some (some (.al _))=>False
 | some (some s)=>D.rt s env
 | _=>False
instance rs_retV {K:Frag} {i:Nat}:RS K (tRet (tVar i)) (B4u i) where
 ok:=by
  rintro c w env σ Dp D rfl E h p;unfold B4u at p;split at p
  ·exact p.elim
  ·exact p.elim
  ·exact p.elim
  ·rename_i s hn hn2 hn3 e;obtain ⟨v,h1,h2⟩:=E.at' i _ e;refine ⟨v,h1,h.rt v s env σ w E h2 ?_ p⟩;cases s with
   | bor xs=>exact absurd rfl (hn xs)
   | bt t=>exact absurd rfl (hn2 t)
   | al t=>exact absurd rfl (hn3 t)
   | _=>rfl
  ·exact p.elim
def pIf (pt:PTt) (p q:PSt) (D:PEnds) (env:PEnv):Prop:=pt env fun b e=>if b=true then p D e else q D e
instance rs_if {K:Frag} {tt:TT} {t u:TS} {pt:PTt} {p q:PSt} [hc:RT K tt pt] [ht:RS K t p] [hu:RS K u q]:RS K (tIfS tt t u) (pIf pt p q) where
 ok:=by
  rintro c w env σ Dp D rfl E h pr;refine hc.ok c w env σ _ _ rfl E pr fun b e1 w1 E1 l1 q1=>?_;cases b with
  | true=>exact ht.ok c w1 e1 σ Dp D rfl E1 (h.on l1.f) q1
  | false=>exact hu.ok c w1 e1 σ Dp D rfl E1 (h.on l1.f) q1
def pAsg (pe:PX) (i:Nat) (D:PEnds) (env:PEnv):Prop:=pe env fun s e=>D.nx (e.set i (some s))
instance rs_asg {K:Frag} {te:TE} {pe:PX} {i:Nat} [he:RE K te pe]:RS K (tAsg te (A0b i)) (pAsg pe i) where
 ok:=by
  rintro c w env σ Dp D rfl E h p;exact he.ok c w env σ _ _ rfl E p fun v s e1 w1 R q=>h.nx _ _ w1 (R.ev.set R.val R.new) R.lw.f q
class RG (K:Frag) (g:TG) (pg:outParam (PyData->PEnv->(PEnv->Prop)->Prop)):Prop where
 ok:∀ (c:Ct) (w:Wd) (env:PEnv) (σ:St) (v:V) (x:PyData) (Qp:PEnv->Prop) (Q:St->Hpp->Prop),c.K=K->EnvOk c w env σ->Den K w.F v x->pg x env Qp->(∀ env' σ',EnvOk c w env' σ'->Qp env'->Q σ' w.H)->g v σ w.H Q
class RGs (K:Frag) (g:TGs) (pg:outParam (LP->PEnv->(PEnv->Prop)->Prop)):Prop where
 ok:∀ (c:Ct) (w:Wd) (env:PEnv) (σ:St) (vs:List V) (xs:LP) (Qp:PEnv->Prop) (Q:St->Hpp->Prop),c.K=K->EnvOk c w env σ->DenAll K w.F vs xs->pg xs env Qp->(∀ env' σ',EnvOk c w env' σ'->Qp env'->Q σ' w.H)->g vs σ w.H Q
def B36 (i:Nat) (x:PyData) (env:PEnv) (Q:PEnv->Prop):Prop:=Q (env.set i (some (.d x)))
instance rg_name {K:Frag} {i:Nat}:RG K (A0b i) (B36 i) where
 ok:=by
  rintro c w env σ v x Qp Q rfl E d p k;exact k _ _ (E.set (s:=.d x) d (fun _ z=>nomatch z)) p
def qNil (xs:LP) (env:PEnv) (Q:PEnv->Prop):Prop:=match xs with
 | []=>Q env
 | _=>False
def B37 (pg:PyData->PEnv->(PEnv->Prop)->Prop) (pr:LP->PEnv->(PEnv->Prop)->Prop) (xs:LP) (env:PEnv) (Q:PEnv->Prop):Prop:=match xs with
 | x :: r=>pg x env fun e=>pr r e Q
 | []=>False
def qTup (n:Nat) (pr:LP->PEnv->(PEnv->Prop)->Prop) (x:PyData) (env:PEnv) (Q:PEnv->Prop):Prop:=match x with
 | .tuple xs=>xs.length=n/\pr xs env Q
 | _=>False
instance rgs_nil {K:Frag}:RGs K gNil qNil where
 ok:=by
  rintro c w env σ vs xs Qp Q rfl E d p k;unfold qNil at p;split at p
  ·cases d; exact ⟨rfl,k env σ E p⟩
  ·exact p.elim
instance rgs_cons {K:Frag} {g:TG} {gs:TGs} {pg:PyData->PEnv->(PEnv->Prop)->Prop} {pr:LP->PEnv->(PEnv->Prop)->Prop} [hg:RG K g pg] [hr:RGs K gs pr]:RGs K (A87 g gs) (B37 pg pr) where
 ok:=by
  rintro c w env σ vs xs Qp Q rfl E d p k;unfold B37 at p;split at p
  ·cases d with
   | cons h t =>
    refine ⟨_,_,rfl,hg.ok c w env σ _ _ _ _ rfl E h p fun e1 σ1 E1 q1=>?_⟩;exact hr.ok c w e1 σ1 _ _ _ _ rfl E1 t q1 k
  ·exact p.elim
instance rg_tup {K:Frag} {n:Nat} {gs:TGs} {pr:LP->PEnv->(PEnv->Prop)->Prop} [hr:RGs K gs pr]:RG K (gTup K n gs) (qTup n pr) where
 ok:=by
  rintro c w env σ v x Qp Q rfl E d p k;unfold qTup at p;split at p
  ·obtain ⟨a,vs,e,h1,h2⟩:=d.tupE;exact ⟨a,vs,e,SqT.same E.wok.sub h1,h2.len.trans p.1,hr.ok c w env σ _ _ _ _ rfl E h2 p.2 k⟩
  ·exact p.elim
def B47 (pd:PDt) (n:Nat) (pr:LP->PEnv->(PEnv->Prop)->Prop) (D:PEnds) (env:PEnv):Prop:=pd env fun x e=>qTup n pr x e D.nx
instance rs_asgT {K:Frag} {te:TE} {pd:PDt} {n:Nat} {gs:TGs} {pr:LP->PEnv->(PEnv->Prop)->Prop} [he:RD K te pd] [hr:RGs K gs pr]:RS K (tAsg te (gTup K n gs)) (B47 pd n pr) where
 ok:=by
  rintro c w env σ Dp D rfl E h p;refine he.ok c w env σ _ _ rfl E p fun v x e1 w1 E1 l1 d1 q1=>?_;exact rg_tup.ok c w1 e1 σ v x _ _ rfl E1 d1 q1 fun e2 σ2 E2 q2=>h.nx e2 σ2 w1 E2 l1.f q2
def pPar (i j:Nat) (pa:PAr) (D:PEnds) (env:PEnv):Prop:=pa env fun xs e=>match xs with
 | [x,y]=>D.nx ((e.set i (some (.d x))).set j (some (.d y)))
 | _=>False
instance rs_par {K:Frag} {ta:TA} {pa:PAr} {i j:Nat} [ha:RAd K ta pa]:RS K (tPar i j ta) (pPar i j pa) where
 ok:=by
  rintro c w env σ Dp D rfl E h p;refine ha.ok c w env σ _ _ rfl E p fun vs xs e1 w1 E1 l1 d1 q1=>?_;split at q1
  ·cases d1 with
   | cons a t=>cases t with
    | cons b t =>
     cases t;exact ⟨_,_,rfl,h.nx _ _ w1 ((E1.set (s:=.d _) a (fun _ z=>nomatch z)).set (s:=.d _) b (fun _ z=>nomatch z)) l1.f q1⟩
  ·exact q1.elim
def A0n (o:Option (Option SV)) (k:LP->Prop):Prop:=match o with
 | some (some (.own xs))=>k xs
 | _=>False
theorem EnvOk.writeAt {c:Ct} {w:Wd} {env:PEnv} {σ:St} {i:Nat} {s s':SV} {l:Addr} {us:List V} {v:V} (E:EnvOk c w env σ) (e:env[i]?=some (some s)) (hσ:σ[i]?=some (some v)) (hf:s.foot v l) (hf':∀ a,s'.foot v a->s.foot v a)
  (hd:VR c ⟨w.M,upd w.H l (.lst us),w.F⟩ v s'):EnvOk c ⟨w.M,upd w.H l (.lst us),w.F⟩ (env.set i (some s')) σ:=by
 obtain ⟨h1,h2,h3,h4⟩:=(E.look e hσ).foot hf;have ne:∀ b,w.M b->b≠l:=fun b hb z=>h3 (z ▸ hb);have hd':∀ {j:Nat} {t:SV},(env.set i (some s'))[j]?=some (some t)->(i=j/\t=s')\/(i≠j/\env[j]?=some (some t)):=by
  intro j t q;rw [List.getElem?_set] at q;split at q
  ·rename_i z;split at q
   ·cases q; exact .inl ⟨z,rfl⟩
   ·cases q
  ·rename_i z; exact .inr ⟨z,q⟩
 have ft:∀ {j:Nat} {t:SV} {u:V} {a:Addr},(env.set i (some s'))[j]?=some (some t)->σ[j]?=some (some u)->t.foot u a->∃ t',env[j]?=some (some t')/\t'.foot u a:=by
  intro j t u a q qu f;rcases hd' q with ⟨rfl,rfl⟩ | ⟨_,q⟩
  ·rw [hσ] at qu; cases qu; exact ⟨s,e,hf' a f⟩
  ·exact ⟨t,q,f⟩
 refine ⟨⟨fun b o q=>?_,fun p hp=>(E.wok.st p hp).kp (ne p hp) Kp.upd,E.wok.nf⟩,⟨⟨E.le0.f,fun b o q n=>?_,E.le0.m,E.le0.mn,fun b q=>E.le0.dom b (N3 q)⟩,E.le0.n⟩,by simpa using E.len,fun j t q=>?_,fun j k s1 t1 v1 u1 a q1 q2 q3 q4 f1 f2=>?_,fun a za=>?_,fun a j t u za q q' f=>?_⟩
 ·show upd w.H l (.lst us) b=some o;rw [D8 (fun z=>by rw [z,h2] at q; cases q)]; exact E.wok.sub b o q
 ·show upd w.H l (.lst us) b=some o;rw [D8 (fun z=>by rw [z,h4] at q; cases q)]; exact E.le0.h b o q n
 ·rcases hd' q with ⟨rfl,rfl⟩ | ⟨z,q⟩
  ·exact ⟨v,hσ,hd⟩
  ·obtain ⟨u,g1,g2⟩:=E.at' j t q;exact ⟨u,g1,g2.writ h1 fun f=>z (E.own i j _ _ _ _ l e q hσ g1 hf f)⟩
 ·obtain ⟨_,p1,g1⟩:=ft q1 q3 f1;obtain ⟨_,p2,g2⟩:=ft q2 q4 f2;exact E.own j k _ _ _ _ a p1 p2 q3 q4 g1 g2
 ·obtain ⟨z1,z2,z3⟩:=E.zf a za;exact ⟨z1,fun q=>z2 (N3 q),z3⟩
 ·obtain ⟨_,p,g⟩:=ft q q' f;exact E.zo a j _ _ za p q' g
theorem EnvOk.write {c:Ct} {w:Wd} {env:PEnv} {σ:St} {i:Nat} {xs ys:LP} {l:Addr} {vs us:List V} (E:EnvOk c w env σ) (e:env[i]?=some (some (.own xs))) (hσ:σ[i]?=some (some (.ref l))) (h1:w.H l=some (.lst vs)) (h2:w.F l=none) (h3:¬ w.M l) (h4:c.w0.H l=none)
  (hd:DenAll c.K w.F us ys):EnvOk c ⟨w.M,upd w.H l (.lst us),w.F⟩ (env.set i (some (.own ys))) σ :=
 E.writeAt e hσ rfl (fun _ f=>f) ⟨l,us,rfl,D5,h2,h3,h4,hd⟩
def pApp (i:Nat) (pd:PDt) (D:PEnds) (env:PEnv):Prop:=A0n env[i]? fun _=>pd env fun x e=>A0n e[i]? fun xs=>xs.length < 1000000/\D.nx (e.set i (some (.own (xs++[x]))))
theorem W6 {n:Nat} (h:n < 1000000):n < sizeLine:=Nat.lt_of_lt_of_le h (by decide)
instance rs_app {K:Frag} {i:Nat} {te:TE} {pd:PDt} [he:RD K te pd]:RS K (A51 (tBM K "list" A2c (tVar i) (L9 te tNil))) (pApp i pd) where
 ok:=by
  rintro c w env σ Dp D rfl E h p;unfold pApp A0n at p;split at p
  ·rename_i xs0 e0;obtain ⟨v,g0,l,vs,ev,h1,h2,h3,h4,h5⟩:=E.at' i _ e0;subst ev;refine ⟨_,g0,.inl ⟨rfl,_,SqL.of h1⟩,?_⟩;refine he.ok c w env σ _ _ rfl E p fun y x e1 w1 E1 l1 d1 q1=>?_;split at q1
   ·rename_i xs e;obtain ⟨v',g0',l',vs',ev',k1,k2,k3,k4,k5⟩:=E1.at' i _ e;rw [g0] at g0'; cases g0'; cases ev';refine ⟨l,vs',y,rfl,rfl,k1,by rw [k5.len]; exact W6 q1.1,?_⟩;exact h.nx _ σ ⟨w1.M,upd w1.H l (.lst (vs'++[y])),w1.F⟩ (E1.write e g0 k1 k2 k3 k4 (k5.app (.cons d1 .nil))) l1.f q1.2
   ·exact q1.elim
  ·exact p.elim
end Pu
namespace L2
open PySem PySem.Spec PyProof.Rows
section
variable {X:Cx} {tg:Expr}
def iSq (K:PySem.W.Frag) (tl:TE):TI:=fun σ H R=>tl σ H fun x H1=>(∃ a,x=.ref a/\(∃ xs,SqL K H1 a xs)/\R (Itl K a) H1)\/∃ a,x=.ref a/\(∃ xs,SqT K H1 a xs)/\R (Itt K a) H1
theorem B9u {l:Expr} {tl:TE} (hl:PE X l tl):PI X tg l (iSq X.K tl):=by
 intro pins s σ H R I h;refine thn (hl pins s σ H _ I h) fun v s1 ⟨x,H1,I1,r1,q1⟩=>?_;rcases q1 with ⟨a,e,⟨xs,hq⟩,q⟩ | ⟨a,e,⟨xs,hq⟩,q⟩
 ·subst e;cases r1;obtain ⟨its,rv,p,hz⟩:=I1.list hq;refine wpAny_pyIter_list p.isList ?_;refine ⟨s1.heap.objs.size,[s1.heap.objs.size],_,_,H1,rfl,I1.kept (t':=s1.toks) fun b o e=>Heap.get?_push_of_some _ e,A5v a _,⟨_,Heap.get?_push_size _ rfl,rfl,rfl⟩,fun b hb=>?_,q⟩;have e:b=s1.heap.objs.size:=by simpa using hb
  subst e;exact I1.fpOk (Nat.le_refl _) (I1.hok.fresh (Nat.le_refl _))
 ·subst e;cases r1;obtain ⟨its,rv,p,hz⟩:=I1.tuple hq;refine wpAny_pyIter_tuple (show s1.heap.IsTuple a its.toArray from p) ?_;refine ⟨s1.heap.objs.size,[s1.heap.objs.size],_,_,H1,rfl,I1.kept (t':=s1.toks) fun b o e=>Heap.get?_push_of_some _ e,A4r a _,⟨_,Heap.get?_push_size _ rfl,rfl,rfl⟩,fun b hb=>?_,q⟩;have e:b=s1.heap.objs.size:=by simpa using hb
  subst e;exact I1.fpOk (Nat.le_refl _) (I1.hok.fresh (Nat.le_refl _))
theorem B7a {K:PySem.W.Frag} {l:Expr} {tl:TE} (h:X.K=K) (hl:PE X l tl):PI X tg l (iSq K tl):=by subst h; exact B9u hl
theorem D1 {K:PySem.W.Frag} (h:X.K=K) (hu:X.A.units + 64 < cLine):OpR X (compareOp .Eq) (rEqD K):=by subst h; exact B7x hu
theorem K5 {K:PySem.W.Frag} (h:X.K=K) (hu:X.A.units + 64 < cLine):OpR X (compareOp .NotEq) (rNeD K):=by subst h; exact B7s hu
theorem B0e {K:PySem.W.Frag} (h:X.K=K):SlR X (rSlL K):=by subst h; exact B30
end
end L2
namespace Pu
open PySem L2 My Prf
def A63 (pt:PTt) (pb:PSt) (D:PEnds) (env:PEnv):Prop:=∃ Inv:Nat->PEnv->Prop,(∃ m,Inv m env)/\∀ m e,Inv m e->pt e fun b e2=>if b=true then pb ⟨fun e3=>∃ m',m' < m/\Inv m' e3,D.rt,D.nx,fun e3=>∃ m',m' < m/\Inv m' e3⟩ e2 else D.nx e2
instance rs_while {K:Frag} {tt:TT} {tb:TS} {pt:PTt} {pb:PSt} [ht:RT K tt pt] [hb:RS K tb pb]:RS K (A5z tt tb) (A63 pt pb) where
 ok:=by
  rintro c w env σ Dp D rfl E h ⟨Inv,⟨m0,i0⟩,step⟩;refine ⟨fun m σ' H'=>∃ e w',w'.H=H'/\EnvOk c w' e σ'/\Same w.F w'.F/\Inv m e,⟨m0,env,w,rfl,E,Same.refl _,i0⟩,?_⟩;rintro m σ1 _ ⟨e1,w1,rfl,E1,s1,i1⟩;refine ht.ok c w1 e1 σ1 _ _ rfl E1 (step m e1 i1) fun b e2 w2 E2 l2 q2=>?_;cases b with
  | true =>
   refine ⟨fun σ' H'=>∃ e w',w'.H=H'/\EnvOk c w' e σ'/\Same w.F w'.F/\∃ m',m' < m/\Inv m' e,fun σ' H' ⟨e,w',e1,E',s',m',hm,i'⟩=>⟨m',hm,e,w',e1,E',s',i'⟩,?_⟩;refine hb.ok c w2 e2 σ1 ⟨fun e3=>∃ m',m' < m/\Inv m' e3,Dp.rt,Dp.nx,fun e3=>∃ m',m' < m/\Inv m' e3⟩ _ rfl E2 ⟨fun e3 σ3 w3 E3 s3 n3=>⟨e3,w3,rfl,E3,s1.trans (l2.f.trans s3),n3⟩,h.rt,fun e3 σ3 w3 E3 s3 n3=>h.nx e3 σ3 w3 E3 (s1.trans (l2.f.trans s3)) n3,fun e3 σ3 w3 E3 s3 n3=>⟨e3,w3,rfl,E3,s1.trans (l2.f.trans s3),n3⟩⟩ q2
  | false=>exact h.nx e2 σ1 w2 E2 (s1.trans l2.f) q2
def Walk (c:Ct) (w1:Wd) (J:It) (xs:LP):Prop :=
 ∀ w',w'.Ok->Le c.w0 w'->Same w1.F w'.F->(∀ i,i < xs.length->J.go i w'.H)/\J.stop xs.length w'.H/\∀ i v H',J.yld i w'.H v H'->i < xs.length->∃ w2 x,w2.H=H'/\w2.Ok/\Le w' w2/\xs[i]?=some x/\Den c.K w2.F v x
class RI (K:Frag) (wi:TI) (pi:outParam PAr):Prop where
 ok:∀ (c:Ct) (w:Wd) (env:PEnv) (σ:St) (Qp:LP->PEnv->Prop) (R:It->Hpp->Prop),c.K=K->EnvOk c w env σ->pi env Qp->(∀ J xs env' w',EnvOk c w' env' σ->Lw w w'->Walk c w' J xs->Qp xs env'->R J w'.H)->wi σ w.H R
theorem N5 {c:Ct} {w1:Wd} {a:Addr} {vs:List V} {xs:LP} (d:DenAll c.K w1.F vs xs) (h:∀ w',w'.Ok->Le c.w0 w'->Same w1.F w'.F->SqL c.K w'.H a vs):Walk c w1 (Itl c.K a) xs:=by
 intro w' ok l s;have q:=h w' ok l s;have hl:=d.len;refine ⟨fun i hi=>⟨vs,vs[i]'(by omega),q,List.getElem?_eq_getElem _⟩,⟨vs,q,by omega⟩,fun i v H' y hi=>?_⟩;obtain ⟨e,y⟩:=y;obtain ⟨x,g1,g2⟩:=d.get (y vs q);exact ⟨w',x,e.symm,ok,Le.refl w',g1,Den.same s g2⟩
theorem A27 {c:Ct} {w1:Wd} {a:Addr} {vs:List V} {xs:LP} (d:DenAll c.K w1.F vs xs) (h:∀ w',w'.Ok->Le c.w0 w'->Same w1.F w'.F->SqT c.K w'.H a vs):Walk c w1 (Itt c.K a) xs:=by
 intro w' ok l s;have q:=h w' ok l s;have hl:=d.len;refine ⟨fun i hi=>⟨vs,vs[i]'(by omega),q,List.getElem?_eq_getElem _⟩,⟨vs,q,by omega⟩,fun i v H' y hi=>?_⟩;obtain ⟨e,y⟩:=y;obtain ⟨x,g1,g2⟩:=d.get (y vs q);exact ⟨w',x,e.symm,ok,Le.refl w',g1,Den.same s g2⟩
def W1 (x:PyData) (k:LP->Prop):Prop:=match x with
 | .list xs=>k xs
 | .tuple xs=>k xs
 | _=>False
def B43 (pd:PDt) (env:PEnv) (Q:LP->PEnv->Prop):Prop:=pd env fun x e=>W1 x fun xs=>Q xs e
instance (priority:=low) ri_sq {K:Frag} {tl:TE} {pd:PDt} [hl:RD K tl pd]:RI K (iSq K tl) (B43 pd) where
 ok:=by
  rintro c w env σ Qp R rfl E p k;refine hl.ok c w env σ _ _ rfl E p fun v x e1 w1 E1 l1 d1 q1=>?_;unfold W1 at q1;split at q1
  ·obtain ⟨a,vs,e,h1,h2⟩:=d1.lstE;exact .inl ⟨a,e,⟨vs,E1.wok.sub.seq h1⟩,k _ _ e1 w1 E1 l1 (N5 h2 fun w' ok l s=>(s.trans ok.sub).seq h1) q1⟩
  ·obtain ⟨a,vs,e,h1,h2⟩:=d1.tupE;exact .inr ⟨a,e,⟨vs,SqT.same E1.wok.sub h1⟩,k _ _ e1 w1 E1 l1 (A27 h2 fun w' ok l s=>SqT.same (s.trans ok.sub) h1) q1⟩
  ·exact q1.elim
def A7j (i:Nat) (env:PEnv) (Q:LP->PEnv->Prop):Prop:=match env[i]? with
 | some (some (.d x))=>W1 x fun xs=>Q xs env
 | some (some (.own xs))=>Q xs (env.set i (some (.d (.list xs))))
 | some (some (.bor xs))=>Q xs env
 | _=>False
instance ri_var {K:Frag} {i:Nat}:RI K (iSq K (tVar i)) (A7j i) where
 ok:=by
  rintro c w env σ Qp R rfl E p k;unfold A7j at p;split at p
  ·rename_i x e;obtain ⟨v,h1,h2⟩:=E.at' i _ e;refine ⟨v,h1,?_⟩;unfold W1 at p;split at p
   ·obtain ⟨a,vs,e,g1,g2⟩:=Den.lstE h2;exact .inl ⟨a,e,⟨vs,E.wok.sub.seq g1⟩,k _ _ env w E (Lw.refl w) (N5 g2 fun w' ok l s=>(s.trans ok.sub).seq g1) p⟩
   ·obtain ⟨a,vs,e,g1,g2⟩:=Den.tupE h2;exact .inr ⟨a,e,⟨vs,SqT.same E.wok.sub g1⟩,k _ _ env w E (Lw.refl w) (A27 g2 fun w' ok l s=>SqT.same (s.trans ok.sub) g1) p⟩
   ·exact p.elim
  ·rename_i xs e;obtain ⟨w',v,e',hv,E',l,d⟩:=E.frz e;refine ⟨v,hv,?_⟩;obtain ⟨a,vs,e,g1,g2⟩:=d.lstE;have:=k _ _ _ w' E' l (N5 g2 fun w' ok l s=>(s.trans ok.sub).seq g1) p;rw [e'] at this;exact .inl ⟨a,e,⟨vs,by rw [<- e']; exact E'.wok.sub.seq g1⟩,this⟩
  ·rename_i xs e;obtain ⟨v,h1,h2⟩:=E.at' i _ e;refine ⟨v,h1,?_⟩;rcases h2 with h2 | ⟨l,vs,ev,g1,g2,g3⟩
   ·obtain ⟨a,vs,e,g1,g2⟩:=Den.lstE h2;exact .inl ⟨a,e,⟨vs,E.wok.sub.seq g1⟩,k _ _ env w E (Lw.refl w) (N5 g2 fun w' ok l s=>(s.trans ok.sub).seq g1) p⟩
   ·exact .inl ⟨l,ev,⟨vs,SqL.of (E.le0.h _ _ g1 g2)⟩,k _ _ env w E (Lw.refl w) (N5 g3 fun w' ok l' s=>SqL.of (l'.h _ _ g1 g2)) p⟩
  ·exact p.elim
def rngD (lo:Int) (n:Nat):LP:=(List.range n).map fun k:Nat=>PyData.int (lo + (k:Int))
theorem M0 (lo:Int) (n:Nat):(rngD lo n).length=n:=by simp [rngD]
theorem A3i {lo:Int} {n i:Nat} {x:PyData} (h:(rngD lo n)[i]?=some x):i < n/\x=.int (lo + (i:Int)):=by
 unfold rngD at h;rw [List.getElem?_map] at h;by_cases hi:i < n
 ·rw [List.getElem?_range hi] at h; cases h; exact ⟨hi,rfl⟩
 ·rw [List.getElem?_eq_none (by simpa using hi)] at h; cases h
theorem A28 {c:Ct} {w1:Wd} {lo:Int} {n:Nat}:Walk c w1 (Itr lo n) (rngD lo n):=by
 intro w' ok l s;refine ⟨fun i hi=>by rw [M0] at hi; exact hi,by rw [M0]; exact Nat.le_refl _,fun i v H' y hi=>?_⟩;obtain ⟨e,y⟩:=y;subst y;rw [M0] at hi;refine ⟨w',.int (lo + i),e.symm,ok,Le.refl w',?_,.int _⟩;unfold rngD;rw [List.getElem?_map,List.getElem?_range hi]; rfl
def B7k (pa:PAr) (env:PEnv) (Q:LP->PEnv->Prop):Prop:=pa env fun xs e=>match xs with
 | [.int j]=>(-(2 ^ 62)<=j/\j < 2 ^ 62)/\Q (rngD 0 j.toNat) e
 | _=>False
def B7j (pa:PAr) (env:PEnv) (Q:LP->PEnv->Prop):Prop:=pa env fun xs e=>match xs with
 | [.int i,.int j]=>(-(2 ^ 62)<=i/\i < 2 ^ 62/\-(2 ^ 62)<=j/\j < 2 ^ 62)/\Q (rngD i (j - i).toNat) e
 | _=>False
instance ri_rng1 {K:Frag} {ta:TA} {pa:PAr} [ha:RAv K ta pa]:RI K (B5r ta) (B7k pa) where
 ok:=by
  rintro c w env σ Qp R rfl E p k;refine ha.ok c w env σ _ _ rfl E p fun vs xs e1 w1 E1 l1 v1 q1=>?_;split at q1
  ·cases v1 with | cons h t=>cases t; exact ⟨_,by rw [h.intE],q1.1.1,q1.1.2,k _ _ e1 w1 E1 l1 A28 q1.2⟩
  ·exact q1.elim
instance ri_rng2 {K:Frag} {ta:TA} {pa:PAr} [ha:RAv K ta pa]:RI K (B5q ta) (B7j pa) where
 ok:=by
  rintro c w env σ Qp R rfl E p k;refine ha.ok c w env σ _ _ rfl E p fun vs xs e1 w1 E1 l1 v1 q1=>?_;split at q1
  ·cases v1 with | cons h t=>cases t with | cons h' t=>cases t; exact ⟨_,_,by rw [h.intE,h'.intE],q1.1,k _ _ e1 w1 E1 l1 A28 q1.2⟩
  ·exact q1.elim
def A04 (xs:LP) (pg:PyData->PEnv->(PEnv->Prop)->Prop) (pb:PSt) (D:PEnds) (env:PEnv):Prop :=
 ∃ Inv:Nat->PEnv->Prop,Inv 0 env/\(∀ i x e,xs[i]?=some x->Inv i e->pg x e fun e2=>pb ⟨Inv (i + 1),D.rt,D.nx,Inv (i + 1)⟩ e2)/\∀ e,Inv xs.length e->D.nx e
def pFor (pi:PAr) (pg:PyData->PEnv->(PEnv->Prop)->Prop) (pb:PSt) (D:PEnds) (env:PEnv):Prop:=pi env fun xs e=>A04 xs pg pb D e
instance rs_for {K:Frag} {wi:TI} {g:TG} {tb:TS} {pi:PAr} {pg:PyData->PEnv->(PEnv->Prop)->Prop} {pb:PSt} [hi:RI K wi pi] [hg:RG K g pg] [hb:RS K tb pb]:RS K (tFor wi g tb) (pFor pi pg pb) where
 ok:=by
  rintro c w env σ Dp D rfl E h p;refine hi.ok c w env σ _ _ rfl E p fun J xs e1 w1 E1 l1 wk ⟨Iv,i0,step,fin⟩=>?_;refine ⟨fun i m σ' H'=>m=xs.length - i/\i<=xs.length/\∃ e w',w'.H=H'/\EnvOk c w' e σ'/\Same w1.F w'.F/\Iv i e,⟨xs.length,rfl,Nat.zero_le _,e1,w1,rfl,E1,Same.refl _,i0⟩,?_⟩;rintro i m σ2 _ ⟨rfl,hle,e2,w2,rfl,E2,s2,i2⟩;obtain ⟨go,stop,yld⟩:=wk w2 E2.wok E2.le0 s2;by_cases hlt:i < xs.length
  ·refine .inr ⟨go i hlt,fun σ' H'=>i + 1<=xs.length/\∃ e w',w'.H=H'/\EnvOk c w' e σ'/\Same w1.F w'.F/\Iv (i + 1) e,fun σ' H' ⟨q0,q⟩=>⟨xs.length - (i + 1),by omega,rfl,q0,q⟩,fun v H' y=>?_⟩;obtain ⟨w2',x,rfl,ok2,le2,hx,dx⟩:=yld i v H' y hlt;replace E2:=E2.mono ok2 le2;replace s2:=s2.trans le2.f;clear yld go stop y le2 ok2;generalize w2'=w2 at E2 s2 dx;refine hg.ok c w2 e2 σ2 v x _ _ rfl E2 dx (step i x e2 hx i2) fun e3 σ3 E3 q3=>?_;refine hb.ok c w2 e3 σ3 ⟨Iv (i + 1),Dp.rt,Dp.nx,Iv (i + 1)⟩ _ rfl E3 ⟨fun e4 σ4 w4 E4 s4 n4=>⟨hlt,e4,w4,rfl,E4,s2.trans s4,n4⟩,h.rt,fun e4 σ4 w4 E4 s4 n4=>h.nx e4 σ4 w4 E4 (l1.f.trans (s2.trans s4)) n4,fun e4 σ4 w4 E4 s4 n4=>⟨hlt,e4,w4,rfl,E4,s2.trans s4,n4⟩⟩ q3
  ·have e:i=xs.length:=by omega
   subst e;exact .inl ⟨stop,h.nx e2 σ2 w2 E2 (l1.f.trans s2) (fin e2 i2)⟩
theorem N4 {lo:Int} {n:Nat} {pg:PyData->PEnv->(PEnv->Prop)->Prop} {pb:PSt} {D:PEnds} {env:PEnv} (Inv:Nat->PEnv->Prop) (h0:Inv 0 env)
  (hs:∀ (i:Nat) e,i < n->Inv i e->pg (.int (lo + (i:Int))) e fun e2=>pb ⟨Inv (i + 1),D.rt,D.nx,Inv (i + 1)⟩ e2) (hd:∀ e,Inv n e->D.nx e):A04 (rngD lo n) pg pb D env :=
 ⟨Inv,h0,fun i x e hx hi=>by obtain ⟨h1,rfl⟩:=A3i hx; exact hs i e h1 hi,fun e h=>hd e (by rwa [M0] at h)⟩
theorem B5y {xs:LP} {pg:PyData->PEnv->(PEnv->Prop)->Prop} {pb:PSt} {D:PEnds} {env:PEnv} (Inv:Nat->PEnv->Prop) (h0:Inv 0 env)
  (hs:∀ (i:Nat) x e,xs[i]?=some x->Inv i e->pg x e fun e2=>pb ⟨Inv (i + 1),D.rt,D.nx,Inv (i + 1)⟩ e2) (hd:∀ e,Inv xs.length e->D.nx e):A04 xs pg pb D env:=⟨Inv,h0,hs,hd⟩
def SV.lent:SV->Option SV
 | .own xs=>some (.bor xs)
 | .tr _=>none
 | .bt _=>none
 | s=>some s
def L7 (cap:List (Option Nat)) (env:PEnv):PEnv:=cap.map fun o=>o.bind fun j=>(env[j]?).join.bind SV.lent
theorem EnvOk.writeZ {c:Ct} {w:Wd} {env:PEnv} {σ:St} {l:Addr} {us:List V} (E:EnvOk c w env σ) (z:c.Z l) (h4:c.w0.H l=none):EnvOk c ⟨w.M,upd w.H l (.lst us),w.F⟩ env σ:=by
 obtain ⟨h2,h1,h3⟩:=E.zf l z;have ne:∀ b,w.M b->b≠l:=fun b hb z=>h3 (z ▸ hb);refine ⟨⟨fun b o q=>?_,fun p hp=>(E.wok.st p hp).kp (ne p hp) Kp.upd,E.wok.nf⟩,⟨⟨E.le0.f,fun b o q n=>?_,E.le0.m,E.le0.mn,fun b q=>E.le0.dom b (N3 q)⟩,E.le0.n⟩,E.len,fun j s q=>?_,E.own,fun a za=>?_,E.zo⟩
 ·show upd w.H l (.lst us) b=some o;rw [D8 (fun z=>by rw [z,h2] at q; cases q)]; exact E.wok.sub b o q
 ·show upd w.H l (.lst us) b=some o;rw [D8 (fun z=>by rw [z,h4] at q; cases q)]; exact E.le0.h b o q n
 ·obtain ⟨v,g1,g2⟩:=E.at' j s q;exact ⟨v,g1,g2.writ h1 (E.zo l j s v z q g1)⟩
 ·obtain ⟨z1,z2,z3⟩:=E.zf a za;exact ⟨z1,fun q=>z2 (N3 q),z3⟩
theorem EnvOk.cap {c:Ct} {w:Wd} {env:PEnv} {σ:St} {D:Addr} (cap:List (Option Nat)) (E:EnvOk c w env σ) (hD:w.H D=none):EnvOk ⟨c.K,w,fun a=>a=D⟩ (w.lay D (.lst [])) (L7 cap env) (capσ cap σ):=by
 have nown:∀ (i:Nat) s v a,(L7 cap env)[i]?=some (some s)->¬ s.foot v a:=fun i s0 v a q f=>by
  unfold L7 at q;rw [List.getElem?_map] at q;cases hc:cap[i]? with
  | none=>rw [hc] at q; cases q
  | some o =>
   rw [hc] at q;cases o with
   | none=>cases q
   | some j =>
    have q':((env[j]?).join.bind SV.lent)=some s0:=Option.some.inj q;cases hj:(env[j]?).join with
    | none=>rw [hj] at q'; cases q'
    | some s=>rw [hj] at q'; cases s <;> cases q' <;> exact f
 refine ⟨Wd.lay_ok E.wok hD,Wd.lay_le hD,by simp [L7,capσ],fun i s q=>?_,fun i j s t v u a q _ _ _ f=>absurd f (nown i s v a q),fun a za=>?_,fun a j t u _ q _=>nown j t u a q⟩
 ·unfold L7 at q;unfold capσ;rw [List.getElem?_map] at q ⊢;cases hc:cap[i]? with
  | none=>rw [hc] at q; cases q
  | some o =>
   rw [hc] at q;cases o with
   | none=>cases q
   | some j =>
    have q':((env[j]?).join.bind SV.lent)=some s:=Option.some.inj q;cases hj:env[j]? with
    | none=>rw [hj] at q'; cases q'
    | some t =>
     rw [hj] at q';cases t with
     | none=>cases q'
     | some s0 =>
      have q2:s0.lent=some s:=q';obtain ⟨v,h1,h2⟩:=E.at' j s0 hj;refine ⟨v,by simp [h1],?_⟩;cases s0 with
      | d x=>cases q2; exact h2
      | own xs=>cases q2; obtain ⟨l,vs,e,g1,g2,g3,g4,g5⟩:=h2; exact .inr ⟨l,vs,e,g1,g3,g5⟩
      | bor xs =>
       cases q2;rcases h2.vv E.le0 with g | ⟨l,vs,ys,e,e',g1,g2,g3⟩
       ·exact .inl g
       ·cases e'; exact .inr ⟨l,vs,e,g1,g2,g3⟩
      | st=>cases q2; exact h2
      | tr t=>cases q2
      | bt t=>cases q2
      | al t=>cases q2; exact h2
 ·have e:a=D:=za;subst e;exact ⟨E.wok.fnone hD,by show upd w.H a (.lst []) a≠none; rw [D5]; simp,fun z=>E.wok.mne hD z rfl⟩
theorem Walk.up {c:Ct} {w:Wd} {J:It} {xs:LP} (h:Walk c w J xs) (l:Le c.w0 w):Walk ⟨c.K,w,c.Z⟩ w J xs:=fun w' ok l' s=>h w' ok (l.trans l') s
def P3 (xs:LP) (pg:PyData->PEnv->(PEnv->Prop)->Prop) (pt:PTt) (pd:PDt) (e0:PEnv) (Fin:LP->Prop):Prop :=
 ∃ Pv:Nat->PEnv->LP->Prop,Pv 0 e0 []/\(∀ i x e ys,xs[i]?=some x->Pv i e ys->pg x e fun e2=>pt e2 fun b e3=>if b=true then pd e3 fun y e4=>Pv (i + 1) e4 (ys++[y]) else Pv (i + 1) e3 ys)/\∀ e ys,Pv xs.length e ys->Fin ys
theorem A2z {K:Frag} {g:TG} {tt:TT} {te:TE} {pg:PyData->PEnv->(PEnv->Prop)->Prop} {pt:PTt} {pd:PDt} [hg:RG K g pg] [ht:RT K tt pt] [he:RD K te pd] {c:Ct} {w:Wd} {env:PEnv} {σ:St} {J:It} {xs:LP} {cap:List (Option Nat)} {D:Addr} {Fp:LP->Prop} {Fin:Hpp->Prop}
  (hK:c.K=K) (E:EnvOk c w env σ) (wk:Walk ⟨c.K,w,c.Z⟩ w J xs) (hn:xs.length < 1000000) (p:P3 xs pg pt pd (L7 cap env) Fp) (hD:w.H D=none) (k:∀ w' ys,Res c w env σ w' (.ref D) (.own ys)->Fp ys->Fin w'.H):A1p J g tt te D Fin (capσ cap σ) w.H:=by
 subst hK;obtain ⟨Pv,p0,step,fin⟩:=p;have hw0:c.w0.H D=none:=E.le0.dom D hD;refine ⟨fun i m σ' H' vs=>m=xs.length - i/\i<=xs.length/\∃ e w' ys,w'.H=H'/\EnvOk ⟨c.K,w,fun a=>a=D⟩ w' e σ'/\w'.H D=some (.lst vs)/\vs.length<=i/\DenAll c.K w'.F vs ys/\Pv i e ys,
  ⟨xs.length,rfl,Nat.zero_le _,L7 cap env,w.lay D (.lst []),[],rfl,E.cap cap hD,D5,Nat.le_refl _,.nil,p0⟩,?_⟩
 rintro i m σ1 _ vs ⟨rfl,hle,e1,w1,ys,rfl,E1,h1,hvl,d1,q1⟩;refine ⟨h1,W6 (by omega),?_⟩;obtain ⟨go,stop,yld⟩:=wk w1 E1.wok E1.le0 E1.le0.f;by_cases hlt:i < xs.length
 ·refine .inr ⟨go i hlt,fun v H' y=>?_⟩;obtain ⟨w1',x,rfl,ok1',le1,hx,dx⟩:=yld i v H' y hlt;replace h1:=le1.h _ _ h1 (E1.zf D rfl).2.2;replace E1:=E1.mono ok1' le1;replace d1:=DenAll.same le1.f d1;clear yld go stop y le1 ok1';generalize w1'=w1 at E1 h1 d1 dx;refine hg.ok ⟨c.K,w,fun a=>a=D⟩ w1 e1 σ1 v x _ _ rfl E1 dx (step i x e1 ys hx q1) fun e2 σ2 E2 q2=>?_;refine ht.ok ⟨c.K,w,fun a=>a=D⟩ w1 e2 σ2 _ _ rfl E2 q2 fun b e3 w3 E3 l3 q3=>?_;have nm:=(E2.zf D rfl).2.2;have h3:=l3.h _ _ h1 nm;cases b with
  | true =>
   refine he.ok ⟨c.K,w,fun a=>a=D⟩ w3 e3 σ2 _ _ rfl E3 q3 fun y' y e4 w4 E4 l4 d4 q4=>?_;have h4:=l4.h _ _ h3 (E3.zf D rfl).2.2;refine ⟨vs,h4,W6 (by omega),xs.length - (i + 1),by omega,rfl,hlt,e4,⟨w4.M,upd w4.H D (.lst (vs++[y'])),w4.F⟩,ys++[y],rfl,E4.writeZ rfl hD,D5,by rw [List.length_append]; simp; exact hvl,(DenAll.same (l3.f.trans l4.f) d1).app (.cons d4 .nil),q4⟩
  | false =>
   exact ⟨xs.length - (i + 1),by omega,rfl,hlt,e3,w3,ys,rfl,E3,h3,by omega,DenAll.same l3.f d1,q3⟩
 ·have e:i=xs.length:=by omega
  subst e;obtain ⟨z1,z2,z3⟩:=E1.zf D rfl;refine .inl ⟨stop,k w1 ys ⟨E.mono E1.wok E1.le0,E1.le0.toLw,⟨D,vs,rfl,h1,z1,z3,hw0,d1⟩,fun a f=>?_,rfl⟩ (fin e1 ys q1)⟩;have:V.ref D=.ref a:=f;cases this;exact E.fresh hD
def B7q (pi:PAr) (pg:PyData->PEnv->(PEnv->Prop)->Prop) (pt:PTt) (pd:PDt) (cap:List (Option Nat)) (env:PEnv) (Q:SV->PEnv->Prop):Prop:=pi env fun xs e=>xs.length < 1000000/\P3 xs pg pt pd (L7 cap e) fun ys=>Q (.own ys) e
instance re_comp {K:Frag} {wi:TI} {g:TG} {tt:TT} {te:TE} {cap:List (Option Nat)} {pi:PAr} {pg:PyData->PEnv->(PEnv->Prop)->Prop} {pt:PTt} {pd:PDt} [hi:RI K wi pi] [hg:RG K g pg] [ht:RT K tt pt] [he:RD K te pd]:RE K (B0a wi g tt te cap) (B7q pi pg pt pd cap) where
 ok:=by
  rintro c w env σ Qp Q rfl E p k;refine hi.ok c w env σ _ _ rfl E p fun J xs e1 w1 E1 l1 wk ⟨hn,q⟩ D hD=>?_;exact A2z (pg:=pg) (pt:=pt) (pd:=pd) rfl E1 (wk.up E1.le0) hn q hD fun w' ys R q'=>k _ _ e1 w' (R.pre l1) q'
def A3t (pi:PAr) (pg:PyData->PEnv->(PEnv->Prop)->Prop) (pt:PTt) (pd:PDt) (cap:List (Option Nat)) (i:Nat) (D:PEnds) (env:PEnv):Prop:=pi env fun xs e=>xs.length < 1000000/\P3 xs pg pt pd (L7 cap e) fun ys=>D.nx (e.set i (some (.own ys)))
instance rs_setComp {K:Frag} {wi:TI} {g:TG} {tt:TT} {te:TE} {cap:List (Option Nat)} {i:Nat} {pi:PAr} {pg:PyData->PEnv->(PEnv->Prop)->Prop} {pt:PTt} {pd:PDt} [hi:RI K wi pi] [hg:RG K g pg] [ht:RT K tt pt] [he:RD K te pd]:RS K (T2 wi g tt te cap i) (A3t pi pg pt pd cap i) where
 ok:=by
  rintro c w env σ Dp D rfl E h p;refine hi.ok c w env σ _ _ rfl E p fun J xs e1 w1 E1 l1 wk ⟨hn,q⟩ l hl=>?_;exact A2z (pg:=pg) (pt:=pt) (pd:=pd) rfl E1 (wk.up E1.le0) hn q hl fun w' ys R q'=>h.nx _ _ w' (R.ev.set R.val R.new) (l1.f.trans R.lw.f) q'
class RP (K:Frag) (to:TO) (po:outParam (PEnv->(Option Int->PEnv->Prop)->Prop)):Prop where
 ok:∀ (c:Ct) (w:Wd) (env:PEnv) (σ:St) (Qp:Option Int->PEnv->Prop) (Q:Option Int->Hpp->Prop),c.K=K->EnvOk c w env σ->po env Qp->(∀ o env' w',EnvOk c w' env' σ->Lw w w'->Qp o env'->Q o w'.H)->to σ w.H Q
def A2j (env:PEnv) (Q:Option Int->PEnv->Prop):Prop:=Q none env
def asI (x:PyData) (k:Int->Prop):Prop:=match x with
 | .int i=>k i
 | _=>False
def B4v (pa:PDt) (env:PEnv) (Q:Option Int->PEnv->Prop):Prop:=pa env fun x e=>asI x fun i=>Q (some i) e
instance rp_no {K:Frag}:RP K A18 A2j:=⟨fun c w env σ Qp Q _ E p k=>k none env w E (Lw.refl w) p⟩
instance rp_part {K:Frag} {te:TE} {pa:PDt} [ha:RW K te pa]:RP K (B3r te) (B4v pa) where
 ok:=by
  rintro c w env σ Qp Q rfl E p k;refine ha.ok c w env σ _ _ rfl E p fun x dx e1 w1 E1 l1 v1 q1=>?_;unfold asI at q1;split at q1
  ·exact ⟨_,v1.intE,k _ e1 w1 E1 l1 q1⟩
  ·exact q1.elim
def cutD (xs:LP) (lo hi:Option Int):LP:=(xs.drop (HT.sIx xs.length 0 lo)).take (HT.sIx xs.length xs.length hi - HT.sIx xs.length 0 lo)
def pSlL (pa:PDt) (pl ph:PEnv->(Option Int->PEnv->Prop)->Prop) (env:PEnv) (Q:SV->PEnv->Prop):Prop:=pa env fun x e=>asL x fun xs=>pl e fun lo e1=>ph e1 fun hi e2=>Q (.own (cutD xs lo hi)) e2
instance re_sl {K:Frag} {te:TE} {tl th:TO} {pa:PDt} {pl ph:PEnv->(Option Int->PEnv->Prop)->Prop} [ha:RW K te pa] [hl:RP K tl pl] [hh:RP K th ph]:RE K (tSl (rSlL K) te tl th) (pSlL pa pl ph) where
 ok:=by
  rintro c w env σ Qp Q rfl E p k;refine ha.ok c w env σ _ _ rfl E p fun x dx e1 w1 E1 l1 v1 q1=>?_;unfold asL at q1;split at q1
  ·rename_i xs;refine hl.ok c w1 e1 σ _ _ rfl E1 q1 fun lo e2 w2 E2 l2 q2=>?_;refine hh.ok c w2 e2 σ _ _ rfl E2 q2 fun hi e3 w3 E3 l3 q3=>?_;obtain ⟨a,vs,e,g1,g2⟩:=((v1.mono l2).mono l3).lst E3.wok;refine ⟨a,vs,e,g1,fun p hp=>k _ _ e3 _ ((Res.lst E3 hp (xs:=cutD xs lo hi) ?_).pre (l1.trans (l2.trans l3))) q3⟩;unfold cutV cutD;rw [g2.len];exact (g2.drop _).take _
  ·exact q1.elim
theorem O7 {K:Frag} {w:Wd}:∀ {md:List Md} {vs:List V} {as:List SV},Args K w md vs as->as.length=vs.length/\∀ (i:Nat) s,as[i]?=some s->(∃ v,vs[i]?=some v/\VR ⟨K,w,noZ⟩ w v s)/\∀ u a,¬ s.foot u a
 | _,_,_,.nil=>⟨rfl,fun i s h=>by simp at h⟩
 | _,_,_,.dat h t=>⟨by simp [(O7 t).1],fun i s e=>match i,e with
  | 0,e=>by simp at e; subst e; exact ⟨⟨_,rfl,h⟩,fun _ _ z=>z⟩
  | i + 1,e=>by simpa using (O7 t).2 i s (by simpa using e)⟩
 | _,_,_,.vw h t=>⟨by simp [(O7 t).1],fun i s e=>match i,e with
  | 0,e=>by
   simp at e; subst e;refine ⟨⟨_,rfl,?_⟩,fun _ _ z=>z⟩;rcases h with h | ⟨l,vs,ys,e1,e2,h1,h2,h3⟩
   ·exact .inl h
   ·cases e2; exact .inr ⟨l,vs,e1,h1,h2,h3⟩
  | i + 1,e=>by simpa using (O7 t).2 i s (by simpa using e)⟩
 | _,_,_,.bt h t=>⟨by simp [(O7 t).1],fun i s e=>match i,e with
  | 0,e=>by simp at e; subst e; exact ⟨⟨_,rfl,h⟩,fun _ _ z=>z⟩
  | i + 1,e=>by simpa using (O7 t).2 i s (by simpa using e)⟩
 | _,_,_,.st h t=>⟨by simp [(O7 t).1],fun i s e=>match i,e with
  | 0,e=>by simp at e; subst e; exact ⟨⟨_,rfl,h⟩,fun _ _ z=>z⟩
  | i + 1,e=>by simpa using (O7 t).2 i s (by simpa using e)⟩
theorem J7 {K:Frag} {ts:TS} {ps:PSt} [hs:RS K ts ps] {md:List Md} {psp:PSp} {vs:List V} {H:Hpp} {Q:VK} {E:XK} {N:List Str} (h:spOf K md psp vs H Q E)
  (hb:∀ as Qp,psp as Qp->ps ⟨fun _=>Qp (.d .none),fun s _=>Qp s,fun _=>False,fun _=>False⟩ (as.map some++List.replicate (N.length - md.length) none)):ts { nx:=fun _ H'=>Q .non H',rt:=Q } (L2.start N vs) H:=by
 obtain ⟨w,as,Qp,rfl,ok,a,p,k⟩:=h;obtain ⟨hl,hat⟩:=O7 a;have look:∀ (i:Nat) s,(as.map some++List.replicate (N.length - md.length) none)[i]?=some (some s)->as[i]?=some s:=fun i s e=>by
  rw [List.getElem?_append] at e;split at e
  ·rw [List.getElem?_map] at e;cases q:as[i]? with
   | none=>rw [q] at e; cases e
   | some t=>rw [q] at e; cases e; rfl
  ·rw [List.getElem?_replicate] at e;split at e <;> cases e
 refine hs.ok ⟨K,w,noZ⟩ w (as.map some++List.replicate (N.length - md.length) none) (L2.start N vs) _ _ rfl ⟨ok,Le.refl w,by simp [L2.start,hl,a.len],fun i s e=>?_,fun i j s t v u a e _ _ _ f=>absurd f ((hat i _ (look i _ e)).2 v a),fun a z=>z.elim,fun a j t u z=>z.elim⟩ ⟨fun env σ w' E' _ q=>?_,fun v s _ _ w' E' h r q=>k v s w' E'.wok E'.le0 h r q,fun _ _ _ _ _ z=>z,fun _ _ _ _ _ z=>z⟩ (hb as Qp p)
 ·obtain ⟨⟨v,h1,h2⟩,_⟩:=hat i s (look i s e);refine ⟨v,?_,h2⟩;unfold L2.start;rw [List.getElem?_append_left (by rw [List.length_map]; exact (List.getElem?_eq_some_iff.mp h1).1),List.getElem?_map,h1]; rfl
 ·exact k .non (.d .none) w' E'.wok E'.le0 (show Den _ _ _ _ from .non) rfl q
def pLaw:PSp:=fun as Q=>∃ ns:List Int,as=[.bor (ns.map .int)]/\ns.length<=63/\Q (.d (.bool true))
theorem A9j {K:Frag} {F:Hpp}:∀ ns:List Int,DenAll K F (ns.map V.int) (ns.map .int)
 | []=>.nil
 | n :: r=>.cons (.int n) (A9j r)
theorem B8j {K:Frag}:∀ vs H Q E,B3x K vs H Q E->spOf K [.vw] pLaw vs H Q E:=by
 rintro vs H Q E ⟨a,ns,rfl,hS,hl,k⟩;refine ⟨⟨fun _=>False,H,fun b=>if b=a then H a else none⟩,[.bor (ns.map .int)],fun s=>s=.d (.bool true),rfl,⟨fun b o e=>?_,fun _ z=>z.elim,fun _ z=>z.elim⟩,.vw (.inl (.lst ?_ (A9j ns))) .nil,⟨ns,rfl,hl,rfl⟩,fun v s w' ok l h r e=>?_⟩
 ·dsimp only at e;split at e
  ·rename_i z; rw [z]; exact e
  ·cases e
 ·rcases hS with (h | ⟨o,h⟩) | h
  ·exact .inl (.inl (by dsimp only; rw [if_pos rfl]; exact h))
  ·exact .inl (.inr ⟨o,by dsimp only; rw [if_pos rfl]; exact h⟩)
  ·exact .inr h
 ·subst e;have:v=.bl true:=Den.blE h;subst this;exact k _
end Pu
namespace L2
open PySem PySem.Spec PyProof.Rows
end L2
namespace Pu
open PySem L2 My Prf
theorem A7g {q:Rat} {Q:SV->Prop}:pIx (dq q) (.int 0) Q=Q (.d (.int q.num)):=rfl
theorem A7f {q:Rat} {Q:SV->Prop}:pIx (dq q) (.int 1) Q=Q (.d (.int (q.den:Int))):=rfl
theorem A8u {i:Int}:(PyData.int i).canLay0=true:=rfl
theorem A9i {i:Int}:(PyData.int i).depth=0:=rfl
theorem A9g {s:Str}:(PyData.str s).depth=0:=rfl
theorem B2v {q:Rat}:(dq q).canLay0=true:=rfl
theorem B3g {q:Rat}:(dq q).depth=1:=rfl
theorem V5 {i j:Int}:PyData.eqv (.int i) (.int j)=decide (i=j):=by
 show (i == j)=_;by_cases h:i=j <;> simp [h]
theorem B33 {p q:Rat} (h1:p.num=q.num) (h2:(p.den:Int)=q.den):p=q:=Rat.ext h1 (by omega)
theorem B3a {p q:Rat}:PyData.eqv (dq p) (dq q)=decide (p=q):=by
 show (PyData.eqv (.int p.num) (.int q.num) && (PyData.eqv (.int (p.den:Int)) (.int (q.den:Int)) && true))=_;rw [V5,V5,Bool.and_true];by_cases h:p=q
 ·subst h; simp
 ·rw [decide_eq_false h];by_cases h1:p.num=q.num
  ·have h2:¬ (p.den:Int)=(q.den:Int):=fun z=>h (B33 h1 z);rw [decide_eq_false h2,Bool.and_false]
  ·rw [decide_eq_false h1,Bool.false_and]
theorem A82 {q:Rat}:isNo (dq q)=false:=rfl
theorem A5m:PyData.tuple [.int 0,.int 1]=dq 0:=rfl
theorem B1r {q:Rat}:tyD (dq q)="tuple":=rfl
theorem B21:kitB "int" "int"=some true:=by decide +kernel
theorem B20:kitB "list" "list"=some true:=by decide +kernel
theorem B2z:kitB "list" "tuple"=some false:=by decide +kernel
theorem B2x:kitB "tuple" "list"=some false:=by decide +kernel
theorem B2y:kitB "NoneType" "tuple"=some false:=by decide +kernel
theorem A84 {K:Frag} {F:Hpp}:∀ {vs:List V} {ns:List Int},DenAll K F vs (ns.map .int)->vs=ns.map V.int
 | _,[],.nil=>rfl
 | _,n :: r,.cons h t=>by rw [h.intE,A84 t]; rfl
def A6m:PSp:=fun as Q=>∃ n:Int,as=[.st,.d (.int n)]/\0 < n/\Sm 4000 n/\∀ d:Int,0<=d->d < n->Q (.d (.int d))
theorem B3q {K:Frag}:∀ vs H Q E,spOf K [.st,.dat] A6m vs H Q E->A57 vs H Q E:=by
 rintro vs H Q E ⟨w,as,Qp,rfl,ok,a,⟨n,rfl,n0,sn,q⟩,k⟩;cases a with
 | st h t=>cases t with
  | dat h' t =>
   cases t;obtain ⟨p,e,hm⟩:=h;subst e;rw [Den.intE h'];refine ⟨p,n,rfl,ok.st p hm,n0,sn,fun d H' d0 d1 S' kp=>?_⟩;have out:∀ b o,w.H b=some o->b≠p->H' b=some o:=fun b o e ne=>kp b o ne e;have pn:=ok.nf p hm;refine k (.int d) (.d (.int d)) ⟨w.M,H',w.F⟩ ⟨fun b o e=>out b o (ok.sub b o e) (fun z=>by rw [z,pn] at e; cases e),fun r hr=>?_,ok.nf⟩ ⟨⟨Same.refl _,fun b o e nb=>out b o e (fun z=>nb (z ▸ hm)),fun _ z=>z,fun _ z=>.inl z,fun b e=>?_⟩,fun _ _ z=>.inl z⟩ (Den.int d) rfl (q d d0 d1)
   ·by_cases z:r=p
    ·subst z; exact S'
    ·exact (ok.st r hr).kp z kp
   ·cases hb:w.H b with
    | none=>rfl
    | some o =>
     by_cases z:b=p
     ·subst z; obtain ⟨_,_,_,hp,_⟩:=S'.ex; rw [show H' b=none from e] at hp; cases hp
     ·have:=out b o hb z; rw [show H' b=none from e] at this; cases this
def B69:PSp:=fun as Q=>∃ a b:Int,as=[.d (.int a),.d (.int b)]/\Q (.d (.int ((Int.gcd a b:Nat):Int)))
def B4b:PSp:=fun as Q=>∃ t b:Int,as=[.d (.int t),.d (.int b)]/\0 < b/\Sm 8000 t/\Sm 8000 b/\Q (.d (dq (Rat.divInt t b)))
def A0x (f:Rat->Rat->Rat):PSp:=fun as Q=>∃ p q:Rat,as=[.d (dq p),.d (dq q)]/\SmQ 3900 p/\SmQ 3900 q/\Q (.d (dq (f p q)))
def A6n:PSp:=fun as Q=>∃ p q:Rat,as=[.d (dq p),.d (dq q)]/\SmQ 3900 p/\SmQ 3900 q/\Q (.d (.bool (decide (p < q))))
def A6q:PSp:=fun as Q=>∃ (pl:Bool) (le:Int),as=[.st,.d (.bool pl),.d (.int le)]/\(le=0\/le=1)/\∀ q:Rat,0<=q->(le=1->0 < q)->SmR 41 6 q->(pl=true->SmR 3 1 q/\q.den=1)->Q (.d (dq q))
end Pu
namespace L2
open PySem PySem.Spec PyProof.Rows
section
variable {X:Cx} {tg:Expr}
def B6y (K:PySem.W.Frag):R2:=fun x y H Q=>∃ l b xs zs,x=.ref l/\y=.ref b/\SqL K H l xs/\SqL K H b zs/\xs.length + zs.length<=sizeLine/\∀ p,H p=none->Q (.ref p) (upd H p (.lst (xs++zs)))
theorem A2n {K:PySem.W.Frag} (hK:X.K=K):OpR X (binaryOp .Add) (B6y K):=by
 subst hK;intro pins s σ H x y v u Q I rx ry h;obtain ⟨l,b,xs,zs,rfl,rfl,hH,hB,hz,q⟩:=h;cases rx;cases ry;obtain ⟨its,r,hl,z⟩:=I.list hH;obtain ⟨its2,r2,hl2,z2⟩:=I.list hB;have n1:=r.length;have n2:=r2.length;obtain ⟨⟨k1,dd,da,sl⟩,m1,ho,e1,e2,e3⟩:=hl;obtain ⟨⟨k2,dd2,da2,sl2⟩,m2,ho2,e4,e5,e6⟩:=hl2;dsimp only at e1 e2 e3 e4 e5 e6;subst e1 e2 e3 e4 e5 e6;refine concat_meets ⟨_,ho,rfl⟩ ⟨_,ho2,rfl⟩ noFill_list_add seq_list_add F.slot_list_add F.entry_list_add (F.args_list_add_2 _ _) (list_addW l b its.toArray its2.toArray m1 m2 none none sl sl2 (by rw [List.size_toArray,List.size_toArray]; omega)) ⟨ho,ho2,?_⟩;rw [show its.toArray++its2.toArray=(its++its2).toArray by simp];exact ⟨.ref _,_,I.lnew (t':=s.toks) (r.append r2) (by rw [List.length_append]; omega),rfl,q _ I.fresh⟩
def rAll (K:PySem.W.Frag):List V->Hp->VK->Prop:=fun xs H Q=>∃ (p:Addr) (bs:List Bool),xs=[.ref p]/\SqL K H p (bs.map V.bl)/\Q (.bl (bs.all id)) H
def rAny (K:PySem.W.Frag):List V->Hp->VK->Prop:=fun xs H Q=>∃ (p:Addr) (bs:List Bool),xs=[.ref p]/\SqL K H p (bs.map V.bl)/\Q (.bl (bs.any id)) H
theorem B57 {bs:List Bool}:∀ {us:List Value},Vals (bs.map V.bl) us->us=bs.map Value.bool:=by
 induction bs with
 | nil=>intro us h; cases h; rfl
 | cons b r ih =>
  intro us h;cases h with
  | cons h t=>rw [ih t,show _=Value.bool b from h]; rfl
theorem A6g (bs:List Bool):(List.range bs.length).all (fun i=>bs.getD i false)=bs.all id:=by
 rw [Bool.eq_iff_iff,List.all_eq_true,List.all_eq_true];constructor
 ·intro h b hb;obtain ⟨i,hi,e⟩:=List.mem_iff_getElem.mp hb;have:=h i (List.mem_range.mpr hi);rw [List.getD_eq_getElem?_getD,List.getElem?_eq_getElem hi,e] at this;exact this
 ·intro h i hi;have hi:=List.mem_range.mp hi;rw [List.getD_eq_getElem?_getD,List.getElem?_eq_getElem hi];exact h _ (List.getElem_mem hi)
theorem A6f (bs:List Bool):(List.range bs.length).any (fun i=>bs.getD i false)=bs.any id:=by
 rw [Bool.eq_iff_iff,List.any_eq_true,List.any_eq_true];constructor
 ·rintro ⟨i,hi,h⟩;have hi:=List.mem_range.mp hi;rw [List.getD_eq_getElem?_getD,List.getElem?_eq_getElem hi] at h;exact ⟨_,List.getElem_mem hi,h⟩
 ·rintro ⟨b,hb,h⟩;obtain ⟨i,hi,e⟩:=List.mem_iff_getElem.mp hb;refine ⟨i,List.mem_range.mpr hi,?_⟩;rw [List.getD_eq_getElem?_getD,List.getElem?_eq_getElem hi,e]; exact h
theorem A5p {pins:List (Addr × Obj)} {σ:St} {H:Hp} {s:Shared} {p:Addr} {bs:List Bool} (hc:X.calm=true) (I:Inv X pins σ H s) (hS:SqL X.K H p (bs.map V.bl)) {A:Around} (hA:A.handled=none) {Qf:Bool->Value->Shared->Prop} {E:Value->Shared->Prop} {g:(Nat->Bool)->Nat->Bool}
  (hQ:∀ h' tk,Inv X pins σ H { s with heap:=h',toks:=tk }->Qf (g (fun i=>bs.getD i false) bs.length) (.bool (g (fun i=>bs.getD i false) bs.length)) { s with heap:=h',toks:=tk }) :
  wpAny (model X.prog X.w) A (pyIter (.ref p)) (fun it s₂=>∃ J fp wr n P St tr,it=.ref J/\Walks X.prog X.w A J fp wr n P St/\St 0 s₂.heap/\TruthOf X.prog X.w A P tr /\
   ∀ h' tk,(∀ b o,b ∉ wr->s₂.heap.get? b=some o->h'.get? b=some o)->Qf (g tr n) (.bool (g tr n)) { s₂ with heap:=h',toks:=tk }) E s:=by
 obtain ⟨its,r,hl,z⟩:=I.list hS;have e:=B57 r;refine wpAny_pyIter_list hl.isList ?_;have hne:p≠s.heap.objs.size:=by
  obtain ⟨o,_,ho,_⟩:=hl;exact Nat.ne_of_lt (Heap.lt_size ho)
 have W:=Walks.list (prog:=X.prog) (w:=X.w) (A:=A) hA s.heap.objs.size p hne its.toArray;have hn:its.toArray.size=bs.length:=by rw [List.size_toArray,e,List.length_map]
 rw [hn] at W;refine ⟨s.heap.objs.size,_,_,_,_,_,fun i=>bs.getD i false,rfl,W,⟨⟨_,Heap.get?_push_size _ rfl,rfl,rfl⟩,hl.isList.push _⟩,fun i v s' Q' E' hP q=>?_,fun h' tk hk=>hQ h' tk ?_⟩
 ·dsimp only at hP;rw [List.getElem?_toArray,e,List.getElem?_map] at hP;cases hb:bs[i]? with
  | none=>rw [hb] at hP; cases hP
  | some b =>
   rw [hb] at hP; cases hP;refine wpAny_truthy_bool ?_;dsimp only at q;rw [List.getD_eq_getElem?_getD,hb] at q;exact q
 ·have I1:Inv X pins σ H { s with heap:=s.heap.push { cls:=.type "list_iterator",data:=.fields #[.ref p,.int 0 0] } }:=I.kept (t':=s.toks) fun b o e=>Heap.get?_push_of_some _ e;have f:=I.fpOk (H':=H) (Nat.le_refl s.heap.objs.size) I.fresh;exact I1.turned (t':=tk) (fun b o hb e=>hk b o (fun z=>hb (List.mem_singleton.mp z)) e) f.1 f.2.1 f.2.2.2.1 f.2.2.2.2.1 f.2.2.2.2.2
theorem V8 {K:PySem.W.Frag} (hK:X.K=K) (hc:X.calm=true:=by rfl):CallR X (.builtin "all") (rAll K):=by
 subst hK;intro pins s σ H xs us Q I r h;obtain ⟨p,bs,rfl,hS,q⟩:=h;cases r with
 | cons r rr =>
  cases rr;cases r;refine call_all_walk (A5p hc I hS (A:=X.A.in1) (I.ok.hd hc) (g:=fun tr n=>(List.range n).all tr) (Qf:=fun _=>EP X pins σ Q) fun h' tk I'=>⟨.bl _,H,I',rfl,?_⟩);rw [A6g]; exact q
theorem A9v {K:PySem.W.Frag} (hK:X.K=K) (hc:X.calm=true:=by rfl):CallR X (.builtin "any") (rAny K):=by
 subst hK;intro pins s σ H xs us Q I r h;obtain ⟨p,bs,rfl,hS,q⟩:=h;cases r with
 | cons r rr =>
  cases rr;cases r;refine call_any_walk (A5p hc I hS (A:=X.A.in1) (I.ok.hd hc) (g:=fun tr n=>(List.range n).any tr) (Qf:=fun _=>EP X pins σ Q) fun h' tk I'=>⟨.bl _,H,I',rfl,?_⟩);rw [A6f]; exact q
end
end L2
namespace L2
open PySem PySem.Spec PyProof.Rows
section
variable {X:Cx}
end
end L2
namespace Pu
open PySem L2 My Prf
def dwnD (lo:Int) (n:Nat):LP:=(List.range n).map fun k:Nat=>PyData.int (lo - (k:Int))
def C0d (pa:PAr) (env:PEnv) (Q:LP->PEnv->Prop):Prop:=pa env fun xs e=>match xs with
 | [.int i,.int j,.int k]=>k=-1/\((-(2 ^ 61)<=i/\i < 2 ^ 61)/\-(2 ^ 61)<=j/\j < 2 ^ 61)/\Q (dwnD i (i - j).toNat) e
 | _=>False
def pCat (x y:PyData) (Q:SV->Prop):Prop:=match x,y with
 | .list xs,.list ys=>xs.length + ys.length<=1000000/\Q (.own (xs++ys))
 | _,_=>False
instance ro_cat {K:Frag}:RO K (B6y K) pCat where
 ok:=by
  rintro c w env σ x y dx dy Qp Q rfl E vx vy p k;unfold pCat at p;split at p
  ·obtain ⟨a,vs,e,h1,h2⟩:=vx.lst E.wok;obtain ⟨b,us,e',g1,g2⟩:=vy.lst E.wok;exact ⟨a,b,vs,us,e,e',h1,g1,by rw [h2.len,g2.len]; exact Nat.le_trans p.1 (by decide),fun q hq=>k _ _ _ (Res.lst E hq (h2.app g2)) p.2⟩
  ·exact p.elim
def blsD:LP->Option (List Bool)
 | []=>some []
 | .bool b :: r=>(blsD r).map (b :: ·)
 | _=>none
theorem A4l:∀ bs:List Bool,blsD (bs.map .bool)=some bs
 | []=>rfl
 | b :: r=>by show (blsD (r.map .bool)).map (b :: ·)=_; rw [A4l r]; rfl
theorem A0i {K:Frag} {F:Hpp}:∀ {vs:List V} {xs:LP} {bs:List Bool},DenAll K F vs xs->blsD xs=some bs->vs=bs.map V.bl
 | _,_,bs,.nil,h=>by cases h; rfl
 | _,_,bs,.cons (x:=x) (xs:=vs) (d:=d) (ds:=ds) h t,e=>by
  cases d with
  | bool b =>
   have e':(blsD ds).map (b :: ·)=some bs:=e;cases q:blsD ds with
   | none=>rw [q] at e'; cases e'
   | some r =>
    rw [q] at e'; cases e';rw [h.blE,A0i t q]; rfl
  | _=>cases e
def pAll (xs:LP) (Q:SV->Prop):Prop:=match xs with
 | [.list ys]=>∃ bs,blsD ys=some bs/\Q (.d (.bool (bs.all id)))
 | _=>False
def pAny (xs:LP) (Q:SV->Prop):Prop:=match xs with
 | [.list ys]=>∃ bs,blsD ys=some bs/\Q (.d (.bool (bs.any id)))
 | _=>False
instance rb_all {K:Frag}:RB K (rAll K) pAll where
 ok:=by
  rintro c w env σ vs xs Qp Q rfl E vv p k;unfold pAll at p;split at p
  ·obtain ⟨bs,e,q⟩:=p;cases vv with | cons h t=>cases t; obtain ⟨a,us,e',h1,h2⟩:=h.lst E.wok; exact ⟨a,bs,by rw [e'],by rw [<- A0i h2 e]; exact h1,k _ _ w (Res.data E (.bl _)) q⟩
  ·exact p.elim
instance rb_any {K:Frag}:RB K (rAny K) pAny where
 ok:=by
  rintro c w env σ vs xs Qp Q rfl E vv p k;unfold pAny at p;split at p
  ·obtain ⟨bs,e,q⟩:=p;cases vv with | cons h t=>cases t; obtain ⟨a,us,e',h1,h2⟩:=h.lst E.wok; exact ⟨a,bs,by rw [e'],by rw [<- A0i h2 e]; exact h1,k _ _ w (Res.data E (.bl _)) q⟩
  ·exact p.elim
end Pu
namespace Pu
open PySem L2 My Prf
theorem B45 {x:PyData} {xs:LP} {Q:SV->Prop}:pGet (x :: xs) 0 Q=Q (.d x):=by unfold pGet; rw [at0]
theorem B7o {x y:PyData} {xs:LP} {Q:SV->Prop}:pGet (x :: y :: xs) 1 Q=Q (.d y):=by unfold pGet; rw [at1]
theorem B7n {x y z:PyData} {xs:LP} {Q:SV->Prop}:pGet (x :: y :: z :: xs) 2 Q=Q (.d z):=by unfold pGet; rw [at2]
theorem B7m {x y z u:PyData} {xs:LP} {Q:SV->Prop}:pGet (x :: y :: z :: u :: xs) 3 Q=Q (.d u):=by unfold pGet; rw [at3]
theorem E6 {xs:LP} {i:Int} {z:PyData} {Q:SV->Prop} (h:atI xs i=some z) (q:Q (.d z)):pGet xs i Q:=by unfold pGet; rw [h]; exact q
theorem B5i {xs:List Int} {d:Int} (h0:0<=d) (h1:d < xs.length):∃ z,z ∈ xs/\atI (xs.map PyData.int) d=some (.int z):=by
 obtain ⟨n,rfl⟩:=Int.eq_ofNat_of_zero_le h0;have hn:n < xs.length:=by omega
 refine ⟨xs[n],List.getElem_mem hn,G4 ?_⟩;rw [List.getElem?_map,List.getElem?_eq_getElem hn]; rfl
theorem C3 {α:Type} {f:α->PyData} {xs:List α} {n:Nat} {a:α} {Q:SV->Prop} (h:xs[n]?=some a) (q:Q (.d (f a))):pGet (xs.map f) (n:Int) Q :=
 E6 (G4 (by rw [List.getElem?_map,h]; rfl)) q
end Pu
namespace Pu
open PySem L2 My Prf
theorem pIxT {xs:LP} {i:Int} {Q:SV->Prop}:pIx (.tuple xs) (.int i) Q=pGet xs i Q:=rfl
end Pu
namespace L2
open PySem PySem.Spec PyProof.Rows
structure QE (X:Cx) (e:Expr) (t:TE):Prop where
 out:PE X e  t
structure QT (X:Cx) (e:Expr) (t:TT):Prop where
 out:PT X e  t
structure QW (X:Cx) (e:Expr) (t:TT):Prop where
 out:PW X e  t
structure QA (X:Cx) (e:List Expr) (t:TA):Prop where
 out:PA X e  t
structure QSs (X:Cx) (e:List Stmt) (t:TS):Prop where
 out:PSs X e  t
structure QS (X:Cx) (e:Stmt) (t:TS):Prop where
 out:PS X e  t
structure QGs (X:Cx) (e:List Expr) (t:TGs):Prop where
 out:PGs X e  t
structure QG (X:Cx) (e:Expr) (t:TG):Prop where
 out:PG X e  t
structure QI (X:Cx) (e e2:Expr) (t:TI):Prop where
 out:PI X e e2  t
structure QTs (X:Cx) (e:List Expr) (t:TT):Prop where
 out:PTs X e  t
structure QO (X:Cx) (e:Option Expr) (t:TO):Prop where
 out:PO X e  t
section
variable {X:Cx}
theorem qpv (i: Nat) {x:Str} {pos:Pos} (hN: X.N[i]?=some x:=by rfl) (hv: Vis X.env.scope x:=by first | exact Or.inl rfl | exact Or.inr (Or.inl rfl) | exact Or.inr (Or.inr rfl)) (hd: (x == ("__debug__":Str))=false:=by decide) (hcd: (x == ("__classdict__":Str))=false:=by decide):QE X (.Name x pos) (tVar i):=⟨pv i hN hv hd hcd⟩
theorem A3 {i j pos}:QE X (.Constant (.int i) j pos) (tC (.int i)):=⟨F8 ⟩
theorem G8 {b j pos}:QE X (.Constant (.bool b) j pos) (tC (.bl b)):=⟨B9y ⟩
theorem K0 {j pos}:QE X (.Constant .none j pos) (tC .non):=⟨B7h ⟩
theorem C8 {x j pos}:QE X (.Constant (.str x) j pos) (tC (.str x)):=⟨B7e ⟩
theorem Q5 {x:Str} {v:V} {u:Value} {pos:Pos} (hg: Gl X x) (hm: X.mg x=some u) (r: RelV v u) (hd: (x == ("__debug__":Str))=false:=by decide):QE X (.Name x pos) (tC v):=⟨B4k hg hm r hd⟩
theorem J6 {x:Str} {v:V} {u:Value} {pos:Pos} (hg: Gl X x) (hm: X.mg x=none) (hv: bootBuiltins x=some u) (r: RelV v u) (hn: x≠"__name__":=by decide) (hd: (x == ("__debug__":Str))=false:=by decide):QE X (.Name x pos) (tC v):=⟨B4n hg hm hv r hn hd⟩
theorem C9 {op:Operator} {r:R2} (ho: OpR X (binaryOp op) r) (ha: QE X a ta) (hb: QE X b tb):QE X (.BinOp a op b pos) (tOp r ta tb):=⟨M7 ho ha.out hb.out⟩
theorem B6z {op:UnaryOp} {r:V->Hp->VK->Prop} (ho: UnR X (unaryOp op) r) (ha: QE X a ta):QE X (.UnaryOp op a pos) (tUn r ta):=⟨B9v ho ha.out⟩
theorem B35 (ha: QE X a ta):QE X (.UnaryOp .Not a pos) (B3s ta):=⟨B7g ha.out⟩
theorem L1 {op:CmpOp} {r:R2} (ho: OpR X (compareOp op) r) (ha: QE X a ta) (hb: QE X b tb) (hm: behindInMarks op b=false):QE X (.Compare a [op] [b] pos) (tOp r ta tb):=⟨Z4 ho ha.out hb.out hm⟩
theorem B5 {op:CmpOp} {r:R2} (ho: OpR X (compareOp op) r) (ha: QE X a ta) (hb: QE X b tb) (hm: behindInMarks op b=false):QT X (.Compare a [op] [b] pos) (A50 (tOp r ta tb)):=⟨A6k ho ha.out hb.out hm⟩
theorem A6i {op op':CmpOp} {r r':R2} (ho: OpR X (compareOp op) r) (ho': OpR X (compareOp op') r') (ha: QE X a ta) (hb: QE X b tb) (hc: QE X c tc) (hm: lastMarks [op,op'] [b,c]=false:=by with_unfolding_all rfl):QT X (.Compare a [op,op'] [b,c] pos) (A50 (A52 r r' ta tb tc)):=⟨B0k ho ho' ha.out hb.out hc.out hm⟩
theorem Z2 {rest:List Expr} (ha: QE X a ta) (hb: QE X (.BoolOp .And (b :: rest) pos) tb):QE X (.BoolOp .And (a :: b :: rest) pos) (B3u ta tb):=⟨B7i ha.out hb.out⟩
theorem B60 {rest:List Expr} (ha: QE X a ta) (hb: QE X (.BoolOp .Or (b :: rest) pos) tb):QE X (.BoolOp .Or (a :: b :: rest) pos) (tOrV ta tb):=⟨B9w ha.out hb.out⟩
theorem U7 {op} {t:TE} (h: QE X a t):QE X (.BoolOp op [a] pos) t:=⟨B7f h.out⟩
theorem J2 {rest:List Expr} (ha: QT X a tA) (hb: QW X (.BoolOp .And (b :: rest) pos) tB'):QW X (.BoolOp .And (a :: b :: rest) pos) (tAnd tA tB'):=⟨B66 ha.out hb.out⟩
theorem K1 {rest:List Expr} (ha: QT X a tA) (hb: QW X (.BoolOp .Or (b :: rest) pos) tB'):QW X (.BoolOp .Or (a :: b :: rest) pos) (tOr tA tB'):=⟨B9t ha.out hb.out⟩
theorem J5 (ha: QT X a tA):QW X (.BoolOp .And [a] pos) tA:=⟨B38 ha.out⟩
theorem K3 (ha: QT X a tA):QW X (.BoolOp .Or [a] pos) tA:=⟨B65 ha.out⟩
theorem J9 (ha: QT X a tA):QT X (.UnaryOp .Not a pos) (tNot tA):=⟨B67 ha.out⟩
theorem F2 {e:Expr} {t:TE} (h: QE X e t) (he: ∀ whole,isTrue e X.env whole=(do let v <- whole; standAt e.pos; holding [v] (truthy v)):=by intro _; rfl):QT X e (tB t):=⟨B13 h.out he⟩
theorem N1 (hc: X.calm=true) (C: CompSc X scope cl N' cap) (hi: QI X tg iter wi) (hg: ∀ s3 H3 fp,QG (X.block scope cl N' s3 H3 fp) tg g) (ht: ∀ s3 H3 fp,QTs (X.block scope cl N' s3 H3 fp) ifs tt) (he: ∀ s3 H3 fp,QE (X.block scope cl N' s3 H3 fp) elt te) (hs: ∀ x,foldedSetIterable iter X.env x=pure x:=by intro _; rfl):QE X (.ListComp elt [⟨tg,iter,ifs,0⟩] scope pos) (B0a wi g tt te cap):=⟨B4l hc C hi.out (fun a b c=>(hg a b c).out) (fun a b c=>(ht a b c).out) (fun a b c=>(he a b c).out) hs⟩
theorem G3 (hc: X.calm=true) (hN: X.N.Nodup) (hi: X.N[i]?=some y) (hy: X.env.scope.names.lookup y=some .local) (C: CompSc X scope cl N' cap) (hit: QI X tg iter wi) (hg: ∀ s3 H3 fp,QG (X.block scope cl N' s3 H3 fp) tg g) (ht: ∀ s3 H3 fp,QTs (X.block scope cl N' s3 H3 fp) ifs tt) (he: ∀ s3 H3 fp,QE (X.block scope cl N' s3 H3 fp) elt te) (hsw: swapsWith (.ListComp elt [⟨tg,iter,ifs,0⟩] scope pos) (some (.Name y py)) spos.line X.env=pure true) (hs: ∀ x,foldedSetIterable iter X.env x=pure x:=by intro _; rfl):QS X (.Assign [.Name y py] (.ListComp elt [⟨tg,iter,ifs,0⟩] scope pos) spos) (T2 wi g tt te cap i):=⟨A4x hc hN hi hy C hit.out (fun a b c=>(hg a b c).out) (fun a b c=>(ht a b c).out) (fun a b c=>(he a b c).out) hsw hs⟩
theorem C4 {x1} (h: QA X es t):QE X (.Tuple es x1 pos) (tTup t):=⟨B7d h.out⟩
theorem F3 (h: QA X es t):QE X (.List es pos) (tLst t):=⟨A62 h.out⟩
theorem A0v {lo hi:Option Expr} {r:V->Option Int->Option Int->Hp->VK->Prop} (hr: SlR X r) (he: QE X e te) (hl: QO X lo tl) (hu: QO X hi th):QE X (.Subscript e (.Slice lo hi none p2) pos) (tSl r te tl th):=⟨B0p hr he.out hl.out hu.out⟩
theorem A3l :QO X none A18:=⟨B4f ⟩
theorem A3k (h: QE X e te):QO X (some e) (B3r te):=⟨B4e h.out⟩
theorem A9 {r:R2} (hr: IxR X r) (ha: QE X a ta) (hb: QE X b tb) (hs: A97 b):QE X (.Subscript a b pos) (tOp r ta tb):=⟨Z3 hr ha.out hb.out hs⟩
theorem A7 (F: FnOk X.prog X.w X.K X.mg X.base CX k f fd ps sp) (hr: Room k X.A) (hg: Gl X x) (hm: X.mg x=some (.ref f)) (hk: PySem.W.keepIn X.K (.ref f)=true) (hb: Binds X.K fd ps ds) (hd: Vals dvs ds) (hx: A4q CX X E) (ha: QA X (e :: es) t) (hdb: (x == ("__debug__":Str))=false:=by decide) (he: starEach (e :: es) X.env=(false,eval e X.env) :: starEach es X.env:=by rfl) (hpl: (backTo pos (starEach es X.env)).any (·.1)=false:=by rfl):QE X (.Call (.Name x p) (e :: es) [] pos) (Y6 sp dvs E t):=⟨B4m F hr hg hm hk hb hd hx ha.out hdb he hpl⟩
theorem B7 {id:String} (hc: CallR X (.builtin id) r) (hg: Gl X x) (hm: X.mg x=none) (hv: bootBuiltins x=some (.builtin id)) (ha: QA X (e :: es) t) (hn: x≠"__name__":=by decide) (hdb: (x == ("__debug__":Str))=false:=by decide) (he: starEach (e :: es) X.env=(false,eval e X.env) :: starEach es X.env:=by rfl) (hpl: (backTo pos (starEach es X.env)).any (·.1)=false:=by rfl):QE X (.Call (.Name x p) (e :: es) [] pos) (tCB r t):=⟨A3s hc hg hm hv ha.out hn hdb he hpl⟩
theorem R4 (hc: CallR X (.type T) r) (hg: Gl X x) (hm: X.mg x=none) (hv: bootBuiltins x=some (.type T)) (ha: QA X (e :: es) t) (hn: x≠"__name__":=by decide) (hdb: (x == ("__debug__":Str))=false:=by decide) (he: starEach (e :: es) X.env=(false,eval e X.env) :: starEach es X.env:=by rfl) (hpl: (backTo pos (starEach es X.env)).any (·.1)=false:=by rfl):QE X (.Call (.Name x p) (e :: es) [] pos) (tCB r t):=⟨A03 hc hg hm hv ha.out hn hdb he hpl⟩
theorem K4 {K:PySem.W.Frag} (hK:X.K=K) {id:String} (pa: PlainAttrs T) (slot: Slot T name id) (hty: typeOf (.builtin id)=pure (.type "method_descriptor")) (hm: MtR X id r) (ho: QE X o to) (ha: QA X (e :: es) t) (hbase: attributeBase o name X.env (eval o X.env)=eval o X.env:=by rfl) (hfew: ((backTo cpos (starEach (e :: es) X.env)).all (fun x=>!x.1) && (backToKw cpos (keywordEach [] X.env)).all (fun x=>x.1.isSome)
   && decide ((e :: es).length + ([]:List Keyword).length + (if ([]:List Keyword).isEmpty then 0 else 1) < 30))=true:=by rfl) (hline: (apos.endLine == cpos.line)=true:=by rfl) (hs: starEach (e :: es) X.env=(false,eval e X.env) :: starEach es X.env:=by rfl) (hplain: (backTo cpos (starEach es X.env)).any (·.1)=false:=by rfl):QE X (.Call (.Attribute o name apos) (e :: es) [] cpos) (tBM K T r to t):=by subst hK; exact ⟨B9x pa slot hty hm ho.out ha.out hbase hfew hline hs hplain⟩
theorem A2 :QA X [] tNil:=⟨X2 ⟩
theorem A0 (ha: QE X e te) (hr: QA X es t) (hs: starEach (e :: es) X.env=(false,eval e X.env) :: starEach es X.env:=by rfl):QA X (e :: es) (L9 te t):=⟨Q3 ha.out hr.out hs⟩
theorem C6 :QSs X [] B3t:=⟨A2e ⟩
theorem A8 {st:Stmt} (h1: QS X st t):QSs X [st] t:=⟨R5 h1.out⟩
theorem A4 {st:Stmt} {rest:List Stmt} (h1: QS X st t) (h2: QSs X rest u):QSs X (st :: rest) (tSeq t u):=⟨L3 h1.out h2.out⟩
theorem C0 (he: QE X e te):QS X (.Return (some e) pos) (tRet te):=⟨A3p he.out⟩
theorem G5 (he: QE X e te) (hs: swapsWith e none pos.line X.env=pure false:=by rfl):QS X (.Expr e pos) (A51 te):=⟨B4d he.out hs⟩
theorem D0 {c:Expr} {a b:List Stmt} {tc:TT} (hc: QT X c tc) (ha: QSs X a t) (hb: QSs X b u):QS X (.If c a b pos) (tIfS tc t u):=⟨B4c hc.out ha.out hb.out⟩
theorem U5 {c:Expr} {body:List Stmt} {tc:TT} {tb:TS} (hp: PassesOwn (model X.prog X.w) X.A X.env X.xe) (hc: QT X c tc) (hb: QSs X body tb):QS X (.While c body [] pos) (A5z tc tb):=⟨B0l hp hc.out hb.out⟩
theorem E9 {iter:Expr} {body:List Stmt} {wi:TI} {g:TG} {tb:TS} {pos:Pos} (hp: PassesOwn (model X.prog X.w) X.A X.env X.xe) (hc: X.calm=true) (hi: QI X tg iter wi) (hg: QG X tg g) (hb: QSs X body tb) (hs: ∀ x,foldedSetIterable iter X.env x=pure x:=by intro _; rfl):QS X (.For tg iter body [] pos) (tFor wi g tb):=⟨B14 hp hc hi.out hg.out hb.out hs⟩
theorem B6 {i:Nat} {x:Str} {e:Expr} {te:TE} {pos':Pos} (hN: X.N.Nodup) (hi: X.N[i]?=some x) (hx: Loc X.env.scope x) (he: QE X e te) (hs: swapsWith e (some (.Name x pos')) pos.line X.env=pure false:=by rfl) (hf: X.fn x=true\/X.env.scope.names.lookup x=some .local:=by first | exact .inl rfl | exact .inr rfl | assumption):QS X (.Assign [.Name x pos'] e pos) (tAsg te (A0b i)):=⟨X1 hN hi hx he.out hs hf⟩
theorem Z1 {i j:Nat} {x y:Str} {a b:Expr} {ta:TA} {px py pt:Pos} {kt k2 pt2} (hc: X.calm=true) (hN: X.N.Nodup) (hi: X.N[i]?=some x) (hj: X.N[j]?=some y) (hij: i≠j) (hx: X.env.scope.names.lookup x=some .local) (hy: X.env.scope.names.lookup y=some .local) (ha: QA X [a,b] ta) (hw: swappedStores [.Tuple [.Name x px,.Name y py] kt pt] (.Tuple [a,b] k2 pt2) X.env=pure (some [x,y])) (hs: swapsWithSole [.Tuple [.Name x px,.Name y py] kt pt] (.Tuple [a,b] k2 pt2) pos.line X.env=pure false:=by rfl):QS X (.Assign [.Tuple [.Name x px,.Name y py] kt pt] (.Tuple [a,b] k2 pt2) pos) (tPar i j ta):=⟨B68 hc hN hi hj hij hx hy ha.out hw hs⟩
theorem F6 {tg e:Expr} {te:TE} {g:TG} (he: QE X e te) (hg: QG X tg g) (hs: swapsWithSole [tg] e pos.line X.env=pure false:=by rfl) (hw: swappedStores [tg] e X.env=pure none:=by rfl) (h1: (assignEach [tg] X.env).map (·.2)=[assign tg X.env]:=by rfl):QS X (.Assign [tg] e pos) (tAsg te g):=⟨A3q he.out hg.out hs hw h1⟩
theorem B0 {i:Nat} {x:Str} (hN: X.N.Nodup) (hi: X.N[i]?=some x) (hx: Loc X.env.scope x) (hf: X.fn x=true\/X.env.scope.names.lookup x=some .local:=by first | exact .inl rfl | exact .inr rfl | assumption):QG X (.Name x pos) (A0b i):=⟨A61 hN hi hx hf⟩
theorem D2 :QGs X [] gNil:=⟨B4i ⟩
theorem B3 {e:Expr} {es:List Expr} {t:TG} {u:TGs} (h1: QG X e t) (h2: QGs X es u) (hs: (assignEach (e :: es) X.env).map (·.2)=assign e X.env :: (assignEach es X.env).map (·.2):=by rfl):QGs X (e :: es) (A87 t u):=⟨B0o h1.out h2.out hs⟩
theorem D3 {K:PySem.W.Frag} {pos:Pos} {es:List Expr} {k:Nat} {t:TGs} {n:Nat} (h: X.K=K) (hc: X.calm=true) (hg: QGs X es t) (hn: (assignEach es X.env).length=n:=by rfl) (hst: (assignEach es X.env).findIdx? (·.1)=none:=by rfl):QG X (.Tuple es k pos) (gTup K n t):=⟨B4j h hc hg.out hn hst⟩
theorem F9 {a:Expr} {ta:TA} {p pos:Pos} (hg: Gl X "range") (hm: X.mg "range"=none) (ha: QA X [a] ta) (hs: starEach [a] X.env=[(false,eval a X.env)]:=by rfl):QI X tg (.Call (.Name "range" p) [a] [] pos) (B5r ta):=⟨A02 hg hm ha.out hs⟩
theorem X0 {a b:Expr} {ta:TA} {p pos:Pos} (hg: Gl X "range") (hm: X.mg "range"=none) (ha: QA X [a,b] ta) (hs: starEach [a,b] X.env=[(false,eval a X.env),(false,eval b X.env)]:=by rfl) (hs2: starEach [b] X.env=[(false,eval b X.env)]:=by rfl):QI X tg (.Call (.Name "range" p) [a,b] [] pos) (B5q ta):=⟨A60 hg hm ha.out hs hs2⟩
theorem D9 {K:PySem.W.Frag} {l:Expr} {tl:TE} (h: X.K=K) (hl: QE X l tl):QI X tg l (iSq K tl):=⟨B7a h hl.out⟩
theorem G0 {X:Cx}:QTs X [] tYes:=⟨B4a ⟩
theorem B0i {X:Cx} {c:Expr} {t:TT} (h: QT X c t):QTs X [c] t:=⟨B39 h.out⟩
theorem QW.pt {X:Cx} {e:Expr} {t:TT} (h:QW X e t):QT X e t:=⟨h.out.pt⟩
end
end L2
namespace Pu
open PySem L2 My Prf
theorem B85 (n:Int):PyData.tuple [.int n,.int 1]=dq (n:Rat):=by
 unfold dq; rw [Rat.num_intCast,Rat.den_intCast]; rfl
theorem A19 {k:Nat} {n:Int} (h:Sm k n):SmR k 1 (n:Rat):=⟨by rw [Rat.num_intCast]; exact h,by rw [Rat.den_intCast]; unfold Sm; decide⟩
theorem B3y {k:Nat} {q:Rat} (h:SmR k 1 q):q.den=1:=by
 have h1:(q.den:Int).natAbs < 2 ^ 1:=h.2;have h2:=q.den_nz;omega
theorem B8v {n:Int} (h:0<=n):(0:Rat)<=(n:Rat):=Rat.intCast_nonneg.mpr h
theorem B8u {n:Int} (h:0 < n):(0:Rat) < (n:Rat):=Rat.intCast_pos.mpr h
theorem A59 {z:Int} (h0:0<=z) (h1:z<=1000000000000000000):Sm 4000 z:=Sm.mono (k:=64) (N7 (B:=1000000000000000000) (by omega) (by omega) (by decide)) (by decide)
theorem A3v {c:Rat × Rat} {Q:SV->Prop}:pIx (dcn c) (.int 0) Q=Q (.d (dq c.1)):=by unfold dcn; rw [pIxT,B45]
theorem T8 {lo:Int} {n:Nat} {pg:PyData->PEnv->(PEnv->Prop)->Prop} {pt:PTt} {pd:PDt} {e0:PEnv} {Fin:LP->Prop} (Pv:Nat->PEnv->LP->Prop) (h0:Pv 0 e0 [])
  (hs:∀ (i:Nat) e ys,i < n->Pv i e ys->pg (.int (lo + (i:Int))) e fun e2=>pt e2 fun b e3=>if b=true then pd e3 fun y e4=>Pv (i + 1) e4 (ys++[y]) else Pv (i + 1) e3 ys) (hd:∀ e ys,Pv n e ys->Fin ys):P3 (rngD lo n) pg pt pd e0 Fin :=
 ⟨Pv,h0,fun i x e ys hx hi=>by obtain ⟨h1,rfl⟩:=A3i hx; exact hs i e ys h1 hi,fun e ys h=>hd e ys (by rwa [M0] at h)⟩
theorem J8 {α:Type} {f:α->PyData} {xs:List α} {pg:PyData->PEnv->(PEnv->Prop)->Prop} {pt:PTt} {pd:PDt} {e0:PEnv} {Fin:LP->Prop} (Pv:Nat->PEnv->LP->Prop) (h0:Pv 0 e0 [])
  (hs:∀ (i:Nat) a e ys,xs[i]?=some a->Pv i e ys->pg (f a) e fun e2=>pt e2 fun b e3=>if b=true then pd e3 fun y e4=>Pv (i + 1) e4 (ys++[y]) else Pv (i + 1) e3 ys) (hd:∀ e ys,Pv xs.length e ys->Fin ys):P3 (xs.map f) pg pt pd e0 Fin:=by
 refine ⟨Pv,h0,fun i x e ys hx hi=>?_,fun e ys h=>hd e ys (by rwa [List.length_map] at h)⟩;rw [List.getElem?_map] at hx;cases ha:xs[i]? with
 | none=>rw [ha] at hx; cases hx
 | some a=>rw [ha] at hx; cases hx; exact hs i a e ys ha hi
theorem L0 {α:Type} {f:α->PyData} {xs:List α} {pg:PyData->PEnv->(PEnv->Prop)->Prop} {pb:PSt} {D:PEnds} {env:PEnv} (Iv:Nat->PEnv->Prop) (h0:Iv 0 env)
  (hs:∀ (i:Nat) a e,xs[i]?=some a->Iv i e->pg (f a) e fun e2=>pb ⟨Iv (i + 1),D.rt,D.nx,Iv (i + 1)⟩ e2) (hd:∀ e,Iv xs.length e->D.nx e):A04 (xs.map f) pg pb D env:=by
 refine ⟨Iv,h0,fun i x e hx hi=>?_,fun e h=>hd e (by rwa [List.length_map] at h)⟩;rw [List.getElem?_map] at hx;cases ha:xs[i]? with
 | none=>rw [ha] at hx; cases hx
 | some a=>rw [ha] at hx; cases hx; exact hs i a e ha hi
end Pu
namespace Pu
open PySem L2 My Prf
theorem sm_zero:SmR 1 1 (0:Rat):=⟨by unfold Sm; decide,by unfold Sm; decide⟩
end Pu
namespace Pu
open PySem L2 My Prf
theorem A4p {q:Rat} {k:LP->Prop}:W1 (dq q) k=k [.int q.num,.int (q.den:Int)]:=rfl
end Pu
namespace Pu
open PySem L2 My Prf
theorem A5t {i:Int}:tyD (.int i)="int":=rfl
theorem A3c {b:Bool}:tyD (.bool b)="bool":=rfl
theorem A5s {s:Str}:tyD (.str s)="str":=rfl
theorem A3a:tyD .none="NoneType":=rfl
theorem A3b {xs:LP}:tyD (.list xs)="list":=rfl
theorem A5r {xs:LP}:tyD (.tuple xs)="tuple":=rfl
theorem Y4 {xs:LP} {k:LP->Prop}:W1 (.list xs) k=k xs:=rfl
theorem A13 {xs:LP} {k:LP->Prop}:W1 (.tuple xs) k=k xs:=rfl
theorem A1i:isNo .none=true:=rfl
theorem A1j {xs:LP}:isNo (.list xs)=false:=rfl
end Pu
namespace Pu
open PySem L2 My Prf
end Pu
namespace L2
open PySem PySem.Spec PyProof.Rows
section
variable {X:Cx} {pins:List (Addr × Obj)} {σ:St} {H:Hp} {s:Shared} {h':Heap}
theorem Inv.turnL {t':Nat} {wr:List Addr} (I:Inv X pins σ H s) (k:∀ b o,b ∉ wr->s.heap.get? b=some o->h'.get? b=some o) (hf:∀ b ∈ wr,FpOk X pins H b):Inv X pins σ H { s with heap:=h',toks:=t' }:=by
 have nw:∀ b u,H b=some u->b ∉ wr:=fun b u e z=>by have:=(hf b z).1; rw [e] at this; cases this
 refine I.call (g':=s.gens) (d':=s.drawn) (ch:=wr) ⟨fun b o e _ _ hb=>k b o hb e,fun b o e _ _ hb=>⟨o.slots,k b o hb e⟩,fun _ _ _ n _=>n,fun b o e hb=>⟨o,k b o hb e⟩,fun _ _ e=>e,fun _ _ _ e=>e,fun b ps e=>⟨#[],by rw [e]; simp⟩⟩ (fun b u e=>?_) I.bare fun b hb=>?_
 ·refine (I.hok b u e).stay (fun c v hc q=>k c v ?_ q) (fun _ q=>q) fun _ _ q=>q;rcases hc with z | z
  ·rw [z]; exact nw b u e
  ·exact nw c _ z
 ·have f:=hf b hb;exact ⟨f.2.2.2.1,f.2.1,f.2.2.2.2.1,f.2.2.2.2.2⟩
theorem Inv.laidL {t':Nat} {wr:List Addr} {T:Addr} {o:HO} (I:Inv X pins σ H s) (k:∀ b u,b ∉ wr->s.heap.get? b=some u->h'.get? b=some u) (hf:∀ b ∈ wr,FpOk X pins H b) (hp:s.heap.objs.size<=T) (new:ObjOk X.prog X.w (upd H T o) h' T o) :
  Inv X pins σ (upd H T o) { s with heap:=h',toks:=t' }:=by
 have hn:=I.hok.fresh hp;have nw:∀ b u,H b=some u->b ∉ wr:=fun b u e z=>by have:=(hf b z).1; rw [e] at this; cases this
 refine I.call (g':=s.gens) (d':=s.drawn) (ch:=wr) ⟨fun b u e _ _ hb=>k b u hb e,fun b u e _ _ hb=>⟨u.slots,k b u hb e⟩,fun b u e n _=>by rw [D8 (Nat.ne_of_lt (Nat.lt_of_lt_of_le (Heap.lt_size e) hp))]; exact n,fun b u e hb=>⟨u,k b u hb e⟩,
  fun b xs e=>by rw [D8 (F5 e hn)]; exact e,fun b u xs e=>by rw [D8 (F5 e hn)]; exact e,fun b ps e=>⟨#[],by rw [D8 (F5 e hn),e]; simp⟩⟩ (fun b u e=>?_) I.bare fun b hb=>?_
 ·by_cases hb:b=T
  ·subst hb; rw [D5] at e; cases e; exact new
  ·rw [D8 hb] at e;refine (I.hok b u e).stay (fun c v hc q=>k c v ?_ q) (fun c q=>by rw [D8 (F5 q hn)]; exact q) fun c xs q=>by rw [D8 (F5 q hn)]; exact q
   rcases hc with z | z
   ·rw [z]; exact nw b u e
   ·exact nw c _ z
 ·have f:=hf b hb;exact ⟨f.2.2.2.1,f.2.1,f.2.2.2.2.1,f.2.2.2.2.2⟩
end
def Itz (K:PySem.W.Frag) (l1 l2:Addr):It :=
 ⟨fun i H=>∃ xs ys x y,SqL K H l1 xs/\SqL K H l2 ys/\xs[i]?=some x/\ys[i]?=some y,
  fun i H v H'=>∃ T x y,v=.ref T/\H T=none/\H'=upd H T (.tup [x,y])/\(∀ xs,SqL K H l1 xs->xs[i]?=some x)/\∀ ys,SqL K H l2 ys->ys[i]?=some y,
  fun i H=>∃ xs ys,SqL K H l1 xs/\SqL K H l2 ys/\(xs.length<=i\/ys.length<=i)⟩
def Ite (K:PySem.W.Frag) (l:Addr):It :=
 ⟨fun i H=>∃ xs x,SqL K H l xs/\xs[i]?=some x,
  fun i H v H'=>∃ T x,v=.ref T/\H T=none/\H'=upd H T (.tup [.int i,x])/\∀ xs,SqL K H l xs->xs[i]?=some x,
  fun i H=>∃ xs,SqL K H l xs/\xs.length<=i⟩
theorem S9:∀ {xs:List V} {us:List Value} {i:Nat} {x:V},Vals xs us->xs[i]?=some x->∃ u,us[i]?=some u/\RelV x u
 | _,_,_,_,.nil,e=>by simp at e
 | _,_,0,_,.cons h _,e=>by simp at e; subst e; exact ⟨_,rfl,h⟩
 | _,_,i + 1,x,.cons _ t,e=>by
  obtain ⟨u,h1,h2⟩:=S9 (i:=i) (x:=x) t (by simpa using e);exact ⟨u,by simpa using h1,h2⟩
theorem B9p {P:Program} {w:World} {K:PySem.W.Frag} {es:List Expr} {kk:Nat} {tp:Pos} {z TI TO i1 i2 l1 l2:Addr} (D:ZipApart z TI TO i1 i2 l1 l2) :
    Turn P w K (.Tuple es kk tp) (Itz K l1 l2) [z,TI,TO,i1,i2] z (fun i h=>IsZip h z TI TO .none/\IsPair h TI (.ref i1) (.ref i2)/\(∃ a b,IsPair h TO a b)/\h.IsListIter i1 l1 i/\h.IsListIter i2 l2 i) where
  mem:=List.mem_cons_self
  obj:=fun i h st b hb=>by
    obtain ⟨hz,hTI,⟨a,c,hTO⟩,⟨o1,g1,k1,d1⟩,⟨o2,g2,k2,d2⟩⟩:=st;simp only [List.mem_cons,List.mem_nil_iff,or_false] at hb;rcases hb with rfl | rfl | rfl | rfl | rfl
    · exact ⟨_,hz,fun v q=>Data.noConfusion (show Data.fields _=Data.cell v from q)⟩
    · exact ⟨_,hTI,fun v q=>Data.noConfusion (show Data.seq _ _=Data.cell v from q)⟩
    · exact ⟨_,hTO,fun v q=>Data.noConfusion (show Data.seq _ _=Data.cell v from q)⟩
    · exact ⟨_,g1,fun v q=>by rw [d1] at q; cases q⟩
    · exact ⟨_,g2,fun v q=>by rw [d2] at q; cases q⟩
  keep:=fun i h h' st k=>by
    obtain ⟨hz,hTI,⟨a,c,hTO⟩,h1,h2⟩:=st;exact ⟨k z (by simp) _ hz,k TI (by simp) _ hTI,⟨a,c,k TO (by simp) _ hTO⟩,h1.at fun o e=>k i1 (by simp) o e,h2.at fun o e=>k i2 (by simp) o e⟩
  item:=by
    intro X hP hw hK hc i pins s σ H E I hf st hg;subst hP hw hK;obtain ⟨hz,hTI,⟨a,c,hTO⟩,h1,h2⟩:=st;obtain ⟨xs,ys,x,y,q1,q2,ex,ey⟩:=hg;obtain ⟨its1,r1,p1,_⟩:=I.list q1;obtain ⟨its2,r2,p2,_⟩:=I.list q2;obtain ⟨u1,e1,ru1⟩:=S9 r1 ex;obtain ⟨u2,e2,ru2⟩:=S9 r2 ey;refine wpAny_pyNext_zip_item D hz hTI hTO h1 h2 p1.isList p2.isList (by simpa using e1) (by simpa using e2) fun h' a1 a2 a3 a4 a5 a6 hk=>⟨_,rfl,?_⟩;refine wpAny_letOwnedTupleGo_zip a1 fun h'' b1 sb=>?_;have lt:∀ {b o},s.heap.get? b=some o->s.heap.objs.size≠b:=fun e=>Nat.ne_of_gt (Heap.lt_size e);have k2:∀ b o,b ∉ [z,TO,i1,i2]->s.heap.get? b=some o->h''.get? b=some o:=fun b o hb e=>by
      simp only [List.mem_cons,List.mem_nil_iff,or_false,not_or] at hb;exact (sb.2 b hb.1).trans (hk b o hb.1 hb.2.1 hb.2.2.1 hb.2.2.2 e)
    have I2:Inv X pins σ (upd H s.heap.objs.size (.tup [x,y])) { s with heap:=h'',toks:=s.toks }:=by
      refine I.laidL (wr:=[z,TO,i1,i2]) k2 (fun b hb=>hf b ?_) (Nat.le_refl _) ⟨by show 2<=sizeLine; decide,[u1,u2],.cons ru1 (.cons ru2 .nil),?_⟩
      · simp only [List.mem_cons,List.mem_nil_iff,or_false] at hb ⊢
        rcases hb with q | q | q | q <;> simp [q]
      · exact ⟨_,(sb.2 _ (lt hz)).trans a5,rfl,_,rfl⟩
    refine ⟨.ref s.heap.objs.size,_,I2,rfl,⟨_,x,y,rfl,I.fresh,rfl,fun zs hzs=>by rw [I.list_inj hzs q1]; exact ex,fun zs hzs=>by rw [I.list_inj hzs q2]; exact ey⟩,⟨b1,(sb.2 _ D.TIz).trans (hk _ _ D.TIz D.TITO D.TIi1 D.TIi2 hTI),⟨_,_,(sb.2 _ D.TOz).trans a2⟩,a3.at fun o e=>(sb.2 _ D.i1z).trans e,a4.at fun o e=>(sb.2 _ D.i2z).trans e⟩,fun b hb=>?_⟩;have:b≠s.heap.objs.size:=by
      simp only [List.mem_cons,List.mem_nil_iff,or_false] at hb;obtain ⟨_,g1,_⟩:=h1;obtain ⟨_,g2,_⟩:=h2;rcases hb with rfl | rfl | rfl | rfl | rfl
      · exact (lt hz).symm
      · exact (lt hTI).symm
      · exact (lt hTO).symm
      · exact (lt g1).symm
      · exact (lt g2).symm
    rw [D8 this]; exact (hf b hb).1
  done:=by
    intro X hP hw hK hc i pins s σ H E I hf st hg;subst hP hw hK;obtain ⟨hz,hTI,⟨a,c,hTO⟩,h1,h2⟩:=st;obtain ⟨xs,ys,q1,q2,hl⟩:=hg;obtain ⟨its1,r1,p1,_⟩:=I.list q1;obtain ⟨its2,r2,p2,_⟩:=I.list q2;have n1:=r1.length;have n2:=r2.length;refine wpAny_pyNext_zip_end (I.ok.hd hc) D hz hTI hTO h1 h2 p1.isList p2.isList (hl.imp (fun q=>by simp; omega) fun q=>by simp; omega) fun h' hk=>⟨rfl,?_⟩;refine I.turnL (t':=s.toks) (wr:=[z,TO,i1,i2]) (fun b o hb e=>?_) (fun b hb=>hf b ?_)
    · simp only [List.mem_cons,List.mem_nil_iff,or_false,not_or] at hb
      exact hk b o hb.1 hb.2.1 hb.2.2.1 hb.2.2.2 e
    · simp only [List.mem_cons,List.mem_nil_iff,or_false] at hb ⊢
      rcases hb with q | q | q | q <;> simp [q]
  self:=fun _ _ _ _ _ st h=>wpAny_pyIter_zip st.1 h
theorem A5w {P:Program} {w:World} {K:PySem.W.Frag} {es:List Expr} {kk:Nat} {tp:Pos} {e it l:Addr} (hei:e≠it) :
    Turn P w K (.Tuple es kk tp) (Ite K l) [e,it] e (fun i h=>(∃ old,IsEnum h e it i old)/\h.IsListIter it l i) where
  mem:=List.mem_cons_self
  obj:=fun i h st b hb=>by
    obtain ⟨⟨old,he⟩,⟨o1,g1,k1,d1⟩⟩:=st;simp only [List.mem_cons,List.mem_nil_iff,or_false] at hb;rcases hb with rfl | rfl
    · exact ⟨_,he,fun v q=>Data.noConfusion (show Data.fields _=Data.cell v from q)⟩
    · exact ⟨_,g1,fun v q=>by rw [d1] at q; cases q⟩
  keep:=fun i h h' st k=>by
    obtain ⟨⟨old,he⟩,h1⟩:=st;exact ⟨⟨old,k e (by simp) _ he⟩,h1.at fun o q=>k it (by simp) o q⟩
  item:=by
    intro X hP hw hK hc i pins s σ H E I hf st hg;subst hP hw hK;obtain ⟨⟨old,he⟩,h1⟩:=st;obtain ⟨xs,x,q1,ex⟩:=hg;obtain ⟨its1,r1,p1,_⟩:=I.list q1;obtain ⟨u1,e1,ru1⟩:=S9 r1 ex;refine wpAny_pyNext_enum_item he h1 p1.isList (x:=u1) (by simpa using e1) hei fun h' a1 a2 a3 a4 hk=>⟨_,rfl,?_⟩;refine wpAny_letOwnedTupleGo_enum a1 fun h'' b1 sb=>?_;have lt:∀ {b o},s.heap.get? b=some o->s.heap.objs.size≠b:=fun e=>Nat.ne_of_gt (Heap.lt_size e);obtain ⟨o1,g1,_⟩:=id h1;have I2:Inv X pins σ (upd H s.heap.objs.size (.tup [.int i,x])) { s with heap:=h'',toks:=s.toks + 1 }:=by
      refine I.laidL (wr:=[e,it]) (fun b o hb q=>?_) (fun b hb=>hf b hb) (Nat.le_refl _) ⟨by show 2<=sizeLine; decide,[.int i s.toks,u1],.cons ⟨_,rfl⟩ (.cons ru1 .nil),?_⟩
      · simp only [List.mem_cons,List.mem_nil_iff,or_false,not_or] at hb
        exact (sb.2 b hb.1).trans (hk b o hb.1 hb.2 q)
      · exact ⟨_,(sb.2 _ (lt he)).trans a3,rfl,_,rfl⟩
    refine ⟨.ref s.heap.objs.size,_,I2,rfl,⟨_,x,rfl,I.fresh,rfl,fun zs hzs=>by rw [I.list_inj hzs q1]; exact ex⟩,⟨⟨_,by simpa using b1⟩,a2.at fun o q=>(sb.2 _ hei.symm).trans q⟩,fun b hb=>?_⟩;have:b≠s.heap.objs.size:=by
      simp only [List.mem_cons,List.mem_nil_iff,or_false] at hb;rcases hb with rfl | rfl
      · exact (lt he).symm
      · exact (lt g1).symm
    rw [D8 this]; exact (hf b hb).1
  done:=by
    intro X hP hw hK hc i pins s σ H E I hf st hg;subst hP hw hK;obtain ⟨⟨old,he⟩,h1⟩:=st;obtain ⟨xs,q1,hl⟩:=hg;obtain ⟨its1,r1,p1,_⟩:=I.list q1;have n1:=r1.length;refine wpAny_pyNext_enum_end (I.ok.hd hc) he h1 p1.isList (by simp; omega) fun h' hk=>⟨rfl,?_⟩;refine I.turnL (t':=s.toks) (wr:=[e,it]) (fun b o hb q=>?_) (fun b hb=>hf b hb);simp only [List.mem_cons,List.mem_nil_iff,or_false,not_or] at hb;exact hk b o hb.2 q
  self:=fun _ _ _ _ _ st h=>by obtain ⟨⟨old,he⟩,_⟩:=st; exact wpAny_pyIter_enum he h
section
variable {X:Cx}
def B5s (K:PySem.W.Frag) (ta:TA):TI:=fun σ H R=>ta σ H fun vs H1=>∃ l xs,vs=[.ref l]/\SqL K H1 l xs/\R (Ite K l) H1
theorem B0n {K:PySem.W.Frag} {a:Expr} {ta:TA} {p pos:Pos} {es:List Expr} {kk:Nat} {tp:Pos} (hK:X.K=K) (hg:Gl X "enumerate") (hm:X.mg "enumerate"=none) (ha:PA X [a] ta)
  (hs:starEach [a] X.env=[(false,eval a X.env)]:=by rfl):PI X (.Tuple es kk tp) (.Call (.Name "enumerate" p) [a] [] pos) (B5s K ta):=by
 subst hK;intro pins s σ H R I h;refine Call_ (X7 I hg hm boot_enumerate (PyProof.Rows.callWith_type1 (thn (ha pos pins s σ H _ I h) fun us s1 ⟨vs,H1,I1,r1,q1⟩=>?_) hs rfl));obtain ⟨l,xs,e,g1,q⟩:=q1;subst e;cases r1 with
 | cons r rr =>
  cases rr;cases r;obtain ⟨its1,_,p1,_⟩:=I1.list g1;refine call_enumerate_list p1.isList fun h' a1 a2 a3 hk=>wpAny_pyIter_enum a1 ?_;have I2:Inv X pins σ H1 { s1 with heap:=h' }:=I1.kept (t':=s1.toks) hk;refine ⟨_,[s1.heap.objs.size + 1,s1.heap.objs.size],_,_,H1,rfl,I2,A5w (Nat.succ_ne_self _),⟨⟨_,a1⟩,a2⟩,fun b hb=>?_,q⟩;have hb':s1.heap.objs.size<=b:=by
   simp only [List.mem_cons,List.mem_nil_iff,or_false] at hb;rcases hb with rfl | rfl <;> omega
  exact I1.fpOk hb' (I1.hok.fresh hb')
theorem U6 {K:PySem.W.Frag} {a:Expr} {ta:TA} {p pos:Pos} {es:List Expr} {kk:Nat} {tp:Pos} (hK:X.K=K) (hg:Gl X "enumerate") (hm:X.mg "enumerate"=none) (ha:QA X [a] ta)
  (hs:starEach [a] X.env=[(false,eval a X.env)]:=by rfl):QI X (.Tuple es kk tp) (.Call (.Name "enumerate" p) [a] [] pos) (B5s K ta):=⟨B0n hK hg hm ha.out hs⟩
end
end L2
namespace Pu
open PySem L2 My Prf
class RL (K:Frag) (te:TE) (pl:outParam PAr):Prop where
 ok:∀ (c:Ct) (w:Wd) (env:PEnv) (σ:St) (Qp:LP->PEnv->Prop) (Q:VK),c.K=K->EnvOk c w env σ->pl env Qp->(∀ v xs env' w',EnvOk c w' env' σ->Lw w w'->VR c w' v (.bor xs)->Qp xs env'->Q v w'.H)->te σ w.H Q
def B42 (i:Nat) (env:PEnv) (Q:LP->PEnv->Prop):Prop:=match env[i]? with
 | some (some (.d x))=>asL x fun xs=>Q xs env
 | some (some (.own xs))=>Q xs (env.set i (some (.d (.list xs))))
 | some (some (.bor xs))=>Q xs env
 | _=>False
instance rl_var {K:Frag} {i:Nat}:RL K (tVar i) (B42 i) where
 ok:=by
  rintro c w env σ Qp Q rfl E p k;unfold B42 at p;split at p
  ·rename_i x e;obtain ⟨v,h1,h2⟩:=E.at' i _ e;unfold asL at p;split at p
   ·exact ⟨v,h1,k v _ env w E (Lw.refl w) (.inl h2) p⟩
   ·exact p.elim
  ·rename_i xs e;obtain ⟨w',v,e',hv,E',l,d⟩:=E.frz e;refine ⟨v,hv,?_⟩;rw [<- e'];exact k v _ _ w' E' l (.inl d) p
  ·rename_i xs e;obtain ⟨v,h1,h2⟩:=E.at' i _ e;exact ⟨v,h1,k v _ env w E (Lw.refl w) h2 p⟩
  ·exact p.elim
inductive Brs (c:Ct) (w:Wd):List V->List LP->Prop
 | nil:Brs c w [] []
 | cons {v:V} {xs:LP} {vs:List V} {xss:List LP}:VR c w v (.bor xs)->Brs c w vs xss->Brs c w (v :: vs) (xs :: xss)
theorem B1d {c:Ct} {w w':Wd} {v:V} {xs:LP} (s:Same w.F w'.F) (h:VR c w v (.bor xs)):VR c w' v (.bor xs):=by
 rcases h with h | ⟨l,vs,e,h1,h2,h3⟩
 ·exact .inl (Den.same s h)
 ·exact .inr ⟨l,vs,e,h1,h2,DenAll.same s h3⟩
class RLs (K:Frag) (ta:TA) (pa:outParam (PEnv->(List LP->PEnv->Prop)->Prop)):Prop where
 ok:∀ (c:Ct) (w:Wd) (env:PEnv) (σ:St) (Qp:List LP->PEnv->Prop) (Q:List V->Hpp->Prop),c.K=K->EnvOk c w env σ->pa env Qp->(∀ vs xss env' w',EnvOk c w' env' σ->Lw w w'->Brs c w' vs xss->Qp xss env'->Q vs w'.H)->ta σ w.H Q
def pLsN (env:PEnv) (Q:List LP->PEnv->Prop):Prop:=Q [] env
def pLsC (pl:PAr) (pr:PEnv->(List LP->PEnv->Prop)->Prop) (env:PEnv) (Q:List LP->PEnv->Prop):Prop:=pl env fun xs e1=>pr e1 fun xss e2=>Q (xs :: xss) e2
instance rls_nil {K:Frag}:RLs K tNil pLsN:=⟨fun c w env σ Qp Q _ E p k=>k [] [] env w E (Lw.refl w) .nil p⟩
instance rls_cons {K:Frag} {te:TE} {tr:TA} {pl:PAr} {pr:PEnv->(List LP->PEnv->Prop)->Prop} [hl:RL K te pl] [hr:RLs K tr pr]:RLs K (L9 te tr) (pLsC pl pr) where
 ok:=by
  rintro c w env σ Qp Q rfl E p k;refine hl.ok c w env σ _ _ rfl E p fun v xs e1 w1 E1 l1 b1 q1=>?_;refine hr.ok c w1 e1 σ _ _ rfl E1 q1 fun vs xss e2 w2 E2 l2 b2 q2=>?_;exact k _ _ e2 w2 E2 (l1.trans l2) (.cons (B1d l2.f b1) b2) q2
theorem B1e {c:Ct} {w:Wd} {v:V} {xs:LP} (h:VR c w v (.bor xs)):∃ l vs,v=.ref l/\DenAll c.K w.F vs xs/\∀ w',w'.Ok->Le c.w0 w'->Same w.F w'.F->SqL c.K w'.H l vs:=by
 rcases h with h | ⟨l,vs,e,h1,h2,h3⟩
 ·obtain ⟨a,vs,e,g1,g2⟩:=Den.lstE h;exact ⟨a,vs,e,g2,fun w' ok _ s=>(s.trans ok.sub).seq g1⟩
 ·exact ⟨l,vs,e,h3,fun w' _ l' _=>SqL.of (l'.h _ _ h1 h2)⟩
def zipD (xs ys:LP):LP:=List.zipWith (fun x y=>.tuple [x,y]) xs ys
def A0e (xs:LP):LP:=xs.zipIdx.map fun p=>.tuple [.int (p.2:Int),p.1]
theorem A9e {xs:LP} {i:Nat} {x:PyData} (h:(A0e xs)[i]?=some x):∃ a,xs[i]?=some a/\x=.tuple [.int (i:Int),a]:=by
 unfold A0e at h;rw [List.getElem?_map,List.getElem?_zipIdx] at h;cases h1:xs[i]? with
 | none=>rw [h1] at h; cases h
 | some a=>rw [h1] at h; cases h; exact ⟨a,rfl,by simp⟩
theorem A1k {xs:LP}:(A0e xs).length=xs.length:=by unfold A0e; rw [List.length_map,List.length_zipIdx]
def pZip (pa:PEnv->(List LP->PEnv->Prop)->Prop) (env:PEnv) (Q:LP->PEnv->Prop):Prop:=pa env fun xss e=>match xss with
 | [xs,ys]=>Q (zipD xs ys) e
 | _=>False
def B7p (pa:PEnv->(List LP->PEnv->Prop)->Prop) (env:PEnv) (Q:LP->PEnv->Prop):Prop:=pa env fun xss e=>match xss with
 | [xs]=>Q (A0e xs) e
 | _=>False
instance ri_enum {K:Frag} {ta:TA} {pa:PEnv->(List LP->PEnv->Prop)->Prop} [ha:RLs K ta pa]:RI K (B5s K ta) (B7p pa) where
 ok:=by
  rintro c w env σ Qp R rfl E p k;refine ha.ok c w env σ _ _ rfl E p fun vs xss e1 w1 E1 l1 b1 q1=>?_;split at q1
  ·rename_i xs;cases b1 with | cons h t =>
    cases t;obtain ⟨a1,us1,rfl,d1,s1⟩:=B1e h;refine ⟨a1,us1,rfl,s1 w1 E1.wok E1.le0 (Same.refl _),k _ _ e1 w1 E1 l1 ?_ q1⟩;intro w' ok l s;have g1:=s1 w' ok l s;have n1:=d1.len;rw [A1k];refine ⟨fun i hi=>⟨us1,us1[i]'(by omega),g1,List.getElem?_eq_getElem _⟩,⟨us1,g1,by omega⟩,fun i v H' y hi=>?_⟩;obtain ⟨T,x,rfl,hT,rfl,y1⟩:=y;obtain ⟨dx,x1,x2⟩:=d1.get (y1 us1 g1);refine ⟨w'.tup T (.tup [.int i,x]),.tuple [.int i,dx],rfl,Wd.tup_ok ok hT,Wd.tup_le ok hT,?_,?_⟩
    ·unfold A0e; rw [List.getElem?_map,List.getElem?_zipIdx,x1]; simp
    ·have f:=(Wd.tup_le (o:=.tup [.int i,x]) ok hT).f;exact .tup (SqT.of D5) (.cons (.int _) (.cons (Den.same (s.trans f) x2) .nil))
  ·exact q1.elim
end Pu
namespace Pu
open PySem L2 My Prf
theorem A3n {n:Nat} {pr:LP->PEnv->(PEnv->Prop)->Prop} {xs:LP} {env:PEnv} {Q:PEnv->Prop}:qTup n pr (.tuple xs) env Q=(xs.length=n/\pr xs env Q):=rfl
theorem A3o {pr:LP->PEnv->(PEnv->Prop)->Prop} {c:Rat × Rat} {env:PEnv} {Q:PEnv->Prop}:qTup 2 pr (dcn c) env Q=pr [dq c.1,dq c.2] env Q:=by
 show (2=2/\_)=_; simp
end Pu
namespace L2
open PySem PySem.Spec PyProof.Rows
section
variable {prog:Program} {w:World} {A:Around} {E:Value->Shared->Prop} {s:Shared}
end
end L2
namespace L2
open PySem PySem.Spec PyProof.Rows
section
variable {prog:Program} {w:World} {A:Around} {E:Value->Shared->Prop} {s:Shared}
end
section
variable {X:Cx}
end
end L2
namespace Pu
open PySem L2 My Prf
end Pu
namespace Pu
open PySem L2 My Prf
def okA:Nat->PyData->Prop
 | _,.none=>True
 | _,.bool _=>True
 | _,.int _=>True
 | _,.str s=>(PyData.str s).canLay0=true
 | _,.dict _=>False
 | 0,.list _=>False
 | 0,.tuple _=>False
 | n + 1,.list xs=>xs.length < 1000/\∀ x ∈ xs,okA n x
 | n + 1,.tuple xs=>xs.length < 1000/\∀ x ∈ xs,okA n x
theorem B05 {P:Program} {w:World} {K:Frag} {mg:Str->Option Value} {base:Heap} {k:Nat} {f:Addr} {fd:FuncData} {ps:List Str} {md:List Md} (h:md.length=ps.length):FnOk P w K mg base CX0 k f fd ps (spOf K md fun _ _=>False) :=
 ⟨spOf.len h,fun _ _ _ _ _ _ _ _ _ _ _ _ _ hs=>by obtain ⟨_,_,_,_,_,_,z,_⟩:=hs; exact z.elim⟩
theorem B1q (n:Nat):(List.replicate n true).all id=true:=by simp
theorem B1h (n:Nat):blsD (List.replicate n (.bool true))=some (List.replicate n true):=by
 rw [show List.replicate n (PyData.bool true)=(List.replicate n true).map .bool by simp]; exact A4l _
theorem A9d {s:Str}:PyData.eqv (.str s) (.str s)=true:=by show (s == s)=true; simp
theorem A1d (q:Rat) (n:Nat):okA (n + 1) (dq q):=by
 show _ < 1000/\_;refine ⟨by simp,fun x hx=>?_⟩;simp at hx;rcases hx with rfl | rfl <;> (unfold okA; trivial)
theorem B5d (c:Rat × Rat) (n:Nat):okA (n + 2) (dcn c):=by
 show _ < 1000/\_;refine ⟨by simp,fun x hx=>?_⟩;simp at hx;rcases hx with rfl | rfl <;> exact A1d _ _
theorem B75 {cs:LR} (h:cs.length < 1000) (n:Nat):okA (n + 3) (.list (cs.map dcn)):=by
 show _ < 1000/\_;refine ⟨by simpa using h,fun x hx=>?_⟩;obtain ⟨c,_,rfl⟩:=List.mem_map.mp hx;exact B5d c n
end Pu
namespace Pu
open PySem L2 My Prf
def C5:LP->OT
 | []=>.nil
 | x :: r=>.cons (.leaf x) (C5 r)
def OT.len:OT->Nat
 | .cons _ t=>t.len + 1
 | .nil=>0
 | _=>1
def OT.kid:OT->Nat->Option OT
 | .cons h _,0=>some h
 | .cons _ t,n + 1=>t.kid n
 | _,_=>none
theorem N0:∀ xs,(C5 xs).fp=[]
 | []=>rfl
 | _ :: r=>by show []++(C5 r).fp=[]; rw [N0 r]; rfl
theorem O1:∀ xs,(C5 xs).dat=xs
 | []=>rfl
 | x :: r=>by show [x]++(C5 r).dat=x :: r; rw [O1 r]; rfl
theorem N6 {K:Frag} {w:Wd}:∀ {vs:List V} {xs:LP},DenAll K w.F vs xs->Tre K w (C5 xs) vs
 | _,_,.nil=>rfl
 | _,_,.cons h t=>⟨_,_,rfl,⟨_,rfl,h⟩,N6 t⟩
theorem K8 {K:Frag} {w:Wd}:∀ {xs:LP} {vs:List V},Tre K w (C5 xs) vs->DenAll K w.F vs xs
 | [],_,e=>by cases (show _=[] from e); exact .nil
 | _ :: _,_,⟨_,_,rfl,⟨_,e,h⟩,t⟩=>by cases e; exact .cons h (K8 t)
theorem Tre.len {K:Frag} {w:Wd}:∀ {t:OT} {vs:List V},Tre K w t vs->vs.length=t.len
 | .leaf _,_,⟨_,e,_⟩=>by rw [e]; rfl
 | .nd _ _ _,_,⟨e,_⟩=>by rw [e]; rfl
 | .nil,_,e=>by rw [show _=[] from e]; rfl
 | .cons _ _,_,⟨_,_,e,_,t⟩=>by rw [e]; show _ + 1=_ + 1; rw [t.len]
theorem Tre.kid {K:Frag} {w:Wd}:∀ {t:OT} {vs:List V} {n:Nat} {u:OT},Tre K w t vs->t.kid n=some u->∃ v,vs[n]?=some v/\Tre K w u [v]
 | .cons _ _,_,0,_,⟨v,_,e,h,_⟩,q=>by cases q; rw [e]; exact ⟨v,rfl,h⟩
 | .cons _ _,_,n + 1,_,⟨_,_,e,_,t⟩,q=>by rw [e]; exact t.kid (n:=n) q
theorem A1h:∀ {t:OT} {n:Nat} {u:OT} {a:Addr},t.kid n=some u->a ∈ u.fp->a ∈ t.fp
 | .cons _ _,0,_,_,q,h=>by cases q; simp [OT.fp,h]
 | .cons _ _,n + 1,_,_,q,h=>by simp [OT.fp,A1h (n:=n) q h]
noncomputable def hm (w:Wd):Hpp:=fun a=>open Classical in if w.M a then none else w.H a
theorem V4 {w:Wd} {a:Addr} {o:HO} (h:w.H a=some o) (n:¬ w.M a):hm w a=some o:=by unfold hm; rw [if_neg n]; exact h
theorem A4e {w:Wd} {a:Addr} {o:HO} (h:hm w a=some o):w.H a=some o/\¬ w.M a:=by
 unfold hm at h; split at h
 ·cases h
 ·exact ⟨h,‹_›⟩
theorem hm_F {w:Wd} (ok:w.Ok):Same w.F (hm w):=fun a o h=>V4 (ok.sub a o h) fun z=>by rw [ok.nf a z] at h; cases h
theorem B5u {w w':Wd} (l:Lw w w'):Same (hm w) (hm w'):=fun a o h=>by
 obtain ⟨h1,h2⟩:=A4e h;exact V4 (l.h _ _ h1 h2) (l.nm (by rw [h1]; simp) h2)
theorem Tre.den {K:Frag} {w:Wd} (ok:w.Ok):∀ {t:OT} {vs:List V},Tre K w t vs->(∀ a ∈ t.fp,¬ w.M a)->DenAll K (hm w) vs t.dat
 | .leaf _,_,⟨_,e,h⟩,_=>by rw [e]; exact .cons (Den.same (hm_F ok) h) .nil
 | .nd true a _,_,⟨e,_,h,k⟩,n=>by rw [e]; exact .cons (.lst (SqL.of (V4 h (n a (by simp [OT.fp])))) (Tre.den ok k fun q hq=>n q (by simp [OT.fp,hq]))) .nil
 | .nd false a _,_,⟨e,_,h,k⟩,n=>by rw [e]; exact .cons (.tup (SqT.of (V4 h (n a (by simp [OT.fp])))) (Tre.den ok k fun q hq=>n q (by simp [OT.fp,hq]))) .nil
 | .nil,_,e,_=>by rw [show _=[] from e]; exact .nil
 | .cons _ _,_,⟨v,r,e,h,t⟩,n=>by
  rw [e];exact (Tre.den ok h fun q hq=>n q (by simp [OT.fp,hq])).app (vs:=[v]) (us:=r) (Tre.den ok t fun q hq=>n q (by simp [OT.fp,hq]))
def VH (K:Frag) (w:Wd) (v:V) (x:PyData):Prop:=Den K (hm w) v x
theorem VR.vh {c:Ct} {w:Wd} {v:V} {t:OT} {x:PyData} (ok:w.Ok) (h:VR c w v (.tr t)) (e:t.dat=[x]):VH c.K w v x:=by
 have:=h.1.den ok fun a ha=>(h.2.1 a ha).2.2.1;rw [e] at this;cases this with | cons a _=>exact a
theorem VV.vh {K:Frag} {w:Wd} {v:V} {x:PyData} (ok:w.Ok) (h:VV K w v x):VH K w v x:=by
 rcases h with h | ⟨l,vs,xs,rfl,rfl,h1,h2,h3⟩
 ·exact Den.same (hm_F ok) h
 ·exact .lst (SqL.of (V4 h1 h2)) (DenAll.same (hm_F ok) h3)
class RH (K:Frag) (te:TE) (pd:outParam PDt):Prop where
 ok:∀ (c:Ct) (w:Wd) (env:PEnv) (σ:St) (Qp:PyData->PEnv->Prop) (Q:VK),c.K=K->EnvOk c w env σ->pd env Qp->(∀ v x env' w',EnvOk c w' env' σ->Lw w w'->VH K w' v x->Qp x env'->Q v w'.H)->te σ w.H Q
def B4q (i:Nat) (env:PEnv) (Q:PyData->PEnv->Prop):Prop:=match env[i]? with
 | some (some (.d x))=>Q x env
 | some (some (.own xs))=>Q (.list xs) env
 | some (some (.bor xs))=>Q (.list xs) env
 | some (some (.tr t))=>∃ x,t.dat=[x]/\Q x env
 | _=>False
instance rh_var {K:Frag} {i:Nat}:RH K (tVar i) (B4q i) where
 ok:=by
  rintro c w env σ Qp Q rfl E p k;unfold B4q at p;split at p
  ·rename_i x e;obtain ⟨v,h1,h2⟩:=E.at' i _ e;exact ⟨v,h1,k v _ env w E (Lw.refl w) (Den.same (hm_F E.wok) h2) p⟩
  ·rename_i xs e;obtain ⟨v,h1,l,vs,e',g1,g2,g3,g4,g5⟩:=E.at' i _ e;exact ⟨v,h1,k v _ env w E (Lw.refl w) (VV.vh E.wok (.inr ⟨l,vs,xs,e',rfl,g1,g3,g5⟩)) p⟩
  ·rename_i xs e;obtain ⟨v,h1,h2⟩:=E.at' i _ e;exact ⟨v,h1,k v _ env w E (Lw.refl w) ((h2.vv E.le0).vh E.wok) p⟩
  ·rename_i t e;obtain ⟨x,e1,q⟩:=p;obtain ⟨v,h1,h2⟩:=E.at' i _ e;exact ⟨v,h1,k v _ env w E (Lw.refl w) (h2.vh E.wok e1) q⟩
  ·exact p.elim
def Own (c:Ct) (w:Wd) (t:OT):Prop:=(∀ a ∈ t.fp,w.H a≠none/\w.F a=none/\¬ w.M a/\c.w0.H a=none)/\t.fp.Nodup
def NewT (c:Ct) (env:PEnv) (σ:St) (t:OT):Prop:=∀ a ∈ t.fp,(∀ (j:Nat) s u,env[j]?=some (some s)->σ[j]?=some (some u)->¬ s.foot u a)/\¬ c.Z a
def SV.ot (s:SV) (k:OT->Prop):Prop:=match s with
 | .d x=>k (.leaf x)
 | .own xs=>∀ a,k (.nd true a (C5 xs))
 | .tr t=>k t
 | _=>False
theorem Res.ot {c:Ct} {w w1:Wd} {env:PEnv} {σ:St} {v:V} {s:SV} {k:OT->Prop} (R:Res c w env σ w1 v s) (h:s.ot k):∃ t,Tre c.K w1 t [v]/\Own c w1 t/\NewT c env σ t/\k t:=by
 obtain ⟨E,lw,val,new,_⟩:=R;cases s with
 | d x=>exact ⟨.leaf x,⟨v,rfl,val⟩,⟨fun a z=>(nomatch z),List.nodup_nil⟩,fun a z=>(nomatch z),h⟩
 | own xs =>
  obtain ⟨l,vs,rfl,h1,h2,h3,h4,h5⟩:=val;have one:∀ a,a ∈ (OT.nd true l (C5 xs)).fp->a=l:=fun a ha=>by
   rw [show (OT.nd true l (C5 xs)).fp=l :: (C5 xs).fp from rfl,N0] at ha;simpa using ha
  refine ⟨.nd true l (C5 xs),⟨rfl,vs,h1,N6 h5⟩,⟨fun a ha=>?_,by show (l :: (C5 xs).fp).Nodup; rw [N0]; simp⟩,fun a ha=>?_,h l⟩
  ·rw [one a ha]; exact ⟨by rw [h1]; simp,h2,h3,h4⟩
  ·rw [one a ha]; exact new l rfl
 | bor xs=>exact (show False from h).elim
 | st=>exact (show False from h).elim
 | tr t=>exact ⟨t,val.1,val.2,new,h⟩
 | bt t=>exact (show False from h).elim
 | al t=>exact (show False from h).elim
theorem VR.reZ {K:Frag} {w0 w:Wd} {Z Z':Addr->Prop} {v:V}:∀ {s:SV},VR ⟨K,w0,Z⟩ w v s->VR ⟨K,w0,Z'⟩ w v s
 | .d _,h=>h
 | .own _,h=>h
 | .bor _,h=>h
 | .st,h=>h
 | .tr _,h=>h
 | .bt _,h=>h
 | .al _,h=>h
def Ct.with (c:Ct) (t:OT):Ct:=⟨c.K,c.w0,fun a=>c.Z a\/a ∈ t.fp⟩
theorem EnvOk.hold {c:Ct} {w:Wd} {env:PEnv} {σ:St} {t:OT} (E:EnvOk c w env σ) (o:Own c w t) (n:NewT c env σ t):EnvOk (c.with t) w env σ :=
 ⟨E.wok,E.le0,E.len,fun i s q=>let ⟨v,h1,h2⟩:=E.at' i s q; ⟨v,h1,h2.reZ⟩,E.own,fun a z=>z.elim (E.zf a) fun ha=>let ⟨h1,h2,h3,_⟩:=o.1 a ha; ⟨h2,h1,h3⟩,fun a j s u z q q'=>z.elim (fun z=>E.zo a j s u z q q') fun ha=>(n a ha).1 j s u q q'⟩
theorem EnvOk.letgo {c:Ct} {w:Wd} {env:PEnv} {σ:St} {t:OT} (E:EnvOk (c.with t) w env σ):EnvOk c w env σ :=
 ⟨E.wok,E.le0,E.len,fun i s q=>let ⟨v,h1,h2⟩:=E.at' i s q; ⟨v,h1,h2.reZ⟩,E.own,fun a z=>E.zf a (.inl z),fun a j s u z q q'=>E.zo a j s u (.inl z) q q'⟩
class RAt (K:Frag) (ta:TA) (pa:outParam (PEnv->(OT->PEnv->Prop)->Prop)):Prop where
 ok:∀ (c:Ct) (w:Wd) (env:PEnv) (σ:St) (Qp:OT->PEnv->Prop) (Q:List V->Hpp->Prop),c.K=K->EnvOk c w env σ->pa env Qp->(∀ vs t env' w',EnvOk c w' env' σ->Lw w w'->Tre K w' t vs->Own c w' t->NewT c env' σ t->Qp t env'->Q vs w'.H)->ta σ w.H Q
def B4y (env:PEnv) (Q:OT->PEnv->Prop):Prop:=Q .nil env
def A7m (pe:PX) (pr:PEnv->(OT->PEnv->Prop)->Prop) (env:PEnv) (Q:OT->PEnv->Prop):Prop:=pe env fun s e1=>s.ot fun t=>pr e1 fun r e2=>(∀ a ∈ r.fp,a ∉ t.fp)->Q (.cons t r) e2
instance rat_nil {K:Frag}:RAt K tNil B4y:=⟨fun c w env σ Qp Q _ E p k=>k [] .nil env w E (Lw.refl w) rfl ⟨fun a z=>(nomatch z),List.nodup_nil⟩ (fun a z=>nomatch z) p⟩
instance rat_cons {K:Frag} {ta:TE} {tr:TA} {pe:PX} {pr:PEnv->(OT->PEnv->Prop)->Prop} [ha:RE K ta pe] [hr:RAt K tr pr]:RAt K (L9 ta tr) (A7m pe pr) where
 ok:=by
  rintro c w env σ Qp Q rfl E p k;refine ha.ok c w env σ _ _ rfl E p fun v s e1 w1 R q1=>?_;obtain ⟨t,ht,ho,hn,q⟩:=R.ot q1;refine hr.ok (c.with t) w1 e1 σ _ _ rfl (R.ev.hold ho hn) q fun vs r e2 w2 E2 l2 hr' ho' hn' q2=>?_;refine k (v :: vs) (.cons t r) e2 w2 E2.letgo (R.lw.trans l2) ⟨v,vs,rfl,ht.mono l2 fun a ha=>(ho.1 a ha).2.2.1,hr'⟩ ⟨fun a ha=>?_,List.nodup_append.mpr ⟨ho.2,ho'.2,fun a ha b hb e=>(hn' b hb).2 (.inr (e ▸ ha))⟩⟩ (fun a ha=>?_) (q2 fun a ha z=>(hn' a ha).2 (.inr z))
  ·rcases List.mem_append.mp (show a ∈ t.fp++r.fp from ha) with z | z
   ·obtain ⟨z1,z2,z3⟩:=E2.zf a (.inr z);exact ⟨z2,z1,z3,(ho.1 a z).2.2.2⟩
   ·exact ho'.1 a z
  ·rcases List.mem_append.mp (show a ∈ t.fp++r.fp from ha) with z | z
   ·exact ⟨fun j s u q q'=>E2.zo a j s u (.inr z) q q',(hn a z).2⟩
   ·exact ⟨(hn' a z).1,fun y=>(hn' a z).2 (.inl y)⟩
theorem Res.laid {c:Ct} {w:Wd} {env:PEnv} {σ:St} {p:Addr} {vs:List V} {t:OT} {b:Bool} (E:EnvOk c w env σ) (h:w.H p=none) (ht:Tre c.K w t vs) (o:Own c w t) (n:NewT c env σ t):Res c w env σ (w.lay p (ho b vs)) (.ref p) (.tr (.nd b p t)):=by
 have le:=Wd.lay_le (o:=ho b vs) h;refine ⟨E.mono (Wd.lay_ok E.wok h) le,le.toLw,⟨⟨rfl,vs,D5,ht.mono le.toLw fun a ha=>(o.1 a ha).2.2.1⟩,fun a ha=>?_,List.nodup_cons.mpr ⟨fun z=>(o.1 p z).1 h,o.2⟩⟩,fun a f=>?_,rfl⟩
 ·rcases List.mem_cons.mp (show a ∈ p :: t.fp from ha) with rfl | z
  ·exact ⟨by show upd w.H a _ a≠none; rw [D5]; simp,E.wok.fnone h,fun z=>E.wok.mne h z rfl,E.le0.dom a h⟩
  ·obtain ⟨h1,h2,h3,h4⟩:=o.1 a z;exact ⟨fun y=>h1 (N3 y),h2,h3,h4⟩
 ·rcases List.mem_cons.mp (show a ∈ p :: t.fp from f) with rfl | z
  ·exact E.fresh h
  ·exact n a z
def B6j (ta:TA):TE:=tTup ta
def B4t (b:Bool) (pa:PEnv->(OT->PEnv->Prop)->Prop) (env:PEnv) (Q:SV->PEnv->Prop):Prop:=pa env fun t e=>t.len<=1000/\∀ a,a ∉ t.fp->Q (.tr (.nd b a t)) e
instance re_tupT {K:Frag} {ta:TA} {pa:PEnv->(OT->PEnv->Prop)->Prop} [ha:RAt K ta pa]:RE K (B6j ta) (B4t false pa) where
 ok:=by
  rintro c w env σ Qp Q rfl E p k;refine ha.ok c w env σ _ _ rfl E p fun vs t e1 w1 E1 l1 ht ho hn q1=>⟨?_,fun p hp=>?_⟩
  ·rw [ht.len]; exact Nat.le_of_lt (U1 q1.1)
  ·exact k _ _ e1 _ ((Res.laid (b:=false) E1 hp ht ho hn).pre l1) (q1.2 p fun z=>(ho.1 p z).1 hp)
def asTr (o:Option (Option SV)) (k:OT->Prop):Prop:=match o with
 | some (some (.tr t))=>k t
 | _=>False
end Pu
namespace L2
open PySem PySem.Spec PyProof.Rows
section
variable {X:Cx} {e:Expr}
theorem A2d {t:TA} (h:QE X e (tTup t)):QE X e (Pu.B6j t):=h
end
end L2
namespace Pu
open PySem L2 My Prf
def SV.asH (s:SV) (k:PyData->Prop):Prop:=match s with
 | .d x=>k x
 | .own xs=>k (.list xs)
 | .tr t=>∃ x,t.dat=[x]/\k x
 | _=>False
def B4o (pe:PX) (env:PEnv) (Q:PyData->PEnv->Prop):Prop:=pe env fun s e=>s.asH fun x=>Q x e
instance (priority:=200) rh_re {K:Frag} {te:TE} {pe:PX} [h:RE K te pe]:RH K te (B4o pe) where
 ok:=by
  rintro c w env σ Qp Q rfl E p k;refine h.ok c w env σ _ Q rfl E p fun v s env' w' R q=>?_;have E':=R.ev;cases s with
  | d x=>exact k v x env' w' E' R.lw (Den.same (hm_F E'.wok) R.val) q
  | own xs =>
   obtain ⟨l,vs,e',g1,g2,g3,g4,g5⟩:=R.val;exact k v _ env' w' E' R.lw (VV.vh E'.wok (.inr ⟨l,vs,xs,e',rfl,g1,g3,g5⟩)) q
  | tr t =>
   obtain ⟨x,e,q⟩:=q;exact k v x env' w' E' R.lw (VR.vh E'.wok R.val e) q
  | bor xs=>exact (show False from q).elim
  | bt t=>exact (show False from q).elim
  | al t=>exact (show False from q).elim
  | st=>exact (show False from q).elim
theorem VR.btv {c:Ct} {w:Wd} {v:V} {t:OT} (l:Le c.w0 w) (h:VR c w v (.bt t)):TV c.K w v t:=by
 have lw:Lw ⟨c.w0.M,c.w0.H,w.F⟩ w:=⟨Same.refl _,l.h,l.m,l.mn,l.dom⟩;exact ⟨h.1.mono lw h.2,fun a ha=>l.nm (h.1.has a ha) (h.2 a ha)⟩
class RTr (K:Frag) (te:TE) (pb:outParam (PEnv->(OT->PEnv->Prop)->Prop)):Prop where
 ok:∀ (c:Ct) (w:Wd) (env:PEnv) (σ:St) (Qp:OT->PEnv->Prop) (Q:VK),c.K=K->EnvOk c w env σ->pb env Qp->(∀ v t env' w',EnvOk c w' env' σ->Lw w w'->TV K w' v t->Qp t env'->Q v w'.H)->te σ w.H Q
def pTrV (i:Nat) (env:PEnv) (Q:OT->PEnv->Prop):Prop:=match env[i]? with
 | some (some (.d x))=>Q (.leaf x) env
 | some (some (.tr t))=>Q t env
 | some (some (.bt t))=>Q t env
 | _=>False
instance rtr_var {K:Frag} {i:Nat}:RTr K (tVar i) (pTrV i) where
 ok:=by
  rintro c w env σ Qp Q rfl E p k;unfold pTrV at p;split at p
  ·rename_i x e;obtain ⟨v,h1,h2⟩:=E.at' i _ e;exact ⟨v,h1,k v (.leaf x) env w E (Lw.refl w) ⟨⟨v,rfl,h2⟩,fun a z=>nomatch z⟩ p⟩
  ·rename_i t e;obtain ⟨v,h1,h2⟩:=E.at' i _ e;exact ⟨v,h1,k v _ env w E (Lw.refl w) ⟨h2.1,fun a ha=>(h2.2.1 a ha).2.2.1⟩ p⟩
  ·rename_i t e;obtain ⟨v,h1,h2⟩:=E.at' i _ e;exact ⟨v,h1,k v _ env w E (Lw.refl w) (h2.btv E.le0) p⟩
  ·exact p.elim
def A7o (pb:PEnv->(OT->PEnv->Prop)->Prop) (pr:PAs) (env:PEnv) (Q:List SV->PEnv->Prop):Prop:=pb env fun t e1=>pr e1 fun as e2=>Q (.bt t :: as) e2
instance ram_bt {K:Frag} {md:List Md} {ta:TE} {tr:TA} {pb:PEnv->(OT->PEnv->Prop)->Prop} {pr:PAs} [ha:RTr K ta pb] [hr:RAm K md tr pr]:RAm K (.bt :: md) (L9 ta tr) (A7o pb pr) where
 ok:=by
  rintro c w env σ Qp Q rfl E p k;refine ha.ok c w env σ _ _ rfl E p fun x t e1 w1 E1 l1 v1 q1=>?_;refine hr.ok c w1 e1 σ _ _ rfl E1 q1 fun vs xs e2 w2 E2 l2 v2 q2=>?_;exact k _ _ e2 w2 E2 (l1.trans l2) (.bt (v1.mono l2 v1.1.has) v2) q2
def OT.lvs:OT->Option LP
 | .nil=>some []
 | .cons (.leaf x) t=>t.lvs.map (x :: ·)
 | _=>none
theorem O0:∀ xs,(C5 xs).lvs=some xs
 | []=>rfl
 | x :: r=>by show (C5 r).lvs.map _=_; rw [O0 r]; rfl
theorem M4:∀ {t:OT} {xs:LP},t.lvs=some xs->t=C5 xs
 | .nil,_,h=>by cases h; rfl
 | .cons (.leaf x) t,xs,h=>by
  have h':t.lvs.map (x :: ·)=some xs:=h;cases q:t.lvs with
  | none=>rw [q] at h'; cases h'
  | some ys=>rw [q] at h'; cases h'; rw [M4 q]; rfl
def OT.sv:OT->SV
 | .leaf (.list xs)=>.bor xs
 | .leaf x=>.d x
 | .nd true a k=>match k.lvs with
  | some xs=>.bor xs
  | none=>.bt (.nd true a k)
 | t=>.bt t
theorem A0p {a:Addr} {xs:LP}:OT.sv (.nd true a (C5 xs))=.bor xs:=by show (match (C5 xs).lvs with | some xs=>SV.bor xs | none=>_)=_; rw [O0]
theorem VR.sv {c:Ct} {w:Wd} {v:V} {u:OT} (h:VR c w v (.bt u)):VR c w v u.sv:=by
 unfold OT.sv;split
 ·obtain ⟨⟨v',e,h⟩,_⟩:=h;cases e; exact .inl h
 ·obtain ⟨⟨v',e,h⟩,_⟩:=h;cases e; exact h
 ·rename_i a k;split
  ·rename_i xs q;obtain ⟨⟨e,us,h1,h2⟩,h3⟩:=h;cases e;rw [M4 q] at h2;exact .inr ⟨a,us,rfl,h1,h3 a (by simp [OT.fp]),K8 (w:=⟨c.w0.M,c.w0.H,w.F⟩) h2⟩
  ·exact h
 ·exact h
def OT.pair:OT->Option (OT × OT)
 | .nd false _ (.cons u (.cons v .nil))=>some (u,v)
 | .leaf (.tuple [x,y])=>some (.leaf x,.leaf y)
 | _=>none
end Pu
namespace Pu
open PySem L2 My Prf
theorem fdE {a:Int} {n:Nat} (h:(n:Int) ∣ a):a.fdiv n=a / n:=Int.fdiv_eq_ediv_of_dvd h
theorem fdN (a n:Nat):(a:Int).fdiv (n:Int)=((a / n:Nat):Int):=by
 rw [Int.fdiv_eq_ediv_of_nonneg _ (Int.natCast_nonneg n)]; rfl
theorem B4h (p q:Rat) (g t:Int) (hg:g=((Int.gcd (p.den:Int) (q.den:Int):Nat):Int)) (ht:t=p.num * (q.den:Int).fdiv g + q.num * (p.den:Int).fdiv g) :
  t.fdiv ((Int.gcd t g:Nat):Int)=(p + q).num/\(p.den:Int).fdiv g * (q.den:Int).fdiv ((Int.gcd t g:Nat):Int)=((p + q).den:Int):=by
 have e:p + q=Rat.add p q:=rfl;have hgn:Int.gcd (p.den:Int) (q.den:Int)=Nat.gcd p.den q.den:=rfl;rw [hgn] at hg;rw [e]; unfold Rat.add;dsimp only;split
 ·rename_i h1;rw [h1] at hg;subst hg;have ht':t=p.num * q.den + q.num * p.den:=by rw [ht,fdN,fdN]; simp
  have h2:Int.gcd t ((1:Nat):Int)=1:=by simp
  rw [h2,ht'];refine ⟨by simp,?_⟩;rw [fdN,fdN]; simp
 ·rename_i h1;rw [Rat.maybeNormalize_eq];rw [hg,fdN,fdN] at ht;have h3:Int.gcd t g=t.natAbs.gcd (p.den.gcd q.den):=by rw [hg]; rfl
  rw [h3];subst ht;refine ⟨?_,?_⟩
  ·show _=Int.divExact _ _ (Int.gcd_dvd_left _ ((p.den.gcd q.den:Nat):Int));rw [Int.divExact_eq_ediv];exact fdE (Int.gcd_dvd_left _ ((p.den.gcd q.den:Nat):Int))
  ·show _=((_ / _:Nat):Int);rw [hg,fdN,fdN];have hd:(p.num * ((q.den / p.den.gcd q.den:Nat):Int) + q.num * ((p.den / p.den.gcd q.den:Nat):Int)).natAbs.gcd (p.den.gcd q.den) ∣ q.den:=Nat.dvd_trans (Nat.gcd_dvd_right ..) (Nat.gcd_dvd_right ..);rw [Nat.mul_div_assoc _ hd,Int.natCast_mul]
theorem A5d {t:Int} (q:Rat):((Int.gcd t (q.den:Int):Nat):Int)≠0:=by
 have h:=q.den_nz;intro h0;have h1:Int.gcd t (q.den:Int)=0:=by omega
 have h2:=(Int.gcd_eq_zero_iff.mp h1).2;omega
theorem A4g {t g:Int} (h:g≠0):((Int.gcd t g:Nat):Int)≠0:=by
 intro h0;have h1:Int.gcd t g=0:=by omega
 exact h (Int.gcd_eq_zero_iff.mp h1).2
theorem B07 {k:Nat} {a g:Int} (h:Sm k a) (g1:0<=g):Sm k (a.fdiv g):=by
 unfold Sm at *;rw [Int.fdiv_eq_ediv_of_nonneg _ g1];rcases Int.lt_or_le 0 g with h0 | h0
 ·have h2:=Int.natAbs_ediv_le_natAbs a g;omega
 ·have:g=0:=by omega
  subst this;rw [Int.ediv_zero]; exact Nat.two_pow_pos k
theorem B83 (q:Rat):PyData.tuple [.int (-q.num),.int q.den]=dq (-q):=rfl
end Pu
namespace Pu
open PySem L2 My Prf
section
variable {x y:PyData} {xs ys:LP} {i j:Nat} {env e:PEnv} {s:SV} {t:OT}
theorem B9n {k:PyData->Prop}:(SV.d x).asD k=k x:=rfl
theorem B9m {k:PyData->Prop}:(SV.own xs).asD k=k (.list xs):=rfl
def oVar (o:Option (Option SV)) (i:Nat) (env:PEnv) (Q:SV->PEnv->Prop):Prop:=match o with
 | some (some (.d x))=>Q (.d x) env
 | some (some (.own xs))=>Q (.d (.list xs)) (env.set i (some (.d (.list xs))))
 | some (some .st)=>Q .st env
 | _=>False
theorem B16 {Q:SV->PEnv->Prop}:pVar i env Q=oVar env[i]? i env Q:=rfl
theorem B2p {Q:SV->PEnv->Prop}:oVar (some (some (.d x))) i env Q=Q (.d x) env:=rfl
theorem B2o {Q:SV->PEnv->Prop}:oVar (some (some (.own xs))) i env Q=Q (.d (.list xs)) (env.set i (some (.d (.list xs)))):=rfl
def B0v (o:Option (Option SV)) (env:PEnv) (Q:PyData->PEnv->Prop):Prop:=match o with
 | some (some (.d x))=>Q x env
 | some (some (.own xs))=>Q (.list xs) env
 | some (some (.bor xs))=>Q (.list xs) env
 | _=>False
theorem A64 {Q:PyData->PEnv->Prop}:A42 i env Q=B0v env[i]? env Q:=rfl
theorem A75 {Q:PyData->PEnv->Prop}:B0v (some (some (.d x))) env Q=Q x env:=rfl
theorem A74 {Q:PyData->PEnv->Prop}:B0v (some (some (.own xs))) env Q=Q (.list xs) env:=rfl
theorem A76 {Q:PyData->PEnv->Prop}:B0v (some (some (.bor xs))) env Q=Q (.list xs) env:=rfl
theorem pI_i {C:Int->Int->Prop} {gd:Int->Int->PyData} {i j:Int} {Q:SV->Prop}:pI C gd (.int i) (.int j) Q=(C i j/\Q (.d (gd i j))):=rfl
theorem B7l {gd:Int->Int->PyData} {i j:Int} {Q:SV->Prop}:pI0 gd (.int i) (.int j) Q=Q (.d (gd i j)):=rfl
theorem pU_i {gd:Int->PyData} {i:Int} {Q:SV->Prop}:pU gd (.int i) Q=Q (.d (gd i)):=rfl
theorem B2l {i:Int} {Q:SV->Prop}:pAbs [.int i] Q=Q (.d (.int (if i < 0 then -i else i))):=rfl
theorem B2a {i j:Int} {Q:SV->Prop}:pMax [.int i,.int j] Q=Q (.d (.int (if j > i then j else i))):=rfl
theorem B19 {i j:Int} {Q:SV->Prop}:pMin [.int i,.int j] Q=Q (.d (.int (if j < i then j else i))):=rfl
theorem B2h {b:Bool} {Q:SV->Prop}:pInt [.bool b] Q=Q (.d (.int (if b then 1 else 0))):=rfl
theorem A3u {Q:SV->Prop}:A7c [.list ys] Q=Q (.own ys):=rfl
def oKit (o:Option Bool) (Q:SV->Prop):Prop:=match o with
 | some b=>Q (.d (.bool b))
 | none=>False
theorem B2g {c:String} {pa:PDt} {Q:SV->PEnv->Prop}:pIsi c pa env Q=pa env fun x e=>oKit (kitB (tyD x) c) fun s=>Q s e:=rfl
theorem B2u {b:Bool} {Q:SV->Prop}:oKit (some b) Q=Q (.d (.bool b)):=rfl
theorem B9o {b:Bool} {k:Bool->Prop}:asB (.bool b) k=k b:=rfl
theorem B9i {k:LP->Prop}:asL (.list xs) k=k xs:=rfl
theorem B23 {k:Prop}:isSt (some (some .st)) k=k:=rfl
theorem B9j {i:Int} {k:Int->Prop}:asI (.int i) k=k i:=rfl
def B5f (o:Option (Option SV)) (D:PEnds) (env:PEnv):Prop:=match o with
 | some (some (.bor _))=>False
 | some (some (.bt _))=>False
 | some (some (.al _))=>False
 | some (some s)=>D.rt s env
 | _=>False
theorem A69 {D:PEnds}:B4u i D env=B5f env[i]? D env:=rfl
theorem A8d {D:PEnds}:B5f (some (some (.d x))) D env=D.rt (.d x) env:=rfl
theorem A8c {D:PEnds}:B5f (some (some (.own xs))) D env=D.rt (.own xs) env:=rfl
theorem B11 {Q:PEnv->Prop}:qNil [] env Q=Q env:=rfl
theorem A6j {pg:PyData->PEnv->(PEnv->Prop)->Prop} {pr:LP->PEnv->(PEnv->Prop)->Prop} {Q:PEnv->Prop}:B37 pg pr (x :: xs) env Q=pg x env fun e=>pr xs e Q:=rfl
def oPar (i j:Nat) (xs:LP) (D:PEnds) (e:PEnv):Prop:=match xs with
 | [x,y]=>D.nx ((e.set i (some (.d x))).set j (some (.d y)))
 | _=>False
theorem B18 {pa:PAr} {D:PEnds}:pPar i j pa D env=pa env fun xs e=>oPar i j xs D e:=rfl
theorem B2t {D:PEnds}:oPar i j [x,y] D e=D.nx ((e.set i (some (.d x))).set j (some (.d y))):=rfl
theorem A96 {k:LP->Prop}:A0n (some (some (.own xs))) k=k xs:=rfl
def A35 (o:Option (Option SV)) (i:Nat) (env:PEnv) (Q:LP->PEnv->Prop):Prop:=match o with
 | some (some (.d x))=>W1 x fun xs=>Q xs env
 | some (some (.own xs))=>Q xs (env.set i (some (.d (.list xs))))
 | some (some (.bor xs))=>Q xs env
 | _=>False
theorem A3w {Q:LP->PEnv->Prop}:A7j i env Q=A35 env[i]? i env Q:=rfl
theorem A33 {Q:LP->PEnv->Prop}:A35 (some (some (.d x))) i env Q=W1 x fun xs=>Q xs env:=rfl
theorem A32 {Q:LP->PEnv->Prop}:A35 (some (some (.own xs))) i env Q=Q xs (env.set i (some (.d (.list xs)))):=rfl
theorem A34 {Q:LP->PEnv->Prop}:A35 (some (some (.bor xs))) i env Q=Q xs env:=rfl
def B77 (xs:LP) (Q:LP->Prop):Prop:=match xs with
 | [.int j]=>(-(2 ^ 62)<=j/\j < 2 ^ 62)/\Q (rngD 0 j.toNat)
 | _=>False
theorem A68 {pa:PAr} {Q:LP->PEnv->Prop}:B7k pa env Q=pa env fun xs e=>B77 xs fun ys=>Q ys e:=rfl
theorem A8b {j:Int} {Q:LP->Prop}:B77 [.int j] Q=((-(2 ^ 62)<=j/\j < 2 ^ 62)/\Q (rngD 0 j.toNat)):=rfl
def B76 (xs:LP) (Q:LP->Prop):Prop:=match xs with
 | [.int i,.int j]=>(-(2 ^ 62)<=i/\i < 2 ^ 62/\-(2 ^ 62)<=j/\j < 2 ^ 62)/\Q (rngD i (j - i).toNat)
 | _=>False
theorem A67 {pa:PAr} {Q:LP->PEnv->Prop}:B7j pa env Q=pa env fun xs e=>B76 xs fun ys=>Q ys e:=rfl
theorem A8a {i j:Int} {Q:LP->Prop}:B76 [.int i,.int j] Q=((-(2 ^ 62)<=i/\i < 2 ^ 62/\-(2 ^ 62)<=j/\j < 2 ^ 62)/\Q (rngD i (j - i).toNat)):=rfl
theorem B2i {Q:SV->Prop}:pCat (.list xs) (.list ys) Q=(xs.length + ys.length<=1000000/\Q (.own (xs++ys))):=rfl
theorem B2k {Q:SV->Prop}:pAll [.list ys] Q=∃ bs,blsD ys=some bs/\Q (.d (.bool (bs.all id))):=rfl
theorem B2j {Q:SV->Prop}:pAny [.list ys] Q=∃ bs,blsD ys=some bs/\Q (.d (.bool (bs.any id))):=rfl
def B79 (o:Option (Option SV)) (i:Nat) (env:PEnv) (Q:LP->PEnv->Prop):Prop:=match o with
 | some (some (.d x))=>asL x fun xs=>Q xs env
 | some (some (.own xs))=>Q xs (env.set i (some (.d (.list xs))))
 | some (some (.bor xs))=>Q xs env
 | _=>False
theorem A7b {Q:LP->PEnv->Prop}:B42 i env Q=B79 env[i]? i env Q:=rfl
theorem A8g {Q:LP->PEnv->Prop}:B79 (some (some (.bor xs))) i env Q=Q xs env:=rfl
def B8a (xss:List LP) (Q:LP->Prop):Prop:=match xss with
 | [xs]=>Q (A0e xs)
 | _=>False
theorem A7k {pa:PEnv->(List LP->PEnv->Prop)->Prop} {Q:LP->PEnv->Prop}:B7p pa env Q=pa env fun xss e=>B8a xss fun ys=>Q ys e:=rfl
theorem A8i {Q:LP->Prop}:B8a [xs] Q=Q (A0e xs):=rfl
def B0w (o:Option (Option SV)) (env:PEnv) (Q:PyData->PEnv->Prop):Prop:=match o with
 | some (some (.d x))=>Q x env
 | some (some (.own xs))=>Q (.list xs) env
 | some (some (.bor xs))=>Q (.list xs) env
 | some (some (.tr t))=>∃ x,t.dat=[x]/\Q x env
 | _=>False
theorem A65 {Q:PyData->PEnv->Prop}:B4q i env Q=B0w env[i]? env Q:=rfl
theorem A79 {Q:PyData->PEnv->Prop}:B0w (some (some (.d x))) env Q=Q x env:=rfl
theorem A78 {Q:PyData->PEnv->Prop}:B0w (some (some (.own xs))) env Q=Q (.list xs) env:=rfl
theorem A77 {Q:PyData->PEnv->Prop}:B0w (some (some (.tr t))) env Q=∃ x,t.dat=[x]/\Q x env:=rfl
theorem ot_d {k:OT->Prop}:(SV.d x).ot k=k (.leaf x):=rfl
theorem ot_o {k:OT->Prop}:(SV.own xs).ot k=∀ a,k (.nd true a (C5 xs)):=rfl
theorem B3n {k:OT->Prop}:asTr (some (some (.tr t))) k=k t:=rfl
theorem B9l {k:PyData->Prop}:(SV.d x).asH k=k x:=rfl
theorem B9k {k:PyData->Prop}:(SV.tr t).asH k=∃ x,t.dat=[x]/\k x:=rfl
def oTrV (o:Option (Option SV)) (env:PEnv) (Q:OT->PEnv->Prop):Prop:=match o with
 | some (some (.d x))=>Q (.leaf x) env
 | some (some (.tr t))=>Q t env
 | some (some (.bt t))=>Q t env
 | _=>False
theorem B17 {Q:OT->PEnv->Prop}:pTrV i env Q=oTrV env[i]? env Q:=rfl
theorem B2r {Q:OT->PEnv->Prop}:oTrV (some (some (.d x))) env Q=Q (.leaf x) env:=rfl
theorem B2q {Q:OT->PEnv->Prop}:oTrV (some (some (.tr t))) env Q=Q t env:=rfl
theorem B2s {Q:OT->PEnv->Prop}:oTrV (some (some (.bt t))) env Q=Q t env:=rfl
class Box (α:Type) where
 f:α->Prop
def hold {α:Type} [b:Box α] (x:α):Prop:=b.f x
theorem A4d {α:Type} {f:α->Prop} {x:α}:@hold α ⟨f⟩ x=f x:=rfl
theorem A7q {psp:PSp} {pa:PAs} {env:PEnv} {Q:SV->PEnv->Prop}:B7r psp pa env Q=pa env fun as e=>psp as (@hold SV ⟨fun s=>Q s e⟩):=rfl
theorem B2c {xs:LP} {i:Int} {Q:SV->Prop}:pIx (.list xs) (.int i) Q=pGet xs i (@hold SV ⟨Q⟩):=rfl
theorem B2b {xs:LP} {i:Int} {Q:SV->Prop}:pIx (.tuple xs) (.int i) Q=pGet xs i (@hold SV ⟨Q⟩):=rfl
theorem A7p {pi:PAr} {pg:PyData->PEnv->(PEnv->Prop)->Prop} {pt:PTt} {pd:PDt} {cap:List (Option Nat)} {env:PEnv} {Q:SV->PEnv->Prop}:B7q pi pg pt pd cap env Q=pi env fun xs e=>xs.length < 1000000/\P3 xs pg pt pd (L7 cap e) (@hold LP ⟨fun ys=>Q (.own ys) e⟩):=rfl
theorem X3 {pi:PAr} {pg:PyData->PEnv->(PEnv->Prop)->Prop} {pt:PTt} {pd:PDt} {cap:List (Option Nat)} {i:Nat} {D:PEnds} {env:PEnv}:A3t pi pg pt pd cap i D env=pi env fun xs e=>xs.length < 1000000/\P3 xs pg pt pd (L7 cap e) (@hold LP ⟨fun ys=>D.nx (e.set i (some (.own ys)))⟩):=rfl
end
end Pu
namespace L2
open PySem PySem.Spec PyProof.Rows
section
variable {X:Cx}
def rInD (K:PySem.W.Frag) (neg:Bool):R2:=fun x y H Q=>∃ dx dy xs,Den K H x dx/\Den K H y dy/\(dy=.list xs\/dy=.tuple xs)/\PyData.canLayAll0 xs=true/\dx.canLay0=true/\dx.depth<=60/\Q (.bl (if neg then !(xs.any fun z=>z.eqv dx) else xs.any fun z=>z.eqv dx)) H
theorem B7v (hu:X.A.units + 64 < cLine):OpR X (compareOp .In) (rInD X.K false):=by
 intro pins s σ H x y v u Q I rx ry h;obtain ⟨dx,dy,xs,h1,h2,h3,c1,c2,hd,q⟩:=h;obtain ⟨as,r1⟩:=h1.reads I rx c2;obtain ⟨bs,r2⟩:=h2.reads I ry (by rcases h3 with rfl | rfl <;> exact c1)
 rcases h3 with rfl | rfl
 ·exact PySem.SeqAt.in_list_reads r2 r1 c1 c2 (by omega) ⟨.bl _,H,I,rfl,q⟩
 ·exact PySem.SeqAt.in_tuple_reads r2 r1 c1 c2 (by omega) ⟨.bl _,H,I,rfl,q⟩
theorem A7u (hu:X.A.units + 64 < cLine):OpR X (compareOp .NotIn) (rInD X.K true):=by
 intro pins s σ H x y v u Q I rx ry h;obtain ⟨dx,dy,xs,h1,h2,h3,c1,c2,hd,q⟩:=h;obtain ⟨as,r1⟩:=h1.reads I rx c2;obtain ⟨bs,r2⟩:=h2.reads I ry (by rcases h3 with rfl | rfl <;> exact c1)
 rcases h3 with rfl | rfl
 ·exact PySem.SeqAt.notIn_list_reads r2 r1 c1 c2 (by omega) ⟨.bl _,H,I,rfl,q⟩
 ·exact PySem.SeqAt.notIn_tuple_reads r2 r1 c1 c2 (by omega) ⟨.bl _,H,I,rfl,q⟩
theorem B5b {K:PySem.W.Frag} (h:X.K=K) (hu:X.A.units + 64 < cLine):OpR X (compareOp .In) (rInD K false):=by subst h; exact B7v hu
theorem A44 {K:PySem.W.Frag} (h:X.K=K) (hu:X.A.units + 64 < cLine):OpR X (compareOp .NotIn) (rInD K true):=by subst h; exact A7u hu
end
end L2
namespace Pu
open PySem L2 My Prf
def pIn (neg:Bool) (x y:PyData) (Q:SV->Prop):Prop:=W1 y fun xs=>PyData.canLayAll0 xs=true/\x.canLay0=true/\x.depth<=60/\Q (.d (.bool (if neg then !(xs.any fun z=>z.eqv x) else xs.any fun z=>z.eqv x)))
instance ro_in {K:Frag} {neg:Bool}:RO K (rInD K neg) (pIn neg) where
 ok:=by
  rintro c w env σ x y dx dy Qp Q rfl E vx vy p k;unfold pIn W1 at p;split at p
  ·rename_i xs;exact ⟨dx,_,xs,vx.den E.wok,vy.den E.wok,.inl rfl,p.1,p.2.1,p.2.2.1,k _ _ w (Res.data E (.bl _)) p.2.2.2⟩
  ·rename_i xs;exact ⟨dx,_,xs,vx.den E.wok,vy.den E.wok,.inr rfl,p.1,p.2.1,p.2.2.1,k _ _ w (Res.data E (.bl _)) p.2.2.2⟩
  ·exact p.elim
theorem hm_H {w:Wd}:Same (hm w) w.H:=fun _ _ h=>(A4e h).1
instance (priority:=high) re_neH {K:Frag} {ta tb:TE} {pa pb:PDt} [ha:RH K ta pa] [hb:RH K tb pb]:RE K (tOp (rNeD K) ta tb) (pOp pNeD pa pb) where
 ok:=by
  rintro c w env σ Qp Q rfl E p k;refine ha.ok c w env σ _ _ rfl E p fun x dx e1 w1 E1 l1 v1 q1=>?_;refine hb.ok c w1 e1 σ _ _ rfl E1 q1 fun y dy e2 w2 E2 l2 v2 q2=>?_;have v1':VH c.K w2 x dx:=Den.same (B5u l2) v1;exact ⟨dx,dy,Den.same hm_H v1',Den.same hm_H v2,q2.1,q2.2.1,q2.2.2.1,k _ _ e2 w2 ((Res.data E2 (.bl _)).pre (l1.trans l2)) q2.2.2.2⟩
instance (priority:=high) re_eqH {K:Frag} {ta tb:TE} {pa pb:PDt} [ha:RH K ta pa] [hb:RH K tb pb]:RE K (tOp (rEqD K) ta tb) (pOp pEqD pa pb) where
 ok:=by
  rintro c w env σ Qp Q rfl E p k;refine ha.ok c w env σ _ _ rfl E p fun x dx e1 w1 E1 l1 v1 q1=>?_;refine hb.ok c w1 e1 σ _ _ rfl E1 q1 fun y dy e2 w2 E2 l2 v2 q2=>?_;have v1':VH c.K w2 x dx:=Den.same (B5u l2) v1;exact ⟨dx,dy,Den.same hm_H v1',Den.same hm_H v2,q2.1,q2.2.1,q2.2.2.1,k _ _ e2 w2 ((Res.data E2 (.bl _)).pre (l1.trans l2)) q2.2.2.2⟩
def C0c (o:Option (Option SV)) (n:Int) (env:PEnv) (Q:LP->PEnv->Prop):Prop:=match o with
 | some (some (.bt t))=>∃ u v xs,t.pair=some (u,v)/\n=1/\v.sv=.bor xs/\Q xs env
 | _=>False
theorem EnvOk.take {c:Ct} {w:Wd} {env:PEnv} {σ:St} {i:Nat} {s:SV} (E:EnvOk c w env σ) (h:env[i]?=some (some s)) (hr:s.isRes=true):∃ v,σ[i]?=some (some v)/\Res c w (env.set i none) σ w v s:=by
 obtain ⟨v,hv,hV⟩:=E.at' i _ h;have up:∀ {j:Nat} {t:SV},(env.set i none)[j]?=some (some t)->i≠j/\env[j]?=some (some t):=by
  intro j t q;rw [List.getElem?_set] at q;split at q
  ·split at q <;> cases q
  ·rename_i z; exact ⟨z,q⟩
 have E':EnvOk c w (env.set i none) σ:=⟨E.wok,E.le0,by simpa using E.len,fun j s q=>E.at' j s (up q).2,fun j k s t v u a q1 q2=>E.own j k s t v u a (up q1).2 (up q2).2,E.zf,fun a j t u za q=>E.zo a j t u za (up q).2⟩;exact ⟨v,hv,E',Lw.refl w,hV,fun a f=>⟨fun j t u q z g=>(up q).1 (E.own i j _ _ _ _ a h (up q).2 hv z f g),fun za=>E.zo a i _ _ za h hv f⟩,hr⟩
def B0x (o:Option (Option SV)) (i:Nat) (env:PEnv) (k:OT->PEnv->Prop):Prop:=match o with
 | some (some (.d x))=>k (.leaf x) env
 | some (some (.own xs))=>∀ a,k (.nd true a (C5 xs)) (env.set i none)
 | some (some (.tr t))=>k t (env.set i none)
 | _=>False
theorem A8f {x:PyData} {i:Nat} {env:PEnv} {k:OT->PEnv->Prop}:B0x (some (some (.d x))) i env k=k (.leaf x) env:=rfl
theorem A8e {xs:LP} {i:Nat} {env:PEnv} {k:OT->PEnv->Prop}:B0x (some (some (.own xs))) i env k=∀ a,k (.nd true a (C5 xs)) (env.set i none):=rfl
def A3y (i:Nat) (pr:PEnv->(OT->PEnv->Prop)->Prop) (env:PEnv) (Q:OT->PEnv->Prop):Prop:=B0x env[i]? i env fun t e1=>pr e1 fun r e2=>(∀ a ∈ r.fp,a ∉ t.fp)->Q (.cons t r) e2
instance (priority:=high) rat_move {K:Frag} {i:Nat} {tr:TA} {pr:PEnv->(OT->PEnv->Prop)->Prop} [hr:RAt K tr pr]:RAt K (L9 (tVar i) tr) (A3y i pr) where
 ok:=by
  rintro c w env σ Qp Q rfl E p k;have go:∀ (e1:PEnv) (v:V) (s:SV),σ[i]?=some (some v)->Res c w e1 σ w v s->(s.ot fun t=>pr e1 fun r e2=>(∀ a ∈ r.fp,a ∉ t.fp)->Qp (.cons t r) e2)->L9 (tVar i) tr σ w.H Q:=by
   intro e1 v s hv R q1;refine ⟨v,hv,?_⟩;obtain ⟨t,ht,ho,hn,q⟩:=R.ot q1;refine hr.ok (c.with t) w e1 σ _ _ rfl (R.ev.hold ho hn) q fun vs r e2 w2 E2 l2 hr' ho' hn' q2=>?_;refine k (v :: vs) (.cons t r) e2 w2 E2.letgo (R.lw.trans l2) ⟨v,vs,rfl,ht.mono l2 fun a ha=>(ho.1 a ha).2.2.1,hr'⟩ ⟨fun a ha=>?_,List.nodup_append.mpr ⟨ho.2,ho'.2,fun a ha b hb e=>(hn' b hb).2 (.inr (e ▸ ha))⟩⟩ (fun a ha=>?_) (q2 fun a ha z=>(hn' a ha).2 (.inr z))
   ·rcases List.mem_append.mp (show a ∈ t.fp++r.fp from ha) with z | z
    ·obtain ⟨z1,z2,z3⟩:=E2.zf a (.inr z);exact ⟨z2,z1,z3,(ho.1 a z).2.2.2⟩
    ·exact ho'.1 a z
   ·rcases List.mem_append.mp (show a ∈ t.fp++r.fp from ha) with z | z
    ·exact ⟨fun j s u q q'=>E2.zo a j s u (.inr z) q q',(hn a z).2⟩
    ·exact ⟨(hn' a z).1,fun y=>(hn' a z).2 (.inl y)⟩
  unfold A3y B0x at p;split at p
  ·rename_i x e;obtain ⟨v,h1,h2⟩:=E.at' i _ e;exact go env v (.d x) h1 (Res.data E h2) p
  ·rename_i xs e;obtain ⟨v,h1,R⟩:=E.take e rfl;exact go _ v (.own xs) h1 R p
  ·rename_i t e;obtain ⟨v,h1,R⟩:=E.take e rfl;exact go _ v (.tr t) h1 R p
  ·exact p.elim
end Pu
namespace L2
open PySem PySem.Spec PyProof.Rows
section
variable {X:Cx} {tg:Expr}
def B6x (K:PySem.W.Frag):List V->Hp->VK->Prop:=fun xs H Q=>(∃ p ys,xs=[.ref p]/\(SqL K H p ys\/SqT K H p ys)/\Q (.int ys.length) H)\/∃ z,xs=[.str z]/\z.length<=sizeLine/\Q (.int z.length) H
theorem C7 {K:PySem.W.Frag} (h:X.K=K):CallR X (.builtin "len") (B6x K):=by subst h; exact call_len_seq.or A1u
theorem A38:1000<=sizeLine:=by rw [sizeLine_eq]; decide
end
end L2
namespace L2
open PySem PySem.Spec PyProof.Rows
section
variable {X:Cx} {tg:Expr} {pos:Pos}
theorem M6 {o i:Expr} {to ti:TE} {t:TSet} (ho:QE X o to) (hi:QE X i ti) (hs:PSet X t)
  (ha:∀ v,assign (.Subscript o i pos) X.env v=(do
   let ov <- holding [v] (eval o X.env)
   let iv <- holding [v,ov] (eval i X.env)
   standAt pos
   holding [v,ov,iv] (setItem ov iv v)
   release [v,ov,iv] []):=by intro _; rfl):QG X (.Subscript o i pos) (gSub to ti t):=⟨A3r ho.out hi.out hs ha⟩
end
end L2
namespace Pu
open PySem L2 My Prf
def asS (x:PyData) (k:Str->Prop):Prop:=match x with
 | .str z=>k z
 | _=>False
theorem VV.strE {K:Frag} {w:Wd} {v:V} {z:Str} (h:VV K w v (.str z)):v=.str z:=by
 rcases h with h | ⟨l,vs,xs,e,e',_⟩
 ·cases h; rfl
 ·cases e'
def sgn (c:Nat):PyData:=.str ⟨#[c]⟩
def B44 (z:Str) (i:Int) (Q:SV->Prop):Prop:=∃ c,atI z.cps.toList i=some c/\Q (.d (sgn c))
def pIx2 (x y:PyData) (Q:SV->Prop):Prop:=match x with
 | .str z=>asI y fun i=>z.length<=1000/\B44 z i Q
 | x=>pIx x y Q
theorem A7i {xs:LP} {y:PyData} {Q:SV->Prop}:pIx2 (.list xs) y Q=pIx (.list xs) y Q:=rfl
theorem A7h {xs:LP} {y:PyData} {Q:SV->Prop}:pIx2 (.tuple xs) y Q=pIx (.tuple xs) y Q:=rfl
theorem B2e {q:Rat} {y:PyData} {Q:SV->Prop}:pIx2 (dq q) y Q=pIx (dq q) y Q:=rfl
theorem B2f {q:Rat × Rat} {y:PyData} {Q:SV->Prop}:pIx2 (dcn q) y Q=pIx (dcn q) y Q:=rfl
theorem B2d {z:Str} {i:Int} {Q:SV->Prop}:pIx2 (.str z) (.int i) Q=(z.length<=1000/\B44 z i Q):=rfl
instance (priority:=high) ro_ix2 {K:Frag}:RO K (rIx K) pIx2 where
 ok:=by
  rintro c w env σ x y dx dy Qp Q rfl E vx vy p k;unfold pIx2 at p;split at p
  ·unfold asI at p;split at p
   ·obtain ⟨hl,cc,h1,q⟩:=p;exact .inr (.inr ⟨_,_,cc,vx.strE,vy.intE,Nat.le_trans hl A38,h1,k _ _ w (Res.data E (.str _)) q⟩)
   ·exact p.elim
  ·exact ro_ix.ok c w env σ x y dx dy Qp Q rfl E vx vy p k
def A43 (xs:LP) (Q:SV->Prop):Prop:=match xs with
 | [.list ys]=>Q (.d (.int ys.length))
 | [.tuple ys]=>Q (.d (.int ys.length))
 | [.str z]=>z.length<=1000/\Q (.d (.int z.length))
 | _=>False
theorem A2k {ys:LP} {Q:SV->Prop}:A43 [.list ys] Q=Q (.d (.int ys.length)):=rfl
theorem A7d {ys:LP} {Q:SV->Prop}:A43 [.tuple ys] Q=Q (.d (.int ys.length)):=rfl
theorem A7e {q:Rat} {Q:SV->Prop}:A43 [dq q] Q=Q (.d (.int 2)):=rfl
instance rb_len2 {K:Frag}:RB K (B6x K) A43 where
 ok:=by
  rintro c w env σ vs xs Qp Q rfl E vv p k;unfold A43 at p;split at p
  ·cases vv with | cons h t=>cases t; obtain ⟨a,us,e,h1,h2⟩:=h.lst E.wok; exact .inl ⟨a,us,by rw [e],.inl h1,by rw [h2.len]; exact k _ _ w (Res.data E (.int _)) p⟩
  ·cases vv with | cons h t=>cases t; obtain ⟨a,us,e,h1,h2⟩:=h.tup E.wok; exact .inl ⟨a,us,by rw [e],.inr h1,by rw [h2.len]; exact k _ _ w (Res.data E (.int _)) p⟩
  ·cases vv with | cons h t=>cases t; exact .inr ⟨_,by rw [h.strE],Nat.le_trans p.1 A38,k _ _ w (Res.data E (.int _)) p.2⟩
  ·exact p.elim
def B4s (pd:PDt) (i:Nat) (pi:PDt) (D:PEnds) (env:PEnv):Prop:=pd env fun x e=>A0n e[i]? fun _=>pi e fun y e2=>asI y fun n=>A0n e2[i]? fun xs=>∃ j,ixN xs.length n=some j/\D.nx (e2.set i (some (.own (xs.set j x))))
theorem DenAll.setAt {K:Frag} {F:Hpp} {v:V} {x:PyData} (d:Den K F v x):∀ {vs:List V} {xs:LP} (j:Nat),DenAll K F vs xs->DenAll K F (vs.set j v) (xs.set j x)
 | _,_,_,.nil=>.nil
 | _,_,0,.cons _ t=>.cons d t
 | _,_,j + 1,.cons h t=>.cons h (DenAll.setAt d j t)
instance rs_setI {K:Frag} {i:Nat} {te ti:TE} {pd pi:PDt} [he:RD K te pd] [hi:RW K ti pi]:RS K (tAsg te (gSub (tVar i) ti B34)) (B4s pd i pi) where
 ok:=by
  rintro c w env σ Dp D rfl E h p;refine he.ok c w env σ _ _ rfl E p fun v x e1 w1 E1 l1 d1 q1=>?_;unfold A0n at q1;split at q1
  ·rename_i xs0 e0;obtain ⟨o,g0,l,vs,ev,h1,h2,h3,h4,h5⟩:=E1.at' i _ e0;subst ev;refine ⟨_,g0,hi.ok c w1 e1 σ _ _ rfl E1 q1 fun u y e2 w2 E2 l2 d2 q2=>?_⟩;unfold asI at q2;split at q2
   ·rename_i n;split at q2
    ·rename_i xs e;obtain ⟨j,hj,q2⟩:=q2;obtain ⟨o',g0',l',vs',ev',k1,k2,k3,k4,k5⟩:=E2.at' i _ e;rw [g0] at g0'; cases g0'; cases ev';have hn:=d2.intE;refine ⟨l,vs',n,j,rfl,hn,k1,by rw [k5.len]; exact hj,?_⟩;exact h.nx _ σ ⟨w2.M,upd w2.H l (.lst (vs'.set j v)),w2.F⟩ (E2.write e g0 k1 k2 k3 k4 (DenAll.setAt (Den.same l2.f d1) j k5)) (l1.f.trans l2.f) q2
    ·exact q2.elim
   ·exact q2.elim
  ·exact q1.elim
theorem A8y:kitB "int" "tuple"=some false:=by decide +kernel
theorem A8z:kitB "bool" "tuple"=some false:=by decide +kernel
theorem A8x:kitB "str" "tuple"=some false:=by decide +kernel
def A30 (pr pr':PyData->PyData->(SV->Prop)->Prop) (pa pb pc:PDt) (env:PEnv) (Q:SV->PEnv->Prop):Prop :=
 pa env fun x e1=>pb e1 fun y e2=>pr x y fun s=>s.asD fun b=>asB b fun k=>if k=true then pc e2 fun z e3=>pr' y z fun s2=>Q s2 e3 else Q (.d (.bool false)) e2
instance re_chain {K:Frag} {r r':R2} {ta tb tc:TE} {pr pr':PyData->PyData->(SV->Prop)->Prop} {pa pb pc:PDt} [h:RO K r pr] [h':RO K r' pr'] [ha:RW K ta pa] [hb:RW K tb pb] [hc:RW K tc pc]:RE K (A52 r r' ta tb tc) (A30 pr pr' pa pb pc) where
 ok:=by
  rintro c w env σ Qp Q rfl E p k;refine ha.ok c w env σ _ _ rfl E p fun x dx e1 w1 E1 l1 v1 q1=>?_;refine hb.ok c w1 e1 σ _ _ rfl E1 q1 fun y dy e2 w2 E2 l2 v2 q2=>?_;refine h.ok c w2 e2 σ x y dx dy _ _ rfl E2 (v1.mono l2) v2 q2 fun v s w3 R q3=>?_;cases s with
  | d b =>
   cases b with
   | bool b =>
    have ev:v=.bl b:=Den.blE R.val;refine ⟨b,ev,?_⟩;cases b with
    | true =>
     refine hc.ok c w3 e2 σ _ _ rfl R.ev q3 fun z dz e3 w4 E4 l4 v4 q4=>?_;exact h'.ok c w4 e3 σ y z dy dz _ _ rfl E4 ((v2.mono R.lw).mono l4) v4 q4 fun v s w' R' q=>k v s e3 w' (R'.pre (l1.trans (l2.trans (R.lw.trans l4)))) q
    | false=>exact k _ _ e2 w3 ((Res.data R.ev (.bl _)).pre (l1.trans (l2.trans R.lw))) q3
   | _=>exact (show False from q3).elim
  | own xs=>exact (show False from q3).elim
  | bor xs=>exact (show False from q3).elim
  | st=>exact (show False from q3).elim
  | tr t=>exact (show False from q3).elim
  | bt t=>exact (show False from q3).elim
  | al t=>exact (show False from q3).elim
end Pu
namespace L2
open PySem PySem.Spec PyProof.Rows
section
variable {prog:Program} {w:World} {A:Around} {E:Value->Shared->Prop} {h:Heap} {g:Array GenState} {d:Drawn} {t:Nat} {os:OsState} {a C:Addr} {o:Obj} {vs:Array Value} {K:PySem.W.Frag}
end
end L2
namespace L2
open PySem PySem.Spec PyProof.Rows
section
variable {P:Program} {w:World} {outer:List Env} {H H':Hp} {s s':Shared} {a:Addr} {cls a0:Value} {B:Heap}
end
section
variable {P:Program} {w:World} {K:PySem.W.Frag} {mg:Str->Option Value} {base:Heap} {N:List Str} {qual:Str} {scope:Scope} {f:Addr} {cd:Value} {A:Around} {outer:List Env} {s0:Shared} {H0:Hp} {E:XK}
end
end L2
namespace L2
open PySem PySem.Spec PyProof.Rows
section
variable {X:Cx} {E:XK} {x:Str} {C:Addr} {pos np cpos:Pos} {e:Expr} {es:List Expr} {t:TA}
end
section
variable {X:Cx} {pins:List (Addr × Obj)} {σ:St} {H:Hp} {s:Shared} {a:Addr} {oe:Obj}
end
end L2
namespace L2
open PySem PySem.Spec PyProof.Rows
section
variable {P:Program} {w:World} {outer:List Env} {H H':Hp} {s s':Shared} {a:Addr} {cls a0:Value} {B:Heap}
end
section
variable {X:Cx} {pins:List (Addr × Obj)} {σ:St} {H H':Hp} {s s':Shared} {a:Addr} {cls a0:Value} {B:Heap}
end
section
variable {X:Cx} {k i:Nat} {f C CH:Addr} {fd:FuncData} {ps:List Str} {sp:Sp} {x xh n:Str} {p pos pos2 pos3 pos4 pos5:Pos} {e:Expr} {es:List Expr} {t:TA} {b0:Stmt} {suite:List Stmt} {b:Bool}
end
end L2
namespace L2
open PySem PySem.Spec PyProof.Rows
section
variable {X:Cx} {a C:Addr} {oe:Obj} {i:Nat} {b:Bool}
inductive ClV:V->Value->Prop
 | own (c:Addr):ClV (.ref c) (.ref c)
 | ty (c:String):ClV (.ty c) (.type c)
theorem ClV.get {c:V} {u cv:Value} (h:ClV c cv) (r:RelV c u):u=cv:=by
 cases h with
 | own c=>exact r
 | ty c=>exact r
inductive ClVs:List V->List Value->Prop
 | nil:ClVs [] []
 | cons {c:V} {cv:Value} {r:List V} {s:List Value}:ClV c cv->ClVs r s->ClVs (c :: r) (cv :: s)
theorem ClVs.get:∀ {cs:List V} {us cvs:List Value},ClVs cs cvs->Vals cs us->us=cvs
 | [],_,_,.nil,.nil=>rfl
 | _ :: _,_,_,.cons h t,.cons r s=>by rw [h.get r,t.get s]
end
end L2
namespace L2
open PySem PySem.Spec PyProof.Rows
section
variable {X:Cx}
variable {k i:Nat} {f C CH:Addr} {fd:FuncData} {ps:List Str} {sp:Sp} {x xh n:Str} {p pos pos2 pos3 pos4 pos5:Pos} {e:Expr} {es:List Expr} {t:TA} {b0:Stmt} {suite:List Stmt} {b:Bool}
end
end L2
namespace Pu
open PySem PySem.Spec PyProof.Rows L2 My Prf
end Pu
namespace L2
open PySem PySem.Spec PyProof.Rows
theorem us0:∀ {us:List Value},us.length=0->us=[]
 | [],_=>rfl
theorem usS {n:Nat}:∀ {us:List Value},us.length=n + 1->∃ a r,us=a :: r/\r.length=n
 | a :: r,h=>⟨a,r,rfl,Nat.succ.inj h⟩
theorem us1 {us:List Value} (h:us.length=1):∃ a,us=[a]:=by
 obtain ⟨a,r,e,k⟩:=usS h;exact ⟨a,by rw [e,us0 k]⟩
theorem us2 {us:List Value} (h:us.length=2):∃ a b,us=[a,b]:=by
 obtain ⟨a,r,e,k⟩:=usS h; obtain ⟨b,z⟩:=us1 k; exact ⟨a,b,by rw [e,z]⟩
theorem us3 {us:List Value} (h:us.length=3):∃ a b c,us=[a,b,c]:=by
 obtain ⟨a,r,e,k⟩:=usS h; obtain ⟨b,c,z⟩:=us2 k; exact ⟨a,b,c,by rw [e,z]⟩
theorem us4 {us:List Value} (h:us.length=4):∃ a b c d,us=[a,b,c,d]:=by
 obtain ⟨a,r,e,k⟩:=usS h; obtain ⟨b,c,d,z⟩:=us3 k; exact ⟨a,b,c,d,by rw [e,z]⟩
end L2
namespace L2
open PySem PySem.Spec PyProof.Rows
section
variable {X:Cx}
end
end L2
namespace Pu
open PySem L2 My Prf
end Pu
namespace L2
open PySem PySem.Spec PyProof.Rows
section
variable {prog:Program} {w:World} {A:Around} {E:Value->Shared->Prop} {s:Shared}
end
section
variable {prog:Program} {w:World} {A:Around} {E:Value->Shared->Prop} {s:Shared} {R:Result->Shared->Prop} {us vs:Array Value}
end
section
variable {prog:Program} {w:World} {A:Around} {E:Value->Shared->Prop} {s:Shared} {us vs:Array Value}
end
end L2
namespace L2
open PySem PySem.Spec PyProof.Rows
section
variable {X:Cx} {pins:List (Addr × Obj)} {σ:St} {H:Hp} {s:Shared}
end
end L2
namespace L2
open PySem PySem.Spec PyProof.Rows
section
variable {X:Cx}
end
end L2
namespace Pu
open PySem L2 My Prf
end Pu
namespace L2
open PySem PySem.Spec PyProof.Rows
def A2b (K:PySem.W.Frag):V->List V->Hp->VK->Prop:=fun x vs H Q=>∃ y d xs j,vs=[y]/\Den K H x (.list xs)/\Den K H y d/\PyData.canLayAll0 xs=true/\d.canLay0=true/\d.depth<=60/\xs.length<=1000/\xs.findIdx? (fun z=>z.eqv d)=some j/\Q (.int j) H
section
variable {X:Cx}
theorem A8l (hu:X.A.units + 64 < cLine):MtR X "list.index" (A2b X.K):=by
 intro pins s σ H x vs v us Q I rx rv h;obtain ⟨y,d,xs,j,rfl,h1,h2,c1,c2,hd,hl,hj,q⟩:=h;obtain ⟨u,rfl,ru⟩:=rv.one;obtain ⟨as,r1⟩:=h1.reads I rx c1;obtain ⟨bs,r2⟩:=h2.reads I ru c2;cases r1 with
 | list e1 e2 e3 e4 =>
  rename_i l o vs n ns;have em:=PySem.SeqAt.readsAll_map xs _ _ c1 e4;have hsz:vs.size=xs.length:=by rw [<- em,List.length_map,Array.length_toList]
  obtain ⟨hjl,hjt,hjn⟩:=List.findIdx?_eq_some_iff_getElem.mp hj;have at':∀ m (hm:m < vs.size),PySem.SeqAt.readOf s.heap vs[m]=xs[m]'(by omega):=fun m hm=>by
   have:(vs.toList.map (PySem.SeqAt.readOf s.heap))[m]?=xs[m]?:=by rw [em]
   rw [List.getElem?_map,Array.getElem?_toList,Array.getElem?_eq_getElem hm,List.getElem?_eq_getElem (by omega)] at this;exact Option.some.inj this
  obtain ⟨cl,dd,dt,sl⟩:=o;have e2':cl=.type "list":=e2;have e3':dt=.seq vs n:=e3;subst e2' e3';refine call_meets PySem.F.slot_list_index ⟨_,e1,rfl⟩ PySem.F.entry_list_index (PySem.F.args_list_index_2 _ _) (PySem.SeqAt.list_indexAt l vs n dd sl u (fun z=>PyData.eqv (PySem.SeqAt.readOf s.heap z) d) j (by omega) (by omega) (by rw [at' j (by omega)]; exact hjt) (fun m hm hlt=>by
   rw [at' m hm];exact Bool.eq_false_iff.mpr (hjn m hlt))) ⟨e1,PySem.SeqAt.items_eqAt e4 r2 c1 c2 (by omega),?_⟩
  exact ⟨.int j,H,I.tok _,⟨_,rfl⟩,q⟩
theorem A5b {K:PySem.W.Frag} (h:X.K=K) (hu:X.A.units + 64 < cLine):MtR X "list.index" (A2b K):=by subst h; exact A8l hu
end
end L2
namespace Pu
open PySem L2 My Prf
def pIdx (po pa:PDt) (env:PEnv) (Q:SV->PEnv->Prop):Prop:=po env fun x e=>asL x fun xs=>pa e fun d e2=>PyData.canLayAll0 xs=true/\d.canLay0=true/\d.depth<=60/\xs.length<=1000/\∃ j:Nat,xs.findIdx? (fun z=>z.eqv d)=some j/\Q (.d (.int (j:Int))) e2
instance re_idx {K:Frag} {to ta:TE} {po pa:PDt} [ho:RW K to po] [ha:RD K ta pa]:RE K (tBM K "list" (A2b K) to (L9 ta tNil)) (pIdx po pa) where
 ok:=by
  rintro c w env σ Qp Q rfl E p k;refine ho.ok c w env σ _ _ rfl E p fun v x e1 w1 E1 l1 d1 q1=>?_;unfold asL at q1;split at q1
  ·rename_i xs;obtain ⟨a,us,e,h1,h2⟩:=d1.lst E1.wok;subst e;refine ⟨.inl ⟨rfl,_,h1⟩,ha.ok c w1 e1 σ _ _ rfl E1 q1 fun u y e2 w2 E2 l2 d2 q2=>?_⟩;obtain ⟨c1,c2,hd,hl,j,hj,q⟩:=q2;exact ⟨u,y,xs,j,rfl,(d1.mono l2).den E2.wok,Den.same E2.wok.sub d2,c1,c2,hd,hl,hj,k _ _ e2 w2 ((Res.data E2 (.int _)).pre (l1.trans l2)) q⟩
  ·exact q1.elim
end Pu
namespace L2
open PySem PySem.Spec PyProof.Rows
section
variable {X:Cx}
end
end L2
namespace Pu
open PySem L2 My Prf
end Pu
namespace L2
open PySem PySem.Spec PyProof.Rows
section
variable {X:Cx}
end
end L2
namespace Pu
open PySem L2 My Prf
end Pu
namespace L2
open PySem PySem.Spec PyProof.Rows
def B1z (K:PySem.W.Frag):List V->Hp->VK->Prop:=fun xs H Q=>∃ p ys,xs=[.ref p]/\SqL K H p ys/\∀ l,H l=none->Q (.ref l) (upd H l (.tup ys))
theorem A9p {X:Cx} {K:PySem.W.Frag} (h:X.K=K):CallR X (.type "tuple") (B1z K):=by
 subst h;intro pins s σ H xs us Q I r q;obtain ⟨p,ys,e,hq,k⟩:=q;exact A0g pins s σ H xs us Q I r ⟨p,ys,e,.inl ⟨hq,k⟩⟩
end L2
namespace Pu
open PySem L2 My Prf
end Pu
namespace L2
open PySem PySem.Spec PyProof.Rows
def told:PyData->Str
 | .str z=>z
 | d=>d.shown
section
variable {X:Cx}
end
end L2
namespace Pu
open PySem L2 My Prf
end Pu
namespace L2
open PySem PySem.Spec PyProof.Rows
section
variable {X:Cx} {pins:List (Addr × Obj)} {σ:St} {H:Hp} {s:Shared}
end
end L2
namespace L2
open PySem PySem.Spec PyProof.Rows
section
variable {X:Cx}
end
end L2
namespace Pu
open PySem L2 My Prf
end Pu
namespace L2
open PySem PySem.Spec PyProof.Rows
end L2
namespace Pu
open PySem L2 My Prf
end Pu
namespace L2
open PySem PySem.Spec PyProof.Rows
section
variable {prog:Program} {w:World} {A:Around} {E:Value->Shared->Prop}
end
end L2
namespace Pu
open PySem L2 My Prf
theorem B0c {K:Frag} {F H:Hpp} {a:Addr} {vs:List V} (s:Same F H) (h:SqL K F a vs):SqL K H a vs:=by
 rcases h with (h | ⟨o,h⟩) | h
 ·exact .inl (.inl (s _ _ h))
 ·exact .inl (.inr ⟨o,s _ _ h⟩)
 ·exact .inr h
end Pu
namespace L2
open PySem PySem.Spec PyProof.Rows
section
variable {M:Model} {A:Around} {E:Value->Shared->Prop} {s:Shared}
end
section
variable {P:Program} {w:World} {K:PySem.W.Frag} {mg:Str->Option Value} {base:Heap} {N:List Str} {qual:Str} {scope:Scope} {f:Addr} {cd:Value} {A:Around} {outer:List Env} {s0:Shared} {H0:Hp} {E:XK}
end
end L2
namespace L2
open PySem PySem.Spec PyProof.Rows
section
variable {X:Cx} {scope:Scope} {cl:List (Str × Addr)} {N':List Str} {cap:List (Option Nat)} {elt tg iter:Expr} {ifs:List Expr} {wi:TI} {g:TG} {tt:TT} {te:TE} {pos:Pos}
end
section
variable {P:Program} {w:World} {K:PySem.W.Frag} {mg:Str->Option Value} {base:Heap} {N:List Str} {qual:Str} {dsc:Scope} {f:Addr} {cd:Value} {A:Around} {outer:List Env} {s0:Shared} {H0:Hp} {E:XK}
variable {scope:Scope} {cl:List (Str × Addr)} {N':List Str} {cap:List (Option Nat)} {elt tg iter:Expr} {ifs:List Expr} {wi:TI} {g:TG} {tt:TT} {te:TE} {pos:Pos}
end
end L2
namespace L2
open PySem PySem.Spec PyProof.Rows
section
variable {X:Cx} {e:Expr} {t u:TE}
end
section
variable {P:Program} {w:World} {K:PySem.W.Frag} {mg:Str->Option Value} {base:Heap} {N:List Str} {qual:Str} {dsc:Scope} {f:Addr} {cd:Value} {A:Around} {outer:List Env} {s0:Shared} {H0:Hp} {E:XK}
variable {scope:Scope} {cl:List (Str × Addr)} {N':List Str} {cap:List (Option Nat)} {elt tg iter:Expr} {ifs:List Expr} {wi:TI} {g:TG} {tt:TT} {te:TE} {pos:Pos}
end
end L2
namespace Pu
open PySem PySem.Spec PyProof.Rows L2 My Prf
end Pu
namespace L2
open PySem PySem.Spec PyProof.Rows
def A6h:R2:=fun x y H Q=>∃ i n,x=.str i/\y=.int n/\(0<=n/\n<=100)/\i.length<=100/\Q (.str (Txt.mul i n)) H
theorem B8e {x:Str} {n:Int} (h0:0<=n) (h1:n<=100) (h:x.length<=100):MulOk x n:=by
 refine ⟨?_,fun hn _=>?_,fun hn _=>?_⟩
 ·rw [Bool.or_eq_false_iff];exact ⟨decide_eq_false (by omega),decide_eq_false (by omega)⟩
 ·have hp:0 < n:=by omega
  have h2:100 * n<=2 ^ 63 - 1:=by omega
  have h3:(100:Int)<=(2 ^ 63 - 1) / n:=Int.le_ediv_of_mul_le hp h2;omega
 ·have h2:x.length * n.toNat<=100 * 100:=Nat.mul_le_mul h (by omega);have h3:100 * 100<=sizeLine:=by rw [sizeLine_eq]; decide
  show decide _=false;exact decide_eq_false (by omega)
theorem B5a {X:Cx}:OpR X (binaryOp .Mult) A6h:=by
 intro pins s σ H x y v u Q I rx ry h;obtain ⟨i,n,rfl,rfl,⟨h0,h1⟩,h2,q⟩:=h;obtain ⟨t,rfl⟩:=rx;obtain ⟨t2,rfl⟩:=ry;exact PySem.SB.mul (B8e h0 h1 h2) fun t' k=>⟨.str _,H,I.tok _,⟨t',rfl⟩,q⟩
end L2
namespace Pu
open PySem L2 My Prf
def B41 (x y:PyData) (Q:SV->Prop):Prop:=asS x fun i=>asI y fun n=>(0<=n/\n<=100)/\i.length<=100/\Q (.d (.str (Txt.mul i n)))
theorem A7a {i:Str} {n:Int} {Q:SV->Prop}:B41 (.str i) (.int n) Q=((0<=n/\n<=100)/\i.length<=100/\Q (.d (.str (Txt.mul i n)))):=rfl
instance ro_mulS {K:Frag}:RO K A6h B41 where
 ok:=by
  rintro c w env σ x y dx dy Qp Q rfl E vx vy p k;unfold B41 asS at p;split at p
  ·unfold asI at p;split at p
   ·exact ⟨_,_,vx.strE,vy.intE,p.1,p.2.1,k _ _ w (Res.data E (.str _)) p.2.2⟩
   ·exact p.elim
  ·exact p.elim
end Pu
namespace L2
open PySem PySem.Spec PyProof.Rows
theorem B6a {b n:Nat} (h:n<=b):Builtin.Slice.sliceAdjust none (some (b:Int)) 1 (n:Int)=(0,(n:Int)):=by
 have e1:¬ ((1:Int) < 0):=by decide
 have e2:¬ ((b:Int) < 0):=by omega
 have e3:min (b:Int) (n:Int)=n:=by omega
 simp only [Builtin.Slice.sliceAdjust,e1,e2,if_false,e3]
theorem B4g (n:Nat):Builtin.Slice.slicePlaces 0 (n:Int) 1=n:=by
 have e1:(1:Int) > 0:=by decide
 simp only [Builtin.Slice.slicePlaces,e1,if_true,Int.ediv_one];split <;> omega
section
variable {pg:Program} {wo:World} {ar:Around} {xe:Value->Shared->Prop} {st:Shared}
theorem B58 {q:Addr} {b n:Nat} {tk:Tok} {Q:Int × Int × Nat->Shared->Prop} (hs:st.heap.IsSliceOf q .none (.int b tk) .none) (hb:n<=b) (k:Q (0,1,n) st) :
  wpAny (model pg wo) ar (Builtin.Slice.sliceApplied (.ref q) (pure (n:Int))) Q xe st:=by
 obtain ⟨ob,g1,g2,g3⟩:=id hs;unfold Builtin.Slice.sliceApplied Builtin.Slice.sliceFields;refine wpAny_bind (wpAny_bind (wpAny_field g1 g3 (x:=.none) rfl ?_));refine wpAny_bind (wpAny_field g1 g3 (x:=.int b tk) rfl ?_);refine wpAny_bind (wpAny_field g1 g3 (x:=.none) rfl ?_);refine wpAny_pure ?_;refine wpAny_bind (slicePart_none ?_);show wpAny _ _ (if ((1:Int) == 0)=true then _ else _) _ _ st;rw [if_neg (by decide)];refine wpAny_bind (slicePart_none ?_);refine wpAny_bind (slicePart_int ?_);refine wpAny_bind (wpAny_pure ?_);show wpAny _ _ (match Builtin.Slice.sliceAdjust none (some (b:Int)) 1 (n:Int) with | (x,y)=>pure (x,(1:Int),Builtin.Slice.slicePlaces x y 1)) _ _ st;rw [B6a hb];show wpAny _ _ (pure ((0:Int),(1:Int),Builtin.Slice.slicePlaces 0 (n:Int) 1)) _ _ st;rw [B4g];exact wpAny_pure k
theorem B03 {a q:Addr} {its:Array Value} {b:Nat} {tk:Tok} {Q:Value->Shared->Prop} (ht:IsTup st.heap a its) (hs:st.heap.IsSliceOf q .none (.int b tk) .none) (hb:its.size<=b) (k:Q (.ref a) st) :
  wpAny (model pg wo) ar (getItem (.ref a) (.ref q)) Q xe st:=by
 obtain ⟨ob,g1,g2,g3⟩:=id hs;have tq:st.TypeIs (.ref q) "slice":=⟨ob,g1,g2⟩;unfold getItem;try with_reducible refine wpAny_holding ?_
 first | refine wpAny_bind (wpAny_pure ?_) | skip
 refine wpAny_bind (wpAny_sequenceKey ht.typeIs (by decide) ?_);refine wpAny_bind (wpAny_callSpecial?_slot (name:=Str.ofString "__getitem__") ht.typeIs slot_tuple_getitem ?_);refine wpAny_call_entry slot_tuple_getitem ht.typeIs entry_tuple_getitem ?_ (args_tuple_getitem _ _);show wpAny _ _ (Builtin.Tuple.tupleItemsOf (.ref a) >>= _) _ _ st;refine wpAny_bind (tupleItemsOf_ ht ?_);refine wpAny_bind (wpAny_typeOf tq ?_);rw [if_pos (by decide)];refine wpAny_bind (B58 hs hb ?_);show wpAny _ _ (if ((0:Int) == 0 && (1:Int) == 1 && its.size == its.size)=true then _ else _) _ _ st;rw [if_pos (by simp)];unfold Builtin.Tuple.tupleIsExact;refine wpAny_bind (wpAny_bind (wpAny_typeOf ht.typeIs ?_));refine wpAny_pure ?_;rw [if_pos (by decide)];first | exact wpAny_bind (wpAny_rule (wpAny_pure ⟨_,rfl,wpAny_pure k⟩)) | exact wpAny_bind (wpAny_pure (wpAny_pure ⟨_,rfl,wpAny_pure k⟩)) | exact wpAny_pure ⟨_,rfl,wpAny_pure k⟩
end
def rSlW (K:PySem.W.Frag):V->Option Int->Option Int->Hp->VK->Prop:=fun x lo hi H Q=>∃ (a:Addr) (xs:List V) (b:Nat),x=.ref a/\SqT K H a xs/\lo=none/\hi=some (b:Int)/\xs.length<=b/\Q (.ref a) H
theorem B0d {X:Cx}:SlR X (rSlW X.K):=by
 intro pins s σ H x v vl vu lo hi q Q I rx hs pl pu h;obtain ⟨a,xs,b,rfl,hx,rfl,rfl,hb,k⟩:=h;cases rx;obtain ⟨its,r,ht,hz⟩:=I.tuple hx;have hlen:=r.length;cases pl;cases pu;refine ⟨"tuple",_,slot_tuple_getitem.lookup,ht.typeIs,?_⟩;exact B03 ht hs (by rw [List.size_toArray]; omega) ⟨.ref a,H,I,rfl,k⟩
def B6v (K:PySem.W.Frag):V->Option Int->Option Int->Hp->VK->Prop:=fun x lo hi H Q=>rSlT K x lo hi H Q\/rSlW K x lo hi H Q
theorem B3z {X:Cx} {K:PySem.W.Frag} (h:X.K=K):SlR X (B6v K):=by
 subst h;exact SlR.or B6n B0d
end L2
namespace Pu
open PySem L2 My Prf
def pSlT (pa:PDt) (pl ph:PEnv->(Option Int->PEnv->Prop)->Prop) (env:PEnv) (Q:SV->PEnv->Prop):Prop:=pa env fun x e=>pl e fun lo e1=>ph e1 fun hi e2=>∃ (xs:LP) (b:Nat),x=.tuple xs/\lo=none/\hi=some (b:Int)/\Q (.d (.tuple (xs.take b))) e2
instance re_slT {K:Frag} {te:TE} {tl th:TO} {pa:PDt} {pl ph:PEnv->(Option Int->PEnv->Prop)->Prop} [ha:RD K te pa] [hl:RP K tl pl] [hh:RP K th ph]:RE K (tSl (B6v K) te tl th) (pSlT pa pl ph) where
 ok:=by
  rintro c w env σ Qp Q rfl E p k;refine ha.ok c w env σ _ _ rfl E p fun v dx e1 w1 E1 l1 d1 q1=>?_;refine hl.ok c w1 e1 σ _ _ rfl E1 q1 fun lo e2 w2 E2 l2 q2=>?_;refine hh.ok c w2 e2 σ _ _ rfl E2 q2 fun hi e3 w3 E3 l3 q3=>?_;obtain ⟨xs,b,rfl,rfl,rfl,q⟩:=q3;have d3:Den c.K w3.F v (.tuple xs):=(d1.same l2.f).same l3.f;obtain ⟨a,vs,e,g1,g2⟩:=VV.tup E3.wok (.inl d3);have hlen:=g2.len;by_cases hb:xs.length<=b
  ·refine .inr ⟨a,vs,b,e,g1,rfl,rfl,by rw [hlen]; exact hb,?_⟩;rw [List.take_of_length_le hb] at q;rw [<- e];exact k _ _ e3 _ ((Res.data E3 d3).pre (l1.trans (l2.trans l3))) q
  ·refine .inl ⟨a,vs,e,g1,fun z=>hb ?_,fun p hp=>?_⟩
   ·have:=z.2;rw [HT.sIx_nat] at this;omega
   ·have ec:cutV vs none (some (b:Int))=vs.take b:=by
     unfold cutV;rw [HT.sIx_none,HT.sIx_nat,List.drop_zero,Nat.sub_zero,Nat.min_eq_left (by omega)]
    rw [ec];exact k _ _ e3 _ ((Res.tup E3 hp (g2.take b)).pre (l1.trans (l2.trans l3))) q
end Pu
namespace Pu
open PySem L2 My Prf
def OT.part:OT->Int->Option OT
 | .leaf (.tuple xs),i=>(L2.atI xs i).map .leaf
 | .leaf (.list xs),i=>(L2.atI xs i).map .leaf
 | .nd _ _ k,i=>(ixN k.len i).bind k.kid
 | _,_=>none
theorem B53 {c:Ct} {w w':Wd} {v:V} {t:OT} (s:Same w.F w'.F) (h:VR c w v (.bt t)):VR c w' v (.bt t):=⟨h.1.sameF s,h.2⟩
theorem B4p {c:Ct} {w:Wd} {v:V} {t u:OT} {i:Int} (ok:w.Ok) (l:Le c.w0 w) (h:VR c w v (.bt t)) (e:t.part i=some u):∃ p vs x,v=.ref p/\(SqL c.K w.H p vs\/SqT c.K w.H p vs)/\L2.atI vs i=some x/\VR c w x (.bt u):=by
 unfold OT.part at e;split at e
 ·obtain ⟨⟨v',ev,h⟩,_⟩:=h;cases ev;obtain ⟨x,hx,rfl⟩:=Option.map_eq_some_iff.mp e;obtain ⟨p,vs,rfl,h1,h2⟩:=Den.tupE h;obtain ⟨y,hy,hd⟩:=h2.atIE hx;exact ⟨p,vs,y,rfl,.inr (SqT.same ok.sub h1),hy,⟨_,rfl,hd⟩,fun q hq=>nomatch hq⟩
 ·obtain ⟨⟨v',ev,h⟩,_⟩:=h;cases ev;obtain ⟨x,hx,rfl⟩:=Option.map_eq_some_iff.mp e;obtain ⟨p,vs,rfl,h1,h2⟩:=Den.lstE h;obtain ⟨y,hy,hd⟩:=h2.atIE hx;exact ⟨p,vs,y,rfl,.inl (ok.sub.seq h1),hy,⟨_,rfl,hd⟩,fun q hq=>nomatch hq⟩
 ·rename_i b a k;obtain ⟨⟨ev,us,h1,h2⟩,h3⟩:=h;cases ev;obtain ⟨j,hj,hk⟩:=Option.bind_eq_some_iff.mp e;obtain ⟨x,hx,hu⟩:=h2.kid hk;have hH:=l.h _ _ h1 (h3 a (by simp [OT.fp]));refine ⟨a,us,x,rfl,?_,?_,hu,fun q hq=>h3 q (List.mem_cons_of_mem _ (A1h hk hq))⟩
  ·cases b with
   | true=>exact .inl (SqL.of hH)
   | false=>exact .inr (SqT.of hH)
  ·unfold L2.atI;rw [h2.len,hj]; exact hx
 ·cases e
class RTb (K:Frag) (te:TE) (pb:outParam (PEnv->(OT->PEnv->Prop)->Prop)):Prop where
 ok:∀ (c:Ct) (w:Wd) (env:PEnv) (σ:St) (Qp:OT->PEnv->Prop) (Q:VK),c.K=K->EnvOk c w env σ->pb env Qp->(∀ v t env' w',EnvOk c w' env' σ->Lw w w'->VR c w' v (.bt t)->Qp t env'->Q v w'.H)->te σ w.H Q
def B5g (o:Option (Option SV)) (env:PEnv) (Q:OT->PEnv->Prop):Prop:=match o with
 | some (some (.bt t))=>Q t env
 | some (some (.d x))=>Q (.leaf x) env
 | _=>False
def B0r (i:Nat) (env:PEnv) (Q:OT->PEnv->Prop):Prop:=B5g env[i]? env Q
theorem A8h {t:OT} {env:PEnv} {Q:OT->PEnv->Prop}:B5g (some (some (.bt t))) env Q=Q t env:=rfl
instance rtb_var {K:Frag} {i:Nat}:RTb K (tVar i) (B0r i) where
 ok:=by
  rintro c w env σ Qp Q rfl E p k;unfold B0r B5g at p;split at p
  ·rename_i t e;obtain ⟨v,h1,h2⟩:=E.at' i _ e;exact ⟨v,h1,k v _ env w E (Lw.refl w) h2 p⟩
  ·rename_i x e;obtain ⟨v,h1,h2⟩:=E.at' i _ e;exact ⟨v,h1,k v (.leaf x) env w E (Lw.refl w) ⟨⟨v,rfl,h2⟩,fun a z=>nomatch z⟩ p⟩
  ·exact p.elim
def tPth (te:TE):TE:=te
def pPth (pb:PEnv->(OT->PEnv->Prop)->Prop) (pi:PDt) (env:PEnv) (Q:OT->PEnv->Prop):Prop:=pb env fun t e1=>pi e1 fun y e2=>asI y fun n=>∃ u,t.part n=some u/\Q u e2
instance rtb_pth {K:Frag} {te ti:TE} {pb:PEnv->(OT->PEnv->Prop)->Prop} {pi:PDt} [hb:RTb K te pb] [hi:RW K ti pi]:RTb K (tPth (tOp (rIx K) te ti)) (pPth pb pi) where
 ok:=by
  rintro c w env σ Qp Q rfl E p k;refine hb.ok c w env σ _ _ rfl E p fun v t e1 w1 E1 l1 v1 q1=>?_;refine hi.ok c w1 e1 σ _ _ rfl E1 q1 fun y dy e2 w2 E2 l2 v2 q2=>?_;unfold asI at q2;split at q2
  ·rename_i n;obtain ⟨u,hu,q⟩:=q2;obtain ⟨p,vs,x,rfl,hs,hx,hv⟩:=B4p E2.wok E2.le0 (B53 l2.f v1) hu;have hn:=v2.intE;rcases hs with hs | hs
   ·exact .inl ⟨p,vs,n,x,rfl,hn,hs,hx,k x u e2 w2 E2 (l1.trans l2) hv q⟩
   ·exact .inr (.inl ⟨p,vs,n,x,rfl,hn,hs,hx,k x u e2 w2 E2 (l1.trans l2) hv q⟩)
  ·exact q2.elim
def OT.vw (t:OT) (k:PyData->Prop):Prop:=match t with
 | .leaf x=>k x
 | t=>∃ xs,t.sv=.bor xs/\k (.list xs)
def OT.lf (t:OT) (k:PyData->Prop):Prop:=match t with
 | .leaf x=>k x
 | _=>False
def pBr (pb:PEnv->(OT->PEnv->Prop)->Prop) (env:PEnv) (Q:LP->PEnv->Prop):Prop:=pb env fun t e=>∃ xs,t.sv=.bor xs/\Q xs e
instance (priority:=high) rl_pth {K:Frag} {te:TE} {pb:PEnv->(OT->PEnv->Prop)->Prop} [hb:RTb K (tPth te) pb]:RL K (tPth te) (pBr pb) where
 ok:=by
  rintro c w env σ Qp Q rfl E p k;refine hb.ok c w env σ _ _ rfl E p fun v t e1 w1 E1 l1 v1 q1=>?_;obtain ⟨xs,hs,q⟩:=q1;have h2:=v1.sv;rw [hs] at h2;exact k _ _ e1 w1 E1 l1 h2 q
end Pu
namespace L2
open PySem PySem.Spec PyProof.Rows
theorem qPth {X:Cx} {e:Expr} {t:TE} (h:QE X e t):QE X e (Pu.tPth t):=h
end L2
namespace Pu
open PySem L2 My Prf
def Wd.less (w:Wd) (p q:Addr):Wd:=⟨w.M,fun a=>if a=p\/a=q then none else w.H a,w.F⟩
def Mut (K:Frag) (w:Wd) (l:Addr) (xs:LP):Prop:=∃ vs,w.H l=some (.lst vs)/\w.F l=none/\¬ w.M l/\DenAll K w.F vs xs
abbrev PMu:=LP->LP->LP->(PyData->LP->LP->Prop)->Prop
def spMu (K:Frag) (nd:Nat) (psp:PMu):Sp:=fun vs H Q _=>∃ (w:Wd) (us:List V) (xs ys zs:LP) (p q:Addr) (Qp:PyData->LP->LP->Prop),w.H=H/\w.Ok/\vs=us++[.ref p,.ref q]/\us.length=nd/\p≠q/\DenAll K w.F us xs/\Mut K w p ys/\Mut K w q zs/\psp xs ys zs Qp /\
 ∀ v x ys' zs' w',w'.Ok->Le (w.less p q) w'->Den K w'.F v x->Mut K w' p ys'->Mut K w' q zs'->Qp x ys' zs'->Q v w'.H
theorem spMu.len {K:Frag} {nd:Nat} {psp:PMu} {n:Nat} (h:nd + 2=n):∀ vs H Q E,spMu K nd psp vs H Q E->vs.length=n:=by
 rintro vs H Q E ⟨w,us,xs,ys,zs,p,q,Qp,_,_,rfl,hl,_⟩;simp; omega
theorem A1f {w:Wd} {p q a:Addr} (h:a=p\/a=q):(w.less p q).H a=none:=if_pos h
theorem R9 {w:Wd} {p q a:Addr} (h:a≠p) (h':a≠q):(w.less p q).H a=w.H a:=if_neg (fun z=>z.elim h h')
theorem A1e {w:Wd} {p q a:Addr} {o:HO} (h:(w.less p q).H a=some o):w.H a=some o/\a≠p/\a≠q:=by
 unfold Wd.less at h;dsimp only at h;split at h
 ·cases h
 ·rename_i z; exact ⟨h,fun e=>z (.inl e),fun e=>z (.inr e)⟩
theorem B5p {w:Wd} {p q:Addr}:Le (w.less p q) w :=
 ⟨⟨Same.refl _,fun b o h _=>(A1e h).1,fun _ h=>h,fun _ h=>.inl h,fun b h=>by
  cases e:(w.less p q).H b with
  | none=>rfl
  | some o=>rw [(A1e e).1] at h; cases h⟩,fun a o h=>.inl h⟩
theorem Mut.fp {K:Frag} {w:Wd} {l:Addr} {xs:LP} (h:Mut K w l xs):Tre K w (.nd true l (C5 xs)) [.ref l]/\w.H l≠none/\w.F l=none/\¬ w.M l:=by
 obtain ⟨vs,h1,h2,h3,h4⟩:=h;exact ⟨⟨rfl,vs,h1,N6 h4⟩,by rw [h1]; simp,h2,h3⟩
theorem fp_one {l a:Addr} {xs:LP}:a ∈ (OT.nd true l (C5 xs)).fp ↔ a=l:=by
 rw [show (OT.nd true l (C5 xs)).fp=l :: (C5 xs).fp from rfl,N0]; simp
theorem B5x {l:Addr} {xs:LP}:(OT.nd true l (C5 xs)).fp.Nodup:=by rw [show (OT.nd true l (C5 xs)).fp=l :: (C5 xs).fp from rfl,N0]; simp
theorem Mut.of {c:Ct} {w:Wd} {v:V} {l:Addr} {xs:LP} (h:VR c w v (.tr (.nd true l (C5 xs)))):Mut c.K w l xs:=by
 obtain ⟨⟨_,us,h1,h2⟩,h3⟩:=h;obtain ⟨_,g2,g3,_⟩:=h3.1 l (fp_one.mpr rfl);exact ⟨us,h1,g2,g3,K8 h2⟩
def B06 (nd:Nat) (p q:Addr) (Qp:PyData->LP->LP->Prop) (x:PyData) (e:PEnv):Prop:=∃ ys zs,e[nd]?=some (some (.tr (.nd true p (C5 ys))))/\e[nd + 1]?=some (some (.tr (.nd true q (C5 zs))))/\Qp x ys zs
def rtMu (nd:Nat) (p q:Addr) (Qp:PyData->LP->LP->Prop) (s:SV) (e:PEnv):Prop:=match s with
 | .d x=>B06 nd p q Qp x e
 | _=>False
theorem B1v {nd:Nat} {p q:Addr} {Qp:PyData->LP->LP->Prop} {x:PyData} {e:PEnv}:rtMu nd p q Qp (.d x) e=B06 nd p q Qp x e:=rfl
theorem B5z {K:Frag} {ts:TS} {ps:PSt} [hs:RS K ts ps] {nd:Nat} {psp:PMu} {vs:List V} {H:Hpp} {Q:VK} {E:XK} {N:List Str} (h:spMu K nd psp vs H Q E)
  (hb:∀ xs ys zs p q Qp,p≠q->psp xs ys zs Qp->ps ⟨B06 nd p q Qp .none,rtMu nd p q Qp,fun _=>False,fun _=>False⟩ (xs.map (fun x=>some (.d x))++(some (.tr (.nd true p (C5 ys))) :: some (.tr (.nd true q (C5 zs))) :: List.replicate (N.length - (nd + 2)) none))):ts { nx:=fun _ H'=>Q .non H',rt:=Q } (L2.start N vs) H:=by
 obtain ⟨w,us,xs,ys,zs,p,q,Qp,rfl,ok,rfl,hl,hne,hd,m1,m2,hp,k⟩:=h;have hxl:xs.length=nd:=by rw [<- hl]; exact hd.len.symm
 have cas:∀ (i:Nat) s,(xs.map (fun x=>some (SV.d x))++(some (.tr (.nd true p (C5 ys))) :: some (.tr (.nd true q (C5 zs))) :: List.replicate (N.length - (nd + 2)) none))[i]?=some (some s) ->
   (∃ x,xs[i]?=some x/\s=.d x)\/(i=nd/\s=.tr (.nd true p (C5 ys)))\/(i=nd + 1/\s=.tr (.nd true q (C5 zs))):=by
  intro i s e;rw [List.getElem?_append] at e;split at e
  ·rw [List.getElem?_map] at e;cases q:xs[i]? with
   | none=>rw [q] at e; cases e
   | some t=>rw [q] at e; cases e; exact .inl ⟨t,rfl,rfl⟩
  ·rename_i z;rw [List.length_map,hxl] at z e;match hi:i - nd,e with
   | 0,e=>cases e; exact .inr (.inl ⟨by omega,rfl⟩)
   | 1,e=>cases e; exact .inr (.inr ⟨by omega,rfl⟩)
   | j + 2,e =>
    rw [List.getElem?_cons_succ,List.getElem?_cons_succ,List.getElem?_replicate] at e;split at e <;> cases e
 have st0:∀ (i:Nat) u,us[i]?=some u->(L2.start N (us++[.ref p,.ref q]))[i]?=some (some u):=fun i u e=>by
  have:=(List.getElem?_eq_some_iff.mp e).1;unfold L2.start;rw [List.getElem?_append_left (by simp; omega),List.getElem?_map,List.getElem?_append_left (by omega),e]; rfl
 have st1:(L2.start N (us++[.ref p,.ref q]))[nd]?=some (some (.ref p)):=by
  unfold L2.start;rw [List.getElem?_append_left (by simp; omega),List.getElem?_map,List.getElem?_append_right (by omega),hl]; simp
 have st2:(L2.start N (us++[.ref p,.ref q]))[nd + 1]?=some (some (.ref q)):=by
  unfold L2.start;rw [List.getElem?_append_left (by simp; omega),List.getElem?_map,List.getElem?_append_right (by omega),hl]; simp
 have vr1:VR ⟨K,w.less p q,noZ⟩ w (.ref p) (.tr (.nd true p (C5 ys))):=⟨m1.fp.1,fun a ha=>by rw [fp_one.mp ha]; exact ⟨m1.fp.2.1,m1.fp.2.2.1,m1.fp.2.2.2,A1f (.inl rfl)⟩,B5x⟩;have vr2:VR ⟨K,w.less p q,noZ⟩ w (.ref q) (.tr (.nd true q (C5 zs))):=⟨m2.fp.1,fun a ha=>by rw [fp_one.mp ha]; exact ⟨m2.fp.2.1,m2.fp.2.2.1,m2.fp.2.2.2,A1f (.inr rfl)⟩,B5x⟩;have fin:∀ x env σ w',EnvOk ⟨K,w.less p q,noZ⟩ w' env σ->B06 nd p q Qp x env->∀ v,Den K w'.F v x->Q v w'.H:=fun x env σ w' E' ⟨ys',zs',e1,e2,qp⟩ v hv=>by
  obtain ⟨u1,_,g1⟩:=E'.at' _ _ e1;obtain ⟨u2,_,g2⟩:=E'.at' _ _ e2;exact k v x ys' zs' w' E'.wok E'.le0 hv (Mut.of g1) (Mut.of g2) qp
 refine hs.ok ⟨K,w.less p q,noZ⟩ w _ (L2.start N (us++[.ref p,.ref q])) _ { nx:=fun _ H'=>Q .non H',rt:=Q } rfl ⟨ok,B5p,by simp [L2.start,hxl,hl],fun i s e=>?_,fun i j s t v u a e e' g g' f f'=>?_,fun a z=>z.elim,fun a j t u z=>z.elim⟩ ⟨fun env σ w' E' _ q=>fin _ env σ w' E' q _ .non,fun v s env σ w' E' h r hq=>?_,fun _ _ _ _ _ z=>False.elim z,fun _ _ _ _ _ z=>False.elim z⟩ (hb xs ys zs p q Qp hne hp)
 ·rcases cas i s e with ⟨x,hx,rfl⟩ | ⟨rfl,rfl⟩ | ⟨rfl,rfl⟩
  ·obtain ⟨u,hu,hx2⟩:=hd.at hx;exact ⟨u,st0 i u hu,hx2⟩
  ·exact ⟨_,st1,vr1⟩
  ·exact ⟨_,st2,vr2⟩
 ·rcases cas i s e with ⟨x,hx,rfl⟩ | ⟨rfl,rfl⟩ | ⟨rfl,rfl⟩
  ·exact f.elim
  ·rcases cas j t e' with ⟨x,hx,rfl⟩ | ⟨rfl,rfl⟩ | ⟨rfl,rfl⟩
   ·exact f'.elim
   ·rfl
   ·exact absurd ((fp_one.mp f).symm.trans (fp_one.mp f')) hne
  ·rcases cas j t e' with ⟨x,hx,rfl⟩ | ⟨rfl,rfl⟩ | ⟨rfl,rfl⟩
   ·exact f'.elim
   ·exact absurd ((fp_one.mp f').symm.trans (fp_one.mp f)) hne
   ·rfl
 ·have hq':rtMu nd p q Qp s env:=hq;unfold rtMu at hq';split at hq'
  ·exact fin _ env σ w' E' hq' v h
  ·exact hq'.elim
def tMu (i:Nat):TE:=tVar i
def oMu (o:Option (Option SV)) (k:Addr->LP->Prop):Prop:=match o with
 | some (some (.tr t))=>∃ a xs,t=.nd true a (C5 xs)/\k a xs
 | _=>False
theorem B9z {a:Addr} {xs:LP} {k:Addr->LP->Prop} (h:k a xs):oMu (some (some (.tr (.nd true a (C5 xs))))) k:=⟨a,xs,rfl,h⟩
theorem X6 {xs ys:LP} (h:C5 xs=C5 ys):xs=ys:=by
 have:=congrArg OT.dat h
 rwa [O1,O1] at this
theorem B78 {a:Addr} {xs:LP} {k:Addr->LP->Prop}:oMu (some (some (.tr (.nd true a (C5 xs))))) k=k a xs :=
 propext ⟨fun ⟨_,_,e,h⟩=>by
  have e1:=(OT.nd.inj e).2.1;have e2:=X6 (OT.nd.inj e).2.2;subst e1; subst e2; exact h,B9z⟩
def pMuV (i:Nat) (env:PEnv) (Q:PyData->PEnv->Prop):Prop:=oMu env[i]? fun _ xs=>Q (.list xs) env
instance (priority:=high) rw_mu {K:Frag} {i:Nat}:RW K (tMu i) (pMuV i) where
 ok:=by
  rintro c w env σ Qp Q rfl E p k;unfold pMuV oMu at p;split at p
  ·rename_i t e;obtain ⟨a,xs,rfl,p⟩:=p;obtain ⟨v,h1,h2⟩:=E.at' i _ e;obtain ⟨vs,g1,g2,g3,g4⟩:=Mut.of h2;have ev:v=.ref a:=List.singleton_inj.mp h2.1.1;exact ⟨v,h1,k v _ env w E (Lw.refl w) (.inr ⟨a,vs,xs,ev,rfl,g1,g3,g4⟩) p⟩
  ·exact p.elim
def A66 (pd:PDt) (i:Nat) (pi:PDt) (D:PEnds) (env:PEnv):Prop:=pd env fun x e=>oMu e[i]? fun _ _=>pi e fun y e2=>asI y fun n=>oMu e2[i]? fun a xs=>∃ j,ixN xs.length n=some j/\D.nx (e2.set i (some (.tr (.nd true a (C5 (xs.set j x))))))
instance (priority:=high) rs_setMu {K:Frag} {i:Nat} {te ti:TE} {pd pi:PDt} [he:RD K te pd] [hi:RW K ti pi]:RS K (tAsg te (gSub (tMu i) ti B34)) (A66 pd i pi) where
 ok:=by
  rintro c w env σ Dp D rfl E h p;refine he.ok c w env σ _ _ rfl E p fun v x e1 w1 E1 l1 d1 q1=>?_;unfold oMu at q1;split at q1
  ·rename_i t0 e0;obtain ⟨a0,xs0,rfl,q1⟩:=q1;obtain ⟨o,g0,h2⟩:=E1.at' i _ e0;refine ⟨_,g0,hi.ok c w1 e1 σ _ _ rfl E1 q1 fun u y e2 w2 E2 l2 d2 q2=>?_⟩;unfold asI at q2;split at q2
   ·rename_i n;split at q2
    ·rename_i t e;obtain ⟨a,xs,rfl,j,hj,q2⟩:=q2;obtain ⟨o',g0',h2'⟩:=E2.at' i _ e;rw [g0] at g0'; cases g0';obtain ⟨vs',k1,k2,k3,k5⟩:=Mut.of h2';have ev:o=.ref a:=List.singleton_inj.mp h2'.1.1;subst ev;have hn:=d2.intE;refine ⟨a,vs',n,j,rfl,hn,k1,by rw [k5.len]; exact hj,?_⟩;refine h.nx _ σ ⟨w2.M,upd w2.H a (.lst (vs'.set j v)),w2.F⟩ (E2.writeAt (s':=.tr (.nd true a (C5 (xs.set j x)))) e g0 (fp_one.mpr rfl) (fun b hb=>fp_one.mpr (fp_one.mp hb)) ⟨⟨rfl,_,D5,N6 (DenAll.setAt (Den.same l2.f d1) j k5)⟩,fun b hb=>?_,B5x⟩) (l1.f.trans l2.f) q2;rw [fp_one.mp hb];obtain ⟨z1,z2,z3,z4⟩:=h2'.2.1 a (fp_one.mpr rfl);exact ⟨fun z=>z1 (N3 z),z2,z3,z4⟩
    ·exact q2.elim
   ·exact q2.elim
  ·exact q1.elim
class RA2 (K:Frag) (nd:Nat) (ta:TA) (pa:outParam (PEnv->(LP->Nat->Nat->PEnv->Prop)->Prop)):Prop where
 ok:∀ (c:Ct) (w:Wd) (env:PEnv) (σ:St) (Qp:LP->Nat->Nat->PEnv->Prop) (Q:List V->Hpp->Prop),c.K=K->EnvOk c w env σ->pa env Qp->(∀ vs xs i j u v env' w',EnvOk c w' env' σ->Lw w w'->vs.length=nd->DenAll K w'.F vs xs->σ[i]?=some (some u)->σ[j]?=some (some v)->Qp xs i j env'->Q (vs++[u,v]) w'.H)->ta σ w.H Q
def is2 (o o':Option (Option SV)) (k:Prop):Prop:=match o,o' with
 | some (some (.own _)),some (some (.own _))=>k
 | _,_=>False
theorem B8t {xs ys:LP} {k:Prop}:is2 (some (some (.own xs))) (some (some (.own ys))) k=k:=rfl
def pA2 (i j:Nat) (env:PEnv) (Q:LP->Nat->Nat->PEnv->Prop):Prop:=is2 env[i]? env[j]? (Q [] i j env)
instance ra2_nil {K:Frag} {i j:Nat}:RA2 K 0 (L9 (tVar i) (L9 (tVar j) tNil)) (pA2 i j) where
 ok:=by
  rintro c w env σ Qp Q rfl E p k;unfold pA2 is2 at p;split at p
  ·rename_i xs ys e1 e2;obtain ⟨u,h1,_⟩:=E.at' i _ e1;obtain ⟨v,h2,_⟩:=E.at' j _ e2;exact ⟨u,h1,v,h2,k [] [] i j u v env w E (Lw.refl w) rfl .nil h1 h2 p⟩
  ·exact p.elim
def pC2 (pd:PDt) (pr:PEnv->(LP->Nat->Nat->PEnv->Prop)->Prop) (env:PEnv) (Q:LP->Nat->Nat->PEnv->Prop):Prop:=pd env fun x e1=>pr e1 fun xs i j e2=>Q (x :: xs) i j e2
instance ra2_cons {K:Frag} {n:Nat} {ta:TE} {tr:TA} {pd:PDt} {pr:PEnv->(LP->Nat->Nat->PEnv->Prop)->Prop} [ha:RD K ta pd] [hr:RA2 K n tr pr]:RA2 K (n + 1) (L9 ta tr) (pC2 pd pr) where
 ok:=by
  rintro c w env σ Qp Q rfl E p k;refine ha.ok c w env σ _ _ rfl E p fun x dx e1 w1 E1 l1 v1 q1=>?_;refine hr.ok c w1 e1 σ _ _ rfl E1 q1 fun vs xs i j u v e2 w2 E2 l2 hl d h1 h2 q2=>?_;exact k (x :: vs) (dx :: xs) i j u v e2 w2 E2 (l1.trans l2) (by simp [hl]) (.cons (Den.same l2.f v1) d) h1 h2 q2
theorem Tre.less {K:Frag} {w:Wd} {p q:Addr}:∀ {t:OT} {vs:List V},Tre K w t vs->p ∉ t.fp->q ∉ t.fp->Tre K (w.less p q) t vs
 | .leaf _,_,h,_,_=>h
 | .nd _ a _,_,⟨e,ys,h,k⟩,n,m=>⟨e,ys,by rw [R9 (fun z=>n (by simp [OT.fp,z])) (fun z=>m (by simp [OT.fp,z]))]; exact h,Tre.less k (fun z=>n (by simp [OT.fp,z])) fun z=>m (by simp [OT.fp,z])⟩
 | .nil,_,e,_,_=>e
 | .cons _ _,_,⟨v,r,e,h,t⟩,n,m=>⟨v,r,e,Tre.less h (fun z=>n (by simp [OT.fp,z])) fun z=>m (by simp [OT.fp,z]),Tre.less t (fun z=>n (by simp [OT.fp,z])) fun z=>m (by simp [OT.fp,z])⟩
theorem VR.less {c:Ct} {w:Wd} {v:V} {p q:Addr}:∀ {s:SV},VR c w v s->¬ s.foot v p->¬ s.foot v q->VR c (w.less p q) v s
 | .d _,h,_,_=>h
 | .own _,⟨l',vs,e,k1,k2,k3,k4,k5⟩,n,m=>⟨l',vs,e,by rw [R9 (fun z=>n (by rw [<- z]; exact e)) (fun z=>m (by rw [<- z]; exact e))]; exact k1,k2,k3,k4,k5⟩
 | .bor _,h,_,_=>h
 | .st,h,_,_=>h
 | .bt _,h,_,_=>h
 | .al _,h,_,_=>h
 | .tr _,⟨h,o,d⟩,n,m=>⟨h.less n m,fun a ha=>⟨by rw [R9 (fun z=>n (by rw [<- z]; exact ha)) (fun z=>m (by rw [<- z]; exact ha))]; exact (o a ha).1,(o a ha).2⟩,d⟩
theorem EnvOk.mut {c:Ct} {w w':Wd} {env:PEnv} {σ:St} {i j:Nat} {p q:Addr} {ys zs ys' zs':LP} (E:EnvOk c w env σ) (ei:env[i]?=some (some (.own ys))) (ej:env[j]?=some (some (.own zs))) (si:σ[i]?=some (some (.ref p))) (sj:σ[j]?=some (some (.ref q)))
  (ok:w'.Ok) (l:Le (w.less p q) w') (m1:Mut c.K w' p ys') (m2:Mut c.K w' q zs'):EnvOk c w' ((env.set i (some (.own ys'))).set j (some (.own zs'))) σ:=by
 obtain ⟨v1,hv1,hV1⟩:=E.at' i _ ei;rw [si] at hv1; cases hv1;obtain ⟨v2,hv2,hV2⟩:=E.at' j _ ej;rw [sj] at hv2; cases hv2;obtain ⟨_,_,_,z1⟩:=hV1.foot (a:=p) rfl;obtain ⟨_,_,_,z2⟩:=hV2.foot (a:=q) rfl;have le0:Le c.w0 (w.less p q):=⟨⟨E.le0.f,fun b o h n=>by
   rw [R9 (fun z=>by rw [z,z1] at h; cases h) (fun z=>by rw [z,z2] at h; cases h)]; exact E.le0.h b o h n,E.le0.m,E.le0.mn,fun b h=>by
   by_cases y:b=p\/b=q
   ·rcases y with rfl | rfl
    ·exact z1
    ·exact z2
   ·rw [R9 (fun z=>y (.inl z)) (fun z=>y (.inr z))] at h; exact E.le0.dom b h⟩,E.le0.n⟩
 have hd:∀ {k:Nat} {t:SV},((env.set i (some (.own ys'))).set j (some (.own zs')))[k]?=some (some t)->(k=j/\t=.own zs')\/(k=i/\t=.own ys')\/(k≠i/\k≠j/\env[k]?=some (some t)):=by
  intro k t q;rw [List.getElem?_set] at q;split at q
  ·rename_i e;split at q
   ·cases q; exact .inl ⟨e.symm,rfl⟩
   ·cases q
  ·rename_i e;rw [List.getElem?_set] at q;split at q
   ·rename_i e';split at q
    ·cases q; exact .inr (.inl ⟨e'.symm,rfl⟩)
    ·cases q
   ·rename_i e';exact .inr (.inr ⟨fun z=>e' z.symm,fun z=>e z.symm,q⟩)
 have fo:∀ {k:Nat} {t:SV} {u:V} {a:Addr},((env.set i (some (.own ys'))).set j (some (.own zs')))[k]?=some (some t)->σ[k]?=some (some u)->t.foot u a->∃ s,env[k]?=some (some s)/\s.foot u a:=by
  intro k t u a q g f;rcases hd q with ⟨rfl,rfl⟩ | ⟨rfl,rfl⟩ | ⟨_,_,q⟩
  ·exact ⟨_,ej,f⟩
  ·exact ⟨_,ei,f⟩
  ·exact ⟨_,q,f⟩
 refine ⟨ok,le0.trans l,by simpa using E.len,fun k t q=>?_,fun k k' s t v u a q1 q2 q3 q4 f1 f2=>?_,fun a za=>?_,fun a k t u za q q' f=>?_⟩
 ·rcases hd q with ⟨rfl,rfl⟩ | ⟨rfl,rfl⟩ | ⟨n1,n2,q⟩
  ·obtain ⟨vs,h1,h2,h3,h4⟩:=m2;exact ⟨_,sj,_,vs,rfl,h1,h2,h3,z2,h4⟩
  ·obtain ⟨vs,h1,h2,h3,h4⟩:=m1;exact ⟨_,si,_,vs,rfl,h1,h2,h3,z1,h4⟩
  ·obtain ⟨u,g1,g2⟩:=E.at' k t q;exact ⟨u,g1,(g2.less (fun f=>n1 (E.own k i _ _ _ _ p q ei g1 si f rfl)) (fun f=>n2 (E.own k j _ _ _ _ _ q ej g1 sj f rfl))).mono l⟩
 ·obtain ⟨s',p1,g1⟩:=fo q1 q3 f1;obtain ⟨t',p2,g2⟩:=fo q2 q4 f2;exact E.own k k' _ _ _ _ a p1 p2 q3 q4 g1 g2
 ·obtain ⟨y1,y2,y3⟩:=E.zf a za;have n1:a≠p:=fun z=>E.zo a i _ _ za ei si (by rw [z]; rfl);have n2:a≠q:=fun z=>E.zo a j _ _ za ej sj (by rw [z]; rfl);have y2':(w.less p q).H a≠none:=by rw [R9 n1 n2]; exact y2
  exact ⟨l.fnone y1 y2',l.hsome y2',l.nm y2' y3⟩
 ·obtain ⟨s',p1,g1⟩:=fo q q' f;exact E.zo a k _ _ za p1 q' g1
def own2 (o o':Option (Option SV)) (k:LP->LP->Prop):Prop:=match o,o' with
 | some (some (.own xs)),some (some (.own ys))=>k xs ys
 | _,_=>False
theorem B2m {xs ys:LP} {k:LP->LP->Prop}:own2 (some (some (.own xs))) (some (some (.own ys))) k=k xs ys:=rfl
def pMu (psp:PMu) (pa:PEnv->(LP->Nat->Nat->PEnv->Prop)->Prop) (env:PEnv) (Q:PyData->PEnv->Prop):Prop:=pa env fun xs i j e=>i≠j/\own2 e[i]? e[j]? fun ys zs=>psp xs ys zs fun x ys' zs'=>Q x ((e.set i (some (.own ys'))).set j (some (.own zs')))
theorem B9c {K:Frag} {nd:Nat} {psp:PMu} {E0:XK} {ta:TA} {pa:PEnv->(LP->Nat->Nat->PEnv->Prop)->Prop} [ha:RA2 K nd ta pa] {c:Ct} {w:Wd} {env:PEnv} {σ:St} {Qp:PyData->PEnv->Prop} {Q:VK} (hK:c.K=K) (E:EnvOk c w env σ) (p:pMu psp pa env Qp)
  (k:∀ v x env' w',EnvOk c w' env' σ->Same w.F w'.F->Den K w'.F v x->Qp x env'->Q v w'.H):Y6 (spMu K nd psp) [] E0 ta σ w.H Q:=by
 subst hK;refine ha.ok c w env σ _ _ rfl E p fun vs xs i j u v e1 w1 E1 l1 hl d s1 s2 q1=>?_;rw [List.append_nil];obtain ⟨hij,q1⟩:=q1;unfold own2 at q1;split at q1
 ·rename_i ys zs ei ej;obtain ⟨u',g1,l,vs1,rfl,a1,a2,a3,a4,a5⟩:=E1.at' i _ ei;rw [s1] at g1; cases g1;obtain ⟨v',g2,l',vs2,rfl,b1,b2,b3,b4,b5⟩:=E1.at' j _ ej;rw [s2] at g2; cases g2;refine ⟨w1,vs,xs,ys,zs,l,l',_,rfl,E1.wok,rfl,hl,fun z=>hij (E1.own i j _ _ _ _ l ei ej s1 s2 rfl (by rw [z]; rfl)),d,⟨vs1,a1,a2,a3,a5⟩,⟨vs2,b1,b2,b3,b5⟩,q1,fun v x ys' zs' w' ok le hv m1 m2 q=>?_⟩;exact k v x _ w' (E1.mut ei ej s1 s2 ok le m1 m2) (l1.f.trans le.f) hv q
 ·exact q1.elim
def A7t (psp:PMu) (pa:PEnv->(LP->Nat->Nat->PEnv->Prop)->Prop) (m:Nat) (D:PEnds) (env:PEnv):Prop:=pMu psp pa env fun x e=>D.nx (e.set m (some (.d x)))
instance (priority:=high) rs_asgMu {K:Frag} {nd:Nat} {psp:PMu} {E0:XK} {ta:TA} {pa:PEnv->(LP->Nat->Nat->PEnv->Prop)->Prop} {m:Nat} [ha:RA2 K nd ta pa]:RS K (tAsg (Y6 (spMu K nd psp) [] E0 ta) (A0b m)) (A7t psp pa m) where
 ok:=by
  rintro c w env σ Dp D rfl E h p;exact B9c rfl E p fun v x e1 w1 E1 s1 hv q=>h.nx _ _ w1 (E1.set (s:=.d x) hv (fun _ z=>nomatch z)) s1 q
end Pu
namespace L2
open PySem PySem.Spec PyProof.Rows
theorem qMu {X:Cx} {e:Expr} {i:Nat} (h:QE X e (tVar i)):QE X e (Pu.tMu i):=h
end L2
namespace Pu
open PySem L2 My Prf
def tKp (i:Nat):TE:=tVar i
theorem B0t {c:Ct} {w:Wd} {env:PEnv} {σ:St} {i:Nat} {xs:LP} (E:EnvOk c w env σ) (e:env[i]?=some (some (.own xs))):∃ a vs,σ[i]?=some (some (.ref a))/\SqL c.K w.H a vs/\Walk ⟨c.K,w,c.Z⟩ w (Itl c.K a) xs:=by
 obtain ⟨v,h1,l,vs,rfl,g1,g2,g3,g4,g5⟩:=E.at' i _ e;exact ⟨l,vs,h1,SqL.of g1,N5 (c:=⟨c.K,w,c.Z⟩) g5 fun w' ok l' s=>SqL.of (l'.h _ _ g1 g3)⟩
def Q6 (i:Nat) (pg:PyData->PEnv->(PEnv->Prop)->Prop) (pt:PTt) (pd:PDt) (cap:List (Option Nat)) (j:Nat) (D:PEnds) (env:PEnv):Prop:=A0n env[i]? fun xs=>xs.length < 1000000/\P3 xs pg pt pd (L7 cap env) fun ys=>D.nx (env.set j (some (.own ys)))
instance (priority:=high) rs_setCompK {K:Frag} {i j:Nat} {g:TG} {tt:TT} {te:TE} {cap:List (Option Nat)} {pg:PyData->PEnv->(PEnv->Prop)->Prop} {pt:PTt} {pd:PDt} [hg:RG K g pg] [ht:RT K tt pt] [he:RD K te pd]:RS K (T2 (iSq K (tKp i)) g tt te cap j) (Q6 i pg pt pd cap j) where
 ok:=by
  rintro c w env σ Dp D rfl E h p;unfold Q6 A0n at p;split at p
  ·rename_i xs e;obtain ⟨a,vs,h1,h2,wk⟩:=B0t E e;refine ⟨_,h1,.inl ⟨a,rfl,⟨vs,h2⟩,fun D' hD=>?_⟩⟩;exact A2z (pg:=pg) (pt:=pt) (pd:=pd) rfl E wk p.1 p.2 hD fun w' ys R q'=>h.nx _ _ w' (R.ev.set R.val R.new) R.lw.f q'
  ·exact p.elim
end Pu
namespace L2
open PySem PySem.Spec PyProof.Rows
theorem qKp {X:Cx} {e:Expr} {i:Nat} (h:QE X e (tVar i)):QE X e (Pu.tKp i):=h
end L2
namespace Pu
open PySem L2 My Prf
def tPo (te:TE):TE:=te
theorem C0a:∀ {t:OT} {xs:LP},t.sv=.bor xs->t=.leaf (.list xs)\/∃ a,t=.nd true a (C5 xs)
 | .leaf (.list ys),xs,h=>by cases (show SV.bor ys=.bor xs from h); exact .inl rfl
 | .nd true a k,xs,h=>by
  have h':(match k.lvs with | some xs=>SV.bor xs | none=>.bt (.nd true a k))=.bor xs:=h;cases q:k.lvs with
  | none=>rw [q] at h'; cases h'
  | some ys=>rw [q] at h'; cases h'; exact .inr ⟨a,by rw [M4 q]⟩
def OT.setK:OT->Nat->OT->OT
 | .cons _ t,0,x=>.cons x t
 | .cons h t,n + 1,x=>.cons h (t.setK n x)
 | t,_,_=>t
theorem A80:∀ {ks:OT} {j:Nat} {u:OT},ks.kid j=some u->∃ A B,ks.fp=A++u.fp++B/\∀ x,(ks.setK j x).fp=A++x.fp++B
 | .cons _ t,0,_,q=>by cases q; exact ⟨[],t.fp,rfl,fun x=>rfl⟩
 | .cons h t,n + 1,u,q=>by
  obtain ⟨A,B,e1,e2⟩:=A80 (ks:=t) (j:=n) (u:=u) q;exact ⟨h.fp++A,B,by show h.fp++t.fp=_; rw [e1]; simp,fun x=>by show h.fp++(t.setK n x).fp=_; rw [e2]; simp⟩
theorem Tre.agree {K:Frag} {w w':Wd} (f:Same w.F w'.F):∀ {t:OT} {vs:List V},Tre K w t vs->(∀ a ∈ t.fp,∀ o,w.H a=some o->w'.H a=some o)->Tre K w' t vs
 | .leaf _,_,⟨v,e,h⟩,_=>⟨v,e,Den.same f h⟩
 | .nd _ p _,_,⟨e,us,h,k⟩,n=>⟨e,us,n p (by simp [OT.fp]) _ h,Tre.agree f k fun q hq=>n q (by simp [OT.fp,hq])⟩
 | .nil,_,e,_=>e
 | .cons _ _,_,⟨v,r,e,h,t⟩,n=>⟨v,r,e,Tre.agree f h fun q hq=>n q (by simp [OT.fp,hq]),Tre.agree f t fun q hq=>n q (by simp [OT.fp,hq])⟩
theorem Tre.setK {K:Frag} {w w':Wd} {x:OT} {v:V} (f:Same w.F w'.F):∀ {ks:OT} {us:List V} {j:Nat} {u:OT},Tre K w ks us->ks.kid j=some u->us[j]?=some v->ks.fp.Nodup->(∀ a o,w.H a=some o->a ∉ u.fp->w'.H a=some o)->Tre K w' x [v]->Tre K w' (ks.setK j x) us
 | .cons h t,_,0,u,⟨y,r,rfl,hh,ht⟩,q,ev,nd,ag,hx=>by
  cases q;have:y=v:=by simpa using ev
  subst this;have d:=(List.nodup_append.mp nd).2.2;exact ⟨y,r,rfl,hx,ht.agree f fun a ha o ho=>ag a o ho fun z=>d a z a ha rfl⟩
 | .cons h t,_,n + 1,u,⟨y,r,rfl,hh,ht⟩,q,ev,nd,ag,hx=>by
  obtain ⟨_,n2,d⟩:=List.nodup_append.mp nd;have q':t.kid n=some u:=q;refine ⟨y,r,rfl,hh.agree f fun a ha o ho=>ag a o ho fun z=>d a ha a (A1h q' z) rfl,?_⟩;exact Tre.setK f (ks:=t) (j:=n) ht q' (by simpa using ev) n2 ag hx
structure Sub (K:Frag) (w:Wd) (T u:OT) (r:OT->OT) (v0 v:V):Prop where
 tre:Tre K w u [v]
 re:∀ (w':Wd) x,(∀ a o,w.H a=some o->a ∉ u.fp->w'.H a=some o)->Same w.F w'.F->Tre K w' x [v]->Tre K w' (r x) [v0]
 fp:∃ A B,T.fp=A++u.fp++B/\∀ x,(r x).fp=A++x.fp++B
class RRt (K:Frag) (te:TE) (i:outParam Nat) (pm:outParam (OT->(OT->(OT->OT)->Prop)->Prop)):Prop where
 ok:∀ (c:Ct) (w:Wd) (env:PEnv) (σ:St) (T:OT) (v0:V) (P:OT->(OT->OT)->Prop) (Q:VK),c.K=K->EnvOk c w env σ->env[i]?=some (some (.tr T))->σ[i]?=some (some v0)->pm T P->(∀ v u r,P u r->Sub K w T u r v0 v->Q v w.H)->te σ w.H Q
def B5k (T:OT) (k:OT->(OT->OT)->Prop):Prop:=k T fun x=>x
instance rrt_var {K:Frag} {i:Nat}:RRt K (tVar i) i B5k where
 ok:=by
  rintro c w env σ T v0 P Q rfl E e hv p k;obtain ⟨v,h1,h2⟩:=E.at' i _ e;rw [hv] at h1; cases h1;exact ⟨v0,hv,k v0 T _ p ⟨h2.1,fun w' x _ _ h=>h,[],[],by simp,fun x=>by simp⟩⟩
def mIx (pm:OT->(OT->(OT->OT)->Prop)->Prop) (n:Int) (T:OT) (k:OT->(OT->OT)->Prop):Prop:=pm T fun t r=>∃ b a ks j u,t=.nd b a ks/\ixN ks.len n=some j/\ks.kid j=some u/\k u fun x=>r (.nd b a (ks.setK j x))
instance rrt_ix {K:Frag} {te:TE} {i:Nat} {n:Int} {pm:OT->(OT->(OT->OT)->Prop)->Prop} [h:RRt K te i pm]:RRt K (tPo (tOp (rIx K) te (tC (.int n)))) i (mIx pm n) where
 ok:=by
  rintro c w env σ T v0 P Q rfl E e hv p k;obtain ⟨v',hv',VRT⟩:=E.at' i _ e;refine h.ok c w env σ T v0 _ _ rfl E e hv p fun v t r ⟨b,a,ks,j,u,et,hj,hk,q⟩ S=>?_;subst et;obtain ⟨⟨ev,us,hH,hks⟩,re,A,B,eT,er⟩:=S;cases ev;obtain ⟨x,hx,hu⟩:=hks.kid hk;have nT:=VRT.2.2;rw [eT] at nT;have nd:(OT.nd b a ks).fp.Nodup:=(List.nodup_append.mp (List.nodup_append.mp nT).1).2.1;obtain ⟨ha,nk⟩:=List.nodup_cons.mp (show (a :: ks.fp).Nodup from nd);obtain ⟨A',B',e1,e2⟩:=A80 hk;have sub:Sub c.K w T u (fun x=>r (.nd b a (ks.setK j x))) v0 x:=⟨hu,fun w' y ag f hy=>by
    refine re w' _ (fun a' o ho hn=>ag a' o ho fun z=>hn (List.mem_cons_of_mem _ (A1h hk z))) f ⟨rfl,us,ag a _ hH fun z=>ha (A1h hk z),?_⟩;exact Tre.setK f hks hk hx nk ag hy,A++a :: A',B'++B,by
    rw [eT,show (OT.nd b a ks).fp=a :: ks.fp from rfl,e1]; simp,fun y=>by
    rw [er,show (OT.nd b a (ks.setK j y)).fp=a :: (ks.setK j y).fp from rfl,e2]; simp⟩
  have at':L2.atI us n=some x:=by unfold L2.atI; rw [hks.len,hj]; exact hx
  cases b with
  | true=>exact .inl ⟨a,us,n,x,rfl,rfl,SqL.of hH,at',k x u _ q sub⟩
  | false=>exact .inr (.inl ⟨a,us,n,x,rfl,rfl,SqT.of hH,at',k x u _ q sub⟩)
theorem EnvOk.change {c:Ct} {w:Wd} {env:PEnv} {σ:St} {i:Nat} {T u:OT} {r:OT->OT} {v0 v:V} {a:Addr} {xs ys:LP} {us:List V} (E:EnvOk c w env σ) (e:env[i]?=some (some (.tr T))) (hv:σ[i]?=some (some v0)) (S:Sub c.K w T u r v0 v) (hu:u=.nd true a (C5 xs)) (hd:DenAll c.K w.F us ys) :
  EnvOk c ⟨w.M,upd w.H a (.lst us),w.F⟩ (env.set i (some (.tr (r (.nd true a (C5 ys)))))) σ:=by
 subst hu;obtain ⟨v',hv',VRT⟩:=E.at' i _ e;rw [hv] at hv'; cases hv';obtain ⟨tre,re,A,B,eT,er⟩:=S;obtain ⟨ev,_⟩:=tre;cases ev;have ef:(r (.nd true a (C5 ys))).fp=T.fp:=by
  rw [er,eT,show (OT.nd true a (C5 ys)).fp=a :: (C5 ys).fp from rfl,show (OT.nd true a (C5 xs)).fp=a :: (C5 xs).fp from rfl,N0,N0]
 have haT:a ∈ T.fp:=by rw [eT]; simp [OT.fp]
 refine E.writeAt (s':=.tr (r (.nd true a (C5 ys)))) e hv haT (fun b hb=>by show b ∈ T.fp; rw [<- ef]; exact hb) ⟨re _ _ (fun b o ho hn=>?_) (Same.refl _) ⟨rfl,us,D5,N6 hd⟩,fun b hb=>?_,by rw [ef]; exact VRT.2.2⟩
 ·show upd w.H a _ b=_;rw [D8 (fun z=>hn (by rw [z]; simp [OT.fp]))]; exact ho
 ·rw [ef] at hb;obtain ⟨z1,z2⟩:=VRT.2.1 b hb;exact ⟨fun z=>z1 (N3 z),z2⟩
theorem Sub.lst {K:Frag} {w:Wd} {T u:OT} {r:OT->OT} {v0 v:V} {a:Addr} {xs:LP} (S:Sub K w T u r v0 v) (hu:u=.nd true a (C5 xs)):v=.ref a/\∃ us,w.H a=some (.lst us)/\DenAll K w.F us xs:=by
 subst hu;obtain ⟨⟨ev,us,h1,h2⟩,_⟩:=S;cases ev;exact ⟨rfl,us,h1,K8 h2⟩
def isLs (u:OT) (k:Addr->LP->Prop):Prop:=∃ a xs,u=.nd true a (C5 xs)/\k a xs
theorem B8s {a:Addr} {xs:LP} {k:Addr->LP->Prop}:isLs (.nd true a (C5 xs)) k=k a xs :=
 propext ⟨fun ⟨_,_,e,h⟩=>by
  have e1:=(OT.nd.inj e).2.1;have e2:=X6 (OT.nd.inj e).2.2;subst e1; subst e2; exact h,fun h=>⟨a,xs,rfl,h⟩⟩
def B0s (i:Nat) (pm:OT->(OT->(OT->OT)->Prop)->Prop) (x:PyData) (D:PEnds) (env:PEnv):Prop:=asTr env[i]? fun T=>pm T fun u r=>isLs u fun a xs=>xs.length < 1000000/\D.nx (env.set i (some (.tr (r (.nd true a (C5 (xs++[x])))))))
class Cst (K:Frag) (te:TE) (x:outParam PyData):Prop where
 ok:∃ v,te=tC v/\∀ F,Den K F v x
instance cst_non {K:Frag}:Cst K (tC .non) .none:=⟨.non,rfl,fun _=>.non⟩
instance (priority:=high) rs_appP {K:Frag} {te tx:TE} {i:Nat} {x:PyData} {pm:OT->(OT->(OT->OT)->Prop)->Prop} [h:RRt K (tPo te) i pm] [hx:Cst K tx x]:RS K (A51 (tBM K "list" A2c (tPo te) (L9 tx tNil))) (B0s i pm x) where
 ok:=by
  rintro c w env σ Dp D rfl E hD p;unfold B0s asTr at p;split at p
  ·rename_i T e;obtain ⟨v0,hv,_⟩:=E.at' i _ e;obtain ⟨y,rfl,hy⟩:=hx.ok;refine h.ok c w env σ T v0 _ _ rfl E e hv p fun v u r ⟨a,xs,eu,hl,q⟩ S=>?_;obtain ⟨rfl,us,h1,h2⟩:=S.lst eu;exact ⟨.inl ⟨rfl,_,SqL.of h1⟩,a,us,y,rfl,rfl,h1,by rw [h2.len]; exact W6 hl,hD.nx _ σ ⟨w.M,upd w.H a (.lst (us++[y])),w.F⟩ (E.change e hv S eu (h2.app (.cons (hy _) .nil))) (Same.refl _) q⟩
  ·exact p.elim
def OT.slot:OT->SV
 | .leaf x=>.d x
 | .nd true a k=>match k.lvs with
  | some xs=>.own xs
  | none=>.tr (.nd true a k)
 | t=>.tr t
theorem A0s {x:PyData}:OT.slot (.leaf x)=.d x:=rfl
theorem A6b {a:Addr} {xs:LP}:OT.slot (.nd true a (C5 xs))=.own xs:=by show (match (C5 xs).lvs with | some xs=>SV.own xs | none=>_)=_; rw [O0]
def TVo:OT->V->Prop
 | .nd _ p _,v=>v=.ref p
 | _,_=>True
theorem U2 {v:V} {a:Addr}:∀ {u:OT},TVo u v->u.slot.foot v a->a ∈ u.fp
 | .leaf _,_,f=>f.elim
 | .nd true p k,h,f=>by
  unfold OT.slot at f;dsimp only at f;split at f
  ·have:V.ref p=.ref a:=h.symm.trans f;cases this; simp [OT.fp]
  ·exact f
 | .nd false _ _,_,f=>f
 | .nil,_,f=>f
 | .cons _ _,_,f=>f
theorem A6a {c:Ct} {w:Wd} {v:V} {u:OT} (h:Tre c.K w u [v]) (o:∀ a ∈ u.fp,w.H a≠none/\w.F a=none/\¬ w.M a/\c.w0.H a=none) (d:u.fp.Nodup):VR c w v u.slot:=by
 unfold OT.slot;split
 ·obtain ⟨v',e,h⟩:=h;cases e; exact h
 ·rename_i a k;split
  ·rename_i xs q;obtain ⟨e,us,h1,h2⟩:=h;cases e;rw [M4 q] at h2;obtain ⟨o1,o2,o3,o4⟩:=o a (by simp [OT.fp]);exact ⟨a,us,rfl,h1,o2,o3,o4,K8 h2⟩
  ·exact ⟨h,o,d⟩
 ·exact ⟨h,o,d⟩
theorem A5u {K:Frag} {w:Wd} {v:V}:∀ {u:OT},Tre K w u [v]->TVo u v
 | .nd _ _ _,⟨e,_⟩=>List.singleton_inj.mp e
 | .leaf _,_=>trivial
 | .nil,_=>trivial
 | .cons _ _,_=>trivial
def tUn (te:TE):TE:=te
def unT (s:SV) (a b:Nat) (e:PEnv) (k:PEnv->Prop):Prop:=match s with
 | .d x=>∃ y z,x=.tuple [y,z]/\k ((e.set a (some (.d y))).set b (some (.d z)))
 | .tr t=>∃ p u v,t=.nd false p (.cons u (.cons v .nil))/\k ((e.set a (some u.slot)).set b (some v.slot))
 | _=>False
theorem B6f {p:Addr} {u v:OT} {a b:Nat} {e:PEnv} {k:PEnv->Prop}:unT (.tr (.nd false p (.cons u (.cons v .nil)))) a b e k=k ((e.set a (some u.slot)).set b (some v.slot)) :=
 propext ⟨fun ⟨_,_,_,e,h⟩=>by
  obtain ⟨_,_,e3⟩:=OT.nd.inj e;obtain ⟨e4,e5⟩:=OT.cons.inj e3;obtain ⟨e6,_⟩:=OT.cons.inj e5;subst e4; subst e6; exact h,fun h=>⟨p,u,v,rfl,h⟩⟩
def pUnT (pe:PX) (a b:Nat) (D:PEnds) (env:PEnv):Prop:=pe env fun s e=>unT s a b e D.nx
instance (priority:=high) rs_unT {K:Frag} {te:TE} {a b:Nat} {pe:PX} [he:RE K te pe]:RS K (tAsg (tUn te) (gTup K 2 (A87 (A0b a) (A87 (A0b b) gNil)))) (pUnT pe a b) where
 ok:=by
  rintro c w env σ Dp D rfl E h p;refine he.ok c w env σ _ _ rfl E p fun v s e1 w1 R q=>?_;unfold unT at q;split at q
  ·obtain ⟨y,z,rfl,q⟩:=q;obtain ⟨p',vs,rfl,h1,h2⟩:=Den.tupE R.val;cases h2 with
   | cons hy t=>cases t with
    | cons hz t =>
     cases t;refine ⟨p',_,rfl,SqT.same R.ev.wok.sub h1,rfl,_,_,rfl,_,[],rfl,rfl,?_⟩;exact h.nx _ _ w1 ((R.ev.set (i:=a) (s:=.d y) hy (fun _ z=>nomatch z)).set (i:=b) (s:=.d z) hz (fun _ z=>nomatch z)) R.lw.f q
  ·obtain ⟨p',u,v',rfl,q⟩:=q;obtain ⟨⟨ev,us,hH,x,r,e2,hx,y,r2,e3,hy,e4⟩,o,d⟩:=R.val;cases ev;have e4':r2=[]:=e4;subst e4'; subst e3; subst e2;obtain ⟨dp,dk⟩:=List.nodup_cons.mp (show (p' :: (u.fp++(v'.fp++[]))).Nodup from d);rw [List.append_nil] at dk;obtain ⟨d1,d2,d3⟩:=List.nodup_append.mp dk;have mu:∀ q ∈ u.fp,q ∈ (OT.nd false p' (.cons u (.cons v' .nil))).fp:=fun q hq=>by simp [OT.fp,hq]
   have mv:∀ q ∈ v'.fp,q ∈ (OT.nd false p' (.cons u (.cons v' .nil))).fp:=fun q hq=>by simp [OT.fp,hq]
   have E1:=R.ev.set (i:=a) (v:=x) (s:=u.slot) (A6a hx (fun q hq=>o q (mu q hq)) d1) (fun q f=>R.new q (mu q (U2 (A5u hx) f)));have E2:=E1.set (i:=b) (v:=y) (s:=v'.slot) (A6a hy (fun q hq=>o q (mv q hq)) d2) (fun q f=>by
    have hq:=U2 (A5u hy) f;refine ⟨fun j t z ht hz ft=>?_,(R.new q (mv q hq)).2⟩;rw [List.getElem?_set] at ht hz;split at ht
    ·rename_i ej;split at ht
     ·cases ht;rw [if_pos ej,if_pos (by rw [<- R.ev.len]; assumption)] at hz;cases hz;exact d3 q (U2 (A5u hx) ft) q hq rfl
     ·cases ht
    ·rename_i ej;exact (R.new q (mv q hq)).1 j t z ht (by simpa [ej] using hz) ft)
   have hT:SqT c.K w1.H p' [x,y]:=SqT.of hH;exact ⟨p',[x,y],rfl,hT,rfl,x,[y],rfl,y,[],rfl,rfl,h.nx _ _ w1 E2 R.lw.f q⟩
  ·exact q.elim
class RHs (K:Frag) (md:List Md) (ta:TA) (pa:outParam PAr):Prop where
 ok:∀ (c:Ct) (w:Wd) (env:PEnv) (σ:St) (Qp:LP->PEnv->Prop) (Q:List V->Hpp->Prop),c.K=K->EnvOk c w env σ->pa env Qp->(∀ vs xs env' w',EnvOk c w' env' σ->Lw w w'->DenAll K (hm w') vs xs->(∀ w'',w''.F=hm w'->Args K w'' md vs (xs.map .d))->Qp xs env'->Q vs w'.H)->ta σ w.H Q
instance rhs_nil {K:Frag}:RHs K [] tNil pNil:=⟨fun c w env σ Qp Q _ E p k=>k [] [] env w E (Lw.refl w) .nil (fun _ _=>.nil) p⟩
instance rhs_cons {K:Frag} {md:List Md} {ta:TE} {tr:TA} {pa:PDt} {pr:PAr} [ha:RH K ta pa] [hr:RHs K md tr pr]:RHs K (.dat :: md) (L9 ta tr) (J3 pa pr) where
 ok:=by
  rintro c w env σ Qp Q rfl E p k;refine ha.ok c w env σ _ _ rfl E p fun x dx e1 w1 E1 l1 v1 q1=>?_;refine hr.ok c w1 e1 σ _ _ rfl E1 q1 fun vs xs e2 w2 E2 l2 d2 a2 q2=>?_;have v1':Den c.K (hm w2) x dx:=Den.same (B5u l2) v1;exact k _ _ e2 w2 E2 (l1.trans l2) (.cons v1' d2) (fun w'' e=>.dat (by rw [e]; exact v1') (a2 w'' e)) q2
def B1s (sp:Sp) (dvs:List V) (X:XK) (t:TA):TE:=Y6 sp dvs X t
def A7r (psp:PSp) (pa:PAr) (env:PEnv) (Q:SV->PEnv->Prop):Prop:=pa env fun xs e=>psp (xs.map .d) fun s=>∃ b,s=.d (.bool b)/\Q (.d (.bool b)) e
instance re_callN {K:Frag} {md:List Md} {psp:PSp} {X:XK} {ta:TA} {pa:PAr} [ha:RHs K md ta pa]:RE K (B1s (spOf K md psp) [] X ta) (A7r psp pa) where
 ok:=by
  rintro c w env σ Qp Q rfl E p k;refine ha.ok c w env σ _ _ rfl E p fun vs xs e2 w2 E2 l2 d2 a2 q2=>?_;rw [List.append_nil];refine ⟨⟨w2.M,w2.H,hm w2⟩,xs.map .d,_,rfl,⟨fun a o h=>(A4e h).1,E2.wok.st,fun a ha=>?_⟩,a2 _ rfl,q2,fun v s w' ok l h r q=>?_⟩
  ·show hm w2 a=none;unfold hm; rw [if_pos ha]
  ·obtain ⟨b,rfl,q⟩:=q;have ev:v=.bl b:=Den.blE h;have fl:∀ a o,w2.F a=some o->w2.H a=some o/\¬ w2.M a:=fun a o e=>⟨E2.wok.sub a o e,fun z=>by rw [E2.wok.nf a z] at e; cases e⟩;have le:Le w2 ⟨w'.M,w'.H,w2.F⟩:=⟨⟨Same.refl _,l.h,l.m,l.mn,l.dom⟩,fun a o e=>.inl e⟩;have ok':Wd.Ok ⟨w'.M,w'.H,w2.F⟩:=⟨fun a o e=>l.h a o (fl a o e).1 (fl a o e).2,ok.st,fun a ha=>by
    cases e:w2.F a with
    | none=>rfl
    | some o =>
     obtain ⟨f1,f2⟩:=fl a o e;rcases l.mn a ha with z | z
     ·exact absurd z f2
     ·have z':w2.H a=none:=z;rw [f1] at z'; cases z'⟩
   exact k v (.d (.bool b)) e2 ⟨w'.M,w'.H,w2.F⟩ ⟨E2.mono ok' le,l2.trans le.toLw,by rw [ev]; exact .bl b,fun _ z=>(nomatch z),rfl⟩ q
def kids:List OT->OT
 | []=>.nil
 | t :: r=>.cons t (kids r)
theorem L6 {t:OT}:∀ {ts:List OT},(kids (ts++[t])).fp=(kids ts).fp++t.fp
 | []=>by show t.fp++[]=[]++t.fp; simp
 | s :: r=>by show s.fp++(kids (r++[t])).fp=(s.fp++(kids r).fp)++t.fp; rw [L6]; simp
theorem Tre.snoc {K:Frag} {w:Wd} {t:OT} {v:V} (h:Tre K w t [v]):∀ {ts:List OT} {vs:List V},Tre K w (kids ts) vs->Tre K w (kids (ts++[t])) (vs++[v])
 | [],_,e=>by cases (show _=[] from e); exact ⟨v,[],rfl,h,rfl⟩
 | _ :: _,_,⟨x,r,rfl,hx,hr⟩=>⟨x,r++[v],rfl,hx,Tre.snoc h hr⟩
def A3z (xs:LP) (pg:PyData->PEnv->(PEnv->Prop)->Prop) (pt:PTt) (pe:PX) (e0:PEnv) (Fin:List OT->Prop):Prop :=
 ∃ Pv:Nat->PEnv->List OT->Prop,Pv 0 e0 []/\(∀ i x e ys,xs[i]?=some x->Pv i e ys->pg x e fun e2=>pt e2 fun b e3=>if b=true then pe e3 fun s e4=>s.ot fun t=>Pv (i + 1) e4 (ys++[t]) else Pv (i + 1) e3 ys)/\∀ e ys,Pv xs.length e ys->Fin ys
theorem B1a {K:Frag} {g:TG} {tt:TT} {te:TE} {pg:PyData->PEnv->(PEnv->Prop)->Prop} {pt:PTt} {pe:PX} [hg:RG K g pg] [ht:RT K tt pt] [he:RE K te pe] {c:Ct} {w:Wd} {env:PEnv} {σ:St} {J:It} {xs:LP} {cap:List (Option Nat)} {D:Addr} {Fp:List OT->Prop} {Fin:Hpp->Prop}
  (hK:c.K=K) (E:EnvOk c w env σ) (wk:Walk ⟨c.K,w,c.Z⟩ w J xs) (hn:xs.length < 1000000) (p:A3z xs pg pt pe (L7 cap env) Fp) (hD:w.H D=none) (k:∀ w' ts,Res c w env σ w' (.ref D) (.tr (.nd true D (kids ts)))->Fp ts->Fin w'.H):A1p J g tt te D Fin (capσ cap σ) w.H:=by
 subst hK;obtain ⟨Pv,p0,step,fin⟩:=p;refine ⟨fun i m σ' H' vs=>m=xs.length - i/\i<=xs.length/\∃ e w' ts,w'.H=H'/\EnvOk ⟨c.K,w,fun a=>a=D\/a ∈ (kids ts).fp⟩ w' e σ'/\w'.H D=some (.lst vs)/\vs.length<=i/\Tre c.K w' (kids ts) vs/\(∀ a ∈ (kids ts).fp,w.H a=none/\a≠D)/\(kids ts).fp.Nodup/\Pv i e ts,
  ⟨xs.length,rfl,Nat.zero_le _,L7 cap env,w.lay D (.lst []),[],rfl,?_,D5,Nat.le_refl _,rfl,(fun a z=>nomatch z),List.nodup_nil,p0⟩,?_⟩
 ·have E0:=E.cap cap hD;exact ⟨E0.wok,E0.le0,E0.len,fun i s q=>let ⟨v,h1,h2⟩:=E0.at' i s q; ⟨v,h1,h2.reZ⟩,E0.own,fun a z=>z.elim (E0.zf a) fun z=>(nomatch z),fun a j t u z=>z.elim (E0.zo a j t u) fun z=>(nomatch z)⟩
 rintro i m σ1 _ vs ⟨rfl,hle,e1,w1,ts,rfl,E1,h1,hvl,d1,fr,nd,q1⟩;refine ⟨h1,W6 (by omega),?_⟩;obtain ⟨go,stop,yld⟩:=wk w1 E1.wok E1.le0 E1.le0.f;by_cases hlt:i < xs.length
 ·refine .inr ⟨go i hlt,fun v H' y=>?_⟩;obtain ⟨w1',x,rfl,ok1',le1,hx,dx⟩:=yld i v H' y hlt;have nm1:∀ a ∈ (kids ts).fp,¬ w1.M a:=fun a ha=>(E1.zf a (.inr ha)).2.2;replace h1:=le1.h _ _ h1 (E1.zf D (.inl rfl)).2.2;replace E1:=E1.mono ok1' le1;replace d1:=d1.mono le1.toLw nm1;clear yld go stop y le1 ok1' nm1;generalize w1'=w1 at E1 h1 d1 dx;have cc:Ct:=⟨c.K,w,fun a=>a=D\/a ∈ (kids ts).fp⟩;refine hg.ok ⟨c.K,w,fun a=>a=D\/a ∈ (kids ts).fp⟩ w1 e1 σ1 v x _ _ rfl E1 dx (step i x e1 ts hx q1) fun e2 σ2 E2 q2=>?_;refine ht.ok ⟨c.K,w,fun a=>a=D\/a ∈ (kids ts).fp⟩ w1 e2 σ2 _ _ rfl E2 q2 fun b e3 w3 E3 l3 q3=>?_;have nmD:∀ a,a=D\/a ∈ (kids ts).fp->¬ w1.M a:=fun a z=>(E2.zf a z).2.2;have h3:=l3.h _ _ h1 (nmD D (.inl rfl));have d3:=d1.mono l3 fun a ha=>nmD a (.inr ha);cases b with
  | true =>
   refine he.ok ⟨c.K,w,fun a=>a=D\/a ∈ (kids ts).fp⟩ w3 e3 σ2 _ _ rfl E3 q3 fun y' s e4 w4 R q4=>?_;have nm3:∀ a,a=D\/a ∈ (kids ts).fp->¬ w3.M a:=fun a z=>(E3.zf a z).2.2;have h4:=R.lw.h _ _ h3 (nm3 D (.inl rfl));have d4:=d3.mono R.lw fun a ha=>nm3 a (.inr ha);obtain ⟨t,tt',ho,hn',q5⟩:=R.ot q4;have E4:=R.ev;have nD:D ∉ (kids ts).fp:=fun z=>(fr D z).2 rfl;have ntD:D ∉ t.fp:=fun z=>(hn' D z).2 (.inl rfl);refine ⟨vs,h4,W6 (by omega),xs.length - (i + 1),by omega,rfl,hlt,e4,⟨w4.M,upd w4.H D (.lst (vs++[y'])),w4.F⟩,ts++[t],rfl,?_,D5,by rw [List.length_append]; simp; exact hvl,?_,fun a ha=>?_,?_,q5⟩
   ·have E5:=E4.writeZ (us:=vs++[y']) (.inl rfl) hD;refine ⟨E5.wok,E5.le0,E5.len,fun i s q=>let ⟨v,h1,h2⟩:=E5.at' i s q; ⟨v,h1,h2.reZ⟩,E5.own,fun a z=>?_,fun a j s u z q q'=>?_⟩
    ·rcases z with z | z
     ·exact E5.zf a (.inl z)
     ·rw [L6,List.mem_append] at z;rcases z with z | z
      ·exact E5.zf a (.inr z)
      ·obtain ⟨o1,o2,o3,_⟩:=ho.1 a z;exact ⟨o2,fun y=>o1 (N3 y),o3⟩
    ·rcases z with z | z
     ·exact E5.zo a j s u (.inl z) q q'
     ·rw [L6,List.mem_append] at z;rcases z with z | z
      ·exact E5.zo a j s u (.inr z) q q'
      ·exact (hn' a z).1 j s u q q'
   ·exact Tre.snoc (tt'.writ ntD) (d4.writ nD)
   ·rw [L6,List.mem_append] at ha;rcases ha with z | z
    ·exact fr a z
    ·exact ⟨(ho.1 a z).2.2.2,fun y=>ntD (y ▸ z)⟩
   ·rw [L6];exact List.nodup_append.mpr ⟨nd,ho.2,fun a ha b hb e=>(hn' b hb).2 (.inr (e ▸ ha))⟩
  | false =>
   exact ⟨xs.length - (i + 1),by omega,rfl,hlt,e3,w3,ts,rfl,E3,h3,by omega,d3,fr,nd,q3⟩
 ·have e:i=xs.length:=by omega
  subst e;obtain ⟨z1,z2,z3⟩:=E1.zf D (.inl rfl);have one:∀ a,a ∈ (OT.nd true D (kids ts)).fp->(a=D\/a ∈ (kids ts).fp)/\w.H a=none:=fun a ha=>by
   rcases List.mem_cons.mp (show a ∈ D :: (kids ts).fp from ha) with rfl | z
   ·exact ⟨.inl rfl,hD⟩
   ·exact ⟨.inr z,(fr a z).1⟩
  refine .inl ⟨stop,k w1 ts ⟨E.mono E1.wok E1.le0,E1.le0.toLw,⟨⟨rfl,vs,h1,d1⟩,fun a ha=>?_,List.nodup_cons.mpr ⟨fun z=>(fr D z).2 rfl,nd⟩⟩,fun a f=>E.fresh (one a f).2,rfl⟩ (fin e1 ts q1)⟩;obtain ⟨g1,g2⟩:=one a ha;obtain ⟨y1,y2,y3⟩:=E1.zf a g1;exact ⟨y2,y1,y3,E.le0.dom a g2⟩
def tCmT (t:TE):TE:=t
def pCmT (pi:PAr) (pg:PyData->PEnv->(PEnv->Prop)->Prop) (pt:PTt) (pe:PX) (cap:List (Option Nat)) (env:PEnv) (Q:SV->PEnv->Prop):Prop:=pi env fun xs e=>xs.length < 1000000/\A3z xs pg pt pe (L7 cap e) fun ts=>∀ a,Q (.tr (.nd true a (kids ts))) e
instance re_cmT {K:Frag} {wi:TI} {g:TG} {tt:TT} {te:TE} {cap:List (Option Nat)} {pi:PAr} {pg:PyData->PEnv->(PEnv->Prop)->Prop} {pt:PTt} {pe:PX} [hi:RI K wi pi] [hg:RG K g pg] [ht:RT K tt pt] [he:RE K te pe]:RE K (tCmT (B0a wi g tt te cap)) (pCmT pi pg pt pe cap) where
 ok:=by
  rintro c w env σ Qp Q rfl E p k;refine hi.ok c w env σ _ _ rfl E p fun J xs e1 w1 E1 l1 wk ⟨hn,q⟩ D hD=>?_;exact B1a (pg:=pg) (pt:=pt) (pe:=pe) rfl E1 (wk.up E1.le0) hn q hD fun w' ts R q'=>k _ _ e1 w' (R.pre l1) (q' D)
def OT.tup (a:Addr) (k:OT):SV:=match k.lvs with
 | some xs=>.d (.tuple xs)
 | none=>.tr (.nd false a k)
end Pu
namespace L2
open PySem PySem.Spec PyProof.Rows
section
variable {X:Cx} {e:Expr}
theorem qPo {t:TE} (h:QE X e t):QE X e (Pu.tPo t):=h
theorem qUn {t:TE} (h:QE X e t):QE X e (Pu.tUn t):=h
theorem qCmT {t:TE} (h:QE X e t):QE X e (Pu.tCmT t):=h
theorem B12 {sp:Sp} {dvs:List V} {E:XK} {t:TA} (h:QE X e (Y6 sp dvs E t)):QE X e (Pu.B1s sp dvs E t):=h
end
end L2
namespace Pu
open PySem L2 My Prf
end Pu
namespace L2
open PySem PySem.Spec PyProof.Rows
section
variable {X:Cx} {e:Expr}
end
end L2
namespace L2
open PySem PySem.Spec PyProof.Rows
section
variable {X:Cx} {tg:Expr}
end
end L2
namespace Pu
open PySem L2 My Prf
def A2l (pe:PX) (pr:PAs) (env:PEnv) (Q:List SV->PEnv->Prop):Prop:=pe env fun s e1=>isSt (some (some s)) (pr e1 fun as e2=>Q (.st :: as) e2)
instance (priority:=low) ram_stE {K:Frag} {md:List Md} {te:TE} {tr:TA} {pe:PX} {pr:PAs} [he:RE K te pe] [hr:RAm K md tr pr]:RAm K (.st :: md) (L9 te tr) (A2l pe pr) where
 ok:=by
  rintro c w env σ Qp Q rfl E p k;refine he.ok c w env σ _ _ rfl E p fun v s e1 w1 R q1=>?_;unfold isSt at q1;split at q1
  ·rename_i e;cases e;refine hr.ok c w1 e1 σ _ _ rfl R.ev q1 fun vs xs e2 w2 E2 l2 v2 q2=>?_;obtain ⟨q,e',hm⟩:=R.val;exact k _ _ e2 w2 E2 (R.lw.trans l2) (.st ⟨q,e',l2.m _ hm⟩ v2) q2
  ·exact q1.elim
end Pu
namespace L2
open PySem
end L2
namespace L2
open PySem PySem.Spec PyProof.Rows
section
variable {X:Cx} {pos:Pos}
end
end L2
namespace Pu
open PySem L2 My Prf
end Pu
namespace Pu
open PySem L2 My Prf
def B4r (pe:PX) (env:PEnv) (Q:SV->PEnv->Prop):Prop:=pe env fun s e=>∃ a k,s=.tr (.nd true a k)/\((∀ p,Q (OT.tup p k) e)\/∀ p,Q (.tr (.nd false p k)) e)
instance (priority:=20000) re_tupCm2 {K:Frag} {te:TE} {pe:PX} [he:RE K (tCmT te) pe]:RE K (tCB (B1z K) (L9 (tCmT te) tNil)) (B4r pe) where
 ok:=by
  rintro c w env σ Qp Q rfl E p k;refine he.ok c w env σ _ _ rfl E p fun v s e1 w1 R q=>?_;obtain ⟨a,ks,rfl,q⟩:=q;obtain ⟨⟨ev,us,h1,h2⟩,o,d⟩:=R.val;cases ev;refine ⟨a,us,rfl,SqL.of h1,fun p hp=>?_⟩;obtain ⟨d1,d2⟩:=List.nodup_cons.mp (show (a :: ks.fp).Nodup from d);have laid:∀ q:Qp (.tr (.nd false p ks)) e1,Q (.ref p) (w1.lay p (ho false us)).H:=fun q=>k _ _ e1 _ ((Res.laid (b:=false) R.ev hp h2 ⟨fun x hx=>o x (List.mem_cons_of_mem _ hx),d2⟩ fun x hx=>R.new x (List.mem_cons_of_mem _ hx)).pre R.lw) q;rcases q with q | q
  ·have q:=q p;unfold OT.tup at q;split at q
   ·rename_i xs e;rw [M4 e] at h2;exact k _ _ e1 _ ((Res.tup R.ev hp (K8 h2)).pre R.lw) q
   ·exact laid q
  ·exact laid (q p)
def OT.atoms:OT->Bool
 | .leaf x=>match x with
  | .list _=>false
  | .tuple _=>false
  | .dict _=>false
  | _=>true
 | .nd _ _ k=>k.atoms
 | .nil=>true
 | .cons h t=>h.atoms && t.atoms
theorem Tre.atoms {K:Frag} {M:Addr->Prop} {H F F':Hpp}:∀ {t:OT} {vs:List V},t.atoms=true->Tre K ⟨M,H,F⟩ t vs->Tre K ⟨M,H,F'⟩ t vs
 | .leaf x,_,h,⟨v,q,d⟩=>⟨v,q,by
  cases d with
  | non=>exact .non
  | bl b=>exact .bl b
  | int i=>exact .int i
  | str x=>exact .str x
  | lst _ _=>cases h
  | tup _ _=>cases h
  | dct _=>cases h⟩
 | .nd _ _ k,_,h,⟨q,us,h1,d⟩=>⟨q,us,h1,Tre.atoms (t:=k) h d⟩
 | .nil,_,_,q=>q
 | .cons a b,_,h,⟨v,r,q,h1,h2⟩=>by
  have h:(a.atoms && b.atoms)=true:=h;rw [Bool.and_eq_true] at h;exact ⟨v,r,q,Tre.atoms h.1 h1,Tre.atoms h.2 h2⟩
def B1t (sp:Sp) (dvs:List V) (X:XK) (t:TA):TE:=Y6 sp dvs X t
def A7s (psp:PSp) (pa:PAr) (env:PEnv) (Q:SV->PEnv->Prop):Prop:=pa env fun xs e=>psp (xs.map .d) fun s=>∃ t,s=.tr t/\t.atoms=true/\Q (.tr t) e
instance re_callC {K:Frag} {md:List Md} {psp:PSp} {X:XK} {ta:TA} {pa:PAr} [ha:RHs K md ta pa]:RE K (B1t (spOf K md psp) [] X ta) (A7s psp pa) where
 ok:=by
  rintro c w env σ Qp Q rfl E p k;refine ha.ok c w env σ _ _ rfl E p fun vs xs e2 w2 E2 l2 d2 a2 q2=>?_;rw [List.append_nil];refine ⟨⟨w2.M,w2.H,hm w2⟩,xs.map .d,_,rfl,⟨fun a o h=>(A4e h).1,E2.wok.st,fun a ha=>?_⟩,a2 _ rfl,q2,fun v s w' ok l h r q=>?_⟩
  ·show hm w2 a=none;unfold hm; rw [if_pos ha]
  ·obtain ⟨t,rfl,at',q⟩:=q;have fl:∀ a o,w2.F a=some o->w2.H a=some o/\¬ w2.M a:=fun a o e=>⟨E2.wok.sub a o e,fun z=>by rw [E2.wok.nf a z] at e; cases e⟩;have le:Le w2 ⟨w'.M,w'.H,w2.F⟩:=⟨⟨Same.refl _,l.h,l.m,l.mn,l.dom⟩,fun a o e=>.inl e⟩;have ok':Wd.Ok ⟨w'.M,w'.H,w2.F⟩:=⟨fun a o e=>l.h a o (fl a o e).1 (fl a o e).2,ok.st,fun a ha=>by
    cases e:w2.F a with
    | none=>rfl
    | some o =>
     obtain ⟨f1,f2⟩:=fl a o e;rcases l.mn a ha with z | z
     ·exact absurd z f2
     ·have z':w2.H a=none:=z;rw [f1] at z'; cases z'⟩
   obtain ⟨t1,t2,t3⟩:=h;have no:∀ a ∈ t.fp,w2.H a=none:=fun a ha=>(t2 a ha).2.2.2;exact k v (.tr t) e2 ⟨w'.M,w'.H,w2.F⟩ ⟨E2.mono ok' le,l2.trans le.toLw,⟨Tre.atoms at' t1,fun a ha=>⟨(t2 a ha).1,E2.wok.fnone (no a ha),(t2 a ha).2.2.1,E2.le0.dom a (no a ha)⟩,t3⟩,fun a f=>E2.fresh (no a f),rfl⟩ q
end Pu
namespace L2
open PySem PySem.Spec PyProof.Rows
section
variable {X:Cx} {e:Expr}
theorem B64 {sp:Sp} {dvs:List V} {E:XK} {t:TA} (h:QE X e (Y6 sp dvs E t)):QE X e (Pu.B1t sp dvs E t):=h
end
end L2
set_option synthInstance.maxHeartbeats 0
set_option synthInstance.maxSize 100000
set_option maxHeartbeats 4000000
namespace Prf
open PySem L2 My Pu
local macro_rules | `(tactic| trivial) => `(tactic| try simp only [pSeq, B40, B46, pRet, A69, A8d, A8c, pIf, pAsg, B47, B18, B2t, pApp, A96, B0q, B9o, pYes, pNot, pAnd, pOr, B4w, B48, pOrV, pOp, pI_i, B7l, pEqD, pNeD, pIsN, B4x, A1i, A1j, B2c, B2b, pU_i, pUn, pNil, J3, pTup, pLst, pCB, B2l, B2a, B19, B2h, A3u, B2g, B2u, A5t, A3c, A5s, A3a, A3b, A5r, B16, B2p, B2o, A64, A75, A74, A76, pC, pdat, B9n, B9m, A7q, B4z, A7n, A7l, A3x, B9i, B23, B36, B11, A6j, A3n, A3o, A63, B43, A3w, A33, A32, A34, A4p, Y4, A13, A68, A8b, A67, A8a, pFor, A7p, X3, L7, SV.lent, A2j, B4v, B9j, pSlL, B2i, B2k, B2j, List.map_cons, List.map_nil, List.replicate_succ, List.replicate_zero, List.cons_append, List.nil_append, List.getElem?_cons_zero, List.getElem?_cons_succ, List.set_cons_zero, List.set_cons_succ, List.length_cons, List.length_nil, B45, B7o, B7n, B7m, Option.bind_some, Option.bind_none, Option.map_some, Option.join_some, A7g, A7f, A8u, A9i, A9g, B2v, B3g, V5, B3a, A82, B1r, decide_eq_true_eq, Bool.not_eq_true', decide_eq_false_iff_not, ite_not, true_and, and_true, reduceIte, Nat.zero_le, Nat.reduceAdd, Nat.reduceLeDiff, Nat.reduceSub, Int.zero_add, A3v, List.length_map, A5m, B2w, B22, B21, B20, B2z, B2x, B2y, Bool.true_eq_false, Bool.false_eq_true, reduceCtorEq, Bool.not_true, Bool.not_false, decide_true, decide_false, A7k, A8i, pLsN, pLsC, A7b, A8g, eq_self, A9d, B4t, A7m, B4y, ot_d, ot_o, A65, A79, A78, A77, B3n, B4o, B9l, B9k, B17, B2r, B2q, B2s, A7o, A4d, A3y, A8f, A8e, pIn, A8y, A8z, A8x, A7i, A7h, B2e, B2f, B2d, A2k, A7d, A7e, B4s, A7a, pSlT, B0r, A8h, pPth, pBr, pMuV, B78, A66, pA2, B8t, pC2, pMu, B2m, A7t, B1v, Q6, B0s, B5k, mIx, pUnT, B6f, A0s, A6b, A7r, pCmT, B4r, A7s, A2l])
local macro_rules | `(tactic| nofun) => `(tactic| try simp -implicitDefEqProofs only [pSeq, B40, B46, pRet, A69, A8d, A8c, pIf, pAsg, B47, B18, B2t, pApp, A96, B0q, B9o, pYes, pNot, pAnd, pOr, B4w, B48, pOrV, pOp, pI_i, B7l, pEqD, pNeD, pIsN, B4x, A1i, A1j, B2c, B2b, pU_i, pUn, pNil, J3, pTup, pLst, pCB, B2l, B2a, B19, B2h, A3u, B2g, B2u, A5t, A3c, A5s, A3a, A3b, A5r, B16, B2p, B2o, A64, A75, A74, A76, pC, pdat, B9n, B9m, A7q, B4z, A7n, A7l, A3x, B9i, B23, B36, B11, A6j, A3n, A3o, A63, B43, A3w, A33, A32, A34, A4p, Y4, A13, A68, A8b, A67, A8a, pFor, A7p, X3, L7, SV.lent, A2j, B4v, B9j, pSlL, B2i, B2k, B2j, List.map_cons, List.map_nil, List.replicate_succ, List.replicate_zero, List.cons_append, List.nil_append, List.getElem?_cons_zero, List.getElem?_cons_succ, List.set_cons_zero, List.set_cons_succ, List.length_cons, List.length_nil, B45, B7o, B7n, B7m, Option.bind_some, Option.bind_none, Option.map_some, Option.join_some, A7g, A7f, A8u, A9i, A9g, B2v, B3g, V5, B3a, A82, B1r, decide_eq_true_eq, Bool.not_eq_true', decide_eq_false_iff_not, ite_not, true_and, and_true, reduceIte, Nat.zero_le, Nat.reduceAdd, Nat.reduceLeDiff, Nat.reduceSub, Int.zero_add, A3v, List.length_map, A5m, B2w, B22, B21, B20, B2z, B2x, B2y, Bool.true_eq_false, Bool.false_eq_true, reduceCtorEq, Bool.not_true, Bool.not_false, decide_true, decide_false, A7k, A8i, pLsN, pLsC, A7b, A8g, eq_self, A9d, B4t, A7m, B4y, ot_d, ot_o, A65, A79, A78, A77, B3n, B4o, B9l, B9k, B17, B2r, B2q, B2s, A7o, A4d, A3y, A8f, A8e, pIn, A8y, A8z, A8x, A7i, A7h, B2e, B2f, B2d, A2k, A7d, A7e, B4s, A7a, pSlT, B0r, A8h, pPth, pBr, pMuV, B78, A66, pA2, B8t, pC2, pMu, B2m, A7t, B1v, Q6, B0s, B5k, mIx, pUnT, B6f, A0s, A6b, A7r, pCmT, B4r, A7s, A2l])
set_option genInjectivity false
set_option genSizeOfSpec false
structure Adr where
 a_a1:Addr
 d_a1:FuncData
 a_c3:Addr
 d_c3:FuncData
 a_c1:Addr
 d_c1:FuncData
 a_bb:Addr
 d_bb:FuncData
 a_ad:Addr
 d_ad:FuncData
 a_bd:Addr
 d_bd:FuncData
 a_ae:Addr
 d_ae:FuncData
 a_a5:Addr
 d_a5:FuncData
 a_a9:Addr
 d_a9:FuncData
 a_a8:Addr
 d_a8:FuncData
 a_bc:Addr
 d_bc:FuncData
 a_af:Addr
 d_af:FuncData
 a_c0:Addr
 d_c0:FuncData
 a_c2:Addr
 d_c2:FuncData
 a_bf:Addr
 d_bf:FuncData
 a_b3:Addr
 d_b3:FuncData
 a_b8:Addr
 d_b8:FuncData
 a_b9:Addr
 d_b9:FuncData
 a_aa:Addr
 d_aa:FuncData
 a_b4:Addr
 d_b4:FuncData
 a_b7:Addr
 d_b7:FuncData
 a_b0:Addr
 d_b0:FuncData
 a_b2:Addr
 d_b2:FuncData
 a_a0:Addr
 d_a0:FuncData
 a_b1:Addr
 d_b1:FuncData
 a_a3:Addr
 d_a3:FuncData
 a_be:Addr
 d_be:FuncData
 a_ac:Addr
 d_ac:FuncData
 a_a2:Addr
 d_a2:FuncData
 a_ab:Addr
 d_ab:FuncData
 a_a6:Addr
 d_a6:FuncData
 a_b5:Addr
 d_b5:FuncData
 a_ba:Addr
 d_ba:FuncData
 a_a7:Addr
 d_a7:FuncData
 a_b6:Addr
 d_b6:FuncData
 a_a4:Addr
 d_a4:FuncData
 a_c4:Addr
 d_c4:FuncData
 k_NOUGHT:Addr
 k_ONE:Addr
structure Txt (K:PySem.W.Frag) (mg:Str->Option Value) (D:Adr):Prop where
 F_a1:Fun K "common_part" "common_part" s_a1 D.a_a1 D.d_a1
 m_a1:mg "common_part"=some (.ref D.a_a1)
 F_c3:Fun K "plus" "plus" s_c3 D.a_c3 D.d_c3
 m_c3:mg "plus"=some (.ref D.a_c3)
 F_c1:Fun K "minus" "minus" s_c1 D.a_c1 D.d_c1
 m_c1:mg "minus"=some (.ref D.a_c1)
 F_bb:Fun K "is_less" "is_less" s_bb D.a_bb D.d_bb
 m_bb:mg "is_less"=some (.ref D.a_bb)
 F_ad:Fun K "hold_way" "hold_way" s_ad D.a_ad D.d_ad
 m_ad:mg "hold_way"=some (.ref D.a_ad)
 F_bd:Fun K "ways_of" "ways_of" s_bd D.a_bd D.d_bd
 m_bd:mg "ways_of"=some (.ref D.a_bd)
 F_ae:Fun K "stretch" "stretch" s_ae D.a_ae D.d_ae
 m_ae:mg "stretch"=some (.ref D.a_ae)
 F_a5:Fun K "ring_paper" "ring_paper" s_a5 D.a_a5 D.d_a5
 m_a5:mg "ring_paper"=some (.ref D.a_a5)
 F_a9:Fun K "farthest" "farthest" s_a9 D.a_a9 D.d_a9
 m_a9:mg "farthest"=some (.ref D.a_a9)
 F_a8:Fun K "earliest" "earliest" s_a8 D.a_a8 D.d_a8
 m_a8:mg "earliest"=some (.ref D.a_a8)
 F_bc:Fun K "latest" "latest" s_bc D.a_bc D.d_bc
 m_bc:mg "latest"=some (.ref D.a_bc)
 F_af:Fun K "_law_begun" "_law_begun" s_af D.a_af D.d_af
 m_af:mg "_law_begun"=some (.ref D.a_af)
 F_c0:Fun K "_law_take" "_law_take" s_c0 D.a_c0 D.d_c0
 m_c0:mg "_law_take"=some (.ref D.a_c0)
 F_c2:Fun K "_law_low" "_law_low" s_c2 D.a_c2 D.d_c2
 m_c2:mg "_law_low"=some (.ref D.a_c2)
 F_bf:Fun K "_law_plus" "_law_plus" s_bf D.a_bf D.d_bf
 m_bf:mg "_law_plus"=some (.ref D.a_bf)
 F_b3:Fun K "_law_minus" "_law_minus" s_b3 D.a_b3 D.d_b3
 m_b3:mg "_law_minus"=some (.ref D.a_b3)
 F_b8:Fun K "_law_times" "_law_times" s_b8 D.a_b8 D.d_b8
 m_b8:mg "_law_times"=some (.ref D.a_b8)
 F_b9:Fun K "_law_under" "_law_under" s_b9 D.a_b9 D.d_b9
 m_b9:mg "_law_under"=some (.ref D.a_b9)
 F_aa:Fun K "_law_amount" "_law_amount" s_aa D.a_aa D.d_aa
 m_aa:mg "_law_amount"=some (.ref D.a_aa)
 F_b4:Fun K "_law_offer" "_law_offer" s_b4 D.a_b4 D.d_b4
 m_b4:mg "_law_offer"=some (.ref D.a_b4)
 F_b7:Fun K "_law_shape" "_law_shape" s_b7 D.a_b7 D.d_b7
 m_b7:mg "_law_shape"=some (.ref D.a_b7)
 F_b0:Fun K "_law_flows" "_law_flows" s_b0 D.a_b0 D.d_b0
 m_b0:mg "_law_flows"=some (.ref D.a_b0)
 F_b2:Fun K "_law_loose" "_law_loose" s_b2 D.a_b2 D.d_b2
 m_b2:mg "_law_loose"=some (.ref D.a_b2)
 F_a0:Fun K "_law_times_drawn" "_law_times_drawn" s_a0 D.a_a0 D.d_a0
 m_a0:mg "_law_times_drawn"=some (.ref D.a_a0)
 F_b1:Fun K "_law_keeps" "_law_keeps" s_b1 D.a_b1 D.d_b1
 m_b1:mg "_law_keeps"=some (.ref D.a_b1)
 F_a3:Fun K "_law_fraction" "_law_fraction" s_a3 D.a_a3 D.d_a3
 m_a3:mg "_law_fraction"=some (.ref D.a_a3)
 F_be:Fun K "_law_copy" "_law_copy" s_be D.a_be D.d_be
 m_be:mg "_law_copy"=some (.ref D.a_be)
 F_ac:Fun K "_law_starts" "_law_starts" s_ac D.a_ac D.d_ac
 m_ac:mg "_law_starts"=some (.ref D.a_ac)
 F_a2:Fun K "_law_balanced" "_law_balanced" s_a2 D.a_a2 D.d_a2
 m_a2:mg "_law_balanced"=some (.ref D.a_a2)
 F_ab:Fun K "_law_length" "_law_length" s_ab D.a_ab D.d_ab
 m_ab:mg "_law_length"=some (.ref D.a_ab)
 F_a6:Fun K "_law_chained" "_law_chained" s_a6 D.a_a6 D.d_a6
 m_a6:mg "_law_chained"=some (.ref D.a_a6)
 F_b5:Fun K "_law_right" "_law_right" s_b5 D.a_b5 D.d_b5
 m_b5:mg "_law_right"=some (.ref D.a_b5)
 F_ba:Fun K "_law_whole" "_law_whole" s_ba D.a_ba D.d_ba
 m_ba:mg "_law_whole"=some (.ref D.a_ba)
 F_a7:Fun K "_law_grouped" "_law_grouped" s_a7 D.a_a7 D.d_a7
 m_a7:mg "_law_grouped"=some (.ref D.a_a7)
 F_b6:Fun K "_law_round" "_law_round" s_b6 D.a_b6 D.d_b6
 m_b6:mg "_law_round"=some (.ref D.a_b6)
 F_a4:Fun K "_law_lag_drawn" "_law_lag_drawn" s_a4 D.a_a4 D.d_a4
 m_a4:mg "_law_lag_drawn"=some (.ref D.a_a4)
 F_c4:Fun K "law" "law" s_c4 D.a_c4 D.d_c4
 m_c4:mg "law"=some (.ref D.a_c4)
 c_NOUGHT:mg "NOUGHT"=some (.ref D.k_NOUGHT)
 c_ONE:mg "ONE"=some (.ref D.k_ONE)
 z_abs:mg "abs"=none
 z_all:mg "all"=none
 z_any:mg "any"=none
 z_bool:mg "bool"=none
 z_enumerate:mg "enumerate"=none
 z_int:mg "int"=none
 z_isinstance:mg "isinstance"=none
 z_len:mg "len"=none
 z_list:mg "list"=none
 z_max:mg "max"=none
 z_min:mg "min"=none
 z_range:mg "range"=none
 z_tuple:mg "tuple"=none
 c2_NOUGHT:Pu.GD K D.k_NOUGHT (dq 0)
 c2_ONE:Pu.GD K D.k_ONE (dq 1)
abbrev sp_law:=B3x
section
variable {K:PySem.W.Frag} {mg:Str->Option Value} {D:Adr}
theorem sc_a1:FnScope ["one","other"] ["one","other"] (A5 s_a1):=⟨rfl,rfl,rfl,by decide +kernel,rfl,by decide +kernel,by decide +kernel⟩
theorem S5 (T:Txt K mg D):Binds K D.d_a1 ["one","other"] []:=T.F_a1.binds (ps:=["one","other"]) fun _ _ _ _ _ _ us hl=>by obtain ⟨_,_,rfl⟩:=us2 hl; rfl
theorem sc_c3:FnScope ["one","other","shared","mine","theirs","top","rest"] ["one","other"] (A5 s_c3):=⟨rfl,rfl,rfl,by decide +kernel,rfl,by decide +kernel,by decide +kernel⟩
theorem A92 (T:Txt K mg D):Binds K D.d_c3 ["one","other"] []:=T.F_c3.binds (ps:=["one","other"]) fun _ _ _ _ _ _ us hl=>by obtain ⟨_,_,rfl⟩:=us2 hl; rfl
theorem sc_c1:FnScope ["one","other"] ["one","other"] (A5 s_c1):=⟨rfl,rfl,rfl,by decide +kernel,rfl,by decide +kernel,by decide +kernel⟩
theorem A0j (T:Txt K mg D):Binds K D.d_c1 ["one","other"] []:=T.F_c1.binds (ps:=["one","other"]) fun _ _ _ _ _ _ us hl=>by obtain ⟨_,_,rfl⟩:=us2 hl; rfl
theorem sc_bb:FnScope ["one","other"] ["one","other"] (A5 s_bb):=⟨rfl,rfl,rfl,by decide +kernel,rfl,by decide +kernel,by decide +kernel⟩
theorem B1j (T:Txt K mg D):Binds K D.d_bb ["one","other"] []:=T.F_bb.binds (ps:=["one","other"]) fun _ _ _ _ _ _ us hl=>by obtain ⟨_,_,rfl⟩:=us2 hl; rfl
theorem sc_ad:FnScope ["hold","times","arc","kind","work","moment","root"] ["hold","times","arc"] (A5 s_ad):=⟨rfl,rfl,rfl,by decide +kernel,rfl,by decide +kernel,by decide +kernel⟩
theorem A93 (T:Txt K mg D):Binds K D.d_ad ["hold","times","arc"] []:=T.F_ad.binds (ps:=["hold","times","arc"]) fun _ _ _ _ _ _ us hl=>by obtain ⟨_,_,_,rfl⟩:=us3 hl; rfl
theorem sc_bd:FnScope ["net","times","whole","root","ways","work","time","at","one","other","lag","hold"] ["net","times","whole"] (A5 s_bd):=⟨rfl,rfl,rfl,by decide +kernel,rfl,by decide +kernel,by decide +kernel⟩
theorem A4m (T:Txt K mg D):Binds K D.d_bd ["net","times","whole"] []:=T.F_bd.binds (ps:=["net","times","whole"]) fun _ _ _ _ _ _ us hl=>by obtain ⟨_,_,_,rfl⟩:=us3 hl; rfl
theorem sc_ae:FnScope ["ways","far","came","moved","way","tail","head","length","arc","reached"] ["ways","far","came"] (A5 s_ae):=⟨rfl,rfl,rfl,by decide +kernel,rfl,by decide +kernel,by decide +kernel⟩
theorem A91 (T:Txt K mg D):Binds K D.d_ae ["ways","far","came"] []:=T.F_ae.binds (ps:=["ways","far","came"]) fun _ _ _ _ _ _ us hl=>by obtain ⟨_,_,_,rfl⟩:=us3 hl; rfl
theorem sc_a5:FnScope ["came","moved","place","step","paper","at","tail","head","length","arc"] ["came","moved"] (A5 s_a5):=⟨rfl,rfl,rfl,by decide +kernel,rfl,by decide +kernel,by decide +kernel⟩
theorem A22 (T:Txt K mg D):Binds K D.d_a5 ["came","moved"] []:=T.F_a5.binds (ps:=["came","moved"]) fun _ _ _ _ _ _ us hl=>by obtain ⟨_,_,rfl⟩:=us2 hl; rfl
theorem sc_a9:FnScope ["ways","many","far","came","moved","turn"] ["ways","many"] (A5 s_a9):=⟨rfl,rfl,rfl,by decide +kernel,rfl,by decide +kernel,by decide +kernel⟩
theorem Y2 (T:Txt K mg D):Binds K D.d_a9 ["ways","many"] []:=T.F_a9.binds (ps:=["ways","many"]) fun _ _ _ _ _ _ us hl=>by obtain ⟨_,_,rfl⟩:=us2 hl; rfl
theorem sc_a8:FnScope ["net","times","starts","ring"] ["net","times"] (A5 s_a8):=⟨rfl,rfl,rfl,by decide +kernel,rfl,by decide +kernel,by decide +kernel⟩
theorem A5h (T:Txt K mg D):Binds K D.d_a8 ["net","times"] []:=T.F_a8.binds (ps:=["net","times"]) fun _ _ _ _ _ _ us hl=>by obtain ⟨_,_,rfl⟩:=us2 hl; rfl
theorem sc_bc:FnScope ["net","times","whole","word","told","back","leads","bar"] ["net","times","whole"] (A5 s_bc):=⟨rfl,rfl,rfl,by decide +kernel,rfl,by decide +kernel,by decide +kernel⟩
theorem A0k (T:Txt K mg D):Binds K D.d_bc ["net","times","whole"] []:=T.F_bc.binds (ps:=["net","times","whole"]) fun _ _ _ _ _ _ us hl=>by obtain ⟨_,_,_,rfl⟩:=us3 hl; rfl
theorem sc_af:FnScope ["_law_script","_law_k","_law_cell"] ["_law_script","_law_k"] (A5 s_af):=⟨rfl,rfl,rfl,by decide +kernel,rfl,by decide +kernel,by decide +kernel⟩
theorem M3 (T:Txt K mg D):Binds K D.d_af ["_law_script","_law_k"] []:=T.F_af.binds (ps:=["_law_script","_law_k"]) fun _ _ _ _ _ _ us hl=>by obtain ⟨_,_,rfl⟩:=us2 hl; rfl
theorem sc_c0:FnScope ["_law_state","_law_many","_law_digit","_law_made","_law_turn"] ["_law_state","_law_many"] (A5 s_c0):=⟨rfl,rfl,rfl,by decide +kernel,rfl,by decide +kernel,by decide +kernel⟩
theorem D7 (T:Txt K mg D):Binds K D.d_c0 ["_law_state","_law_many"] []:=T.F_c0.binds (ps:=["_law_state","_law_many"]) fun _ _ _ _ _ _ us hl=>by obtain ⟨_,_,rfl⟩:=us2 hl; rfl
theorem sc_c2:FnScope ["_law_top","_law_bottom","_law_one","_law_other"] ["_law_top","_law_bottom"] (A5 s_c2):=⟨rfl,rfl,rfl,by decide +kernel,rfl,by decide +kernel,by decide +kernel⟩
theorem Y3 (T:Txt K mg D):Binds K D.d_c2 ["_law_top","_law_bottom"] []:=T.F_c2.binds (ps:=["_law_top","_law_bottom"]) fun _ _ _ _ _ _ us hl=>by obtain ⟨_,_,rfl⟩:=us2 hl; rfl
theorem sc_bf:FnScope ["_law_one","_law_other"] ["_law_one","_law_other"] (A5 s_bf):=⟨rfl,rfl,rfl,by decide +kernel,rfl,by decide +kernel,by decide +kernel⟩
theorem F4 (T:Txt K mg D):Binds K D.d_bf ["_law_one","_law_other"] []:=T.F_bf.binds (ps:=["_law_one","_law_other"]) fun _ _ _ _ _ _ us hl=>by obtain ⟨_,_,rfl⟩:=us2 hl; rfl
theorem sc_b3:FnScope ["_law_one","_law_other"] ["_law_one","_law_other"] (A5 s_b3):=⟨rfl,rfl,rfl,by decide +kernel,rfl,by decide +kernel,by decide +kernel⟩
theorem M2 (T:Txt K mg D):Binds K D.d_b3 ["_law_one","_law_other"] []:=T.F_b3.binds (ps:=["_law_one","_law_other"]) fun _ _ _ _ _ _ us hl=>by obtain ⟨_,_,rfl⟩:=us2 hl; rfl
theorem sc_b8:FnScope ["_law_one","_law_other"] ["_law_one","_law_other"] (A5 s_b8):=⟨rfl,rfl,rfl,by decide +kernel,rfl,by decide +kernel,by decide +kernel⟩
theorem O6 (T:Txt K mg D):Binds K D.d_b8 ["_law_one","_law_other"] []:=T.F_b8.binds (ps:=["_law_one","_law_other"]) fun _ _ _ _ _ _ us hl=>by obtain ⟨_,_,rfl⟩:=us2 hl; rfl
theorem sc_b9:FnScope ["_law_one","_law_other"] ["_law_one","_law_other"] (A5 s_b9):=⟨rfl,rfl,rfl,by decide +kernel,rfl,by decide +kernel,by decide +kernel⟩
theorem P8 (T:Txt K mg D):Binds K D.d_b9 ["_law_one","_law_other"] []:=T.F_b9.binds (ps:=["_law_one","_law_other"]) fun _ _ _ _ _ _ us hl=>by obtain ⟨_,_,rfl⟩:=us2 hl; rfl
theorem sc_aa:FnScope ["_law_state","_law_plain","_law_least","_law_way","_law_bottom"] ["_law_state","_law_plain","_law_least"] (A5 s_aa):=⟨rfl,rfl,rfl,by decide +kernel,rfl,by decide +kernel,by decide +kernel⟩
theorem L8 (T:Txt K mg D):Binds K D.d_aa ["_law_state","_law_plain","_law_least"] []:=T.F_aa.binds (ps:=["_law_state","_law_plain","_law_least"]) fun _ _ _ _ _ _ us hl=>by obtain ⟨_,_,_,rfl⟩:=us3 hl; rfl
theorem sc_b4:FnScope ["_law_state","_law_kind","_law_most","_law_plain","_law_many","_law_time","_law_price","_law_gaps","_law_gap","_law_corners","_law_rate","_law_step"] ["_law_state","_law_kind","_law_most","_law_plain"] (A5 s_b4):=⟨rfl,rfl,rfl,by decide +kernel,rfl,by decide +kernel,by decide +kernel⟩
theorem B1n (T:Txt K mg D):Binds K D.d_b4 ["_law_state","_law_kind","_law_most","_law_plain"] []:=T.F_b4.binds (ps:=["_law_state","_law_kind","_law_most","_law_plain"]) fun _ _ _ _ _ _ us hl=>by obtain ⟨_,_,_,_,rfl⟩:=us4 hl; rfl
theorem sc_b7:FnScope ["_law_script","_law_kinds","_law_state","_law_many","_law_size","_law_least","_law_full","_law_works","_law_k","_law_own","_law_kind","_law_waits","_law_holds","_law_one"] ["_law_script","_law_kinds"] (A5 s_b7):=⟨rfl,rfl,rfl,by decide +kernel,rfl,by decide +kernel,by decide +kernel⟩
theorem B1l (T:Txt K mg D):Binds K D.d_b7 ["_law_script","_law_kinds"] []:=T.F_b7.binds (ps:=["_law_script","_law_kinds"]) fun _ _ _ _ _ _ us hl=>by obtain ⟨_,_,rfl⟩:=us2 hl; rfl
theorem sc_b0:FnScope ["_law_net","_law_paper","_law_works","_law_waits","_law_holds","_law_inward","_law_off","_law_word","_law_k","_law_amount_here"] ["_law_net","_law_paper"] (A5 s_b0):=⟨rfl,rfl,rfl,by decide +kernel,rfl,by decide +kernel,by decide +kernel⟩
theorem A4o (T:Txt K mg D):Binds K D.d_b0 ["_law_net","_law_paper"] []:=T.F_b0.binds (ps:=["_law_net","_law_paper"]) fun _ _ _ _ _ _ us hl=>by obtain ⟨_,_,rfl⟩:=us2 hl; rfl
theorem sc_b2:FnScope ["_law_shape_here","_law_script","_law_works","_law_waits","_law_holds","_law_lags","_law_k","_law_own","_law_lag","_law_moments","_law_moment","_law_way"] ["_law_shape_here","_law_script"] (A5 s_b2):=⟨rfl,rfl,rfl,by decide +kernel,rfl,by decide +kernel,by decide +kernel⟩
theorem B1o (T:Txt K mg D):Binds K D.d_b2 ["_law_shape_here","_law_script"] []:=T.F_b2.binds (ps:=["_law_shape_here","_law_script"]) fun _ _ _ _ _ _ us hl=>by obtain ⟨_,_,rfl⟩:=us2 hl; rfl
theorem sc_a0:FnScope ["_law_net","_law_script","_law_at","_law_times_here","_law_i","_law_own","_law_kind","_law_corners","_law_k","_law_time","_law_gap"] ["_law_net","_law_script","_law_at"] (A5 s_a0):=⟨rfl,rfl,rfl,by decide +kernel,rfl,by decide +kernel,by decide +kernel⟩
theorem A0l (T:Txt K mg D):Binds K D.d_a0 ["_law_net","_law_script","_law_at"] []:=T.F_a0.binds (ps:=["_law_net","_law_script","_law_at"]) fun _ _ _ _ _ _ us hl=>by obtain ⟨_,_,_,rfl⟩:=us3 hl; rfl
theorem sc_b1:FnScope ["_law_net","_law_plan","_law_whole_here","_law_ends","_law_start","_law_time","_law_one","_law_other","_law_lag","_law_kind","_law_i","_law_moment"] ["_law_net","_law_plan","_law_whole_here"] (A5 s_b1):=⟨rfl,rfl,rfl,by decide +kernel,rfl,by decide +kernel,by decide +kernel⟩
theorem B1p (T:Txt K mg D):Binds K D.d_b1 ["_law_net","_law_plan","_law_whole_here"] []:=T.F_b1.binds (ps:=["_law_net","_law_plan","_law_whole_here"]) fun _ _ _ _ _ _ us hl=>by obtain ⟨_,_,_,rfl⟩:=us3 hl; rfl
theorem sc_a3:FnScope ["_law_found","_law_part"] ["_law_found"] (A5 s_a3):=⟨rfl,rfl,rfl,by decide +kernel,rfl,by decide +kernel,by decide +kernel⟩
theorem W0 (T:Txt K mg D):Binds K D.d_a3 ["_law_found"] []:=T.F_a3.binds (ps:=["_law_found"]) fun _ _ _ _ _ _ us hl=>by obtain ⟨_,rfl⟩:=us1 hl; rfl
theorem sc_be:FnScope ["_law_thing"] ["_law_thing"] (A5 s_be):=⟨rfl,rfl,rfl,by decide +kernel,rfl,by decide +kernel,by decide +kernel⟩
theorem A0m (T:Txt K mg D):Binds K D.d_be ["_law_thing"] []:=T.F_be.binds (ps:=["_law_thing"]) fun _ _ _ _ _ _ us hl=>by obtain ⟨_,rfl⟩:=us1 hl; rfl
theorem sc_ac:FnScope ["_law_found","_law_word","_law_many"] ["_law_found","_law_word","_law_many"] (A5 s_ac):=⟨rfl,rfl,rfl,by decide +kernel,rfl,by decide +kernel,by decide +kernel⟩
theorem A94 (T:Txt K mg D):Binds K D.d_ac ["_law_found","_law_word","_law_many"] []:=T.F_ac.binds (ps:=["_law_found","_law_word","_law_many"]) fun _ _ _ _ _ _ us hl=>by obtain ⟨_,_,_,rfl⟩:=us3 hl; rfl
theorem sc_a2:FnScope ["_law_net","_law_paper","_law_arcs","_law_share","_law_word","_law_k","_law_inward","_law_off"] ["_law_net","_law_paper"] (A5 s_a2):=⟨rfl,rfl,rfl,by decide +kernel,rfl,by decide +kernel,by decide +kernel⟩
theorem A24 (T:Txt K mg D):Binds K D.d_a2 ["_law_net","_law_paper"] []:=T.F_a2.binds (ps:=["_law_net","_law_paper"]) fun _ _ _ _ _ _ us hl=>by obtain ⟨_,_,rfl⟩:=us2 hl; rfl
theorem sc_ab:FnScope ["_law_net","_law_times_here","_law_paper","_law_rate","_law_length_here","_law_word","_law_k","_law_amount_here","_law_amounts","_law_i"] ["_law_net","_law_times_here","_law_paper"] (A5 s_ab):=⟨rfl,rfl,rfl,by decide +kernel,rfl,by decide +kernel,by decide +kernel⟩
theorem A95 (T:Txt K mg D):Binds K D.d_ab ["_law_net","_law_times_here","_law_paper"] []:=T.F_ab.binds (ps:=["_law_net","_law_times_here","_law_paper"]) fun _ _ _ _ _ _ us hl=>by obtain ⟨_,_,_,rfl⟩:=us3 hl; rfl
theorem sc_a6:FnScope ["_law_net","_law_plan","_law_whole_here","_law_ends","_law_held","_law_kind","_law_i","_law_moment","_law_turn","_law_one","_law_other","_law_lag"] ["_law_net","_law_plan","_law_whole_here"] (A5 s_a6):=⟨rfl,rfl,rfl,by decide +kernel,rfl,by decide +kernel,by decide +kernel⟩
theorem A5j (T:Txt K mg D):Binds K D.d_a6 ["_law_net","_law_plan","_law_whole_here"] []:=T.F_a6.binds (ps:=["_law_net","_law_plan","_law_whole_here"]) fun _ _ _ _ _ _ us hl=>by obtain ⟨_,_,_,rfl⟩:=us3 hl; rfl
theorem sc_b5:FnScope ["_law_net","_law_times_here","_law_whole_here","_law_found","_law_rate","_law_length_here","_law_plan"] ["_law_net","_law_times_here","_law_whole_here","_law_found"] (A5 s_b5):=⟨rfl,rfl,rfl,by decide +kernel,rfl,by decide +kernel,by decide +kernel⟩
theorem A4n (T:Txt K mg D):Binds K D.d_b5 ["_law_net","_law_times_here","_law_whole_here","_law_found"] []:=T.F_b5.binds (ps:=["_law_net","_law_times_here","_law_whole_here","_law_found"]) fun _ _ _ _ _ _ us hl=>by obtain ⟨_,_,_,_,rfl⟩:=us4 hl; rfl
theorem sc_ba:FnScope ["_law_net","_law_times_here","_law_state","_law_whole_here","_law_way","_law_time","_law_one","_law_other","_law_lag"] ["_law_net","_law_times_here","_law_state"] (A5 s_ba):=⟨rfl,rfl,rfl,by decide +kernel,rfl,by decide +kernel,by decide +kernel⟩
theorem B1k (T:Txt K mg D):Binds K D.d_ba ["_law_net","_law_times_here","_law_state"] []:=T.F_ba.binds (ps:=["_law_net","_law_times_here","_law_state"]) fun _ _ _ _ _ _ us hl=>by obtain ⟨_,_,_,rfl⟩:=us3 hl; rfl
theorem sc_a7:FnScope ["_law_net","_law_state","_law_works"] ["_law_net","_law_state"] (A5 s_a7):=⟨rfl,rfl,rfl,by decide +kernel,rfl,by decide +kernel,by decide +kernel⟩
theorem A5i (T:Txt K mg D):Binds K D.d_a7 ["_law_net","_law_state"] []:=T.F_a7.binds (ps:=["_law_net","_law_state"]) fun _ _ _ _ _ _ us hl=>by obtain ⟨_,_,rfl⟩:=us2 hl; rfl
theorem sc_b6:FnScope ["_law_net","_law_times_here","_law_state","_law_one","_law_other","_law_lag","_law_back"] ["_law_net","_law_times_here","_law_state"] (A5 s_b6):=⟨rfl,rfl,rfl,by decide +kernel,rfl,by decide +kernel,by decide +kernel⟩
theorem B1m (T:Txt K mg D):Binds K D.d_b6 ["_law_net","_law_times_here","_law_state"] []:=T.F_b6.binds (ps:=["_law_net","_law_times_here","_law_state"]) fun _ _ _ _ _ _ us hl=>by obtain ⟨_,_,_,rfl⟩:=us3 hl; rfl
theorem sc_a4:FnScope ["_law_state","_law_lag"] ["_law_state"] (A5 s_a4):=⟨rfl,rfl,rfl,by decide +kernel,rfl,by decide +kernel,by decide +kernel⟩
theorem A23 (T:Txt K mg D):Binds K D.d_a4 ["_law_state"] []:=T.F_a4.binds (ps:=["_law_state"]) fun _ _ _ _ _ _ us hl=>by obtain ⟨_,rfl⟩:=us1 hl; rfl
theorem sc_c4:FnScope ["_law_script","_law_shape_here","_law_net","_law_handed","_law_k","_law_times_here","_law_whole_here","_law_given","_law_found","_law_kept","_law_about"] ["_law_script"] (A5 s_c4):=⟨rfl,rfl,rfl,by decide +kernel,rfl,by decide +kernel,by decide +kernel⟩
end
theorem A8t:(PyData.str "steps").canLay0=true:=by decide +kernel
theorem A8s:(PyData.str "straight").canLay0=true:=by decide +kernel
theorem B8y:PyData.eqv (.str "straight") (.str "straight")=true:=by decide +kernel
def offD (kd:Str) (cs:LR):PyData:=.tuple [.str kd,.list (cs.map dcn)]
def Kd (kd:Str):Prop:=kd="straight"\/kd="steps"
theorem Kd.lay {kd:Str} (h:Kd kd):(PyData.str kd).canLay0=true:=by rcases h with rfl | rfl; exact A8s; exact A8t
def M5 (c d:Rat × Rat):Rat:=(d.2 - c.2) / (c.1 - d.1)
theorem B9q {c d:Rat × Rat} (h:d.1 < c.1) (h1:SmR 161 85 c.1) (h2:SmR 285 151 c.2) (h3:SmR 161 85 d.1) (h4:SmR 285 151 d.2):SmR 607 549 (M5 c d) :=
 ((h4.sub h2).div (h1.sub h3) (by grind)).mono (by decide) (by decide)
def lm (vs:LQ) (m:Rat):Rat:=vs.foldl (fun m v=>if v < m then v else m) m
theorem B91:∀ (vs:LQ) (m:Rat),lm vs m<=m/\∀ v ∈ vs,lm vs m<=v
 | [],m=>⟨Rat.le_refl,fun v h=>absurd h (by simp)⟩
 | v :: r,m=>by
  obtain ⟨h1,h2⟩:=B91 r (if v < m then v else m);have e:lm (v :: r) m=lm r (if v < m then v else m):=rfl;rw [e];have h3:(if v < m then v else m)<=m/\(if v < m then v else m)<=v:=by
   split
   ·constructor <;> grind
   ·constructor <;> grind
  refine ⟨by grind,fun x hx=>?_⟩;rcases List.mem_cons.mp hx with rfl | hx
  ·grind
  ·exact h2 x hx
def val (q:Rat) (c:Rat × Rat):Rat:=c.2 + q * c.1
theorem A9f:∀ qs:LQ,PyData.canLayAll0 (qs.map dq)=true
 | []=>rfl
 | q :: r=>by
  show ((dq q).canLay0 && PyData.canLayAll0 (r.map dq))=true;rw [B84,A9f r]; rfl
theorem A1l:∀ qs:LQ,PyData.depthAll (qs.map dq)<=1
 | []=>Nat.zero_le _
 | q :: r=>by
  show max (dq q).depth (PyData.depthAll (r.map dq))<=1;have h1:=A1l r;have h2:(dq q).depth=1:=rfl;omega
theorem X8 (qs:LQ):(PyData.list (qs.map dq)).canLay0=true:=A9f qs
theorem B3f (qs:LQ):(PyData.list (qs.map dq)).depth<=60:=by
 show PyData.depthAll (qs.map dq) + 1<=60;have:=A1l qs;omega
theorem smr0:SmR 1 1 0:=⟨by unfold Sm; decide,by unfold Sm; decide⟩
theorem smq0:SmQ 3900 0:=⟨smr0.1.mono (by decide),smr0.2.mono (by decide)⟩
def CvI (l:LR):Prop:=∀ (i:Nat) a b c,l[i]?=some a->l[i + 1]?=some b->l[i + 2]?=some c->M5 a b < M5 b c
def Ltt (l:LR):Prop:=l.Pairwise fun a b=>b.1 < a.1
theorem U0 {a b:Rat × Rat} (h:b.1 < a.1):M5 a b * (a.1 - b.1)=b.2 - a.2:=by unfold M5; exact Rat.div_mul_cancel (by grind)
theorem CvI.push {l:LR} {c:Rat × Rat} (H:CvI l) (h:∀ A a b,l=A++[a,b]->M5 a b < M5 b c):CvI (l++[c]):=by
 intro j x y z h1 h2 h3;have hl:j + 2 < l.length + 1:=by have:=(List.getElem?_eq_some_iff.mp h3).1; simpa using this
 rcases (show j + 2 < l.length\/j + 2=l.length by omega) with q | q
 ·rw [List.getElem?_append_left (by omega)] at h1 h2 h3;exact H j x y z h1 h2 h3
 ·rw [List.getElem?_append_left (by omega)] at h1 h2;rw [List.getElem?_append_right (by omega),q,Nat.sub_self] at h3;cases h3;refine h (l.take j) x y ?_;have e1:l.drop j=[x,y]:=by
   refine List.ext_getElem? fun k=>?_;rw [List.getElem?_drop];match k with
   | 0=>simpa using h1
   | 1=>simpa using h2
   | k + 2=>simp; omega
  rw [<- e1,List.take_append_drop]
def CvR (l:LR) (R:Rat):Prop:=CvI l/\∀ A a b,l=A++[a,b]->M5 a b=R
theorem CvR.one (c:Rat × Rat):CvR [c] 0:=by
 refine ⟨fun i a b d h1 h2 h3=>?_,fun A a b e=>?_⟩
 ·have:=(List.getElem?_eq_some_iff.mp h3).1; simp at this
 ·have:=congrArg List.length e; simp at this
theorem CvR.step {cs:LR} {T P R q v v2:Rat} (q0:0 < q) (v0:0 < v) (hv:v2=(R + v) * q) (h:CvR (cs++[(T,P)]) R):CvR (cs++[(T,P)]++[(T - q,P + v2)]) (R + v):=by
 have es:M5 (T,P) (T - q,P + v2)=R + v:=by
  have e:=U0 (a:=(T,P)) (b:=(T - q,P + v2)) (by show T - q < T; grind);have e':M5 (T,P) (T - q,P + v2) * q=(R + v) * q:=by
   rw [<- hv];have:M5 (T,P) (T - q,P + v2) * (T - (T - q))=P + v2 - P:=e;grind
  have hq:q≠0:=by grind
  rw [<- Rat.mul_div_cancel (b:=q) hq (a:=M5 (T,P) (T - q,P + v2)),e',Rat.mul_div_cancel hq]
 refine ⟨h.1.push fun A a b e=>?_,fun A a b e=>?_⟩
 ·have hb:b=(T,P):=by
   have e':cs++[(T,P)]=(A++[a])++[b]:=by rw [e]; simp
   have:=(List.append_inj' e' rfl).2;cases this; rfl
  have:=h.2 A a b e;rw [this,hb,es]; grind
 ·have e':cs++[(T,P),(T - q,P + v2)]=A++[a,b]:=by rw [<- e]; simp
  have:=(List.append_inj' e' rfl).2;cases this; exact es
theorem CvI.scale {l:LR} {s k:Rat} (hs:0 < s) (hk:0 < k) (d:Ltt l) (h:CvI l):CvI (l.map fun c=>(c.1 * s,c.2 * k)):=by
 have hh:∀ {a b:Rat × Rat},b.1 < a.1->M5 (a.1 * s,a.2 * k) (b.1 * s,b.2 * k) * s=M5 a b * k:=by
  intro a b hb;have m:=Rat.mul_pos (show 0 < a.1 - b.1 by grind) hs;have e1:=U0 (a:=(a.1 * s,a.2 * k)) (b:=(b.1 * s,b.2 * k)) (by show b.1 * s < a.1 * s; grind);have e2:=U0 hb;have e1':M5 (a.1 * s,a.2 * k) (b.1 * s,b.2 * k) * (a.1 * s - b.1 * s)=b.2 * k - a.2 * k:=e1;generalize M5 (a.1 * s,a.2 * k) (b.1 * s,b.2 * k)=z at *;have hn:a.1 - b.1≠0:=by grind
  have e3:(z * s) * (a.1 - b.1)=(M5 a b * k) * (a.1 - b.1):=by grind
  rw [<- Rat.mul_div_cancel (b:=a.1 - b.1) hn (a:=z * s),e3,Rat.mul_div_cancel hn]
 intro i a b c h1 h2 h3;rw [List.getElem?_map] at h1 h2 h3;cases x1:l[i]? with
 | none=>rw [x1] at h1; cases h1
 | some a'=>cases x2:l[i + 1]? with
  | none=>rw [x2] at h2; cases h2
  | some b'=>cases x3:l[i + 2]? with
   | none=>rw [x3] at h3; cases h3
   | some c' =>
    rw [x1] at h1; rw [x2] at h2; rw [x3] at h3;cases h1; cases h2; cases h3;have lt1:b'.1 < a'.1:=List.pairwise_iff_getElem.mp d i (i + 1) (List.getElem?_eq_some_iff.mp x1).1 (List.getElem?_eq_some_iff.mp x2).1 (by omega) |> fun z=>by
     rw [(List.getElem?_eq_some_iff.mp x1).2,(List.getElem?_eq_some_iff.mp x2).2] at z; exact z
    have lt2:c'.1 < b'.1:=List.pairwise_iff_getElem.mp d (i + 1) (i + 2) (List.getElem?_eq_some_iff.mp x2).1 (List.getElem?_eq_some_iff.mp x3).1 (by omega) |> fun z=>by
     rw [(List.getElem?_eq_some_iff.mp x2).2,(List.getElem?_eq_some_iff.mp x3).2] at z; exact z
    have g:=h i a' b' c' x1 x2 x3;have g1:=hh lt1;have g2:=hh lt2;have g3:=Rat.mul_pos (show 0 < M5 b' c' - M5 a' b' by grind) hk;refine Rat.not_le.mp fun z=>?_;have g4:=Rat.mul_nonneg (show 0<=M5 (a'.1 * s,a'.2 * k) (b'.1 * s,b'.2 * k) - M5 (b'.1 * s,b'.2 * k) (c'.1 * s,c'.2 * k) by grind) (Rat.le_of_lt hs);grind
theorem B88 {α:Type} {f:α->PyData} {xs:List α} {n:Nat} (h:n<=xs.length):cutD (xs.map f) none (some (n:Int))=(xs.take n).map f:=by
 unfold cutD;rw [HT.sIx_none,show HT.sIx (xs.map f).length (xs.map f).length (some (n:Int))=min n xs.length by rw [List.length_map]; exact HT.sIx_nat _ _ n,List.map_take];rw [Nat.min_eq_left h]; simp
def RiseO (cs:LR):Prop:=∀ (i:Nat) c d,cs[i]?=some c->cs[i + 1]?=some d->d.1 < c.1/\c.2 < d.2
theorem RiseO.one (c:Rat × Rat):RiseO [c]:=fun i a b _ h=>by rw [List.getElem?_eq_none (by simp)] at h; cases h
theorem RiseO.snoc {cs:LR} {c d:Rat × Rat} (h:RiseO (cs++[c])) (h1:d.1 < c.1) (h2:c.2 < d.2):RiseO (cs++[c]++[d]):=fun i a b ha hb=>by
 rcases Nat.lt_trichotomy (i + 1) (cs++[c]).length with z | z | z
 ·rw [List.getElem?_append_left (by omega)] at ha;rw [List.getElem?_append_left z] at hb;exact h i a b ha hb
 ·rw [List.getElem?_append_left (by omega)] at ha;rw [z,List.getElem?_append_right (Nat.le_refl _),Nat.sub_self] at hb;have hi:i=cs.length:=by simp at z; exact z
  rw [hi,List.getElem?_append_right (Nat.le_refl _),Nat.sub_self] at ha;cases ha; cases hb;exact ⟨h1,h2⟩
 ·rw [List.getElem?_eq_none (by simp at z ⊢; omega)] at hb; cases hb
def sumR (qs:LQ):Rat:=qs.foldr (· + ·) 0
theorem A0q:∀ (qs:LQ) (q:Rat),sumR (qs++[q])=sumR qs + q
 | [],q=>by show q + 0=0 + q; grind
 | p :: r,q=>by
  have h:=A0q r q;show p + sumR (r++[q])=p + sumR r + q;rw [h]; grind
theorem Y7:∀ {qs:LQ},(∀ q ∈ qs,0 < q)->0<=sumR qs
 | [],_=>Rat.le_refl
 | p :: r,h=>by
  have h1:=Y7 (qs:=r) fun q hq=>h q (List.mem_cons_of_mem _ hq);have h2:=h p List.mem_cons_self;show 0<=p + sumR r;grind
structure OfG (kd:Str) (cs:LR) (a b c d:Nat):Prop where
 ok:OfOk cs a b c d
 nn:∀ x ∈ cs,0<=x.1/\0<=x.2
 up:RiseO cs
 cv:kd="straight"->CvI cs
def wD (w:Int × Int × Rat):PyData:=.tuple [.int w.1,.int w.2.1,dq w.2.2]
def hD (h:Str × Int × Rat):PyData:=.tuple [.str h.1,.int h.2.1,dq h.2.2]
def On (B k:Nat) (q:Rat):Prop:=∃ z:Int,q=Rat.divInt z (B:Int)/\z.natAbs<=k * B
theorem On.mono {B k l:Nat} {q:Rat} (h:On B k q) (g:k<=l):On B l q:=let ⟨z,e,b⟩:=h; ⟨z,e,Nat.le_trans b (Nat.mul_le_mul_right _ g)⟩
theorem On.add {B k l:Nat} {p q:Rat} (hB:0 < B) (h:On B k p) (g:On B l q):On B (k + l) (p + q):=by
 obtain ⟨z,rfl,b⟩:=h;obtain ⟨y,rfl,c⟩:=g;have hn:(B:Int)≠0:=by omega
 refine ⟨z + y,?_,Nat.le_trans (Int.natAbs_add_le _ _) (by rw [Nat.add_mul]; omega)⟩;rw [Rat.divInt_add_divInt _ _ hn hn,<- Int.add_mul,Rat.divInt_mul_right hn]
theorem On.neg {B k:Nat} {p:Rat} (h:On B k p):On B k (-p):=by
 obtain ⟨z,rfl,b⟩:=h;exact ⟨-z,by rw [Rat.neg_divInt],by rw [Int.natAbs_neg]; exact b⟩
theorem On.sub {B k l:Nat} {p q:Rat} (hB:0 < B) (h:On B k p) (g:On B l q):On B (k + l) (p - q):=by
 rw [Rat.sub_eq_add_neg]; exact h.add hB g.neg
theorem On.of {B a b:Nat} {q:Rat} (hB:0 < B) (h:SmR a b q) (d:q.den ∣ B):On B (2 ^ a) q:=by
 obtain ⟨c,rfl⟩:=d;have hd:=q.den_pos;by_cases hc:c=0
 ·subst hc; rw [Nat.mul_zero] at hB; exact absurd hB (Nat.lt_irrefl _)
 ·refine ⟨q.num * c,?_,?_⟩
  ·rw [Int.natCast_mul,Rat.divInt_mul_right (by omega),Rat.num_divInt_den]
  ·rw [Int.natAbs_mul,Int.natAbs_natCast];have h1:q.num.natAbs<=2 ^ a:=Nat.le_of_lt h.1;exact Nat.mul_le_mul h1 (Nat.le_mul_of_pos_left _ hd)
theorem On.zero {B:Nat}:On B 0 0:=⟨0,by rw [Rat.zero_divInt],by simp⟩
theorem On.q {B k:Nat} {q:Rat} (hB:0 < B) (h:On B k q) (g:k * B < 2 ^ 3900) (g2:B < 2 ^ 3900):SmQ 3900 q:=by
 obtain ⟨z,rfl,b⟩:=h;have:=SmR.low (n:=3900) (d:=3900) (t:=z) (b:=(B:Int)) (Nat.lt_of_le_of_lt b g) (by unfold Sm; rw [Int.natAbs_natCast]; exact g2) (by omega);exact ⟨this.1,this.2⟩
theorem On.up {B C k:Nat} {q:Rat} (hC:0 < C) (h:On B k q):On (B * C) k q:=by
 obtain ⟨z,rfl,b⟩:=h;refine ⟨z * C,by rw [Int.natCast_mul,Rat.divInt_mul_right (by omega)],?_⟩;rw [Int.natAbs_mul,Int.natAbs_natCast,<- Nat.mul_assoc];exact Nat.mul_le_mul_right _ b
theorem M1 {a b:Str}:PyData.eqv (.str a) (.str b)=decide (a=b):=by
 rw [Bool.eq_iff_iff,decide_eq_true_eq];simp [PyData.eqv]
def LL:Nat:=591133442051411133755680800
theorem J4:0 < LL:=by decide
theorem B8g {d:Nat} (h0:0 < d) (h:d < 64):d ∣ LL:=by
 have k:∀ d:Fin 64,d.val=0\/LL % d.val=0:=by decide +kernel
 rcases k ⟨d,h⟩ with z | z
 ·exact absurd z (Nat.ne_of_gt h0)
 ·exact Nat.dvd_of_mod_eq_zero z
theorem P5 {q:Rat} (h:SmR 41 6 q):On LL (2 ^ 41) q:=by
 refine On.of J4 h (B8g q.den_pos ?_);have:=h.2; unfold Sm at this; rw [Int.natAbs_natCast] at this; exact this
theorem On.mul {B C k l:Nat} {p q:Rat} (h:On B k p) (g:On C l q):On (B * C) (k * l) (p * q):=by
 obtain ⟨z,rfl,b⟩:=h;obtain ⟨y,rfl,c⟩:=g;refine ⟨z * y,by rw [Rat.divInt_mul_divInt,Int.natCast_mul],?_⟩;rw [Int.natAbs_mul];have:=Nat.mul_le_mul b c;rw [Nat.mul_mul_mul_comm] at this;exact this
theorem U9 {B k:Nat} {n:Int} (hB:0 < B) (h:n.natAbs<=k):On B k (n:Rat):=by
 refine ⟨n * (B:Int),?_,by rw [Int.natAbs_mul,Int.natAbs_natCast]; exact Nat.mul_le_mul_right _ h⟩;have:=Rat.divInt_mul_right (n:=n) (d:=1) (a:=(B:Int)) (by omega);rw [Int.one_mul] at this;rw [this];have e:=Rat.num_divInt_den (n:Rat);rw [Rat.num_intCast,Rat.den_intCast] at e;exact e.symm
theorem onQ {B k:Nat} {q:Rat} (h:On B k q) (hB:0 < B) (hb:B<=2 ^ 1000) (g:k<=2 ^ 1000):SmQ 3900 q:=by
 refine h.q hB (Nat.lt_of_le_of_lt (Nat.mul_le_mul g hb) ?_) (Nat.lt_of_le_of_lt hb ?_)
 ·rw [<- Nat.pow_add]; exact Nat.pow_lt_pow_right (by decide) (by decide)
 ·exact Nat.pow_lt_pow_right (by decide) (by decide)
theorem B98:LL<=2 ^ 1000:=Nat.le_trans (Nat.le_of_ble_eq_true rfl:LL<=2 ^ 100) (Nat.pow_le_pow_right (by decide) (by decide))
theorem onL {a:Nat} {q:Rat} (h:On LL (2 ^ a) q) (ha:a<=1000):SmQ 3900 q:=onQ h J4 B98 (Nat.pow_le_pow_right (by decide) ha)
theorem On.p2 {B a b:Nat} {q:Rat} (h:On B (2 ^ a) q) (g:a<=b):On B (2 ^ b) q:=h.mono (Nat.pow_le_pow_right (by decide) g)
theorem On.add2 {B a b:Nat} {p q:Rat} (hB:0 < B) (h:On B (2 ^ a) p) (g:On B (2 ^ a) q) (hb:a + 1<=b):On B (2 ^ b) (p + q):=by
 refine (h.add hB g).mono (Nat.le_trans ?_ (Nat.pow_le_pow_right (by decide) hb));rw [Nat.pow_succ]; omega
theorem On.sub2 {B a b:Nat} {p q:Rat} (hB:0 < B) (h:On B (2 ^ a) p) (g:On B (2 ^ a) q) (hb:a + 1<=b):On B (2 ^ b) (p - q):=by
 refine (h.sub hB g).mono (Nat.le_trans ?_ (Nat.pow_le_pow_right (by decide) hb));rw [Nat.pow_succ]; omega
def OnP (l:LR):Prop:=∀ (i:Nat) a b,l[i]?=some a->l[i + 1]?=some b->On LL (2 ^ 45) (M5 a b)
theorem OnP.one (c:Rat × Rat):OnP [c]:=fun i a b _ h=>by rw [List.getElem?_eq_none (by simp)] at h; cases h
theorem OnP.snoc {l:LR} {c d:Rat × Rat} (h:OnP (l++[c])) (h1:On LL (2 ^ 45) (M5 c d)):OnP (l++[c]++[d]):=fun i a b ha hb=>by
 rcases Nat.lt_trichotomy (i + 1) (l++[c]).length with z | z | z
 ·rw [List.getElem?_append_left (by omega)] at ha;rw [List.getElem?_append_left z] at hb;exact h i a b ha hb
 ·rw [List.getElem?_append_left (by omega)] at ha;rw [z,List.getElem?_append_right (Nat.le_refl _),Nat.sub_self] at hb;have hi:i=l.length:=by simp at z; exact z
  rw [hi,List.getElem?_append_right (Nat.le_refl _),Nat.sub_self] at ha;cases ha; cases hb;exact h1
 ·rw [List.getElem?_eq_none (by simp at z ⊢; omega)] at hb; cases hb
def OnC (cs:LR):Prop:=∀ c ∈ cs,On LL (2 ^ 45) c.1/\On (LL * LL) (2 ^ 90) c.2
def Hk (k:Str):Prop:=k="from"\/k="till"\/k="by"
def HOk (n:Int) (hs:LH):Prop:=∀ h ∈ hs,Hk h.1/\(0<=h.2.1/\h.2.1 < n)/\On LL (2 ^ 55) h.2.2
theorem Hk.lay {kd:Str} (h:Hk kd):(PyData.str kd).canLay0=true:=by rcases h with rfl | rfl | rfl <;> decide +kernel
theorem A1g:(PyData.str "from").canLay0=true:=by decide +kernel
theorem B6q {c:Nat} (h:c < 128):(sgn c).canLay0=true:=by
 show PyData.strOk ⟨#[c]⟩=true;unfold PyData.strOk;simp;omega
theorem getS {z:Str} {n:Int} (hl:z.length<=1000) (all:z.cps.toList.all (fun c=>decide (c < 128))=true) (h0:0<=n) (h1:n < z.length) {Q:SV->Prop} (q:∀ c,c < 128->Q (.d (sgn c))):B44 z n Q:=by
 obtain ⟨m,rfl⟩:=Int.eq_ofNat_of_zero_le h0;have hm:m < z.cps.toList.length:=by rw [Array.length_toList]; exact Int.ofNat_lt.mp h1
 refine ⟨z.cps.toList[m],G4 (List.getElem?_eq_getElem hm),q _ ?_⟩;have:=List.all_eq_true.mp all _ (List.getElem_mem hm);simpa using this
abbrev Wk:=Str × Str × LR
def kD (x:Wk):PyData:=.tuple [.str x.1,offD x.2.1 x.2.2]
def netD (xs:List Wk) (ws:LW) (hs:LH) (gs:LP):PyData:=.tuple [.list (xs.map kD),.list (ws.map wD),.list (hs.map hD),.list gs]
def fb (qs:LQ):Option Nat:=qs.findIdx? fun q=>decide (q < 0)
theorem B87 {ps:LR} {o:Int} {p:Rat × Rat} (h0:0<=o) (h:ps[o.toNat]?=some p):L2.atI (ps.map dcn) o=some (dcn p):=by
 obtain ⟨i,rfl⟩:=Int.eq_ofNat_of_zero_le h0;exact G4 (by rw [List.getElem?_map]; rw [Int.toNat_natCast] at h; rw [h]; rfl)
def sat (ps:LR) (o:Int):Rat × Rat:=ps.getD o.toNat (0,0)
theorem A6e {ps:LR} {o:Int} (h0:0<=o) (h1:o < (ps.length:Int)):L2.atI (ps.map dcn) o=some (dcn (sat ps o)) :=
 B87 h0 (by unfold sat; rw [List.getD_eq_getElem?_getD,List.getElem?_eq_getElem (by omega:o.toNat < ps.length)]; rfl)
def enD (p:Rat × Rat):Rat:=p.1 + p.2
def wSl (ps:LR) (w:Int × Int × Rat):Rat:=(sat ps w.2.1).1 - (enD (sat ps w.1) + w.2.2)
def hSl (ps:LR) (h:Str × Int × Rat):Rat:=if h.1="from" then (sat ps h.2.1).1 - h.2.2 else if h.1="till" then h.2.2 - (sat ps h.2.1).1 else h.2.2 - enD (sat ps h.2.1)
structure PlSm (p:Rat × Rat):Prop where
 s:SmQ 3900 p.1
 t:SmQ 3900 p.2
 e:SmQ 3900 (enD p)
theorem B29:PyData.eqv (.str "from") (.str "from")=true:=by decide +kernel
theorem B27:PyData.eqv (.str "till") (.str "from")=false:=by decide +kernel
theorem B3c:PyData.eqv (.str "by") (.str "from")=false:=by decide +kernel
theorem B28:PyData.eqv (.str "till") (.str "till")=true:=by decide +kernel
theorem B3b:PyData.eqv (.str "by") (.str "till")=false:=by decide +kernel
theorem S4:(PyData.str "till").canLay0=true:=by decide +kernel
theorem A8j:(Str.ofString "till")≠Str.ofString "from":=by decide +kernel
theorem A8k:(Str.ofString "by")≠Str.ofString "from":=by decide +kernel
theorem A2s:(Str.ofString "by")≠Str.ofString "till":=by decide +kernel
theorem A6d {ps:LR} {o:Int} (h0:0<=o) (h1:o < (ps.length:Int)):sat ps o ∈ ps:=by
 unfold sat;rw [List.getD_eq_getElem?_getD,List.getElem?_eq_getElem (by omega:o.toNat < ps.length)];exact List.getElem_mem _
theorem A4a:∀ ls:List Int,PyData.canLayAll0 (ls.map PyData.int)=true
 | []=>rfl
 | n :: r=>by
  show ((PyData.int n).canLay0 && PyData.canLayAll0 (r.map PyData.int))=true;rw [A4a r]; rfl
theorem A4i:∀ ls:List Int,PyData.depthAll (ls.map PyData.int)<=1
 | []=>by decide
 | n :: r=>by
  show max (PyData.int n).depth (PyData.depthAll (r.map PyData.int))<=1;have:=A4i r;have:(PyData.int n).depth=0:=rfl;omega
theorem A9h (ls:List Int):(PyData.list (ls.map PyData.int)).depth<=60:=by
 show PyData.depthAll (ls.map PyData.int) + 1<=60;have:=A4i ls;omega
theorem B09 (ls:List Int):(PyData.list (ls.map PyData.int)).eqv (.list [])=ls.isEmpty:=by
 cases ls <;> rfl
def rat (ss:LQ) (o:Int):Rat:=ss.getD o.toNat 0
theorem W9 {ss:LQ} {o:Int} (h0:0<=o) (h1:o < (ss.length:Int)):L2.atI (ss.map dq) o=some (dq (rat ss o)):=by
 obtain ⟨i,rfl⟩:=Int.eq_ofNat_of_zero_le h0;have hi:i < ss.length:=by omega
 refine G4 ?_;unfold rat;rw [List.getElem?_map,Int.toNat_natCast,List.getD_eq_getElem?_getD,List.getElem?_eq_getElem hi]; rfl
theorem U4 {ss:LQ} {o:Int} (h0:0<=o) (h1:o < (ss.length:Int)):rat ss o ∈ ss:=by
 unfold rat;rw [List.getD_eq_getElem?_getD,List.getElem?_eq_getElem (by omega:o.toNat < ss.length)];exact List.getElem_mem _
theorem Q1 {o:Int} {n:Nat} (h0:0<=o) (h1:o < (n:Int)):ixN n o=some o.toNat:=by
 obtain ⟨i,rfl⟩:=Int.eq_ofNat_of_zero_le h0;have hi:i < n:=by omega
 unfold ixN;simp;omega
theorem B80:PyData.eqv (.str "from") (.str "till")=false:=by decide +kernel
theorem B81:PyData.eqv (.str "from") (.str "by")=false:=by decide +kernel
theorem B8z:PyData.eqv (.str "till") (.str "by")=false:=by decide +kernel
theorem B82:PyData.eqv (.str "by") (.str "by")=true:=by decide +kernel
theorem X9:(PyData.str "by").canLay0=true:=by decide +kernel
theorem num_lt {q:Rat}:q.num < 0 ↔ q < 0:=by
 rw [<- Rat.not_le,<- Rat.num_nonneg]; omega
def vD:Option Rat->PyData
 | none=>.none
 | some q=>dq q
theorem A0h {α:Type} (f:α->Bool):∀ xs:List α,blsD (xs.map fun x=>.bool (f x))=some (xs.map f)
 | []=>rfl
 | x :: r=>by
  show (blsD (r.map fun x=>.bool (f x))).map (f x :: ·)=_;rw [A0h f r]; rfl
theorem unQ {D c:Nat} {q:Rat} (h:On (LL * D) (c * 2 ^ 60) q) (hD:0 < D) (hd:D<=2 ^ 20) (hc:c<=2 ^ 12):SmQ 3900 q :=
 onQ h (Nat.mul_pos J4 hD) (Nat.le_trans (Nat.mul_le_mul (Nat.le_of_ble_eq_true rfl:LL<=2 ^ 100) hd) (by rw [<- Nat.pow_add]; exact Nat.pow_le_pow_right (by decide) (by decide))) (Nat.le_trans (Nat.mul_le_mul_right _ hc) (by rw [<- Nat.pow_add]; exact Nat.pow_le_pow_right (by decide) (by decide)))
theorem B6g {D a b c:Nat} {p q:Rat} (hD:0 < D) (h:On (LL * D) (a * 2 ^ 60) p) (g:On (LL * D) (b * 2 ^ 60) q) (hc:a + b<=c):On (LL * D) (c * 2 ^ 60) (p + q) :=
 (h.add (Nat.mul_pos J4 hD) g).mono (by rw [<- Nat.add_mul]; exact Nat.mul_le_mul_right _ hc)
theorem A29 {D a c:Nat} {q:Rat} (h:On (LL * D) (a * 2 ^ 60) q) (hc:a<=c):On (LL * D) (c * 2 ^ 60) q:=h.mono (Nat.mul_le_mul_right _ hc)
theorem hd {a b:PSt} {D:PEnds} {e:PEnv} (h:∀ R,R=b->pSeq a R D e):pSeq a b D e:=h b rfl
theorem Q9 {a b:PSt} {D:PEnds} {e:PEnv} (P:PEnv->Prop) (h1:∀ R:PSt,(∀ e',P e'->R D e')->pSeq a R D e) (h2:∀ e',P e'->b D e'):pSeq a b D e:=h1 b h2
theorem B24 {g:Int} (g0:0<=g) (g1:g < 3):∃ kd:Str,Hk kd/\L2.atI [PyData.str "from",.str "till",.str "by"] g=some (.str kd):=by
 have hg:g=0\/g=1\/g=2:=by omega
 rcases hg with rfl | rfl | rfl
 ·exact ⟨_,.inl rfl,rfl⟩
 ·exact ⟨_,.inr (.inl rfl),rfl⟩
 ·exact ⟨_,.inr (.inr rfl),rfl⟩
def B1u (K:PySem.W.Frag):Sp:=fun vs H Q _=>∃ (a:Addr) (ns:List Int) (k:Int),vs=[.ref a,.int k]/\SqL K H a (ns.map V.int)/\0<=k/\k<=300/\∀ p H',H p=none->StAt H' p->Kp p H H'->Q (.ref p) H'
def B15:Pu.PSp:=fun as Q=>∃ (ns:List Int) (k:Int),as=[.bor (ns.map .int),.d (.int k)]/\0<=k/\k<=300/\Q .st
theorem B9h {K:Frag}:∀ vs H Q E,spOf K [.vw,.dat] B15 vs H Q E->B1u K vs H Q E:=by
 rintro vs H Q E ⟨w,as,Qp,rfl,ok,a,⟨ns,kk,rfl,k0,k1,q⟩,k⟩;cases a with
 | vw h t=>cases t with
  | dat h' t =>
   cases t;obtain ⟨a,us,e,hS,hd⟩:=h.lst ok;subst e;rw [Den.intE h'];refine ⟨a,ns,kk,rfl,by rw [<- A84 hd]; exact hS,k0,k1,fun p H' hp S' kp=>?_⟩;have out:∀ b o,w.H b=some o->H' b=some o:=fun b o e=>kp b o (F5 e hp) e;refine k (.ref p) .st ⟨fun b=>w.M b\/b=p,H',w.F⟩ ⟨fun b o e=>out b o (ok.sub b o e),fun r hr=>?_,fun r hr=>?_⟩ ⟨⟨Same.refl _,fun b o e _=>out b o e,fun _ z=>.inl z,fun b z=>?_,fun b e=>?_⟩,fun _ _ z=>.inl z⟩ ⟨p,rfl,.inr rfl⟩ rfl q
   ·rcases hr with hr | rfl
    ·exact (ok.st r hr).kp (ok.mne hp hr) kp
    ·exact S'
   ·rcases hr with hr | rfl
    ·exact ok.nf r hr
    ·exact ok.fnone hp
   ·rcases z with z | rfl
    ·exact .inl z
    ·exact .inr hp
   ·cases hb:w.H b with
    | none=>rfl
    | some o=>have:=out b o hb; rw [show H' b=none from e] at this; cases this
theorem A4j {K:PySem.W.Frag} {H:Hp}:∀ ns:List Int,DenAll K H (ns.map V.int) (ns.map PyData.int)
 | []=>.nil
 | n :: r=>.cons (.int n) (A4j r)
theorem Y5:∀ (n:Nat) {a:Array Nat} (b:Array Nat),(a.all fun c=>decide (c < 0x110000))=true->(b.all fun c=>decide (c < 0x110000))=true->(((List.replicate n a).foldl (·++·) b).all fun c=>decide (c < 0x110000))=true
 | 0,_,_,_,hb=>hb
 | n + 1,a,b,ha,hb=>by
  rw [List.replicate_succ,List.foldl_cons];exact Y5 n (b++a) ha (by rw [Array.all_append,ha,hb]; rfl)
theorem B5h {x:Str} {n:Int} (h:(PyData.str x).canLay0=true):(PyData.str (Txt.mul x n)).canLay0=true:=by
 unfold Txt.mul;split
 ·decide +kernel
 ·split
  ·exact h
  ·exact Y5 _ _ h (by decide +kernel)
def pD (v:Int × Int):PyData:=.tuple [.int v.1,.int v.2]
def qD (u:Str × Int):PyData:=.tuple [.str u.1,.int u.2]
def shD (xs:List Wk) (vs:List (Int × Int)) (us:List (Str × Int)):PyData:=.tuple [.list (xs.map kD),.list (vs.map pD),.list (us.map qD)]
structure ShOk (n:Nat) (xs:List Wk) (vs:List (Int × Int)) (us:List (Str × Int)):Prop where
 ln:xs.length=n
 n0:1<=n
 n1:n<=10
 of:∀ x ∈ xs,Kd x.2.1/\OfG x.2.1 x.2.2 100 54 244 130/\OnC x.2.2/\(x.2.1="straight"->OnP x.2.2)
 nm:∀ x ∈ xs,(PyData.str x.1).canLay0=true
 vl:vs.length<=40
 vk:∀ v ∈ vs,(0<=v.1/\v.1 < (n:Int))/\(0<=v.2/\v.2 < (n:Int))
 ul:us.length<=40
 uk:∀ u ∈ us,Hk u.1/\0<=u.2/\u.2 < (n:Int)
 vn:∀ v ∈ vs,v.1≠v.2
theorem ShOk.addV {n:Nat} {xs:List Wk} {vs:List (Int × Int)} {us:List (Str × Int)} {a b:Int} (ok:ShOk n xs vs us) (ha:0<=a/\a < (n:Int)) (hb:0<=b/\b < (n:Int)) (hv:vs.length < 40) (hne:a≠b):ShOk n xs (vs++[(a,b)]) us:=by
 refine ⟨ok.ln,ok.n0,ok.n1,ok.of,ok.nm,by rw [List.length_append,List.length_singleton]; omega,fun v hv'=>?_,ok.ul,ok.uk,fun v hv'=>?_⟩
 ·rcases List.mem_append.mp hv' with q | q
  ·exact ok.vk v q
  ·rw [List.mem_singleton.mp q]; exact ⟨ha,hb⟩
 ·rcases List.mem_append.mp hv' with q | q
  ·exact ok.vn v q
  ·rw [List.mem_singleton.mp q]; exact hne
theorem ShOk.addU {n:Nat} {xs:List Wk} {vs:List (Int × Int)} {us:List (Str × Int)} {a:Int} {kd:Str} (ok:ShOk n xs vs us) (ha:0<=a/\a < (n:Int)) (hk:Hk kd) (hu:us.length < 40):ShOk n xs vs (us++[(kd,a)]):=by
 refine ⟨ok.ln,ok.n0,ok.n1,ok.of,ok.nm,ok.vl,ok.vk,by rw [List.length_append,List.length_singleton]; omega,fun v hv'=>?_,ok.vn⟩;rcases List.mem_append.mp hv' with q | q
 ·exact ok.uk v q
 ·rw [List.mem_singleton.mp q]; exact ⟨hk,ha⟩
def ltr2:Str:=Str.ofString "hcjafdibge"
theorem Z6:ltr2.length=10:=by decide +kernel
theorem B0z:ltr2.cps.toList.all (fun c=>decide (c < 128))=true:=by decide +kernel
theorem B5j {d:Int} (d0:0<=d) (d1:d < 8):∃ n:Nat,(1<=n/\n<=10)/\L2.atI [PyData.int 1,.int 2,.int 3,.int 4,.int 5,.int 5,.int 7,.int 10] d=some (.int (n:Int)):=by
 have hg:d=0\/d=1\/d=2\/d=3\/d=4\/d=5\/d=6\/d=7:=by omega
 rcases hg with rfl | rfl | rfl | rfl | rfl | rfl | rfl | rfl
 ·exact ⟨1,by decide,rfl⟩
 ·exact ⟨2,by decide,rfl⟩
 ·exact ⟨3,by decide,rfl⟩
 ·exact ⟨4,by decide,rfl⟩
 ·exact ⟨5,by decide,rfl⟩
 ·exact ⟨5,by decide,rfl⟩
 ·exact ⟨7,by decide,rfl⟩
 ·exact ⟨10,by decide,rfl⟩
theorem B8d {n a b:Int} (h0:0<=a) (h1:a < n) (b0:0<=b) (b1:b < n - 1):a≠(a + 1 + b) % n:=fun h=>by
 have e:=Int.emod_add_mul_ediv (a + 1 + b) n;rw [<- h] at e;generalize (a + 1 + b) / n=q at e;rcases Int.lt_or_le 0 q with z | z
 ·have:=Int.mul_le_mul_of_nonneg_left (show 1<=q by omega) (show 0<=n by omega);omega
 ·have:=Int.mul_le_mul_of_nonneg_left z (show 0<=n by omega);omega
def ole (x y:Option Rat):Prop:=∀ a,x=some a->∃ b,y=some b/\a<=b
theorem M8 (x:Option Rat):ole x x:=fun a h=>⟨a,h,Rat.le_refl⟩
theorem N8 {x y z:Option Rat} (h:ole x y) (g:ole y z):ole x z:=fun a e=>by
 obtain ⟨b,hb,l⟩:=h a e;obtain ⟨c,hc,l'⟩:=g b hb;exact ⟨c,hc,Rat.le_trans l l'⟩
theorem Z5 {x y:Option Rat} (h:ole x y) (g:ole y x):x=y:=by
 cases x with
 | none =>
  cases y with
  | none=>rfl
  | some b=>obtain ⟨c,hc,_⟩:=g b rfl; cases hc
 | some a =>
  obtain ⟨b,hb,l⟩:=h a rfl;obtain ⟨c,hc,l'⟩:=g b hb;cases hc;rw [hb,Rat.le_antisymm l l']
theorem B0u (y:Option Rat):ole none y:=fun _ h=>nomatch h
abbrev Wy:=Nat × Nat × Rat × (Str × Int)
def upB:Option Rat->Rat->Bool
 | none,_=>true
 | some b,r=>decide (b < r)
def lnS (g:Nat->Option Rat) (v:Nat) (acc:Option Rat) (w:Wy):Option Rat:=match g w.1 with
 | none=>acc
 | some a=>if w.2.1=v && upB acc (a + w.2.2.1) then some (a + w.2.2.1) else acc
def lnF (g:Nat->Option Rat) (v:Nat) (ways:List Wy) (acc:Option Rat):Option Rat:=ways.foldl (lnS g v) acc
theorem B8f {g:Nat->Option Rat} {v:Nat} {acc:Option Rat} {w:Wy}:ole acc (lnS g v acc w):=by
 unfold lnS;split
 ·exact M8 _
 ·rename_i a _;split
  ·rename_i h;simp only [Bool.and_eq_true,decide_eq_true_eq] at h;intro b hb;subst hb;exact ⟨_,rfl,Rat.le_of_lt (of_decide_eq_true h.2)⟩
  ·exact M8 _
theorem A8q {g:Nat->Option Rat} {v:Nat}:∀ {ways:List Wy} {acc:Option Rat},ole acc (lnF g v ways acc)
 | [],_=>M8 _
 | w :: r,acc=>N8 B8f (A8q (ways:=r) (acc:=lnS g v acc w))
theorem A2u {g:Nat->Option Rat} {v:Nat} {w:Wy} {a:Rat} (hv:w.2.1=v) (ha:g w.1=some a):∀ {ways:List Wy} {acc:Option Rat},w ∈ ways->∃ b,lnF g v ways acc=some b/\a + w.2.2.1<=b
 | x :: r,acc,h=>by
  rcases List.mem_cons.mp h with rfl | h
  ·have:∃ b,lnS g v acc w=some b/\a + w.2.2.1<=b:=by
    unfold lnS;rw [ha];dsimp only;split
    ·exact ⟨_,rfl,Rat.le_refl⟩
    ·rename_i h;simp only [hv,decide_true,Bool.true_and,Bool.not_eq_true] at h;cases acc with
     | none=>cases h
     | some b=>exact ⟨b,rfl,Rat.not_lt.mp (of_decide_eq_false h)⟩
   obtain ⟨b,hb,l⟩:=this;obtain ⟨c,hc,l'⟩:=A8q (g:=g) (v:=v) (ways:=r) b hb;exact ⟨c,hc,Rat.le_trans l l'⟩
  ·exact A2u hv ha (ways:=r) h
theorem Z8 {g:Nat->Option Rat} {v:Nat}:∀ {ways:List Wy} {acc:Option Rat},lnF g v ways acc=acc\/∃ w ∈ ways,w.2.1=v/\∃ a,g w.1=some a/\lnF g v ways acc=some (a + w.2.2.1)
 | [],_=>.inl rfl
 | w :: r,acc=>by
  rcases Z8 (ways:=r) (acc:=lnS g v acc w) with e | ⟨x,hx,h1,a,h2,h3⟩
  ·have e':lnF g v (w :: r) acc=lnS g v acc w:=e;rw [e'];unfold lnS;split
   ·exact .inl rfl
   ·rename_i a ha;split
    ·rename_i h;simp only [Bool.and_eq_true,decide_eq_true_eq] at h;exact .inr ⟨w,List.mem_cons_self,h.1,a,ha,rfl⟩
    ·exact .inl rfl
  ·exact .inr ⟨x,List.mem_cons_of_mem _ hx,h1,a,h2,h3⟩
def lnK (ways:List Wy) (n:Nat):Nat->Nat->Option Rat
 | 0,v=>if v=n then some 0 else none
 | k + 1,v=>lnF (lnK ways n k) v ways (lnK ways n k v)
theorem A8p {ways:List Wy} {n k v:Nat}:ole (lnK ways n k v) (lnK ways n (k + 1) v):=A8q
theorem T7 {ways:List Wy} {n v:Nat} {k m:Nat} (h:k<=m):ole (lnK ways n k v) (lnK ways n m v):=by
 induction m with
 | zero=>rw [Nat.le_zero.mp h]; exact M8 _
 | succ m ih =>
  rcases Nat.lt_or_ge m k with z | z
  ·rw [show k=m + 1 by omega]; exact M8 _
  ·exact N8 (ih z) A8p
structure Chn (ways:List Wy) (n k:Nat) (c:Nat->Nat) (x:Nat->Rat):Prop where
 at':∀ j,j<=k + 1->lnK ways n j (c j)=some (x j)
 st:∀ j,j<=k->∃ w ∈ ways,w.2.1=c (j + 1)/\w.1=c j/\x (j + 1)=x j + w.2.2.1
 new:∀ j,j<=k->lnK ways n (j + 1) (c (j + 1))≠lnK ways n j (c (j + 1))
theorem B3j {ways:List Wy} {n:Nat}:∀ (k v:Nat),lnK ways n (k + 1) v≠lnK ways n k v->∃ c x,c (k + 1)=v/\Chn ways n k c x
 | 0,v,h=>by
  rcases Z8 (g:=lnK ways n 0) (v:=v) (ways:=ways) (acc:=lnK ways n 0 v) with e | ⟨w,hw,h1,a,h2,h3⟩
  ·exact absurd e h
  ·refine ⟨fun j=>if j=0 then w.1 else v,fun j=>if j=0 then a else a + w.2.2.1,rfl,⟨fun j hj=>?_,fun j hj=>?_,fun j hj=>?_⟩⟩
   ·match j,hj with
    | 0,_=>exact h2
    | 1,_=>exact h3
   ·rw [Nat.le_zero.mp hj]; exact ⟨w,hw,h1,rfl,rfl⟩
   ·rw [Nat.le_zero.mp hj]; exact h
 | k + 1,v,h=>by
  rcases Z8 (g:=lnK ways n (k + 1)) (v:=v) (ways:=ways) (acc:=lnK ways n (k + 1) v) with e | ⟨w,hw,h1,a,h2,h3⟩
  ·exact absurd e h
  ·have h3':lnK ways n (k + 2) v=some (a + w.2.2.1):=h3;have hne:lnK ways n (k + 1) w.1≠lnK ways n k w.1:=fun e=>by
    obtain ⟨b,hb,l⟩:=A2u (g:=lnK ways n k) (acc:=lnK ways n k v) h1 (by rw [<- e]; exact h2) hw;have hb':lnK ways n (k + 1) v=some b:=hb;apply h;refine Z5 (fun c hc=>?_) A8p;rw [h3'] at hc;cases hc;exact ⟨b,hb',l⟩
   obtain ⟨c,x,hc,ch⟩:=B3j k w.1 hne;refine ⟨fun j=>if j<=k + 1 then c j else v,fun j=>if j<=k + 1 then x j else a + w.2.2.1,if_neg (by omega),⟨fun j hj=>?_,fun j hj=>?_,fun j hj=>?_⟩⟩
   ·by_cases z:j<=k + 1
    ·simp only [z,if_true]; exact ch.at' j z
    ·rw [show j=k + 2 by omega]; simp only [show ¬ (k + 2<=k + 1) by omega,if_false]; exact h3'
   ·by_cases z:j<=k
    ·simp only [show j + 1<=k + 1 by omega,show j<=k + 1 by omega,if_true]; exact ch.st j z
    ·rw [show j=k + 1 by omega];simp only [show ¬ (k + 1 + 1<=k + 1) by omega,Nat.le_refl,if_true,if_false];have e:=ch.at' (k + 1) (Nat.le_refl _);rw [hc,h2] at e;exact ⟨w,hw,h1,hc.symm,by rw [Option.some.inj e]⟩
   ·by_cases z:j<=k
    ·simp only [show j + 1<=k + 1 by omega,if_true]; exact ch.new j z
    ·rw [show j=k + 1 by omega];simp only [show ¬ (k + 1 + 1<=k + 1) by omega,if_false]; exact h
def Pot (ways:List Wy) (n:Nat) (P:Nat->Rat):Prop:=P n=0/\∀ w ∈ ways,P w.1 + w.2.2.1<=P w.2.1
theorem B6i {n:Nat} {c:Nat->Nat} (h:∀ j,j<=n + 1->c j<=n):∃ i j,i < j/\j<=n + 1/\c i=c j:=by
 apply Classical.byContradiction;intro hc;have hd:((List.range (n + 2)).map c).Nodup:=by
  refine List.pairwise_map.mpr (List.Pairwise.imp_of_mem (R:=fun a b=>a < b) (fun {a b} ha hb hab e=>?_) List.pairwise_lt_range);rw [List.mem_range] at hb;exact hc ⟨a,b,hab,by omega,e⟩
 have hs:((List.range (n + 2)).map c) ⊆ List.range (n + 1):=fun a ha=>by
  obtain ⟨x,hx,rfl⟩:=List.mem_map.mp ha;rw [List.mem_range] at hx;have:=h x (by omega);exact List.mem_range.mpr (by omega)
 have:=List.Nodup.length_le_of_subset hd hs;rw [List.length_map,List.length_range,List.length_range] at this;omega
theorem A9n {ways:List Wy} {n k:Nat} {c:Nat->Nat} {x:Nat->Rat} {P:Nat->Rat} (ch:Chn ways n k c x) (hp:Pot ways n P) {i:Nat}:∀ {j:Nat},i<=j->j<=k + 1->x j - P (c j)<=x i - P (c i)
 | 0,h,_=>by rw [Nat.le_zero.mp h]; exact Rat.le_refl
 | j + 1,h,hj=>by
  rcases Nat.lt_or_ge j i with z | z
  ·rw [show i=j + 1 by omega]; exact Rat.le_refl
  ·have ih:=A9n ch hp (j:=j) z (by omega);obtain ⟨w,hw,h1,h2,h3⟩:=ch.st j (by omega);have:=hp.2 w hw;rw [h1,h2] at this;rw [h3];grind
theorem B5o {ways:List Wy} {n:Nat} {P:Nat->Rat} (hw:∀ w ∈ ways,w.1<=n/\w.2.1<=n) (hp:Pot ways n P) (v:Nat):lnK ways n (n + 1) v=lnK ways n n v:=by
 apply Classical.byContradiction;intro h;obtain ⟨c,x,hc,ch⟩:=B3j n v h;have hle:∀ j,j<=n + 1->c j<=n:=fun j hj=>by
  match j,hj with
  | 0,_=>obtain ⟨w,hw',_,h2,_⟩:=ch.st 0 (by omega); rw [<- h2]; exact (hw w hw').1
  | j + 1,hj=>obtain ⟨w,hw',h1,_,_⟩:=ch.st j (by omega); rw [<- h1]; exact (hw w hw').2
 obtain ⟨i,j,hij,hj,e⟩:=B6i hle;have h1:=A9n ch hp (i:=i) (j:=j) (by omega) hj;rw [e] at h1;have h1':x j<=x i:=by grind
 obtain ⟨m,rfl⟩:∃ m,j=m + 1:=⟨j - 1,by omega⟩;have hn:=ch.new m (by omega);apply hn;refine Z5 (fun a ha=>?_) A8p;rw [ch.at' (m + 1) hj] at ha;cases ha;obtain ⟨b,hb,l⟩:=T7 (ways:=ways) (n:=n) (v:=c (m + 1)) (show i<=m by omega) (x i) (by rw [<- e]; exact ch.at' i (by omega));exact ⟨b,hb,Rat.le_trans h1' l⟩
def fa (f:List (Option Rat)) (v:Nat):Option Rat:=(f[v]?).join
abbrev Bst:=List (Option Rat) × List (Option Wy) × Option Nat
def rlx (s:Bst) (w:Wy):Bst:=match fa s.1 w.1 with
 | none=>s
 | some a=>if upB (fa s.1 w.2.1) (a + w.2.2.1) then (s.1.set w.2.1 (some (a + w.2.2.1)),s.2.1.set w.2.1 (some w),some w.2.1) else s
def strF (ways:List Wy) (s:Bst):Bst:=ways.foldl rlx s
theorem O9 {f:List (Option Rat)} {i v:Nat} {r:Rat} (h:i < f.length):fa (f.set i (some r)) v=if v=i then some r else fa f v:=by
 unfold fa;rw [List.getElem?_set];by_cases e:i=v
 ·subst e; simp [h]
 ·rw [if_neg e,if_neg (fun z=>e z.symm)]
theorem rlx_len {s:Bst} {w:Wy}:(rlx s w).1.length=s.1.length/\(rlx s w).2.1.length=s.2.1.length:=by
 unfold rlx;split
 ·exact ⟨rfl,rfl⟩
 ·split
  ·simp
  ·exact ⟨rfl,rfl⟩
theorem B1w {s:Bst} {w:Wy} (hw:w.2.1 < s.1.length) (v:Nat):ole (fa s.1 v) (fa (rlx s w).1 v):=by
 unfold rlx;split
 ·exact M8 _
 ·rename_i a _;split
  ·rename_i h;rw [show (s.1.set w.2.1 (some (a + w.2.2.1)),s.2.1.set w.2.1 (some w),some w.2.1).1=s.1.set w.2.1 (some (a + w.2.2.1)) from rfl,O9 hw];split
   ·rename_i e;subst e;intro b hb;rw [hb] at h;exact ⟨_,rfl,Rat.le_of_lt (of_decide_eq_true h)⟩
   ·exact M8 _
  ·exact M8 _
theorem B31 {s:Bst} {w:Wy} {a:Rat} (hw:w.2.1 < s.1.length) (ha:fa s.1 w.1=some a):∃ b,fa (rlx s w).1 w.2.1=some b/\a + w.2.2.1<=b:=by
 unfold rlx;rw [ha];dsimp only;split
 ·dsimp only;rw [O9 hw,if_pos rfl]; exact ⟨_,rfl,Rat.le_refl⟩
 ·rename_i h;cases e:fa s.1 w.2.1 with
  | none=>rw [e] at h; exact absurd rfl h
  | some b=>rw [e] at h; exact ⟨b,rfl,Rat.not_lt.mp fun z=>h (decide_eq_true z)⟩
def Kep (ways:List Wy) (g:Nat->Option Rat):Prop:=∀ w ∈ ways,∀ a,g w.1=some a->∃ b,g w.2.1=some b/\a + w.2.2.1<=b
theorem B6t {s:Bst} {w:Wy} {g:Nat->Option Rat} (hw:w.2.1 < s.1.length) (hg:∀ a,g w.1=some a->∃ b,g w.2.1=some b/\a + w.2.2.1<=b) (h:∀ v,ole (fa s.1 v) (g v)):∀ v,ole (fa (rlx s w).1 v) (g v):=by
 intro v;unfold rlx;split
 ·exact h v
 ·rename_i a ha;split
  ·dsimp only;rw [O9 hw];split
   ·rename_i e;subst e;intro b hb;cases hb;obtain ⟨c,hc,l⟩:=h w.1 a ha;obtain ⟨d,hd,l'⟩:=hg c hc;exact ⟨d,hd,by grind⟩
   ·exact h v
  ·exact h v
theorem strF_len {ways:List Wy}:∀ {s:Bst},(strF ways s).1.length=s.1.length/\(strF ways s).2.1.length=s.2.1.length:=by
 induction ways with
 | nil=>exact fun {s}=>⟨rfl,rfl⟩
 | cons w r ih=>exact fun {s}=>⟨(ih (s:=rlx s w)).1.trans rlx_len.1,(ih (s:=rlx s w)).2.trans rlx_len.2⟩
theorem A54 {ways:List Wy}:∀ {s:Bst},(∀ w ∈ ways,w.2.1 < s.1.length)->∀ v,ole (fa s.1 v) (fa (strF ways s).1 v):=by
 induction ways with
 | nil=>exact fun {s} _ v=>M8 _
 | cons w r ih=>exact fun {s} hw v=>N8 (B1w (hw w List.mem_cons_self) v) (ih (s:=rlx s w) (fun x hx=>by rw [rlx_len.1]; exact hw x (List.mem_cons_of_mem _ hx)) v)
theorem A3f {w:Wy} {ways:List Wy}:∀ {s:Bst} {a:Rat},(∀ w ∈ ways,w.2.1 < s.1.length)->w ∈ ways->fa s.1 w.1=some a->∃ b,fa (strF ways s).1 w.2.1=some b/\a + w.2.2.1<=b:=by
 induction ways with
 | nil=>exact fun {s a} _ h=>nomatch h
 | cons x r ih =>
  intro s a hw h ha;have hw':∀ y ∈ r,y.2.1 < (rlx s x).1.length:=fun y hy=>by rw [rlx_len.1]; exact hw y (List.mem_cons_of_mem _ hy)
  rcases List.mem_cons.mp h with rfl | h
  ·obtain ⟨b,hb,l⟩:=B31 (hw w List.mem_cons_self) ha;obtain ⟨c,hc,l'⟩:=A54 hw' w.2.1 b hb;exact ⟨c,hc,Rat.le_trans l l'⟩
  ·obtain ⟨b,hb,l⟩:=B1w (hw x List.mem_cons_self) w.1 a ha;obtain ⟨c,hc,l'⟩:=ih hw' h hb;exact ⟨c,hc,by grind⟩
theorem B3w {g:Nat->Option Rat} {ways:List Wy}:∀ {s:Bst},(∀ w ∈ ways,w.2.1 < s.1.length)->Kep ways g->(∀ v,ole (fa s.1 v) (g v))->∀ v,ole (fa (strF ways s).1 v) (g v):=by
 induction ways with
 | nil=>exact fun {s} _ _ h=>h
 | cons w r ih =>
  intro s hw hg h;exact ih (fun x hx=>by rw [rlx_len.1]; exact hw x (List.mem_cons_of_mem _ hx)) (fun x hx=>hg x (List.mem_cons_of_mem _ hx)) (B6t (hw w List.mem_cons_self) (hg w List.mem_cons_self) h)
theorem A4v {ways:List Wy}:∀ {s:Bst},Kep ways (fa s.1)->strF ways s=s:=by
 induction ways with
 | nil=>exact fun {s} _=>rfl
 | cons w r ih =>
  intro s hg;have e:rlx s w=s:=by
   unfold rlx;split
   ·rfl
   ·rename_i a ha;obtain ⟨b,hb,l⟩:=hg w List.mem_cons_self a ha;rw [hb];exact if_neg (fun z=>absurd (of_decide_eq_true z) (Rat.not_lt.mpr l))
  show strF r (rlx s w)=s;rw [e];exact ih (fun x hx=>hg x (List.mem_cons_of_mem _ hx))
theorem B0g {s:Bst} {w:Wy} (h:(rlx s w).2.2=none):rlx s w=s:=by
 unfold rlx at *;split
 ·rfl
 ·split
  ·rename_i a ha z;rw [ha] at h;dsimp only at h;rw [if_pos z] at h;cases h
  ·rfl
theorem B3v {ways:List Wy}:∀ {s:Bst},(strF ways s).2.2=none->s.2.2=none/\strF ways s=s:=by
 induction ways with
 | nil=>exact fun {s} h=>⟨h,rfl⟩
 | cons w r ih =>
  intro s h;obtain ⟨h1,h2⟩:=ih (s:=rlx s w) h;have e:=B0g h1;rw [e] at h1 h2;exact ⟨h1,by show strF r (rlx s w)=s; rw [e]; exact h2⟩
def bs0 (n:Nat):Bst:=(List.replicate n none++[some 0],List.replicate (n + 1) none,none)
def bsK (ways:List Wy) (n:Nat):Nat->Bst
 | 0=>bs0 n
 | k + 1=>let s:=bsK ways n k; strF ways (s.1,s.2.1,none)
theorem G7 {ways:List Wy} {n:Nat}:∀ k,(bsK ways n k).1.length=n + 1/\(bsK ways n k).2.1.length=n + 1
 | 0=>by simp [bsK,bs0]
 | k + 1=>⟨strF_len.1.trans (G7 k).1,strF_len.2.trans (G7 k).2⟩
theorem fa0 {n v:Nat}:fa (bs0 n).1 v=if v=n then some 0 else none:=by
 unfold fa bs0;dsimp only;rw [List.getElem?_append,List.length_replicate];by_cases h:v < n
 ·rw [if_pos h,if_neg (by omega),List.getElem?_replicate,if_pos h]; rfl
 ·rw [if_neg h];by_cases e:v=n
  ·subst e; simp
  ·rw [if_neg e,List.getElem?_eq_none (by simp; omega)]; rfl
theorem A1x {ways:List Wy} {n:Nat} (hw:∀ w ∈ ways,w.1<=n/\w.2.1<=n):∀ k v,ole (lnK ways n k v) (fa (bsK ways n k).1 v)
 | 0,v=>by rw [show bsK ways n 0=bs0 n from rfl,fa0]; exact M8 _
 | k + 1,v=>by
  have hl:∀ w ∈ ways,w.2.1 < (bsK ways n k).1.length:=fun w h=>by rw [(G7 k).1]; have:=hw w h; omega
  rcases Z8 (g:=lnK ways n k) (v:=v) (ways:=ways) (acc:=lnK ways n k v) with e | ⟨w,hw',h1,a,h2,h3⟩
  ·rw [show lnK ways n (k + 1) v=lnK ways n k v from e];exact N8 (A1x hw k v) (A54 (s:=((bsK ways n k).1,(bsK ways n k).2.1,none)) hl v)
  ·intro c hc;rw [show lnK ways n (k + 1) v=some (a + w.2.2.1) from h3] at hc;cases hc;obtain ⟨b,hb,l⟩:=A1x hw k w.1 a h2;obtain ⟨d,hd,l'⟩:=A3f (s:=((bsK ways n k).1,(bsK ways n k).2.1,none)) hl hw' hb;rw [h1] at hd;exact ⟨d,hd,by grind⟩
theorem A9x {ways:List Wy} {n:Nat} (hw:∀ w ∈ ways,w.1<=n/\w.2.1<=n) {g:Nat->Option Rat} (hg:Kep ways g) (h0:ole (some 0) (g n)):∀ k v,ole (fa (bsK ways n k).1 v) (g v)
 | 0,v=>by
  rw [show bsK ways n 0=bs0 n from rfl,fa0];split
  ·rename_i e; rw [e]; exact h0
  ·exact B0u _
 | k + 1,v=>B3w (s:=((bsK ways n k).1,(bsK ways n k).2.1,none)) (fun w h=>by rw [(G7 k).1]; have:=hw w h; omega) hg (A9x hw hg h0 k) v
theorem B54 {ways:List Wy} {n:Nat} {P:Nat->Rat} (hw:∀ w ∈ ways,w.1<=n/\w.2.1<=n) (hp:Pot ways n P):(bsK ways n (n + 1)).2.2=none:=by
 have hk:Kep ways (lnK ways n n):=fun w h a ha=>by
  obtain ⟨b,hb,l⟩:=A2u (g:=lnK ways n n) (acc:=lnK ways n n w.2.1) rfl ha h;exact ⟨b,(B5o hw hp w.2.1).symm.trans hb,l⟩
 have h0:ole (some 0) (lnK ways n n n):=by
  have:=T7 (ways:=ways) (n:=n) (v:=n) (Nat.zero_le n)
  rwa [show lnK ways n 0 n=some 0 from if_pos rfl] at this
 have e:∀ v,fa (bsK ways n n).1 v=lnK ways n n v:=fun v=>Z5 (A9x hw hk h0 n v) (A1x hw n v);have hs:=A4v (ways:=ways) (s:=((bsK ways n n).1,(bsK ways n n).2.1,none)) (by
  intro w h a ha;dsimp only at ha ⊢;rw [e] at ha ⊢;exact hk w h a ha)
 show (strF ways ((bsK ways n n).1,(bsK ways n n).2.1,none)).2.2=none;rw [hs]
theorem A9w {ways:List Wy} {n k:Nat} (hw:∀ w ∈ ways,w.1<=n/\w.2.1<=n) (h:(bsK ways n (k + 1)).2.2=none):Kep ways (fa (bsK ways n k).1)/\(bsK ways n (k + 1)).1=(bsK ways n k).1:=by
 have hs:=(B3v (ways:=ways) (s:=((bsK ways n k).1,(bsK ways n k).2.1,none)) h).2;have e:(bsK ways n (k + 1)).1=(bsK ways n k).1:=by
  show (strF ways ((bsK ways n k).1,(bsK ways n k).2.1,none)).1=_;rw [hs]
 refine ⟨fun w hw' a ha=>?_,e⟩;obtain ⟨b,hb,l⟩:=A3f (s:=((bsK ways n k).1,(bsK ways n k).2.1,none)) (fun w h=>by rw [(G7 k).1]; have:=hw w h; omega) hw' ha;rw [hs] at hb;exact ⟨b,hb,l⟩
theorem B3l {ways:List Wy} {n k v:Nat} {P:Nat->Rat} {a:Rat} (hw:∀ w ∈ ways,w.1<=n/\w.2.1<=n) (hp:Pot ways n P) (h:fa (bsK ways n k).1 v=some a):a<=P v:=by
 obtain ⟨b,hb,l⟩:=A9x hw (g:=fun v=>some (P v)) (fun w h a ha=>⟨_,rfl,by cases ha; exact hp.2 w h⟩) (by rw [hp.1]; exact M8 _) k v a h;cases hb; exact l
theorem B55 {ways:List Wy} {n k:Nat} {P:Nat->Rat} (hw:∀ w ∈ ways,w.1<=n/\w.2.1<=n) (hp:Pot ways n P):fa (bsK ways n k).1 n=some 0:=by
 have h0:ole (some 0) (fa (bsK ways n k).1 n):=N8 (by
  have:=T7 (ways:=ways) (n:=n) (v:=n) (Nat.zero_le k)
  rwa [show lnK ways n 0 n=some 0 from if_pos rfl] at this) (A1x hw k n)
 obtain ⟨b,hb,l⟩:=h0 0 rfl;have:=B3l hw hp hb;rw [hp.1] at this;rw [hb,Rat.le_antisymm this l]
def wyD (w:Wy):PyData:=.tuple [.int (w.1:Int),.int (w.2.1:Int),dq w.2.2.1,qD w.2.2.2]
def cD:Option Wy->PyData
 | none=>.none
 | some w=>wyD w
def mD:Option Nat->PyData
 | none=>.none
 | some v=>.int (v:Int)
def FB (m:Nat) (f:List (Option Rat)):Prop:=∀ v a,fa f v=some a->On (LL * 4) (m * 2 ^ 60) a
theorem B08 {f:List (Option Rat)} {v:Nat} (h:v < f.length):L2.atI (f.map vD) (v:Int)=some (vD (fa f v)) :=
 G4 (by rw [List.getElem?_map,List.getElem?_eq_getElem h]; unfold fa; rw [List.getElem?_eq_getElem h]; rfl)
theorem FB.rlx {m:Nat} {s:Bst} {w:Wy} (h:FB m s.1) (hw:w.2.1 < s.1.length) (hl:On (LL * 4) (1 * 2 ^ 60) w.2.2.1):FB (m + 1) (rlx s w).1:=by
 unfold Prf.rlx;split
 ·exact fun v a e=>A29 (h v a e) (by omega)
 ·rename_i a ha;split
  ·intro v b e;dsimp only at e;rw [O9 hw] at e;split at e
   ·cases e; exact B6g (by decide) (h _ _ ha) hl (Nat.le_refl _)
   ·exact A29 (h v b e) (by omega)
  ·exact fun v a e=>A29 (h v a e) (by omega)
theorem FB.strF {ways:List Wy}:∀ {m:Nat} {s:Bst},FB m s.1->(∀ w ∈ ways,w.2.1 < s.1.length/\On (LL * 4) (1 * 2 ^ 60) w.2.2.1)->FB (m + ways.length) (strF ways s).1:=by
 induction ways with
 | nil=>exact fun {m s} h _=>h
 | cons w r ih =>
  intro m s h hw;have:=ih (h.rlx (hw w List.mem_cons_self).1 (hw w List.mem_cons_self).2) (fun x hx=>by rw [rlx_len.1]; exact hw x (List.mem_cons_of_mem _ hx));rw [show m + (w :: r).length=m + 1 + r.length by simp; omega];exact this
theorem A55 {ways:List Wy} {w:Wy} {i:Nat} {s:Bst} (h:ways[i]?=some w):strF (ways.take (i + 1)) s=rlx (strF (ways.take i) s) w:=by
 unfold strF;rw [List.take_add_one,h,List.foldl_append]; rfl
theorem A0c {α:Type} {f:α->PyData} {xs:List α} {pg:PyData->PEnv->(PEnv->Prop)->Prop} {pb:PSt} {D:PEnds} {env:PEnv} (Iv:Nat->PEnv->Prop) (h0:Iv 0 env)
  (hs:∀ (i:Nat) a e,xs[i]?=some a->Iv i e->pg (.tuple [.int (i:Int),f a]) e fun e2=>pb ⟨Iv (i + 1),D.rt,D.nx,Iv (i + 1)⟩ e2) (hd:∀ e,Iv xs.length e->D.nx e):A04 (A0e (xs.map f)) pg pb D env:=by
 refine ⟨Iv,h0,fun i x e hx hi=>?_,fun e h=>hd e (by rwa [A1k,List.length_map] at h)⟩;obtain ⟨y,hy,rfl⟩:=A9e hx;rw [List.getElem?_map] at hy;cases ha:xs[i]? with
 | none=>rw [ha] at hy; cases hy
 | some a=>rw [ha] at hy; cases hy; exact hs i a e ha hi
def O4 (q:Rat):Prop:=On (LL * 4) (2 ^ 58) q
theorem O4.q {q:Rat} (h:O4 q):SmQ 3900 q:=unQ (D:=4) (c:=1) (h.mono (by decide)) (by decide) (by decide) (by decide)
theorem O4.un {q:Rat} (h:O4 q):On (LL * 4) (1 * 2 ^ 60) q:=h.mono (by decide)
theorem O4.add {p q:Rat} (h:O4 p) (g:O4 q):On (LL * 4) (1 * 2 ^ 60) (p + q):=(On.add (by decide) h g).mono (by decide)
theorem O4.sub {p q:Rat} (h:O4 p) (g:O4 q):On (LL * 4) (1 * 2 ^ 60) (p - q):=(On.sub (by decide) h g).mono (by decide)
def stW (n:Nat):List Wy:=(List.range n).map fun i=>(n,i,(0:Rat),(("start":Str),(i:Int)))
def enW (n:Nat) (ts:LQ) (W:Rat):List Wy:=ts.zipIdx.map fun z=>(z.2,n,z.1 - W,(("end":Str),(z.2:Int)))
def waW (ts:LQ) (ws:LW):List Wy:=ws.zipIdx.map fun z=>(z.1.1.toNat,z.1.2.1.toNat,rat ts z.1.1 + z.1.2.2,(("wait":Str),(z.2:Int)))
def hoO (ts:LQ) (h:Str × Int × Rat) (k:Nat):Wy:=if h.1="from" then (ts.length,h.2.1.toNat,h.2.2,(("hold":Str),(k:Int))) else if h.1="till" then (h.2.1.toNat,ts.length,0 - h.2.2,(("hold":Str),(k:Int))) else (h.2.1.toNat,ts.length,rat ts h.2.1 - h.2.2,(("hold":Str),(k:Int)))
def hoW (ts:LQ) (hs:LH):List Wy:=hs.zipIdx.map fun z=>hoO ts z.1 z.2
def enO (ts:LQ):Option Rat->List Wy
 | none=>[]
 | some W=>enW ts.length ts W
def J1 (ts:LQ) (ws:LW) (hs:LH) (W:Option Rat):List Wy:=stW ts.length++enO ts W++waW ts ws++hoW ts hs
theorem A15 {α β:Type} (f:α × Nat->β) {xs:List α} {i:Nat} {a:α} (h:xs[i]?=some a):(xs.zipIdx.map f).take (i + 1)=(xs.zipIdx.map f).take i++[f (a,i)]:=by
 rw [List.take_add_one,List.getElem?_map,List.getElem?_zipIdx,h];simp
theorem A5l {α β:Type} (f:α × Nat->β) {xs:List α}:(xs.zipIdx.map f).take xs.length=xs.zipIdx.map f:=List.take_of_length_le (by simp)
structure NOk (ts:LQ) (ws:LW) (hs:LH):Prop where
 n0:1<=ts.length
 n1:ts.length<=10
 wl:ws.length<=40
 hl:hs.length<=40
 t:∀ t ∈ ts,O4 t
 w:∀ w ∈ ws,(0<=w.1/\w.1 < (ts.length:Int))/\(0<=w.2.1/\w.2.1 < (ts.length:Int))/\O4 w.2.2
 h:∀ h ∈ hs,Hk h.1/\(0<=h.2.1/\h.2.1 < (ts.length:Int))/\O4 h.2.2
def NetB (t:OT) (ws:LW) (hs:LH):Prop:=∃ u1 u2,t.part 1=some u1/\u1.sv=.bor (ws.map wD)/\t.part 2=some u2/\u2.sv=.bor (hs.map hD)
theorem NetB.leaf {xs:List Wk} {ws:LW} {hs:LH} {gs:LP}:NetB (.leaf (netD xs ws hs gs)) ws hs:=⟨_,_,rfl,rfl,rfl,rfl⟩
theorem A2t {A T T':List Wy} {w:Wy} (h:T'=T++[w]):(A++T').map wyD=(A++T).map wyD++[wyD w]:=by rw [h,<- List.append_assoc,List.map_append]; rfl
theorem Y8 {n:Nat}:(stW n).length=n:=by simp [stW]
theorem A2x {ts:LQ} {W:Option Rat}:(enO ts W).length<=ts.length:=by cases W <;> simp [enO,enW]
theorem A5q {ts:LQ} {ws:LW}:(waW ts ws).length=ws.length:=by simp [waW]
theorem B5t {ts:LQ} {hs:LH}:(hoW ts hs).length=hs.length:=by simp [hoW]
theorem T9 {ts:LQ} {ws:LW} {hs:LH} {W:Option Rat} (ok:NOk ts ws hs):(J1 ts ws hs W).length<=100:=by
 have:=ok.n1;have:=ok.wl;have:=ok.hl;have:=A2x (ts:=ts) (W:=W);unfold J1;rw [List.length_append,List.length_append,List.length_append,Y8,A5q,B5t];omega
theorem W4 {α β:Type} {f:α × Nat->β} {xs:List α} {b:β} (h:b ∈ xs.zipIdx.map f):∃ a i,xs[i]?=some a/\b=f (a,i):=by
 obtain ⟨⟨a,i⟩,hz,rfl⟩:=List.mem_map.mp h;exact ⟨a,i,List.mem_zipIdx_iff_getElem?.mp hz,rfl⟩
theorem S8 {ts:LQ} {ws:LW} {hs:LH} {W:Option Rat} (ok:NOk ts ws hs) (hW:∀ w,W=some w->O4 w):∀ w ∈ J1 ts ws hs W,w.1<=ts.length/\w.2.1<=ts.length/\On (LL * 4) (1 * 2 ^ 60) w.2.2.1:=fun w hw=>by
 unfold J1 at hw;rcases List.mem_append.mp hw with hw | hw
 ·rcases List.mem_append.mp hw with hw | hw
  ·rcases List.mem_append.mp hw with hw | hw
   ·obtain ⟨i,hi,rfl⟩:=List.mem_map.mp hw;rw [List.mem_range] at hi;exact ⟨Nat.le_refl _,by show i<=_; omega,On.zero.mono (Nat.zero_le _)⟩
   ·cases W with
    | none=>cases hw
    | some W =>
     obtain ⟨q,i,hi,rfl⟩:=W4 hw;have:=(List.getElem?_eq_some_iff.mp hi).1;exact ⟨by show i<=_; omega,Nat.le_refl _,(ok.t q (List.mem_of_getElem? hi)).sub (hW W rfl)⟩
  ·obtain ⟨x,i,hi,rfl⟩:=W4 hw;obtain ⟨a,b,c⟩:=ok.w x (List.mem_of_getElem? hi);exact ⟨by show x.1.toNat<=_; omega,by show x.2.1.toNat<=_; omega,(ok.t _ (U4 a.1 a.2)).add c⟩
 ·obtain ⟨x,i,hi,rfl⟩:=W4 hw;obtain ⟨a,b,c⟩:=ok.h x (List.mem_of_getElem? hi);have hx:x.2.1.toNat<=ts.length:=by omega
  show (hoO ts x i).1<=_/\(hoO ts x i).2.1<=_/\On _ _ (hoO ts x i).2.2.1;unfold hoO;split
  ·exact ⟨Nat.le_refl _,hx,c.un⟩
  ·split
   ·refine ⟨hx,Nat.le_refl _,?_⟩;show On _ _ (0 - x.2.2);rw [Rat.sub_eq_add_neg,Rat.zero_add];exact c.un.neg
   ·exact ⟨hx,Nat.le_refl _,(ok.t _ (U4 b.1 b.2)).sub c⟩
def kst (ways:List Wy) (n:Nat):Option Nat:=(List.range (n + 1)).find? fun k=>(bsK ways n (k + 1)).2.2.isNone
theorem A9y {ways:List Wy} {n:Nat} (hw:∀ w ∈ ways,w.1<=n/\w.2.1<=n/\On (LL * 4) (1 * 2 ^ 60) w.2.2.1):∀ k,FB (k * ways.length) (bsK ways n k).1
 | 0=>fun v a h=>by
  rw [show bsK ways n 0=bs0 n from rfl,fa0] at h;split at h
  ·cases h; exact On.zero.mono (Nat.zero_le _)
  ·cases h
 | k + 1=>by
  have:=FB.strF (ways:=ways) (s:=((bsK ways n k).1,(bsK ways n k).2.1,none)) (A9y hw k) (fun w h=>⟨by rw [(G7 k).1]; have:=hw w h; omega,(hw w h).2.2⟩);rw [show (k + 1) * ways.length=k * ways.length + ways.length by rw [Nat.add_mul,Nat.one_mul]];exact this
theorem A98 {α β:Type} {f:α × Nat->β} {xs:List α} {a:α} {i:Nat} (h:xs[i]?=some a):f (a,i) ∈ xs.zipIdx.map f:=List.mem_map.mpr ⟨(a,i),List.mem_zipIdx_iff_getElem?.mpr h,rfl⟩
structure Kps (ws:LW) (hs:LH) (ps:LR) (W:Option Rat):Prop where
 s:∀ p ∈ ps,0<=p.1
 w:∀ w ∈ ws,0<=wSl ps w
 h:∀ h ∈ hs,0<=hSl ps h
 e:∀ V,W=some V->∀ p ∈ ps,enD p<=V
def pvS (ps:LR) (v:Nat):Rat:=(ps.getD v (0,0)).1
theorem Z0 {ps:LR} {o:Int}:rat (ps.map (·.2)) o=(sat ps o).2:=by
 unfold rat sat;rw [List.getD_eq_getElem?_getD,List.getD_eq_getElem?_getD,List.getElem?_map];cases ps[o.toNat]? <;> rfl
theorem Q0 {ps:LR}:pvS ps ps.length=0:=by unfold pvS; rw [List.getD_eq_getElem?_getD,List.getElem?_eq_none (Nat.le_refl _)]; rfl
theorem B0j {ps:LR} {i:Nat} {p:Rat × Rat} (h:ps[i]?=some p):pvS ps i=p.1:=by unfold pvS; rw [List.getD_eq_getElem?_getD,h]; rfl
theorem Kps.of {ws:LW} {hs:LH} {ps:LR} {W:Option Rat} (h:Pot (J1 (ps.map (·.2)) ws hs W) ps.length (pvS ps)):Kps ws hs ps W:=by
 obtain ⟨_,h⟩:=h;have e2:∀ o:Int,pvS ps o.toNat=(sat ps o).1:=fun _=>rfl;refine ⟨fun p hp=>?_,fun x hx=>?_,fun x hx=>?_,fun V hV p hp=>?_⟩
 ·obtain ⟨i,hi,e⟩:=List.getElem_of_mem hp;have:=h _ (List.mem_append_left _ (List.mem_append_left _ (List.mem_append_left _ (List.mem_map.mpr ⟨i,List.mem_range.mpr (by rw [List.length_map]; exact hi),rfl⟩))));rw [show pvS ps ((ps.map (·.2)).length,i,(0:Rat),(("start":Str),(i:Int))).1=0 by show pvS ps (ps.map (·.2)).length=0; rw [List.length_map,Q0],show pvS ps ((ps.map (·.2)).length,i,(0:Rat),(("start":Str),(i:Int))).2.1=p.1 from B0j (by rw [List.getElem?_eq_getElem hi,e])] at this;rw [Rat.zero_add] at this;exact this
 ·obtain ⟨i,hi,e⟩:=List.getElem_of_mem hx;have:=h _ (List.mem_append_left _ (List.mem_append_right _ (A98 (f:=fun z:(Int × Int × Rat) × Nat=>((z.1.1.toNat,z.1.2.1.toNat,rat (ps.map (·.2)) z.1.1 + z.1.2.2,(("wait":Str),(z.2:Int))):Wy)) (by rw [List.getElem?_eq_getElem hi,e]))));dsimp only at this;rw [e2,e2,Z0] at this;unfold wSl enD;grind
 ·obtain ⟨i,hi,e⟩:=List.getElem_of_mem hx;have:=h _ (List.mem_append_right _ (A98 (f:=fun z:(Str × Int × Rat) × Nat=>hoO (ps.map (·.2)) z.1 z.2) (by rw [List.getElem?_eq_getElem hi,e])));dsimp only at this;unfold hSl;unfold hoO at this;split
  ·rename_i z;rw [if_pos z] at this;dsimp only at this;rw [List.length_map,Q0,e2] at this;grind
  ·rename_i z;rw [if_neg z] at this;split
   ·rename_i z;rw [if_pos z] at this;dsimp only at this;rw [List.length_map,Q0,e2] at this;grind
   ·rename_i z;rw [if_neg z] at this;dsimp only at this;rw [List.length_map,Q0,e2,Z0] at this;unfold enD;grind
 ·subst hV;obtain ⟨i,hi,e⟩:=List.getElem_of_mem hp;have:=h _ (List.mem_append_left _ (List.mem_append_left _ (List.mem_append_right _ (A98 (f:=fun z:Rat × Nat=>((z.2,(ps.map (·.2)).length,z.1 - V,(("end":Str),(z.2:Int))):Wy)) (a:=p.2) (i:=i) (by rw [List.getElem?_map,List.getElem?_eq_getElem hi,e]; rfl)))));dsimp only at this;rw [List.length_map,Q0,B0j (by rw [List.getElem?_eq_getElem hi,e])] at this;unfold enD;grind
def swp (w:Wy):Wy:=(w.2.1,w.1,w.2.2)
def bkL (ts:LQ) (ws:LW) (hs:LH) (W:Rat):List Wy:=(J1 ts ws hs (some W)).map swp
theorem A5o {ts:LQ} {ws:LW} {hs:LH} {W:Option Rat}:∀ w ∈ J1 ts ws hs none,w ∈ J1 ts ws hs W:=fun w hw=>by
 unfold J1 at hw ⊢;rw [show enO ts none=[] from rfl,List.append_nil] at hw;rcases List.mem_append.mp hw with hw | hw
 ·rcases List.mem_append.mp hw with hw | hw
  ·exact List.mem_append_left _ (List.mem_append_left _ (List.mem_append_left _ hw))
  ·exact List.mem_append_left _ (List.mem_append_right _ hw)
 ·exact List.mem_append_right _ hw
theorem A4b {ways:List Wy} {n:Nat} {P:Nat->Rat} (hw:∀ w ∈ ways,w.1<=n/\w.2.1<=n) (hp:Pot ways n P):∃ k,kst ways n=some k:=by
 cases h:kst ways n with
 | some k=>exact ⟨k,rfl⟩
 | none =>
  unfold kst at h;rw [List.find?_eq_none] at h;have:=h n (List.mem_range.mpr (by omega));rw [B54 hw hp] at this;exact absurd rfl this
theorem A4c {ways:List Wy} {n k:Nat} (h:kst ways n=some k):(bsK ways n (k + 1)).2.2=none/\k<=n:=by
 unfold kst at h;rw [List.find?_range_eq_some] at h;obtain ⟨h1,h2,_⟩:=h;rw [List.mem_range] at h2;exact ⟨Option.isNone_iff_eq_none.mp h1,by omega⟩
def farS (ways:List Wy) (n:Nat):List (Option Rat):=(bsK ways n ((kst ways n).getD 0)).1
theorem A2w {ways:List Wy} {n k:Nat} (h:kst ways n=some k):farS ways n=(bsK ways n k).1:=by unfold farS; rw [h]; rfl
structure Fars (ways:List Wy) (n:Nat) (f:List (Option Rat)):Prop where
 ln:f.length=n + 1
 fx:Kep ways (fa f)
 rt:fa f n=some 0
 le:∀ P,Pot ways n P->∀ v a,fa f v=some a->a<=P v
 fb:FB 1000 f
theorem A9c {ways:List Wy} {n:Nat} {P:Nat->Rat} (hw:∀ w ∈ ways,w.1<=n/\w.2.1<=n/\On (LL * 4) (1 * 2 ^ 60) w.2.2.1) (hp:Pot ways n P) (hl:ways.length<=100) (hn:n<=10):Fars ways n (farS ways n):=by
 have hw':∀ w ∈ ways,w.1<=n/\w.2.1<=n:=fun w h=>⟨(hw w h).1,(hw w h).2.1⟩;obtain ⟨k,hk⟩:=A4b hw' hp;obtain ⟨h1,h2⟩:=A4c hk;rw [A2w hk];exact ⟨(G7 k).1,(A9w hw' h1).1,B55 hw' hp,fun Q hQ v a h=>B3l hw' hQ h,fun v a h=>A29 (A9y hw k v a h) (by have:=Nat.mul_le_mul (show k<=10 by omega) hl; omega)⟩
def latS (ts:LQ) (ws:LW) (hs:LH) (W:Rat):LQ:=((farS (bkL ts ws hs W) ts.length).take ts.length).map fun x=>0 - x.getD 0
theorem B3m {ts:LQ} {ws:LW} {hs:LH} {W:Rat} (ok:NOk ts ws hs) (hW:O4 W):∀ w ∈ bkL ts ws hs W,w.1<=ts.length/\w.2.1<=ts.length/\On (LL * 4) (1 * 2 ^ 60) w.2.2.1:=fun w hw=>by
 obtain ⟨x,hx,rfl⟩:=List.mem_map.mp hw;obtain ⟨a,b,c⟩:=S8 ok (W:=some W) (fun _ e=>by cases e; exact hW) x hx;exact ⟨b,a,c⟩
theorem A21 {ts:LQ} {ws:LW} {hs:LH} {W:Rat} {f:List (Option Rat)} (h:Fars (bkL ts ws hs W) ts.length f) {v:Nat} (hv:v < ts.length):∃ a,fa f v=some a:=by
 have hm:(ts.length,v,ts[v] - W,(("end":Str),(v:Int))) ∈ bkL ts ws hs W:=List.mem_map.mpr ⟨(v,ts.length,ts[v] - W,(("end":Str),(v:Int))),List.mem_append_left _ (List.mem_append_left _ (List.mem_append_right _ (A98 (f:=fun z:Rat × Nat=>((z.2,ts.length,z.1 - W,(("end":Str),(z.2:Int))):Wy)) (List.getElem?_eq_getElem hv)))),rfl⟩;obtain ⟨b,hb,_⟩:=h.fx _ hm 0 h.rt;exact ⟨b,hb⟩
theorem B50 {ts:LQ} {ws:LW} {hs:LH} {W:Option Rat} {f:List (Option Rat)} (h:Fars (J1 ts ws hs W) ts.length f) {v:Nat} (hv:v < ts.length):∃ a,fa f v=some a:=by
 have hm:(ts.length,v,(0:Rat),(("start":Str),(v:Int))) ∈ J1 ts ws hs W:=List.mem_append_left _ (List.mem_append_left _ (List.mem_append_left _ (List.mem_map.mpr ⟨v,List.mem_range.mpr hv,rfl⟩)));obtain ⟨b,hb,_⟩:=h.fx _ hm 0 h.rt;exact ⟨b,hb⟩
theorem A5y {f:List (Option Rat)} {n:Nat} (hl:n<=f.length) (h:∀ v,v < n->∃ a,fa f v=some a):(f.take n).map vD=((f.take n).map fun x=>x.getD 0).map dq:=by
 rw [List.map_map];refine List.map_congr_left fun x hx=>?_;obtain ⟨i,hi,e⟩:=List.getElem_of_mem hx;rw [List.length_take] at hi;rw [List.getElem_take] at e;obtain ⟨a,ha⟩:=h i (by omega);unfold fa at ha;rw [List.getElem?_eq_getElem (by omega),e] at ha;rw [show x=some a from ha];rfl
structure PSz (B a:Nat) (ws:LW) (hs:LH) (ps:LR):Prop where
 b0:0 < B
 b1:B<=2 ^ 1000
 a1:a<=900
 ln:ps.length<=10
 wl:ws.length<=40
 hl:hs.length<=40
 p:∀ p ∈ ps,On B (2 ^ a) p.1/\On B (2 ^ a) p.2
 w:∀ w ∈ ws,(0<=w.1/\w.1 < (ps.length:Int))/\(0<=w.2.1/\w.2.1 < (ps.length:Int))/\On B (2 ^ a) w.2.2
 h:∀ h ∈ hs,Hk h.1/\(0<=h.2.1/\h.2.1 < (ps.length:Int))/\On B (2 ^ a) h.2.2
theorem onB {B a:Nat} {q:Rat} (h:On B (2 ^ a) q) (hB:0 < B) (hb:B<=2 ^ 1000) (g:a<=1000):SmQ 3900 q:=onQ h hB hb (Nat.pow_le_pow_right (by decide) g)
section
variable {B a:Nat} {ws:LW} {hs:LH} {ps:LR}
theorem PSz.sm (ok:PSz B a ws hs ps) {b:Nat} {q:Rat} (h:On B (2 ^ b) q) (g:b<=a + 10):SmQ 3900 q:=onB h ok.b0 ok.b1 (by have:=ok.a1; omega)
theorem PSz.st (ok:PSz B a ws hs ps) {o:Int} (h0:0<=o) (h1:o < (ps.length:Int)):On B (2 ^ a) (sat ps o).1/\On B (2 ^ a) (sat ps o).2/\On B (2 ^ (a + 1)) (enD (sat ps o)) :=
 let z:=ok.p _ (A6d h0 h1)
 ⟨z.1,z.2,z.1.add2 ok.b0 z.2 (Nat.le_refl _)⟩
theorem PSz.pl (ok:PSz B a ws hs ps) {o:Int} (h0:0<=o) (h1:o < (ps.length:Int)):PlSm (sat ps o) :=
 let ⟨x,y,z⟩:=ok.st h0 h1
 ⟨ok.sm x (by omega),ok.sm y (by omega),ok.sm z (by omega)⟩
theorem PSz.wS (ok:PSz B a ws hs ps) {w:Int × Int × Rat} (hw:w ∈ ws):On B (2 ^ (a + 3)) (wSl ps w)/\On B (2 ^ (a + 2)) (enD (sat ps w.1) + w.2.2):=by
 obtain ⟨x,y,z⟩:=ok.w w hw;have e:=(ok.st x.1 x.2).2.2.add2 ok.b0 (z.p2 (by omega)) (show a + 1 + 1<=a + 2 by omega);exact ⟨((ok.st y.1 y.2).1.p2 (by omega)).sub2 ok.b0 e (by omega),e⟩
end
theorem A0a {ts:LQ} {ws:LW} {hs:LH} {W:Rat} (h:Fars (bkL ts ws hs W) ts.length (farS (bkL ts ws hs W) ts.length)):(latS ts ws hs W).length=ts.length:=by
 unfold latS;rw [List.length_map,List.length_take,h.ln]; omega
theorem A8w {ts:LQ} {ws:LW} {hs:LH} {W:Rat} (h:Fars (bkL ts ws hs W) ts.length (farS (bkL ts ws hs W) ts.length)) {v:Nat} (hv:v < ts.length):∃ a,fa (farS (bkL ts ws hs W) ts.length) v=some a/\(latS ts ws hs W)[v]?=some (0 - a):=by
 obtain ⟨a,ha⟩:=A21 h hv;refine ⟨a,ha,?_⟩;unfold latS;rw [List.getElem?_map,List.getElem?_take,if_pos hv];unfold fa at ha;cases e:(farS (bkL ts ws hs W) ts.length)[v]? with
 | none=>rw [e] at ha; cases ha
 | some x=>rw [e] at ha; rw [show x=some a from ha]; rfl
theorem A8v {ts:LQ} {ws:LW} {hs:LH} {W:Rat} (h:Fars (bkL ts ws hs W) ts.length (farS (bkL ts ws hs W) ts.length)):∀ q ∈ latS ts ws hs W,On (LL * 4) (2 ^ 70) q:=fun q hq=>by
 obtain ⟨i,hi,e⟩:=List.getElem_of_mem hq;obtain ⟨a,ha,e2⟩:=A8w h (v:=i) (by rw [<- A0a h]; exact hi);rw [List.getElem?_eq_getElem hi,e] at e2;rw [Option.some.inj e2,Rat.sub_eq_add_neg,Rat.zero_add];exact ((h.fb i a ha).mono (by decide)).neg
theorem B1y {ps:LR} {o:Int}:rat (ps.map enD) o=enD (sat ps o):=by
 unfold rat sat;rw [List.getD_eq_getElem?_getD,List.getD_eq_getElem?_getD,List.getElem?_map];cases ps[o.toNat]? with
 | none=>show (0:Rat)=0 + 0; rw [Rat.add_zero]
 | some p=>rfl
section
variable {ws:LW} {hs:LH} {ps:LR} {W x:Rat} {i:Nat}
def lpl (ws:LW) (hs:LH) (ps:LR) (W:Rat):LR:=ps.zipIdx.map fun z=>(rat (latS (ps.map (·.2)) ws hs W) (z.2:Int),z.1.2)
theorem K9:(lpl ws hs ps W).length=ps.length:=by unfold lpl; simp
theorem A37 {j:Nat} {p:Rat × Rat} (h:ps[j]?=some p):(lpl ws hs ps W)[j]?=some (rat (latS (ps.map (·.2)) ws hs W) (j:Int),p.2):=by
 unfold lpl;rw [List.getElem?_map,List.getElem?_zipIdx,h]; simp
theorem Z7:(lpl ws hs ps W).map (·.2)=ps.map (·.2):=by
 refine List.ext_getElem? fun j=>?_;rw [List.getElem?_map,List.getElem?_map];cases h:ps[j]? with
 | none=>rw [List.getElem?_eq_none (by rw [K9]; exact List.getElem?_eq_none_iff.mp h)]
 | some p=>rw [A37 h]; rfl
theorem A8n (fo:Fars (bkL (ps.map (·.2)) ws hs W) (ps.map (·.2)).length (farS (bkL (ps.map (·.2)) ws hs W) (ps.map (·.2)).length)) {v:Nat} (hv:v<=ps.length):∃ a,fa (farS (bkL (ps.map (·.2)) ws hs W) (ps.map (·.2)).length) v=some a/\pvS (lpl ws hs ps W) v=0 - a:=by
 rcases Nat.lt_or_ge v ps.length with h | h
 ·obtain ⟨a,ha,hl⟩:=A8w fo (v:=v) (by rw [List.length_map]; exact h);refine ⟨a,ha,?_⟩;rw [B0j (A37 (List.getElem?_eq_getElem h))];show rat (latS (ps.map (·.2)) ws hs W) (v:Int)=0 - a;unfold rat;rw [List.getD_eq_getElem?_getD,Int.toNat_natCast,hl]; rfl
 ·rw [show v=ps.length by omega];refine ⟨0,by rw [<- List.length_map (f:=fun p:Rat × Rat=>p.2)]; exact fo.rt,?_⟩;rw [<- K9 (ws:=ws) (hs:=hs) (ps:=ps) (W:=W),Q0]; grind
theorem B5m (fo:Fars (bkL (ps.map (·.2)) ws hs W) (ps.map (·.2)).length (farS (bkL (ps.map (·.2)) ws hs W) (ps.map (·.2)).length)) (hw:∀ w ∈ J1 (ps.map (·.2)) ws hs (some W),w.1<=ps.length/\w.2.1<=ps.length):Kps ws hs (lpl ws hs ps W) (some W):=by
 refine Kps.of ?_;rw [Z7,K9];refine ⟨by rw [<- K9 (ws:=ws) (hs:=hs) (ps:=ps) (W:=W),Q0],fun w h=>?_⟩;obtain ⟨h1,h2⟩:=hw w h;obtain ⟨a,ha,ea⟩:=A8n fo h1;obtain ⟨b,hb,eb⟩:=A8n fo h2;obtain ⟨c,hc,l⟩:=fo.fx (swp w) (List.mem_map.mpr ⟨w,h,rfl⟩) b hb;have hc':fa (farS (bkL (ps.map (·.2)) ws hs W) (ps.map (·.2)).length) w.1=some c:=hc;rw [ha] at hc';cases hc';have l':b + w.2.2.1<=a:=l;rw [ea,eb];grind
end
theorem A26:LL * 4<=2 ^ 100:=by decide +kernel
theorem O2 {B a:Nat} (h:B<=2 ^ a) (g:a<=1000):B<=2 ^ 1000:=Nat.le_trans h (Nat.pow_le_pow_right (by decide) g)
theorem kz3:∀ z ∈ [("straight":Str),"straight","steps"],Kd z:=fun z hz=>by
 simp only [List.mem_cons,List.not_mem_nil,or_false] at hz;rcases hz with rfl | rfl | rfl
 ·exact .inl rfl
 ·exact .inl rfl
 ·exact .inr rfl
theorem P1 {ps:LR} {i:Nat} (h:i < ps.length):ps[i]?=some (sat ps (i:Int)):=by
 unfold sat;rw [List.getD_eq_getElem?_getD,Int.toNat_natCast,List.getElem?_eq_getElem h]; rfl
mutual
inductive CpB (b:Bool):PyData->OT->Prop
 | non:CpB b .none (.leaf .none)
 | bl (z:Bool):CpB b (.bool z) (.leaf (.bool z))
 | int (i:Int):CpB b (.int i) (.leaf (.int i))
 | str (s:Str):CpB b (.str s) (.leaf (.str s))
 | lst {xs:LP} {ks:List OT} {a:Addr}:CpsB b xs ks->CpB b (.list xs) (.nd true a (kids ks))
 | tupL {xs ys:LP} {ks:List OT}:b=false->CpsB b xs ks->(kids ks).lvs=some ys->CpB b (.tuple xs) (.leaf (.tuple ys))
 | tupN {xs:LP} {ks:List OT} {a:Addr}:CpsB b xs ks->(b=true\/(kids ks).lvs=none)->CpB b (.tuple xs) (.nd false a (kids ks))
inductive CpsB (b:Bool):LP->List OT->Prop
 | nil:CpsB b [] []
 | cons {x:PyData} {t:OT} {xs:LP} {ts:List OT}:CpB b x t->CpsB b xs ts->CpsB b (x :: xs) (t :: ts)
end
abbrev Cp:=CpB false
abbrev Cps:=CpsB false
theorem B5l:∀ {t:OT} {xs:LP},t.lvs=some xs->t.dat=xs:=fun {t xs} h=>by rw [M4 h,O1]
mutual
theorem CpB.dat {b:Bool}:∀ {x:PyData} {t:OT},CpB b x t->t.dat=[x]
 | _,_,.non=>rfl
 | _,_,.bl _=>rfl
 | _,_,.int _=>rfl
 | _,_,.str _=>rfl
 | _,_,.lst h=>by show [PyData.list _]=_; rw [CpsB.dat h]
 | _,_,.tupL _ h e=>by
  have:=CpsB.dat h;rw [B5l e] at this;rw [this]; rfl
 | _,_,.tupN h _=>by show [PyData.tuple _]=_; rw [CpsB.dat h]
theorem CpsB.dat {b:Bool}:∀ {xs:LP} {ks:List OT},CpsB b xs ks->(kids ks).dat=xs
 | _,_,.nil=>rfl
 | _,_,.cons (xs:=r) h t=>by
  show OT.dat _++(kids _).dat=_;rw [CpB.dat h,CpsB.dat t]; rfl
end
mutual
theorem CpB.atoms:∀ {x:PyData} {t:OT},CpB true x t->t.atoms=true
 | _,_,.non=>rfl
 | _,_,.bl _=>rfl
 | _,_,.int _=>rfl
 | _,_,.str _=>rfl
 | _,_,.lst h=>CpsB.atoms h
 | _,_,.tupL e _ _=>nomatch e
 | _,_,.tupN h _=>CpsB.atoms h
theorem CpsB.atoms:∀ {xs:LP} {ks:List OT},CpsB true xs ks->(kids ks).atoms=true
 | _,_,.nil=>rfl
 | _,_,.cons h t=>by
  show (OT.atoms _ && OT.atoms _)=true;rw [CpB.atoms h,CpsB.atoms t]; rfl
end
theorem CpsB.snoc {b:Bool} {x:PyData} {t:OT} (h:CpB b x t):∀ {xs:LP} {ts:List OT},CpsB b xs ts->CpsB b (xs++[x]) (ts++[t])
 | _,_,.nil=>.cons h .nil
 | _,_,.cons a b=>.cons a (CpsB.snoc h b)
theorem S1 {α:Type} {f:α->PyData} (h:∀ x t,Cp (f x) t->t=.leaf (f x)):∀ {xs:List α} {ks:List OT},Cps (xs.map f) ks->kids ks=C5 (xs.map f)
 | [],_,.nil=>rfl
 | x :: r,_,.cons a b=>by
  show OT.cons _ (kids _)=.cons (.leaf (f x)) (C5 (r.map f));rw [h x _ a,S1 h b]
theorem A1n {i:Int} {t:OT} (h:Cp (.int i) t):t=.leaf (.int i):=by cases h; rfl
theorem B89 {s:Str} {t:OT} (h:Cp (.str s) t):t=.leaf (.str s):=by cases h; rfl
theorem A9k {xs:LP} {t:OT} (h:Cp (.tuple xs) t) (hx:∀ ks,Cps xs ks->kids ks=C5 xs):t=.leaf (.tuple xs):=by
 cases h with
 | tupL _ h e=>rw [hx _ h,O0] at e; cases e; rfl
 | tupN h e=>rw [hx _ h,O0] at e; exact e.elim (fun z=>nomatch z) (fun z=>nomatch z)
theorem B9b (q:Rat) (t:OT) (h:Cp (dq q) t):t=.leaf (dq q):=A9k h fun ks hk=>by
 cases hk with | cons a hk=>cases hk with | cons b hk=>cases hk; rw [A1n a,A1n b]; rfl
theorem B95 (c:Int × Int × Rat) (t:OT) (h:Cp (wD c) t):t=.leaf (wD c):=A9k h fun ks hk=>by
 cases hk with | cons a hk=>cases hk with | cons b hk=>cases hk with | cons d hk=>cases hk; rw [A1n a,A1n b,B9b _ _ d]; rfl
theorem B96 (c:Str × Int × Rat) (t:OT) (h:Cp (hD c) t):t=.leaf (hD c):=A9k h fun ks hk=>by
 cases hk with | cons a hk=>cases hk with | cons b hk=>cases hk with | cons d hk=>cases hk; rw [B89 a,A1n b,B9b _ _ d]; rfl
theorem B9a {xs:List Wk} {ws:LW} {hs:LH} {gs:LP} {t:OT} (h:Cp (netD xs ws hs gs) t):∃ a a1 k1 a2 a3 a4 k4,t=.nd false a (.cons (.nd true a1 k1) (.cons (.nd true a2 (C5 (ws.map wD))) (.cons (.nd true a3 (C5 (hs.map hD))) (.cons (.nd true a4 k4) .nil)))):=by
 have key:∀ ks,Cps [.list (xs.map kD),.list (ws.map wD),.list (hs.map hD),.list gs] ks->∃ a1 k1 a2 a3 a4 k4,kids ks=.cons (.nd true a1 k1) (.cons (.nd true a2 (C5 (ws.map wD))) (.cons (.nd true a3 (C5 (hs.map hD))) (.cons (.nd true a4 k4) .nil))):=fun ks hk=>by
  cases hk with | cons a hk=>cases hk with | cons b hk=>cases hk with | cons c hk=>cases hk with | cons d hk =>
  cases hk;cases a with | lst a =>
  cases b with | lst b =>
  cases c with | lst c =>
  cases d with | lst d =>
  exact ⟨_,_,_,_,_,_,by show OT.cons _ (.cons _ (.cons _ (.cons _ .nil)))=_; rw [S1 B95 b,S1 B96 c]⟩
 cases h with
 | tupL _ h e =>
  obtain ⟨_,_,_,_,_,_,ek⟩:=key _ h;rw [ek] at e; cases e
 | tupN h e =>
  obtain ⟨a1,k1,a2,a3,a4,k4,ek⟩:=key _ h;exact ⟨_,a1,k1,a2,a3,a4,k4,by rw [ek]⟩
def OT.out:OT->SV
 | .leaf x=>.d x
 | t=>.tr t
theorem B2n {t:OT} {k:OT->Prop} (h:k t):(OT.out t).ot k:=by cases t <;> exact h
def A6p (n:Nat):PSp:=fun as Q=>∃ (b:Bool) (x:PyData),as=[.d x]/\okA n x/\∀ t,CpB b x t->Q (OT.out t)
theorem A5e {xs:LP} {ks:List OT} {p:Addr} (h:Cps xs ks):∃ t,Cp (.tuple xs) t/\OT.tup p (kids ks)=OT.out t:=by
 cases e:(kids ks).lvs with
 | none=>exact ⟨_,.tupN h (.inr e) (a:=p),by unfold OT.tup; rw [e]; rfl⟩
 | some ys=>exact ⟨_,.tupL rfl h e,by unfold OT.tup; rw [e]; rfl⟩
theorem B7z (c:Int × Int × Rat) (n:Nat):okA (n + 2) (wD c):=by
 unfold wD okA;refine ⟨Nat.le_of_ble_eq_true rfl,fun x hx=>?_⟩;simp only [List.mem_cons,List.not_mem_nil,or_false] at hx;rcases hx with rfl | rfl | rfl
 ·unfold okA; exact True.intro
 ·unfold okA; exact True.intro
 ·exact A1d _ _
theorem V2 {z:Str} (h:(PyData.str z).canLay0=true) (n:Nat):okA n (.str z):=by cases n <;> exact h
theorem B72 {c:Str × Int × Rat} (h:Hk c.1) (n:Nat):okA (n + 2) (hD c):=by
 unfold hD okA;refine ⟨Nat.le_of_ble_eq_true rfl,fun x hx=>?_⟩;simp only [List.mem_cons,List.not_mem_nil,or_false] at hx;rcases hx with rfl | rfl | rfl
 ·exact V2 h.lay _
 ·unfold okA; exact True.intro
 ·exact A1d _ _
theorem B71 {x:Wk} (h1:(PyData.str x.1).canLay0=true) (h2:Kd x.2.1) (h3:x.2.2.length < 1000) (n:Nat):okA (n + 5) (kD x):=by
 rw [show kD x=PyData.tuple [.str x.1,.tuple [.str x.2.1,.list (x.2.2.map dcn)]] from rfl];unfold okA;refine ⟨Nat.le_of_ble_eq_true rfl,fun y hy=>?_⟩;simp only [List.mem_cons,List.not_mem_nil,or_false] at hy;rcases hy with rfl | rfl
 ·exact V2 h1 _
 ·unfold okA;refine ⟨Nat.le_of_ble_eq_true rfl,fun z hz=>?_⟩;simp only [List.mem_cons,List.not_mem_nil,or_false] at hz;rcases hz with rfl | rfl
  ·exact V2 h2.lay _
  ·exact B75 h3 n
theorem B5c {xs:List Wk} {ws:LW} {hs:LH} {gs:LP} (h1:∀ x ∈ xs,(PyData.str x.1).canLay0=true/\Kd x.2.1/\x.2.2.length < 1000) (hl:xs.length < 1000) (hw:ws.length < 1000) (hh:hs.length < 1000) (hk:∀ h ∈ hs,Hk h.1) (hg:okA 7 (.list gs)):okA 8 (netD xs ws hs gs):=by
 unfold netD okA;refine ⟨Nat.le_of_ble_eq_true rfl,fun y hy=>?_⟩;simp only [List.mem_cons,List.not_mem_nil,or_false] at hy;rcases hy with rfl | rfl | rfl | rfl
 ·unfold okA;refine ⟨by rw [List.length_map]; exact hl,fun z hz=>?_⟩;obtain ⟨x,hx,rfl⟩:=List.mem_map.mp hz;exact B71 (h1 x hx).1 (h1 x hx).2.1 (h1 x hx).2.2 1
 ·unfold okA;refine ⟨by rw [List.length_map]; exact hw,fun z hz=>?_⟩;obtain ⟨x,hx,rfl⟩:=List.mem_map.mp hz;exact B7z x 4
 ·unfold okA;refine ⟨by rw [List.length_map]; exact hh,fun z hz=>?_⟩;obtain ⟨x,hx,rfl⟩:=List.mem_map.mp hz;exact B72 (hk x hx) 4
 ·exact hg
theorem B74:okA 7 (.list []):=by unfold okA; exact ⟨Nat.le_of_ble_eq_true rfl,fun z hz=>nomatch hz⟩
theorem Z9:∀ {xs:LP},(∀ x ∈ xs,x.canLay0=true)->PyData.canLayAll0 xs=true
 | [],_=>rfl
 | x :: r,h=>by
  show (x.canLay0 && PyData.canLayAll0 r)=true;rw [h x List.mem_cons_self,Z9 fun y hy=>h y (List.mem_cons_of_mem _ hy)]; rfl
theorem A2y {n:Nat}:∀ {xs:LP},(∀ x ∈ xs,x.depth<=n)->PyData.depthAll xs<=n
 | [],_=>Nat.zero_le _
 | x :: r,h=>by
  show max x.depth (PyData.depthAll r)<=n;exact Nat.max_le.mpr ⟨h x List.mem_cons_self,A2y fun y hy=>h y (List.mem_cons_of_mem _ hy)⟩
theorem R8:∀ (n:Nat) {x:PyData},okA n x->x.canLay0=true/\x.depth<=n
 | n,.none,_=>⟨rfl,Nat.zero_le _⟩
 | n,.bool _,_=>⟨rfl,Nat.zero_le _⟩
 | n,.int _,_=>⟨rfl,Nat.zero_le _⟩
 | n,.str _,h=>⟨by cases n <;> exact h,Nat.zero_le _⟩
 | n,.dict _,h=>by cases n <;> exact h.elim
 | 0,.list _,h=>h.elim
 | 0,.tuple _,h=>h.elim
 | n + 1,.list xs,h=>⟨Z9 fun x hx=>(R8 n (h.2 x hx)).1,Nat.succ_le_succ (A2y fun x hx=>(R8 n (h.2 x hx)).2)⟩
 | n + 1,.tuple xs,h=>⟨Z9 fun x hx=>(R8 n (h.2 x hx)).1,Nat.succ_le_succ (A2y fun x hx=>(R8 n (h.2 x hx)).2)⟩
theorem A3g {z:Str} {a b:Addr} {xs:LP}:(OT.nd false a (.cons (.leaf (.str z)) (.cons (.nd true b (C5 xs)) .nil))).dat=[.tuple [.str z,.list xs]]:=by
 show [PyData.tuple ([PyData.str z]++([PyData.list (C5 xs).dat]++[]))]=_;rw [O1]; rfl
def cmA (c:List (Option Wy)) (v:Nat):Option Wy:=(c[v]?).join
theorem B3i {c:List (Option Wy)} {i v:Nat} {w:Wy} (h:i < c.length):cmA (c.set i (some w)) v=if v=i then some w else cmA c v:=by
 unfold cmA;rw [List.getElem?_set];by_cases e:i=v
 ·subst e; simp [h]
 ·rw [if_neg e,if_neg (fun z=>e z.symm)]
def Okw (f:List (Option Rat)) (w:Wy):Prop:=∀ a,fa f w.1=some a->∃ b,fa f w.2.1=some b/\a + w.2.2.1<=b
structure Rgi (ways:List Wy) (n r:Nat) (A B:List Wy) (s:Bst) (R:Nat->Nat):Prop where
 lf:s.1.length=n + 1
 lc:s.2.1.length=n + 1
 a:∀ w ∈ A,Okw s.1 w\/R w.1=r
 b:∀ w ∈ B,Okw s.1 w\/r<=R w.1 + 1
 le:∀ v,R v<=r
 cm:∀ v,1<=R v->∃ w,cmA s.2.1 v=some w/\w ∈ ways/\w.2.1=v/\R v<=R w.1 + 1
 mv:∀ m,s.2.2=some m->R m=r/\m<=n
theorem Rgi.step {ways:List Wy} {n r:Nat} {A B:List Wy} {w:Wy} {s:Bst} {R:Nat->Nat} (hr:1<=r) (hw:w ∈ ways/\w.1<=n/\w.2.1<=n) (h:Rgi ways n r A (w :: B) s R):∃ R',Rgi ways n r (A++[w]) B (rlx s w) R':=by
 have hlf:w.2.1 < s.1.length:=by rw [h.lf]; omega
 have hlc:w.2.1 < s.2.1.length:=by rw [h.lc]; omega
 have keep:rlx s w=s->Okw s.1 w->Rgi ways n r (A++[w]) B (rlx s w) R:=fun e ok=>by
  rw [e];refine ⟨h.lf,h.lc,fun x hx=>?_,fun x hx=>h.b x (List.mem_cons_of_mem _ hx),h.le,h.cm,h.mv⟩;rcases List.mem_append.mp hx with z | z
  ·exact h.a x z
  ·rw [List.mem_singleton.mp z]; exact .inl ok
 cases ha:fa s.1 w.1 with
 | none=>exact ⟨R,keep (by unfold rlx; rw [ha]) (fun a e=>by rw [ha] at e; cases e)⟩
 | some a =>
  by_cases up:upB (fa s.1 w.2.1) (a + w.2.2.1)=true
  ·have er:rlx s w=(s.1.set w.2.1 (some (a + w.2.2.1)),s.2.1.set w.2.1 (some w),some w.2.1):=by
    unfold rlx; rw [ha]; dsimp only; rw [if_pos up]
   have nok:¬ Okw s.1 w:=fun ok=>by
    obtain ⟨b,hb,l⟩:=ok a ha;rw [hb] at up;exact absurd (of_decide_eq_true up) (Rat.not_lt.mpr l)
   have rt:r<=R w.1 + 1:=(h.b w List.mem_cons_self).resolve_left nok;have grow:∀ x:Wy,x.1≠w.2.1->Okw s.1 x->Okw (rlx s w).1 x:=fun x hx ok b hb=>by
    rw [er] at hb ⊢;dsimp only at hb ⊢;rw [O9 hlf,if_neg hx] at hb;obtain ⟨c,hc,l⟩:=ok b hb;rw [O9 hlf];split
    ·rename_i e;refine ⟨_,rfl,?_⟩;rw [e] at hc;rw [hc] at up;exact Rat.le_trans l (Rat.le_of_lt (of_decide_eq_true up))
    ·exact ⟨c,hc,l⟩
   refine ⟨fun v=>if v=w.2.1 then r else R v,?_⟩;have hR:∀ v,R v<=(if v=w.2.1 then r else R v):=fun v=>by
    split
    ·exact h.le v
    ·exact Nat.le_refl _
   refine ⟨rlx_len.1.trans h.lf,rlx_len.2.trans h.lc,fun x hx=>?_,fun x hx=>?_,fun v=>?_,fun v hv=>?_,fun m hm=>?_⟩
   ·by_cases hx1:x.1=w.2.1
    ·exact .inr (if_pos hx1)
    ·rcases List.mem_append.mp hx with z | z
     ·rcases h.a x z with z | z
      ·exact .inl (grow x hx1 z)
      ·exact .inr (by rw [if_neg hx1]; exact z)
     ·have:=List.mem_singleton.mp z;subst this;left;intro b hb;rw [er] at hb ⊢;dsimp only at hb ⊢;rw [O9 hlf,if_neg hx1,ha] at hb;cases hb;exact ⟨_,by rw [O9 hlf,if_pos rfl],Rat.le_refl⟩
   ·by_cases hx1:x.1=w.2.1
    ·exact .inr (by rw [if_pos hx1]; omega)
    ·rcases h.b x (List.mem_cons_of_mem _ hx) with z | z
     ·exact .inl (grow x hx1 z)
     ·exact .inr (by rw [if_neg hx1]; exact z)
   ·show (if v=w.2.1 then r else R v)<=r;split
    ·exact Nat.le_refl _
    ·exact h.le v
   ·rw [er];show ∃ x,cmA (s.2.1.set w.2.1 (some w)) v=some x/\_;rw [B3i hlc];by_cases e:v=w.2.1
    ·rw [if_pos e,if_pos e];exact ⟨w,rfl,hw.1,e.symm,Nat.le_trans rt (Nat.succ_le_succ (hR w.1))⟩
    ·rw [if_neg e] at hv ⊢;rw [if_neg e];obtain ⟨x,h1,h2,h3,h4⟩:=h.cm v hv;exact ⟨x,h1,h2,h3,Nat.le_trans h4 (Nat.succ_le_succ (hR x.1))⟩
   ·rw [er] at hm;cases hm;exact ⟨if_pos rfl,hw.2.2⟩
  ·have ok:Okw s.1 w:=fun b hb=>by
    rw [ha] at hb;cases hb;cases e:fa s.1 w.2.1 with
    | none=>rw [e] at up; exact absurd rfl up
    | some c=>rw [e] at up; exact ⟨c,rfl,Rat.not_lt.mp fun z=>up (decide_eq_true z)⟩
   exact ⟨R,keep (by unfold rlx; rw [ha]; dsimp only; rw [if_neg up]) ok⟩
theorem Rgi.turn {ways:List Wy} {n r:Nat} (hr:1<=r) (hw:∀ w ∈ ways,w.1<=n/\w.2.1<=n):∀ {B A:List Wy} {s:Bst} {R:Nat->Nat},(∀ w ∈ B,w ∈ ways)->Rgi ways n r A B s R->∃ R',Rgi ways n r (A++B) [] (strF B s) R'
 | [],A,s,R,_,h=>⟨R,by rw [List.append_nil]; exact h⟩
 | w :: B,A,s,R,hB,h=>by
  obtain ⟨R1,h1⟩:=h.step hr ⟨hB w List.mem_cons_self,hw w (hB w List.mem_cons_self)⟩;obtain ⟨R2,h2⟩:=Rgi.turn hr hw (fun x hx=>hB x (List.mem_cons_of_mem _ hx)) h1;exact ⟨R2,by rw [show A++w :: B=A++[w]++B by simp]; exact h2⟩
theorem B1x {ways:List Wy} {n:Nat} (hw:∀ w ∈ ways,w.1<=n/\w.2.1<=n):∀ k,∃ R,Rgi ways n (k + 1) ways [] (bsK ways n (k + 1)) R
 | 0=>by
  have h0:Rgi ways n 1 [] ways ((bs0 n).1,(bs0 n).2.1,none) (fun _=>0):=⟨(G7 (ways:=ways) 0).1,(G7 (ways:=ways) 0).2,fun w hw=>(nomatch hw),fun w _=>.inr (Nat.le_refl _),fun v=>Nat.zero_le _,fun v hv=>absurd hv (by decide),fun m hm=>(nomatch hm)⟩;obtain ⟨R,h⟩:=h0.turn (by decide) hw (fun w h=>h);exact ⟨R,h⟩
 | k + 1=>by
  obtain ⟨R,h⟩:=B1x hw k;have h0:Rgi ways n (k + 2) [] ways ((bsK ways n (k + 1)).1,(bsK ways n (k + 1)).2.1,none) R:=⟨h.lf,h.lc,fun w hw=>(nomatch hw),fun w hw=>(h.a w hw).imp id fun z=>by omega,fun v=>Nat.le_succ_of_le (h.le v),h.cm,fun m hm=>(nomatch hm)⟩;obtain ⟨R',h'⟩:=h0.turn (by omega) hw (fun w h=>h);exact ⟨R',h'⟩
def nxt (c:List (Option Wy)) (v:Nat):Nat:=match cmA c v with
 | some w=>w.1
 | none=>0
def plc (c:List (Option Wy)) (m:Nat):Nat->Nat
 | 0=>m
 | k + 1=>nxt c (plc c m k)
theorem U8 {c:List (Option Wy)} {m i j:Nat} (h:plc c m i=plc c m j):∀ k,plc c m (i + k)=plc c m (j + k)
 | 0=>h
 | k + 1=>by show nxt c (plc c m (i + k))=nxt c (plc c m (j + k)); rw [U8 h k]
def Rnd (c:List (Option Wy)) (m L q:Nat):Prop:=1<=q/\q<=L/\(∀ x,x < L + q->∃ w,cmA c (plc c m x)=some w)/\plc c m (L + q)=plc c m L
theorem B0h {ways:List Wy} {n m:Nat} (hw:∀ w ∈ ways,w.1<=n/\w.2.1<=n) (hm:(bsK ways n (n + 1)).2.2=some m):m<=n/\∃ q,Rnd (bsK ways n (n + 1)).2.1 m (n + 1) q:=by
 obtain ⟨R,h⟩:=B1x hw n;obtain ⟨h1,h2⟩:=h.mv m hm;refine ⟨h2,?_⟩;obtain ⟨c,hc⟩:∃ c,(bsK ways n (n + 1)).2.1=c:=⟨_,rfl⟩;have hcm:=h.cm;rw [hc] at hcm ⊢;have key:∀ j,j<=n + 1->plc c m j<=n/\n + 1<=R (plc c m j) + j:=by
  intro j;induction j with
  | zero=>exact fun _=>⟨h2,by show n + 1<=R m + 0; omega⟩
  | succ j ih =>
   intro hj;obtain ⟨i1,i2⟩:=ih (by omega);obtain ⟨w,g1,g2,g3,g4⟩:=hcm (plc c m j) (by omega);have e:plc c m (j + 1)=w.1:=by show nxt c (plc c m j)=_; unfold nxt; rw [g1]
   rw [e];exact ⟨(hw w g2).1,by omega⟩
 have some':∀ j,j<=n->∃ w,cmA c (plc c m j)=some w:=fun j hj=>by
  obtain ⟨w,g1,_⟩:=hcm (plc c m j) (by have:=(key j (by omega)).2; omega);exact ⟨w,g1⟩
 obtain ⟨i,j,hij,hj,e⟩:=B6i (n:=n) (c:=plc c m) fun j hj=>(key j hj).1;refine ⟨j - i,by omega,by omega,fun x hx=>?_,?_⟩
 ·have all:∀ x,∃ w,cmA c (plc c m x)=some w:=by
   intro x;induction x using Nat.strongRecOn with
   | _ x ih =>
    rcases Nat.lt_or_ge x j with z | z
    ·exact some' x (by omega)
    ·have:=U8 e (x - j);rw [show j + (x - j)=x by omega] at this;rw [<- this];exact ih _ (by omega)
  exact all x
 ·have:=U8 e (n + 1 - i);rw [show i + (n + 1 - i)=n + 1 by omega,show j + (n + 1 - i)=n + 1 + (j - i) by omega] at this;exact this.symm
section
variable {ts:LQ} {ws:LW} {hs:LH} {ps:LR}
theorem B8k {P:Nat->Rat} (nk:NOk ts ws hs) (hP:Pot (J1 ts ws hs none) ts.length P):¬ kst (J1 ts ws hs none) ts.length=none:=fun h=>by
 obtain ⟨k,hk⟩:=A4b (fun w hw=>let z:=S8 nk (W:=none) (fun _ e=>nomatch e) w hw; ⟨z.1,z.2.1⟩) hP;rw [h] at hk; cases hk
end
theorem B51 {c:List (Option Wy)} {v:Nat} {w:Wy} (h:cmA c v=some w):v < c.length/\L2.atI (c.map cD) (v:Int)=some (wyD w):=by
 unfold cmA at h;cases e:c[v]? with
 | none=>rw [e] at h; cases h
 | some x =>
  rw [e] at h;have hv:=(List.getElem?_eq_some_iff.mp e).1;exact ⟨hv,G4 (by rw [List.getElem?_map,e,show x=some w from h]; rfl)⟩
theorem T4 {c:List (Option Wy)} {m x:Nat} {w:Wy} (h:cmA c (plc c m x)=some w):plc c m (x + 1)=w.1:=by show nxt c (plc c m x)=_; unfold nxt; rw [h]
def rgW (c:List (Option Wy)) (v:Nat):PyData:=.tuple [qD (((cmA c v).map (·.2.2.2)).getD ("",0)),dq 1]
structure Tik (ways:List Wy) (n:Nat) (s:Bst) (T:Nat->Nat) (t:Nat):Prop where
 lf:s.1.length=n + 1
 lc:s.2.1.length=n + 1
 le:∀ v,T v<=t
 inj:∀ u v,1<=T u->T u=T v->u=v
 cm:∀ v w,cmA s.2.1 v=some w->1<=T v/\w ∈ ways/\w.2.1=v/\∃ a b,fa s.1 w.1=some a/\fa s.1 v=some b/\b<=a + w.2.2.1/\((T v < T w.1\/w.1=v)->b < a + w.2.2.1)
theorem Tik.rlx {ways:List Wy} {n t:Nat} {s:Bst} {T:Nat->Nat} {w:Wy} (hw:w ∈ ways/\w.1<=n/\w.2.1<=n) (h:Tik ways n s T t):∃ T' t',Tik ways n (rlx s w) T' t':=by
 have hlf:w.2.1 < s.1.length:=by rw [h.lf]; omega
 have hlc:w.2.1 < s.2.1.length:=by rw [h.lc]; omega
 cases ha:fa s.1 w.1 with
 | none=>exact ⟨T,t,by rw [show Prf.rlx s w=s by unfold Prf.rlx; rw [ha]]; exact h⟩
 | some a =>
  by_cases up:upB (fa s.1 w.2.1) (a + w.2.2.1)=true
  ·have er:Prf.rlx s w=(s.1.set w.2.1 (some (a + w.2.2.1)),s.2.1.set w.2.1 (some w),some w.2.1):=by
    unfold Prf.rlx; rw [ha]; dsimp only; rw [if_pos up]
   refine ⟨fun v=>if v=w.2.1 then t + 1 else T v,t + 1,rlx_len.1.trans h.lf,rlx_len.2.trans h.lc,fun v=>?_,fun u v hu e=>?_,fun v x hx=>?_⟩
   ·show (if v=w.2.1 then t + 1 else T v)<=t + 1;split
    ·exact Nat.le_refl _
    ·exact Nat.le_succ_of_le (h.le v)
   ·have hu:1<=(if u=w.2.1 then t + 1 else T u):=hu;have e:(if u=w.2.1 then t + 1 else T u)=if v=w.2.1 then t + 1 else T v:=e;have lu:=h.le u;have lv:=h.le v;by_cases e1:u=w.2.1
    ·by_cases e2:v=w.2.1
     ·rw [e1,e2]
     ·rw [if_pos e1,if_neg e2] at e; omega
    ·by_cases e2:v=w.2.1
     ·rw [if_neg e1,if_pos e2] at e; omega
     ·rw [if_neg e1,if_neg e2] at e;rw [if_neg e1] at hu;exact h.inj u v hu e
   ·rw [er] at hx ⊢;dsimp only at hx ⊢;rw [B3i hlc] at hx;by_cases ev:v=w.2.1
    ·rw [if_pos ev] at hx;have:=Option.some.inj hx;subst this;refine ⟨by rw [if_pos ev]; omega,hw.1,ev.symm,?_⟩;rw [O9 hlf,O9 hlf,if_pos ev];by_cases e1:w.1=w.2.1
     ·rw [if_pos e1];rw [e1] at ha;rw [ha] at up;have lt:a < a + w.2.2.1:=of_decide_eq_true up;exact ⟨_,_,rfl,rfl,by grind,fun _=>by grind⟩
     ·rw [if_neg e1,ha];refine ⟨_,_,rfl,rfl,Rat.le_refl,fun z=>?_⟩;exfalso;rcases z with z | z
      ·rw [if_pos ev,if_neg e1] at z;have:=h.le w.1; omega
      ·exact e1 (z.trans ev)
    ·rw [if_neg ev] at hx;obtain ⟨c1,c2,c3,p,q,c4,c5,c6,c7⟩:=h.cm v x hx;refine ⟨by rw [if_neg ev]; exact c1,c2,c3,?_⟩;rw [O9 hlf,O9 hlf,if_neg ev];by_cases e1:x.1=w.2.1
     ·rw [if_pos e1];rw [e1] at c4;rw [c4] at up;have lt:p < a + w.2.2.1:=of_decide_eq_true up;exact ⟨_,_,rfl,c5,by grind,fun _=>by grind⟩
     ·rw [if_neg e1];refine ⟨p,q,c4,c5,c6,fun z=>c7 (z.imp (fun y=>?_) id)⟩
      rwa [if_neg ev,if_neg e1] at y
  ·exact ⟨T,t,by rw [show Prf.rlx s w=s by unfold Prf.rlx; rw [ha]; dsimp only; rw [if_neg up]]; exact h⟩
theorem Tik.turn {ways:List Wy} {n:Nat} (hw:∀ w ∈ ways,w.1<=n/\w.2.1<=n):∀ {B:List Wy} {s:Bst} {T:Nat->Nat} {t:Nat},(∀ w ∈ B,w ∈ ways)->Tik ways n s T t->∃ T' t',Tik ways n (strF B s) T' t'
 | [],s,T,t,_,h=>⟨T,t,h⟩
 | w :: B,s,T,t,hB,h=>by
  obtain ⟨T1,t1,h1⟩:=h.rlx ⟨hB w List.mem_cons_self,hw w (hB w List.mem_cons_self)⟩;show ∃ T' t',Tik ways n (strF B (Prf.rlx s w)) T' t';exact Tik.turn hw (fun x hx=>hB x (List.mem_cons_of_mem _ hx)) h1
theorem A5x {ways:List Wy} {n:Nat} (hw:∀ w ∈ ways,w.1<=n/\w.2.1<=n):∀ k,∃ T t,Tik ways n (bsK ways n k) T t
 | 0=>⟨fun _=>0,0,⟨(G7 (ways:=ways) 0).1,(G7 (ways:=ways) 0).2,fun _=>Nat.le_refl _,fun u v h=>absurd h (by decide),fun v w h=>by
  exfalso;have e:cmA (bsK ways n 0).2.1 v=none:=by
   show cmA (List.replicate (n + 1) none) v=none;unfold cmA;rw [List.getElem?_replicate];split <;> rfl
  rw [e] at h; cases h⟩⟩
 | k + 1=>by
  obtain ⟨T,t,h⟩:=A5x hw k;exact Tik.turn hw (fun w h=>h) (s:=((bsK ways n k).1,(bsK ways n k).2.1,none)) ⟨h.lf,h.lc,h.le,h.inj,h.cm⟩
structure Rng (ways:List Wy) (n s:Nat) (p:Nat->Nat) (w:Nat->Wy):Prop where
 s1:1<=s
 sn:s<=n + 1
 le:∀ i,p i<=n
 mem:∀ i,i < s->w i ∈ ways/\(w i).2.1=p i/\(w i).1=p (i + 1)
 round:p s=p 0
 dif:∀ i j,i < s->j < s->p i=p j->i=j
 pos:0 < My.S ((List.range s).map fun i=>(w i).2.2.1)
def wyA (c:List (Option Wy)) (v:Nat):Wy:=(cmA c v).getD (0,0,0,("",0))
theorem B32 {ways:List Wy} {n m q s:Nat} (hw:∀ w ∈ ways,w.1<=n/\w.2.1<=n) (hn:Rnd (bsK ways n (n + 1)).2.1 m (n + 1) q) (s1:1<=s) (sq:s<=q) (e:plc (bsK ways n (n + 1)).2.1 m (n + 1 + s)=plc (bsK ways n (n + 1)).2.1 m (n + 1)) (mn:∀ s',1<=s'->s' < s->plc (bsK ways n (n + 1)).2.1 m (n + 1 + s')≠plc (bsK ways n (n + 1)).2.1 m (n + 1)) :
  Rng ways n s (fun i=>plc (bsK ways n (n + 1)).2.1 m (n + 1 + i)) (fun i=>wyA (bsK ways n (n + 1)).2.1 (plc (bsK ways n (n + 1)).2.1 m (n + 1 + i))):=by
 obtain ⟨T,t,K⟩:=A5x hw (n + 1);obtain ⟨_,q2,hs,_⟩:=hn;generalize hc:(bsK ways n (n + 1)).2.1=c at hs e mn K;have per:∀ k,plc c m (n + 1 + s + k)=plc c m (n + 1 + k):=fun k=>U8 e k;have sm:∀ i,∃ w,cmA c (plc c m (n + 1 + i))=some w:=by
  intro i;induction i using Nat.strongRecOn with
  | _ i ih =>
   rcases Nat.lt_or_ge i s with z | z
   ·exact hs _ (by omega)
   ·have:=per (i - s);rw [show n + 1 + s + (i - s)=n + 1 + i by omega] at this;rw [this]; exact ih (i - s) (by omega)
 have fact:∀ i,cmA c (plc c m (n + 1 + i))=some (wyA c (plc c m (n + 1 + i))):=fun i=>by
  obtain ⟨w,h⟩:=sm i;unfold wyA; rw [h]; rfl
 have nx:∀ i,(wyA c (plc c m (n + 1 + i))).1=plc c m (n + 1 + (i + 1)):=fun i=>(T4 (fact i)).symm;have dif:∀ i j,i < j->j < s->plc c m (n + 1 + i)=plc c m (n + 1 + j)->False:=fun i j hij hj h=>by
  have h2:=U8 h (s - j);rw [show n + 1 + j + (s - j)=n + 1 + s by omega,e,show n + 1 + i + (s - j)=n + 1 + (i + (s - j)) by omega] at h2;exact mn (i + (s - j)) (by omega) (by omega) h2
 have inw:∀ i,wyA c (plc c m (n + 1 + i)) ∈ ways/\(wyA c (plc c m (n + 1 + i))).2.1=plc c m (n + 1 + i):=fun i=>by
  obtain ⟨_,k2,k3,_⟩:=K.cm _ _ (by rw [hc]; exact fact i);exact ⟨k2,k3⟩
 refine ⟨s1,by omega,fun i=>?_,fun i _=>⟨(inw i).1,(inw i).2,nx i⟩,e,fun i j hi hj h=>?_,?_⟩
 ·have:=(inw i);have:=(hw _ this.1).2;rw [(inw i).2] at this; exact this
 ·rcases Nat.lt_trichotomy i j with z | z | z
  ·exact (dif i j z hj h).elim
  ·exact z
  ·exact (dif j i z hi h.symm).elim
 ·-- the sum
  have tel:∀ k,k<=s->∃ b0 bk,fa (bsK ways n (n + 1)).1 (plc c m (n + 1))=some b0/\fa (bsK ways n (n + 1)).1 (plc c m (n + 1 + k))=some bk/\b0<=bk + My.S ((List.range k).map fun i=>(wyA c (plc c m (n + 1 + i))).2.2.1)/\(b0 < bk + My.S ((List.range k).map fun i=>(wyA c (plc c m (n + 1 + i))).2.2.1)\/(T (plc c m (n + 1 + k)) + k<=T (plc c m (n + 1)))):=by
   intro k;induction k with
   | zero =>
    intro _;obtain ⟨_,_,_,a,b,_,h2,_⟩:=K.cm _ _ (by rw [hc]; exact fact 0);exact ⟨b,b,h2,h2,by show b<=b + 0; grind,.inr (Nat.le_refl _)⟩
   | succ k ih =>
    intro hk;obtain ⟨b0,bk,g1,g2,g3,g4⟩:=ih (by omega);obtain ⟨t1,_,_,a,b,h1,h2,h3,h4⟩:=K.cm _ _ (by rw [hc]; exact fact k);rw [g2] at h2;have eb:=Option.some.inj h2;subst eb;rw [nx k] at h1 h4;refine ⟨b0,a,g1,h1,?_,?_⟩
    ·rw [List.range_succ,List.map_append,My.A14];show b0<=a + (_ + (_ + 0)); grind
    ·rw [List.range_succ,List.map_append,My.A14];show b0 < a + (_ + (_ + 0))\/_;by_cases st:T (plc c m (n + 1 + k)) < T (plc c m (n + 1 + (k + 1)))\/plc c m (n + 1 + (k + 1))=plc c m (n + 1 + k)
     ·left; have:=h4 st; grind
     ·rcases g4 with g4 | g4
      ·left; grind
      ·right;have ne:T (plc c m (n + 1 + k))≠T (plc c m (n + 1 + (k + 1))):=fun z=>st (.inr (K.inj _ _ t1 z).symm);have:=fun z=>st (.inl z);omega
  obtain ⟨b0,bk,g1,g2,g3,g4⟩:=tel s (Nat.le_refl _);rw [e,g1] at g2;have eb:=Option.some.inj g2;subst eb;rcases g4 with g4 | g4
  ·grind
  ·exfalso; rw [e] at g4; omega
def dl (a v:Nat):Rat:=if v=a then 1 else 0
def isTl (hs:LH) (w:Wy):Bool:=decide (w.2.2.2.1="hold") && decide (((hs[w.2.2.2.2.toNat]?).getD ("",0,0)).1="till")
def effF (hs:LH) (w:Wy) (F:Nat->Rat) (v:Nat):Rat:=F v + dl w.2.1 v - (if isTl hs w=true then dl w.1 v else 0)
def effG (hs:LH) (w:Wy) (G:Nat->Rat) (v:Nat):Rat:=G v + (if isTl hs w=true then 0 else dl w.1 v)
def flF (hs:LH) (w:Nat->Wy):Nat->Nat->Rat
 | 0=>fun _=>0
 | k + 1=>effF hs (w k) (flF hs w k)
def flG (hs:LH) (w:Nat->Wy):Nat->Nat->Rat
 | 0=>fun _=>0
 | k + 1=>effG hs (w k) (flG hs w k)
theorem B25 {hs:LH} {w:Nat->Wy} {p:Nat->Nat} {s:Nat} (h:∀ i,i < s->(w i).2.1=p i/\(w i).1=p (i + 1)):∀ k,k<=s->∀ v,flF hs w k v - flG hs w k v=dl (p 0) v - dl (p k) v
 | 0,_,v=>by show (0:Rat) - 0=_; grind
 | k + 1,hk,v=>by
  have ih:=B25 (hs:=hs) h k (by omega) v;obtain ⟨h1,h2⟩:=h k (by omega);show effF hs (w k) (flF hs w k) v - effG hs (w k) (flG hs w k) v=_;unfold effF effG;rw [h1,h2];split <;> grind
theorem A9b {hs:LH} {w:Nat->Wy}:∀ k v,0<=flG hs w k v
 | 0,_=>Rat.le_refl
 | k + 1,v=>by
  have:=A9b (hs:=hs) (w:=w) k v;show 0<=effG hs (w k) (flG hs w k) v;unfold effG dl;split
  ·grind
  ·split <;> grind
theorem Rng.bal {ways:List Wy} {n s:Nat} {p:Nat->Nat} {w:Nat->Wy} (R:Rng ways n s p w) (hs:LH) (v:Nat):flF hs w s v=flG hs w s v/\0<=flF hs w s v:=by
 have:=B25 (hs:=hs) (fun i hi=>(R.mem i hi).2) s (Nat.le_refl _) v;rw [R.round] at this;have e:flF hs w s v=flG hs w s v:=by grind
 exact ⟨e,by rw [e]; exact A9b s v⟩
def sumV (f:Nat->Rat) (n:Nat):Rat:=My.S ((List.range n).map f)
theorem L4 {f:Nat->Rat} {n:Nat}:sumV f (n + 1)=sumV f n + f n:=by
 unfold sumV;rw [List.range_succ,List.map_append,My.A14];show _ + (_ + 0)=_; rw [Rat.add_zero]
theorem A3e {f g:Nat->Rat}:∀ n,sumV (fun v=>f v + g v) n=sumV f n + sumV g n
 | 0=>by show (0:Rat)=0 + 0; grind
 | n + 1=>by rw [L4,L4,L4,A3e n]; grind
theorem A53 {t:Nat->Rat} {a:Nat}:∀ n,sumV (fun v=>dl a v * t v) n=if a < n then t a else 0
 | 0=>rfl
 | n + 1=>by
  rw [L4,A53 n];unfold dl;by_cases h:a < n
  ·rw [if_pos h,if_neg (by omega),if_pos (by omega)]; grind
  ·rw [if_neg h];by_cases e:n=a
   ·rw [if_pos e,if_pos (by omega),e]; grind
   ·rw [if_neg e,if_neg (by omega)]; grind
theorem P6 {f g:Nat->Rat}:∀ {n},(∀ v,v < n->f v=g v)->sumV f n=sumV g n
 | 0,_=>rfl
 | n + 1,h=>by rw [L4,L4,P6 fun v hv=>h v (by omega),h n (by omega)]
theorem A9a {hs:LH} {w:Nat->Wy} {t:Nat->Rat} {n:Nat}:∀ k,sumV (fun v=>flG hs w k v * t v) n=My.S ((List.range k).map fun i=>if isTl hs (w i)=true then 0 else if (w i).1 < n then t (w i).1 else 0)
 | 0=>by
  show sumV (fun v=>0 * t v) n=0;induction n with
  | zero=>rfl
  | succ n ih=>rw [L4,ih]; grind
 | k + 1=>by
  rw [List.range_succ,List.map_append,My.A14,<- A9a k];show sumV (fun v=>effG hs (w k) (flG hs w k) v * t v) n=_ + ((if isTl hs (w k)=true then 0 else if (w k).1 < n then t (w k).1 else 0) + 0);unfold effG;by_cases h:isTl hs (w k)=true
  ·rw [P6 (g:=fun v=>flG hs w k v * t v) fun v _=>by rw [if_pos h]; grind,if_pos h]; grind
  ·rw [P6 (g:=fun v=>flG hs w k v * t v + dl (w k).1 v * t v) fun v _=>by rw [if_neg h]; grind,A3e,A53,if_neg h]; grind
theorem A0d {hs:LH} {w:Nat->Wy}:∀ k v,(∃ z:Int,flF hs w k v=(z:Rat)/\z.natAbs<=2 * k)/\∃ z:Int,flG hs w k v=(z:Rat)/\z.natAbs<=k
 | 0,v=>⟨⟨0,rfl,by decide⟩,⟨0,rfl,by decide⟩⟩
 | k + 1,v=>by
  obtain ⟨⟨a,ea,ha⟩,⟨b,eb,hb⟩⟩:=A0d (hs:=hs) (w:=w) k v;have dz:∀ x,∃ z:Int,dl x v=(z:Rat)/\z.natAbs<=1:=fun x=>by
   unfold dl; split
   ·exact ⟨1,rfl,by decide⟩
   ·exact ⟨0,rfl,by decide⟩
  obtain ⟨c,ec,hc⟩:=dz (w k).2.1;obtain ⟨d,ed,hd⟩:=dz (w k).1;constructor
  ·show ∃ z:Int,effF hs (w k) (flF hs w k) v=_/\_;unfold effF;rw [ea,ec,ed];split
   ·exact ⟨a + c - d,by rw [Rat.intCast_sub,Rat.intCast_add],by omega⟩
   ·exact ⟨a + c,by rw [Rat.intCast_add]; grind,by omega⟩
  ·show ∃ z:Int,effG hs (w k) (flG hs w k) v=_/\_;unfold effG;rw [eb,ed];split
   ·exact ⟨b,by grind,by omega⟩
   ·exact ⟨b + d,by rw [Rat.intCast_add],by omega⟩
theorem B3d {α:Type} (P:α->Prop) (g:α->Rat):∀ l:List α,(∀ x ∈ l,P x->0 < g x)->∃ e:Rat,0 < e/\∀ x ∈ l,P x->e<=g x
 | [],_=>⟨1,by decide,fun _ h=>nomatch h⟩
 | x :: l,h=>by
  obtain ⟨e,e0,he⟩:=B3d P g l fun y hy=>h y (List.mem_cons_of_mem _ hy);by_cases hp:P x
  ·have gx:=h x List.mem_cons_self hp;by_cases le:e<=g x
   ·exact ⟨e,e0,fun y hy py=>(List.mem_cons.mp hy).elim (fun z=>by rw [z]; exact le) fun z=>he y z py⟩
   ·exact ⟨g x,gx,fun y hy py=>(List.mem_cons.mp hy).elim (fun z=>by rw [z]; exact Rat.le_refl) fun z=>by have:=he y z py; grind⟩
  ·exact ⟨e,e0,fun y hy py=>(List.mem_cons.mp hy).elim (fun z=>absurd (by rw [<- z]; exact py) hp) fun z=>he y z py⟩
theorem A9o {ways:List Wy} {n:Nat} {f:List (Option Rat)} (fo:Fars ways n f) (hw:∀ w ∈ ways,w.1<=n/\w.2.1<=n) {F:Nat->Rat} (hF:∀ v,v<=n->fa f v=some (F v)) {H:Nat->Prop} (hc:∀ w ∈ ways,(w.1=n\/H w.1)->w.2.1 < n->F w.2.1=F w.1 + w.2.2.1->H w.2.1):∀ v,v < n->H v:=by
 intro v hv;apply Classical.byContradiction;intro nv;have kp:∀ w ∈ ways,F w.1 + w.2.2.1<=F w.2.1:=fun w h=>by
  obtain ⟨b,hb,l⟩:=fo.fx w h _ (hF _ (hw w h).1);rw [hF _ (hw w h).2] at hb;cases hb;exact l
 have F0:F n=0:=by have:=fo.rt; rw [hF n (Nat.le_refl _)] at this; exact Option.some.inj this
 obtain ⟨e,e0,he⟩:=B3d (fun w:Wy=>(w.1=n\/H w.1)/\¬ (w.2.1=n\/H w.2.1)) (fun w=>F w.2.1 - F w.1 - w.2.2.1) ways fun w h hp=>by
  have l:=kp w h;have ne:F w.2.1≠F w.1 + w.2.2.1:=fun z=>hp.2 (.inr (hc w h hp.1 (by have:=(hw w h).2; have:w.2.1≠n:=fun z=>hp.2 (.inl z); omega) z));grind
 have hP:Pot ways n (fun v=>open Classical in if v=n\/H v then F v else F v - e):=by
  refine ⟨by show (open Classical in if n=n\/H n then F n else F n - e)=0; rw [if_pos (.inl rfl)]; exact F0,fun w h=>?_⟩;have l:=kp w h;show (open Classical in if w.1=n\/H w.1 then F w.1 else F w.1 - e) + w.2.2.1<=open Classical in if w.2.1=n\/H w.2.1 then F w.2.1 else F w.2.1 - e;by_cases h1:w.1=n\/H w.1
  ·by_cases h2:w.2.1=n\/H w.2.1
   ·rw [if_pos h1,if_pos h2]; exact l
   ·rw [if_pos h1,if_neg h2];have:=he w h ⟨h1,h2⟩;grind
  ·by_cases h2:w.2.1=n\/H w.2.1
   ·rw [if_neg h1,if_pos h2]; grind
   ·rw [if_neg h1,if_neg h2]; grind
 have:=fo.le _ hP v (F v) (hF v (by omega));rw [if_neg (by rintro (z | z); omega; exact nv z)] at this;grind
def tru (b:List Bool) (i:Nat):Bool:=(b[i]?).getD false
def cS (t:Int × Int × Rat->Bool) (b:List Bool) (w:Int × Int × Rat):List Bool:=if tru b w.1.toNat=true/\t w=true then b.set w.2.1.toNat true else b
def cR (t:Int × Int × Rat->Bool) (ws:LW) (b:List Bool):List Bool:=ws.foldl (cS t) b
theorem A17 {b:List Bool} {i j:Nat} (h:j < b.length):tru (b.set j true) i=if i=j then true else tru b i:=by
 unfold tru;rw [List.getElem?_set];by_cases e:j=i
 ·subst e; rw [if_pos rfl,if_pos h,if_pos rfl]; rfl
 ·rw [if_neg e,if_neg (fun z=>e z.symm)]
theorem A3d {b:List Bool} {i j:Nat} (h:tru b i=true):tru (b.set j true) i=true:=by
 by_cases hj:j < b.length
 ·rw [A17 hj]; split
  ·rfl
  ·exact h
 ·rw [List.set_eq_of_length_le (by omega)]; exact h
theorem B9d {t:Int × Int × Rat->Bool} {b:List Bool} {w:Int × Int × Rat} {i:Nat} (h:tru b i=true):tru (cS t b w) i=true:=by
 unfold cS; split
 ·exact A3d h
 ·exact h
theorem cR_len {t:Int × Int × Rat->Bool}:∀ {ws:LW} {b:List Bool},(cR t ws b).length=b.length
 | [],_=>rfl
 | w :: ws,b=>by
  show (cR t ws (cS t b w)).length=_;rw [cR_len]; unfold cS; split
  ·exact List.length_set
  ·rfl
theorem A5f {t:Int × Int × Rat->Bool} {i:Nat}:∀ {ws:LW} {b:List Bool},tru b i=true->tru (cR t ws b) i=true
 | [],_,h=>h
 | w :: ws,b,h=>by show tru (cR t ws (cS t b w)) i=true; exact A5f (B9d h)
theorem B3k {t:Int × Int × Rat->Bool} {w:Int × Int × Rat}:∀ {ws:LW} {b:List Bool},w ∈ ws->tru b w.1.toNat=true->t w=true->w.2.1.toNat < b.length->tru (cR t ws b) w.2.1.toNat=true
 | x :: ws,b,hm,ha,ht,hl=>by
  show tru (cR t ws (cS t b x)) _=true;rcases List.mem_cons.mp hm with rfl | hm
  ·refine A5f ?_;unfold cS; rw [if_pos ⟨ha,ht⟩,A17 hl,if_pos rfl]
  ·refine B3k hm (B9d ha) ht ?_;unfold cS; split
   ·rw [List.length_set]; exact hl
   ·exact hl
def cnt (b:List Bool):Nat:=b.countP id
theorem B3h:∀ {b c:List Bool},b.length=c.length->(∀ i,tru b i=true->tru c i=true)->cnt b<=cnt c/\((∃ i,tru b i≠true/\tru c i=true)->cnt b < cnt c)
 | [],[],_,_=>⟨Nat.le_refl _,fun ⟨i,_,h⟩=>by unfold tru at h; simp at h⟩
 | x :: b,y :: c,hl,h=>by
  obtain ⟨i1,i2⟩:=B3h (b:=b) (c:=c) (by simpa using hl) fun i hi=>h (i + 1) hi;have h0:x=true->y=true:=fun e=>h 0 e;have ex:cnt (x :: b)=cnt b + (if x=true then 1 else 0):=by unfold cnt; rw [List.countP_cons]; rfl
  have ey:cnt (y :: c)=cnt c + (if y=true then 1 else 0):=by unfold cnt; rw [List.countP_cons]; rfl
  rw [ex,ey];refine ⟨by cases x <;> cases y <;> simp_all <;> omega,fun ⟨i,p,q⟩=>?_⟩
  cases i with
  | zero =>
   have px:x≠true:=p;have qy:y=true:=q;rw [if_neg px,if_pos qy]; omega
  | succ i =>
   have:=i2 ⟨i,p,q⟩;cases x <;> cases y <;> simp_all <;> omega
theorem A9l:∀ {b:List Bool},b.length<=cnt b->∀ i,i < b.length->tru b i=true
 | [],_,i,h=>absurd h (Nat.not_lt_zero _)
 | x :: b,hc,i,h=>by
  have ex:cnt (x :: b)=cnt b + (if x=true then 1 else 0):=by unfold cnt; rw [List.countP_cons]; rfl
  have le:cnt b<=b.length:=List.countP_le_length;rw [ex,List.length_cons] at hc;cases x with
  | false=>rw [if_neg (by decide)] at hc; omega
  | true =>
   cases i with
   | zero=>rfl
   | succ i=>exact A9l (b:=b) (by rw [if_pos rfl] at hc; omega) i (by simpa using h)
def cN (t:Int × Int × Rat->Bool) (ws:LW) (b:List Bool):Nat->List Bool
 | 0=>b
 | k + 1=>cR t ws (cN t ws b k)
theorem V9 {t:Int × Int × Rat->Bool} {ws:LW} {b:List Bool}:∀ k,(cN t ws b k).length=b.length
 | 0=>rfl
 | k + 1=>cR_len.trans (V9 k)
theorem B9e {t:Int × Int × Rat->Bool} {ws:LW} {b:List Bool} {i:Nat} (h:tru b i=true):∀ k,tru (cN t ws b k) i=true
 | 0=>h
 | k + 1=>A5f (B9e h k)
theorem B9f {t:Int × Int × Rat->Bool} {ws:LW} {b:List Bool} (hb:∀ w ∈ ws,w.2.1.toNat < b.length) (hc:∀ c:List Bool,c.length=b.length->(∀ i,tru b i=true->tru c i=true)->(∀ w ∈ ws,tru c w.1.toNat=true->t w=true->tru c w.2.1.toNat=true)->∀ i,i < b.length->tru c i=true):∀ k,(∀ i,i < b.length->tru (cN t ws b k) i=true)\/k<=cnt (cN t ws b k)
 | 0=>.inr (Nat.zero_le _)
 | k + 1=>by
  rcases B9f hb hc k with h | h
  ·exact .inl fun i hi=>A5f (h i hi)
  ·by_cases cl:∀ w ∈ ws,tru (cN t ws b k) w.1.toNat=true->t w=true->tru (cN t ws b k) w.2.1.toNat=true
   ·exact .inl fun i hi=>A5f (hc _ (V9 k) (fun i h=>B9e h k) cl i hi)
   ·refine .inr ?_;have:∃ w ∈ ws,tru (cN t ws b k) w.1.toNat=true/\t w=true/\¬ tru (cN t ws b k) w.2.1.toNat=true:=Classical.byContradiction fun no=>cl fun w hw h1 h2=>Classical.byContradiction fun h3=>no ⟨w,hw,h1,h2,h3⟩;obtain ⟨w,hw,h1,h2,h3⟩:=this;have:=(B3h (b:=cN t ws b k) (c:=cN t ws b (k + 1)) cR_len.symm fun i hi=>A5f hi).2 ⟨_,h3,B3k hw h1 h2 (by rw [V9]; exact hb w hw)⟩;omega
theorem B9g {t:Int × Int × Rat->Bool} {ws:LW} {b:List Bool} (hb:∀ w ∈ ws,w.2.1.toNat < b.length) (hc:∀ c:List Bool,c.length=b.length->(∀ i,tru b i=true->tru c i=true)->(∀ w ∈ ws,tru c w.1.toNat=true->t w=true->tru c w.2.1.toNat=true)->∀ i,i < b.length->tru c i=true):∀ i,i < b.length->tru (cN t ws b b.length) i=true:=by
 rcases B9f hb hc b.length with h | h
 ·exact h
 ·intro i hi;exact A9l (b:=cN t ws b b.length) (by rw [V9]; exact h) i (by rw [V9]; exact hi)
theorem lnS0 {ways:List Wy} {n k:Nat} (hw:∀ w ∈ ways,w.1<=n/\w.2.1<=n):∃ r,fa (bsK ways n k).1 n=some r/\0<=r:=by
 have h0:ole (some 0) (fa (bsK ways n k).1 n):=N8 (by
  have:=T7 (ways:=ways) (n:=n) (v:=n) (Nat.zero_le k)
  rwa [show lnK ways n 0 n=some 0 from if_pos rfl] at this) (A1x hw k n)
 exact h0 0 rfl
theorem A4h {ways:List Wy} {n k:Nat} (hw:∀ w ∈ ways,w.1<=n/\w.2.1<=n/\On (LL * 4) (1 * 2 ^ 60) w.2.2.1) (hk:kst ways n=some k) (hr:∀ v,v < n->∃ w ∈ ways,w.1=n/\w.2.1=v) (hl:ways.length<=100) (hn:n<=10):∃ P,Pot ways n P:=by
 have hw':∀ w ∈ ways,w.1<=n/\w.2.1<=n:=fun w h=>⟨(hw w h).1,(hw w h).2.1⟩;obtain ⟨h1,h2⟩:=A4c hk;have kp:=(A9w hw' h1).1;obtain ⟨r,er,_⟩:=lnS0 (k:=k) hw';have val:∀ v,v<=n->∃ a,fa (bsK ways n k).1 v=some a:=fun v hv=>by
  rcases Nat.lt_or_ge v n with z | z
  ·obtain ⟨w,hw1,e1,e2⟩:=hr v z;obtain ⟨b,hb,_⟩:=kp w hw1 r (by rw [e1]; exact er);rw [e2] at hb;exact ⟨b,hb⟩
  ·rw [show v=n by omega]; exact ⟨r,er⟩
 refine ⟨fun v=>(fa (bsK ways n k).1 v).getD 0 - r,by show (fa (bsK ways n k).1 n).getD 0 - r=0; rw [er]; show r - r=0; grind,fun w h=>?_⟩;obtain ⟨a,ha⟩:=val w.1 (hw' w h).1;obtain ⟨b,hb,l⟩:=kp w h a ha;show (fa (bsK ways n k).1 w.1).getD 0 - r + w.2.2.1<=(fa (bsK ways n k).1 w.2.1).getD 0 - r;rw [ha,hb];show a - r + w.2.2.1<=b - r;grind
theorem B0b {ts:LQ} {ws:LW} {hs:LH} {W:Option Rat}:∀ v,v < ts.length->∃ w ∈ J1 ts ws hs W,w.1=ts.length/\w.2.1=v:=fun v hv=>⟨_,List.mem_append_left _ (List.mem_append_left _ (List.mem_append_left _ (List.mem_map.mpr ⟨v,List.mem_range.mpr hv,rfl⟩))),rfl,rfl⟩
theorem kz3b:∀ z ∈ [("straight":Str),"steps","steps"],Kd z:=fun z hz=>by
 simp only [List.mem_cons,List.not_mem_nil,or_false] at hz;rcases hz with rfl | rfl | rfl
 ·exact .inl rfl
 ·exact .inr rfl
 ·exact .inr rfl
theorem B73:okA 7 (.list [.list [.int 1,.int 0]]):=by
 unfold okA;refine ⟨Nat.le_of_ble_eq_true rfl,fun z hz=>?_⟩;rw [List.mem_singleton.mp hz];unfold okA;refine ⟨Nat.le_of_ble_eq_true rfl,fun z hz=>?_⟩;simp only [List.mem_cons,List.not_mem_nil,or_false] at hz;rcases hz with rfl | rfl <;> (unfold okA; exact True.intro)
abbrev LnW (n:Nat) (w:Int × Int × Rat):Prop:=(0<=w.1/\w.1 < (n:Int))/\(0<=w.2.1/\w.2.1 < (n:Int))/\O4 w.2.2
abbrev LnH (n:Nat) (h:Str × Int × Rat):Prop:=Hk h.1/\(0<=h.2.1/\h.2.1 < (n:Int))/\O4 h.2.2
def O5 (q:Rat):Prop:=On (LL * 4) (2 ^ 50) q
abbrev Ln5W (n:Nat) (w:Int × Int × Rat):Prop:=(0<=w.1/\w.1 < (n:Int))/\(0<=w.2.1/\w.2.1 < (n:Int))/\O5 w.2.2
abbrev Ln5H (n:Nat) (h:Str × Int × Rat):Prop:=Hk h.1/\(0<=h.2.1/\h.2.1 < (n:Int))/\O5 h.2.2
def L5 (ws:LW) (hs:LH):Prop:=(∀ w ∈ ws,O5 w.2.2)/\∀ h ∈ hs,O5 h.2.2
theorem O5.o4 {q:Rat} (h:O5 q):O4 q:=h.p2 (by decide)
structure LN (xs:List Wk) (ws:LW) (hs:LH) (gs:LP):Prop where
 n0:1<=xs.length
 n1:xs.length<=10
 of:∀ x ∈ xs,Kd x.2.1/\OfG x.2.1 x.2.2 100 54 244 130/\OnC x.2.2
 nm:∀ x ∈ xs,(PyData.str x.1).canLay0=true
 wl:ws.length<=40
 hl:hs.length<=40
 w:∀ w ∈ ws,LnW xs.length w
 h:∀ h ∈ hs,LnH xs.length h
 g:gs=[]\/gs=[.list [.int 1,.int 0]]
theorem A2v {q:Rat} {a:Int} (h:q=(a:Rat)) (ha:a.natAbs<=2 ^ 44):On LL (2 ^ 44) q:=by rw [h]; exact U9 J4 ha
theorem lit3 {e:PEnv} {Q:SV->PEnv->Prop} (h:∀ qs:LQ,qs.length=3->(∀ q ∈ qs,On LL (2 ^ 44) q)->Q (.own (qs.map dq)) e):pLst (J3 (pdat (pTup (J3 (pdat (pC (PyData.int 0))) (J3 (pdat (pC (PyData.int 1))) pNil)))) (J3 (pdat (pTup (J3 (pdat (pC (PyData.int 60))) (J3 (pdat (pC (PyData.int 1))) pNil)))) (J3 (pdat (pTup (J3 (pdat (pOp (pI CPow fun i j=>PyData.int (i ^ j.toNat)) (pdat (pC (PyData.int 10))) (pdat (pC (PyData.int 13))))) (J3 (pdat (pC (PyData.int 1))) pNil)))) pNil))) e Q :=
 ⟨Nat.le_of_ble_eq_true rfl,Nat.le_of_ble_eq_true rfl,Y0 13,Nat.le_of_ble_eq_true rfl,Nat.le_of_ble_eq_true rfl,h [((0:Int):Rat),((60:Int):Rat),(((10:Int) ^ 13:Int):Rat)] rfl fun q hq=>by
  simp only [List.mem_cons,List.not_mem_nil,or_false] at hq;rcases hq with h | h | h
  ·exact A2v h (by decide)
  ·exact A2v h (by decide)
  ·exact A2v h (by decide)⟩
theorem lit4 {e:PEnv} {Q:SV->PEnv->Prop} (h:∀ qs:LQ,qs.length=4->(∀ q ∈ qs,On LL (2 ^ 44) q)->Q (.own (qs.map dq)) e):pLst (J3 (pdat (pTup (J3 (pdat (pC (PyData.int 0))) (J3 (pdat (pC (PyData.int 1))) pNil)))) (J3 (pdat (pTup (J3 (pdat (pC (PyData.int 90))) (J3 (pdat (pC (PyData.int 1))) pNil)))) (J3 (pdat (pTup (J3 (pdat (pOp (pI CPow fun i j=>PyData.int (i ^ j.toNat)) (pdat (pC (PyData.int 10))) (pdat (pC (PyData.int 13))))) (J3 (pdat (pC (PyData.int 1))) pNil)))) (J3 (pdat (pTup (J3 (pdat (pOp (pI CPow fun i j=>PyData.int (i ^ j.toNat)) (pdat (pC (PyData.int 10))) (pdat (pC (PyData.int 13))))) (J3 (pdat (pC (PyData.int 1))) pNil)))) pNil)))) e Q :=
 ⟨Nat.le_of_ble_eq_true rfl,Nat.le_of_ble_eq_true rfl,Y0 13,Nat.le_of_ble_eq_true rfl,Y0 13,Nat.le_of_ble_eq_true rfl,Nat.le_of_ble_eq_true rfl,h [((0:Int):Rat),((90:Int):Rat),(((10:Int) ^ 13:Int):Rat),(((10:Int) ^ 13:Int):Rat)] rfl fun q hq=>by
  simp only [List.mem_cons,List.not_mem_nil,or_false] at hq;rcases hq with h | h | h | h
  ·exact A2v h (by decide)
  ·exact A2v h (by decide)
  ·exact A2v h (by decide)
  ·exact A2v h (by decide)⟩
theorem A5a {a:Nat} {q:Rat} (h:On LL (2 ^ a) q) (ha:a<=50):O5 q:=(h.up (by decide)).p2 ha
theorem B90 {a:Nat} {q:Rat} (h:On LL (2 ^ a) q) (ha:a<=58):O4 q:=(h.up (by decide)).p2 ha
theorem S7 {ts:LQ} {ws:LW} {hs:LH} {W:Rat} {x:Wy} (h:x ∈ J1 ts ws hs (some W)):(∃ j,j < ts.length/\x=(ts.length,j,0,(("start":Str),(j:Int))))\/(∃ j,j < ts.length/\x=(j,ts.length,rat ts (j:Int) - W,(("end":Str),(j:Int))))\/(∃ (k:Nat) (z:Int × Int × Rat),ws[k]?=some z/\x=(z.1.toNat,z.2.1.toNat,rat ts z.1 + z.2.2,(("wait":Str),(k:Int))))\/∃ (k:Nat) (z:Str × Int × Rat),hs[k]?=some z/\x=hoO ts z k:=by
 unfold J1 at h;rcases List.mem_append.mp h with h | h
 ·rcases List.mem_append.mp h with h | h
  ·rcases List.mem_append.mp h with h | h
   ·obtain ⟨i,hi,rfl⟩:=List.mem_map.mp h;exact .inl ⟨i,List.mem_range.mp hi,rfl⟩
   ·obtain ⟨a,i,e,rfl⟩:=W4 h;have hi:=(List.getElem?_eq_some_iff.mp e).1;refine .inr (.inl ⟨i,hi,?_⟩);show (_,_,a - W,_)=_;rw [show rat ts (i:Int)=a by unfold rat; rw [Int.toNat_natCast,List.getD_eq_getElem?_getD,e]; rfl]
  ·obtain ⟨a,i,e,rfl⟩:=W4 h;exact .inr (.inr (.inl ⟨i,a,e,rfl⟩))
 ·obtain ⟨a,i,e,rfl⟩:=W4 h;exact .inr (.inr (.inr ⟨i,a,e,rfl⟩))
structure Rgn (ways:List Wy) (n s:Nat) (w:Nat->Wy):Prop where
 s1:1<=s
 sn:s<=n + 1
 mem:∀ i,i < s->w i ∈ ways
 bal:∀ hs v,flF hs w s v=flG hs w s v/\0<=flF hs w s v
 dif:∀ i j,i < s->j < s->w i=w j->i=j
 pos:0 < My.S ((List.range s).map fun i=>(w i).2.2.1)
theorem Rng.rgn {ways ways':List Wy} {n s:Nat} {p:Nat->Nat} {w:Nat->Wy} (R:Rng ways n s p w) (h:∀ x ∈ ways,x ∈ ways'):Rgn ways' n s w:=⟨R.s1,R.sn,fun i hi=>h _ (R.mem i hi).1,fun hs v=>R.bal hs v,fun i j hi hj e=>R.dif i j hi hj (by rw [<- (R.mem i hi).2.1,<- (R.mem j hj).2.1,e]),R.pos⟩
theorem A89 {hs:LH} {w:Nat->Wy} {p:Nat->Nat} {s:Nat} (h:∀ i,i < s->(w i).1=p i/\(w i).2.1=p (i + 1)):∀ k,k<=s->∀ v,flF hs w k v - flG hs w k v=dl (p k) v - dl (p 0) v
 | 0,_,v=>by show (0:Rat) - 0=_; grind
 | k + 1,hk,v=>by
  have ih:=A89 (hs:=hs) h k (by omega) v;obtain ⟨h1,h2⟩:=h k (by omega);show effF hs (w k) (flF hs w k) v - effG hs (w k) (flG hs w k) v=_;unfold effF effG;rw [h1,h2];split <;> grind
theorem Rng.rgnB {ways:List Wy} {n s:Nat} {p:Nat->Nat} {w:Nat->Wy} (R:Rng (ways.map swp) n s p w):Rgn ways n s fun i=>swp (w i):=⟨R.s1,R.sn,fun i hi=>by
  obtain ⟨x,hx,e⟩:=List.mem_map.mp (R.mem i hi).1;show swp (w i) ∈ ways;rw [<- e]; exact hx,fun hs v=>by
  have:=A89 (hs:=hs) (w:=fun i=>swp (w i)) (p:=p) (s:=s) (fun i hi=>⟨(R.mem i hi).2.1,(R.mem i hi).2.2⟩) s (Nat.le_refl _) v;rw [R.round] at this;have e:flF hs (fun i=>swp (w i)) s v=flG hs (fun i=>swp (w i)) s v:=by grind
  exact ⟨e,by rw [e]; exact A9b s v⟩,fun i j hi hj e=>R.dif i j hi hj (by
  have:(swp (w i)).1=(swp (w j)).1:=by rw [show swp (w i)=swp (w j) from e]
  rw [<- (R.mem i hi).2.1,<- (R.mem j hj).2.1]; exact this),R.pos⟩
theorem A4t {hs:LH} {a b:Nat} {q:Rat} {c:Str} {m:Int} (h:c≠"hold"):isTl hs (a,b,q,(c,m))=false:=by
 unfold isTl;rw [show decide (c="hold")=false from decide_eq_false h]; rfl
theorem A4u {hs:LH} {a b m:Nat} {q:Rat} {z:Str × Int × Rat} (ez:hs[m]?=some z):isTl hs (a,b,q,(("hold":Str),(m:Int)))=decide (z.1="till"):=by
 unfold isTl;dsimp only;rw [Int.toNat_natCast,ez];show (decide (("hold":Str)="hold") && _)=_;rw [show decide (("hold":Str)="hold")=true from decide_eq_true rfl]; rfl
theorem Q2 {hs:LH} {y:Wy} {F G:Nat->Rat} {v:Nat} (h:isTl hs y=false):effF hs y F v=F v + dl y.2.1 v/\effG hs y G v=G v + dl y.1 v:=by
 unfold effF effG; rw [h]; exact ⟨by rw [if_neg (by decide)]; grind,rfl⟩
theorem B3e {hs:LH} {y:Wy} {F G:Nat->Rat} {v:Nat} (h:isTl hs y=true):effF hs y F v=F v + dl y.2.1 v - dl y.1 v/\effG hs y G v=G v:=by
 unfold effF effG; rw [h]; exact ⟨by rw [if_pos rfl],by rw [if_pos rfl]; grind⟩
theorem A1m {n v:Nat} (h:v < n):dl n v=0:=if_neg (by omega)
def tpW (hs:LH) (ts:LQ) (y:Wy):Rat:=if isTl hs y=true then 0 else if y.1 < ts.length then rat ts (y.1:Int) else 0
theorem B6k {f g:Nat->Rat}:∀ k,My.S ((List.range k).map fun i=>f i - g i) + My.S ((List.range k).map g)=My.S ((List.range k).map f)
 | 0=>by show (0:Rat) + 0=0; grind
 | k + 1=>by
  have:=B6k (f:=f) (g:=g) k;rw [List.range_succ,List.map_append,List.map_append,List.map_append,My.A14,My.A14,My.A14];show _ + (f k - g k + 0) + (_ + (g k + 0))=_ + (f k + 0);grind
theorem B3o {f:Nat->Rat} {k:Nat}:My.S ((List.range (k + 1)).map f)=My.S ((List.range k).map f) + f k:=by
 rw [List.range_succ,List.map_append,My.A14];show _ + (f k + 0)=_; rw [Rat.add_zero]
theorem Rgn.len {ts:LQ} {ways:List Wy} {hs:LH} {s:Nat} {w:Nat->Wy} (R:Rgn ways ts.length s w):0 < My.S ((List.range s).map fun i=>(w i).2.2.1 - tpW hs ts (w i)) + sumV (fun v=>flF hs w s v * rat ts (v:Int)) ts.length:=by
 rw [P6 (g:=fun v=>flG hs w s v * rat ts (v:Int)) fun v _=>by rw [(R.bal hs v).1],A9a (t:=fun v=>rat ts (v:Int)) s];have e:=B6k (f:=fun i=>(w i).2.2.1) (g:=fun i=>tpW hs ts (w i)) s;have e2:((List.range s).map fun i=>if isTl hs (w i)=true then (0:Rat) else if (w i).1 < ts.length then rat ts ((w i).1:Int) else 0)=(List.range s).map fun i=>tpW hs ts (w i):=rfl;rw [e2,e];exact R.pos
theorem B8w {ts:LQ} {z:Str × Int × Rat} {m:Nat}:(hoO ts z m).2.2.2=(("hold":Str),(m:Int)):=by
 unfold hoO;split
 ·rfl
 ·split <;> rfl
theorem A5n {ts:LQ} {ws:LW} {hs:LH} {W:Rat} {x:Wy} (h:x ∈ J1 ts ws hs (some W)):∃ (c:Str) (m:Nat),x.2.2.2=(c,(m:Int))/\((c="start"/\m < ts.length/\x=(ts.length,m,0,(("start":Str),(m:Int))))\/(c="end"/\m < ts.length/\x=(m,ts.length,rat ts (m:Int) - W,(("end":Str),(m:Int))))\/(c="wait"/\m < ws.length/\∀ z,ws[m]?=some z->x=(z.1.toNat,z.2.1.toNat,rat ts z.1 + z.2.2,(("wait":Str),(m:Int))))\/(c="hold"/\m < hs.length/\∀ z,hs[m]?=some z->x=hoO ts z m)):=by
 rcases S7 h with ⟨j,hj,rfl⟩ | ⟨j,hj,rfl⟩ | ⟨k,z,ez,rfl⟩ | ⟨k,z,ez,rfl⟩
 ·exact ⟨_,j,rfl,.inl ⟨rfl,hj,rfl⟩⟩
 ·exact ⟨_,j,rfl,.inr (.inl ⟨rfl,hj,rfl⟩)⟩
 ·exact ⟨_,k,rfl,.inr (.inr (.inl ⟨rfl,(List.getElem?_eq_some_iff.mp ez).1,fun z' e=>by rw [ez] at e; cases e; rfl⟩))⟩
 ·exact ⟨_,k,B8w,.inr (.inr (.inr ⟨rfl,(List.getElem?_eq_some_iff.mp ez).1,fun z' e=>by rw [ez] at e; cases e; rfl⟩))⟩
theorem B6c {ts:LQ} {ws:LW} {hs:LH} {W:Rat} {x y:Wy} (hx:x ∈ J1 ts ws hs (some W)) (hy:y ∈ J1 ts ws hs (some W)) (e:x.2.2.2=y.2.2.2):x=y:=by
 obtain ⟨c,m,e1,h1⟩:=A5n hx;obtain ⟨d,k,e2,h2⟩:=A5n hy;rw [e1,e2] at e;have ec:c=d:=congrArg Prod.fst e;have em:m=k:=by have:(m:Int)=(k:Int):=congrArg Prod.snd e; omega
 subst ec em;rcases h1 with ⟨rfl,_,a⟩ | ⟨rfl,_,a⟩ | ⟨rfl,l,a⟩ | ⟨rfl,l,a⟩
 ·rcases h2 with ⟨_,_,b⟩ | ⟨z,_⟩ | ⟨z,_⟩ | ⟨z,_⟩
  ·rw [a,b]
  all_goals exact absurd z (by decide +kernel)
 ·rcases h2 with ⟨z,_⟩ | ⟨_,_,b⟩ | ⟨z,_⟩ | ⟨z,_⟩
  ·exact absurd z (by decide +kernel)
  ·rw [a,b]
  all_goals exact absurd z (by decide +kernel)
 ·rcases h2 with ⟨z,_⟩ | ⟨z,_⟩ | ⟨_,_,b⟩ | ⟨z,_⟩
  ·exact absurd z (by decide +kernel)
  ·exact absurd z (by decide +kernel)
  ·rw [a _ (List.getElem?_eq_getElem l),b _ (List.getElem?_eq_getElem l)]
  ·exact absurd z (by decide +kernel)
 ·rcases h2 with ⟨z,_⟩ | ⟨z,_⟩ | ⟨z,_⟩ | ⟨_,_,b⟩
  ·exact absurd z (by decide +kernel)
  ·exact absurd z (by decide +kernel)
  ·exact absurd z (by decide +kernel)
  ·rw [a _ (List.getElem?_eq_getElem l),b _ (List.getElem?_eq_getElem l)]
theorem B1b {net zs:LP} {o1 o2 o3 o6 o7:Option SV} {c:Str} {m j t:Nat} {Q:SV->PEnv->Prop} (cl:(PyData.str c).canLay0=true) (hidx:[PyData.str "start",.str "end",.str "wait",.str "hold"].findIdx? (fun z=>z.eqv (PyData.str c))=some j) (hat:L2.atI [PyData.int 0,.int 0,.int 1,.int 2] (j:Int)=some (.int (t:Int))) (hnt:L2.atI net (t:Int)=some (.list zs)) (hm:m < zs.length) (h:Q (.d (.bool true)) [some (.d (.tuple net)),o1,o2,o3,some (.d (.str c)),some (.d (.int (m:Int))),o6,o7]) :
  A30 (pI0 fun i j=>PyData.bool (decide (i<=j))) (pI0 fun i j=>PyData.bool (decide (i < j))) (pdat (pC (PyData.int 0))) (A42 5) (pdat (pCB A43 (J3 (pdat (pOp pIx2 (A42 0) (pdat (pOp pIx2 (pdat (pLst (J3 (pdat (pC (PyData.int 0))) (J3 (pdat (pC (PyData.int 0))) (J3 (pdat (pC (PyData.int 1))) (J3 (pdat (pC (PyData.int 2))) pNil)))))) (pdat (pIdx (pdat (pLst (J3 (pdat (pC (PyData.str (Str.ofString "start")))) (J3 (pdat (pC (PyData.str (Str.ofString "end")))) (J3 (pdat (pC (PyData.str (Str.ofString "wait")))) (J3 (pdat (pC (PyData.str (Str.ofString "hold")))) pNil)))))) (pdat (pVar 4)))))))) pNil))) [some (.d (.tuple net)),o1,o2,o3,some (.d (.str c)),some (.d (.int (m:Int))),o6,o7] Q:=by
 unfold A30;simp only [pdat,pC,A42,SV.asD,pI0,asB,List.getElem?_cons_zero,List.getElem?_cons_succ];rw [if_pos (decide_eq_true (by omega))];refine ⟨Nat.le_of_ble_eq_true rfl,Nat.le_of_ble_eq_true rfl,by decide +kernel,cl,Nat.le_of_ble_eq_true rfl,Nat.le_of_ble_eq_true rfl,j,hidx,?_⟩;simp only [SV.asD,A7i,pIx];refine E6 hat ?_;simp only [A7h,pIx];refine E6 hnt ?_;simp only [pNil,A2k];rw [decide_eq_true (show (m:Int) < (zs.length:Int) by omega)];exact h
theorem U3 {F G:Nat->Rat} {n j:Nat} {c:Rat} (h:∀ v,v < n->G v=F v + (if v=j then c else 0)):((List.range n).map F).set j (F j + c)=(List.range n).map G:=by
 apply List.ext_getElem?;intro v;rw [List.getElem?_set,List.length_map,List.length_range];by_cases hv:v < n
 ·rw [List.getElem?_map,List.getElem?_map,List.getElem?_range hv];show _=some (G v);rw [h v hv];by_cases e:j=v
  ·subst e; rw [if_pos rfl,if_pos hv,if_pos rfl]
  ·rw [if_neg e,if_neg (fun z=>e z.symm)]; show some (F v)=some (F v + 0); rw [Rat.add_zero]
 ·rw [List.getElem?_eq_none (by simp; omega),List.getElem?_eq_none (by simp; omega)];split
  ·rw [if_neg (by omega)]
  ·rfl
theorem R3 {F G:Nat->Rat} {n:Nat} (h:∀ v,v < n->G v=F v):(List.range n).map F=(List.range n).map G:=List.map_congr_left fun v hv=>(h v (List.mem_range.mp hv)).symm
theorem A2a {F:Nat->Rat} {n j:Nat} (h:j < n):((List.range n).map F)[j]?=some (F j):=by rw [List.getElem?_map,List.getElem?_range h]; rfl
theorem B8x {hs:LH} {w:Nat->Wy} {k v:Nat} (h:k<=12):SmQ 3900 (flF hs w k v)/\SmQ 3900 (flG hs w k v):=by
 obtain ⟨⟨a,ea,ha⟩,b,eb,hb⟩:=A0d (hs:=hs) (w:=w) k v;rw [ea,eb];exact ⟨onL (U9 (k:=2 ^ 10) J4 (by omega)) (by decide),onL (U9 (k:=2 ^ 10) J4 (by omega)) (by decide)⟩
theorem O8:SmQ 3900 1:=onL (U9 (n:=1) (k:=2 ^ 1) J4 (by decide)) (by decide)
def rgA (w:Wy):PyData:=.tuple [qD w.2.2.2,dq 1]
def rgL (s:Nat) (w:Nat->Wy):LP:=(List.range s).map fun i=>rgA (w i)
theorem B6u {c:List (Option Wy)} {m L s:Nat}:((List.range s).map fun i=>rgW c (plc c m (L + i)))=rgL s fun i=>wyA c (plc c m (L + i)):=by
 unfold rgL;congr 1
 funext i
 unfold rgW rgA wyA;dsimp only;cases cmA c (plc c m (L + i)) <;> rfl
def RgO (ways:List Wy) (n:Nat) (ls:LP):Prop:=∃ m s,(bsK ways n (n + 1)).2.2=some m/\1<=s/\plc (bsK ways n (n + 1)).2.1 m (n + 1 + s)=plc (bsK ways n (n + 1)).2.1 m (n + 1)/\(∀ s',1<=s'->s' < s->plc (bsK ways n (n + 1)).2.1 m (n + 1 + s')≠plc (bsK ways n (n + 1)).2.1 m (n + 1))/\ls=rgL s fun i=>wyA (bsK ways n (n + 1)).2.1 (plc (bsK ways n (n + 1)).2.1 m (n + 1 + i))
theorem RgO.uniq {ways:List Wy} {n:Nat} {l1 l2:LP} (h1:RgO ways n l1) (h2:RgO ways n l2):l1=l2:=by
 obtain ⟨m,s,e1,a1,b1,c1,rfl⟩:=h1;obtain ⟨m',s',e2,a2,b2,c2,rfl⟩:=h2;rw [e1] at e2;cases e2;rcases Nat.lt_trichotomy s s' with h | h | h
 ·exact absurd b1 (c2 s a1 h)
 ·rw [h]
 ·exact absurd b2 (c1 s' a2 h)
def Tle (ts:LQ) (ws:LW) (hs:LH) (wd:Str) (ls:LP):Prop:=(wd="ring"/\kst (J1 ts ws hs none) ts.length=none/\RgO (J1 ts ws hs none) ts.length ls/\∃ s p w,Rng (J1 ts ws hs none) ts.length s p w/\ls=rgL s w)\/(wd="starts"/\kst (J1 ts ws hs none) ts.length≠none)
def Tld (ts:LQ) (ws:LW) (hs:LH) (W:Rat) (wd:Str) (ls:LP):Prop:=(wd="bar"/\(∃ s w,Rgn (J1 ts ws hs (some W)) ts.length s w/\ls=rgL s w)/\((kst (J1 ts ws hs none) ts.length=none/\RgO (J1 ts ws hs none) ts.length ls)\/(kst (J1 ts ws hs none) ts.length≠none/\kst (bkL ts ws hs W) ts.length=none/\RgO (bkL ts ws hs W) ts.length ls)))\/(wd="starts"/\kst (J1 ts ws hs none) ts.length≠none/\kst (bkL ts ws hs W) ts.length≠none/\Fars (bkL ts ws hs W) ts.length (farS (bkL ts ws hs W) ts.length)/\ls=(latS ts ws hs W).map dq)
theorem Tld.uniq {ts:LQ} {ws:LW} {hs:LH} {W:Rat} {wd wd':Str} {ls ls':LP} (h1:Tld ts ws hs W wd ls) (h2:Tld ts ws hs W wd' ls'):wd=wd'/\ls=ls':=by
 rcases h1 with ⟨rfl,_,⟨k1,r1⟩ | ⟨k1,j1,r1⟩⟩ | ⟨rfl,k1,j1,_,rfl⟩
 ·rcases h2 with ⟨rfl,_,⟨k2,r2⟩ | ⟨k2,j2,r2⟩⟩ | ⟨rfl,k2,j2,_,rfl⟩
  ·exact ⟨rfl,r1.uniq r2⟩
  ·exact absurd k1 k2
  ·exact absurd k1 k2
 ·rcases h2 with ⟨rfl,_,⟨k2,r2⟩ | ⟨k2,j2,r2⟩⟩ | ⟨rfl,k2,j2,_,rfl⟩
  ·exact absurd k2 k1
  ·exact ⟨rfl,r1.uniq r2⟩
  ·exact absurd j1 j2
 ·rcases h2 with ⟨rfl,_,⟨k2,r2⟩ | ⟨k2,j2,r2⟩⟩ | ⟨rfl,k2,j2,_,rfl⟩
  ·exact absurd k2 k1
  ·exact absurd j2 j1
  ·exact ⟨rfl,rfl⟩
theorem A56 {ts:LQ} {ws:LW} {hs:LH} {W:Rat}:∀ v,v < ts.length->∃ w ∈ bkL ts ws hs W,w.1=ts.length/\w.2.1=v:=fun v hv=>⟨swp (v,ts.length,ts[v] - W,(("end":Str),(v:Int))),List.mem_map.mpr ⟨_,List.mem_append_left _ (List.mem_append_left _ (List.mem_append_right _ (List.mem_map.mpr ⟨(ts[v],v),List.mem_iff_getElem?.mpr ⟨v,by rw [List.getElem?_zipIdx,List.getElem?_eq_getElem hv]; simp⟩,rfl⟩))),rfl⟩,rfl,rfl⟩
theorem B70 {n:Nat} {c:Str} {m:Int} (h:(PyData.str c).canLay0=true):okA (n + 1) (qD (c,m)):=by
 unfold qD okA;refine ⟨Nat.le_of_ble_eq_true rfl,fun x hx=>?_⟩;simp only [List.mem_cons,List.not_mem_nil,or_false] at hx;rcases hx with rfl | rfl
 ·exact V2 h _
 ·unfold okA; exact True.intro
theorem Tld.ok {ts:LQ} {ws:LW} {hs:LH} {W:Rat} {wd:Str} {ls:LP} (n1:ts.length<=10) (h:Tld ts ws hs W wd ls):ls.length<=11/\okA 8 (.tuple [.str wd,.list ls]):=by
 have z:ls.length<=11/\(PyData.str wd).canLay0=true/\∀ x ∈ ls,okA 6 x:=by
  rcases h with ⟨rfl,⟨s,w,rg,rfl⟩,_⟩ | ⟨rfl,_,_,fo,rfl⟩
  ·refine ⟨by unfold rgL; rw [List.length_map,List.length_range]; have:=rg.sn; omega,by decide +kernel,fun x hx=>?_⟩;unfold rgL at hx;obtain ⟨i,hi,rfl⟩:=List.mem_map.mp hx;obtain ⟨c,m,e,h⟩:=A5n (rg.mem i (List.mem_range.mp hi));unfold rgA;rw [e];unfold okA;refine ⟨Nat.le_of_ble_eq_true rfl,fun x hx=>?_⟩;simp only [List.mem_cons,List.not_mem_nil,or_false] at hx;rcases hx with rfl | rfl
   ·refine B70 ?_;rcases h with ⟨rfl,_⟩ | ⟨rfl,_⟩ | ⟨rfl,_⟩ | ⟨rfl,_⟩ <;> decide +kernel
   ·exact A1d _ _
  ·refine ⟨by rw [List.length_map,A0a fo]; omega,by decide +kernel,fun x hx=>?_⟩;obtain ⟨q,_,rfl⟩:=List.mem_map.mp hx;exact A1d _ _
 refine ⟨z.1,?_⟩;unfold okA;refine ⟨Nat.le_of_ble_eq_true rfl,fun x hx=>?_⟩;simp only [List.mem_cons,List.not_mem_nil,or_false] at hx;rcases hx with rfl | rfl
 ·exact V2 z.2.1 _
 ·unfold okA;exact ⟨by have:=z.1; omega,z.2.2⟩
theorem hd3 {pt:PTt} {a c:PSt} {D:PEnds} {e:PEnv} {R:PSt} (h:∀ S,S=a->pSeq (pIf pt S c) R D e):pSeq (pIf pt a c) R D e:=h a rfl
theorem hd2 {pt:PTt} {a b c:PSt} {D:PEnds} {e:PEnv} {R:PSt} (h:∀ S,S=b->pSeq (pIf pt (pSeq a S) c) R D e):pSeq (pIf pt (pSeq a b) c) R D e:=h b rfl
def cE (w:Nat->Wy):Nat->Nat
 | 0=>0
 | k + 1=>cE w k + (if (w k).2.2.2.1="end" then 1 else 0)
theorem B52 {w:Nat->Wy}:∀ k,cE w k<=k
 | 0=>Nat.le_refl _
 | k + 1=>by
  have:=B52 (w:=w) k;show cE w k + _<=_;split <;> omega
theorem smE {r:Nat} (h:r<=64):SmQ 3900 (r:Rat):=onL (U9 (n:=(r:Int)) (k:=2 ^ 10) J4 (by omega)) (by decide)
section
variable {P:Program} {w:World} {K:PySem.W.Frag} {mg:Str->Option Value} {base:Heap} {D:Adr}
theorem Q7 (T:Txt K mg D):FnOk P w K mg base CX0 1 D.a_a1 D.d_a1 ["one","other"] (Pu.spOf K [.dat,.dat] B69):=by
 refine T.F_a1.ok sc_a1 (Pu.spOf.len rfl) (fun cdv A outer s H vs Q E hr h=>?_);refine ⟨_,(QSs.out (A4 (Z1 (i:=0) (j:=1) rfl sc_a1.nd rfl rfl (by decide) rfl rfl (A0 (B7 A1w (by rfl) T.z_abs (by rfl) (A0 (qpv 0) A2)) (A0 (B7 A1w (by rfl) T.z_abs (by rfl) (A0 (qpv 1) A2)) A2)) rfl)
   (A4 (U5 PassesOwn.never (B5 (K5 (K:=K) rfl hr.units) (qpv 1) A3 (C2 _))
    (A8 (Z1 (i:=0) (j:=1) rfl sc_a1.nd rfl rfl (by decide) rfl rfl (A0 (qpv 1) (A0 (C9 P4 (qpv 0) (qpv 1)) A2)) rfl)))
   (A8 (C0 (qpv 0)))))),?_⟩
 haveI:=T.c2_NOUGHT
 haveI:=T.c2_ONE
 refine Pu.J7 h ?_;rintro as Qp ⟨a,b,rfl,k⟩;trivial;refine ⟨fun m e=>∃ x y:Int,e=[some (.d (.int x)),some (.d (.int y))]/\0<=x/\0<=y/\m=y.toNat/\Int.gcd x y=Int.gcd a b,⟨_,_,_,rfl,by split <;> omega,by split <;> omega,rfl,B5w a b⟩,?_⟩
 rintro m e ⟨x,y,rfl,hx,hy,rfl,hg⟩;trivial;refine ite2 (fun e=>?_) (fun hn=>?_)
 ·subst e;have:=A4f x hx;rw [hg] at this;rw [<- this]; exact k
 ·have h1:=Int.emod_lt_of_pos x (show 0 < y by omega);have h2:=Int.emod_nonneg x hn;exact ⟨by omega,(x % y).toNat,by omega,y,x % y,rfl,hy,h2,rfl,by rw [A86,hg]⟩
theorem A2o (T:Txt K mg D):FnOk P w K mg base CX0 2 D.a_c3 D.d_c3 ["one","other"] (Pu.spOf K [.dat,.dat] (A0x (·+·))):=by
 refine T.F_c3.ok sc_c3 (Pu.spOf.len rfl) (fun cdv A outer s H vs Q E hr h=>?_);refine ⟨_,(QSs.out (A4 (B6 (i:=2) sc_c3.nd rfl (Or.inl rfl) (A7 (Q7 (K:=K) T) hr.mo rfl T.m_a1 T.F_a1.kp (S5 T) .nil B8 (A0 (A9 (A6 (K:=K) rfl) (qpv 0) A3 (fun _ _=>rfl)) (A0 (A9 (A6 (K:=K) rfl) (qpv 1) A3 (fun _ _=>rfl)) A2))))
   (A4 (Z1 (i:=3) (j:=4) rfl sc_c3.nd rfl rfl (by decide) rfl rfl (A0 (C9 N2 (A9 (A6 (K:=K) rfl) (qpv 0) A3 (fun _ _=>rfl)) (qpv 2)) (A0 (C9 N2 (A9 (A6 (K:=K) rfl) (qpv 1) A3 (fun _ _=>rfl)) (qpv 2)) A2)) rfl)
   (A4 (B6 (i:=5) sc_c3.nd rfl (Or.inl rfl) (C9 G9 (C9 F7 (A9 (A6 (K:=K) rfl) (qpv 0) A3 (fun _ _=>rfl)) (qpv 4)) (C9 F7 (A9 (A6 (K:=K) rfl) (qpv 1) A3 (fun _ _=>rfl)) (qpv 3))))
   (A4 (B6 (i:=6) sc_c3.nd rfl (Or.inl rfl) (A7 (Q7 (K:=K) T) hr.mo rfl T.m_a1 T.F_a1.kp (S5 T) .nil B8 (A0 (qpv 5) (A0 (qpv 2) A2))))
   (A8 (C0 (C4 (A0 (C9 N2 (qpv 5) (qpv 6)) (A0 (C9 F7 (qpv 3) (C9 N2 (A9 (A6 (K:=K) rfl) (qpv 1) A3 (fun _ _=>rfl)) (qpv 6))) A2)))))))))),?_⟩
 haveI:=T.c2_NOUGHT
 haveI:=T.c2_ONE
 refine Pu.J7 h ?_;rintro as Qp ⟨p,q,rfl,sp,sq,k⟩;trivial;refine ⟨_,_,rfl,?_⟩;trivial;have p2:=sp.2.mono (l:=8000) (by decide);have q2:=sq.2.mono (l:=8000) (by decide);have g0:=A5d (t:=(p.den:Int)) q;have gs:=A58 (t:=(p.den:Int)) q2 (den0 q);have gn:(0:Int)<=((Int.gcd (p.den:Int) (q.den:Int):Nat):Int):=Int.natCast_nonneg _;refine ⟨⟨g0,gs⟩,⟨g0,gs⟩,⟨sp.1.mono (by decide),B07 q2 gn⟩,⟨sq.1.mono (by decide),B07 p2 gn⟩,_,_,rfl,?_⟩;trivial;refine ⟨⟨A4g g0,A58 gs g0⟩,⟨A4g g0,A58 gs g0⟩,⟨B07 p2 gn,B07 q2 (Int.natCast_nonneg _)⟩,?_⟩;obtain ⟨e1,e2⟩:=B4h p q _ _ rfl rfl;rw [e1,e2]; exact k
theorem T6 (T:Txt K mg D):FnOk P w K mg base CX0 3 D.a_c1 D.d_c1 ["one","other"] (Pu.spOf K [.dat,.dat] (A0x (·-·))):=by
 refine T.F_c1.ok sc_c1 (Pu.spOf.len rfl) (fun cdv A outer s H vs Q E hr h=>?_);refine ⟨_,(QSs.out (A8 (C0 (A7 (A2o (K:=K) T) hr.mo rfl T.m_c3 T.F_c3.kp (A92 T) .nil B8 (A0 (qpv 0) (A0 (C4 (A0 (B6z B6e (A9 (A6 (K:=K) rfl) (qpv 1) A3 (fun _ _=>rfl))) (A0 (A9 (A6 (K:=K) rfl) (qpv 1) A3 (fun _ _=>rfl)) A2))) A2)))))),?_⟩
 haveI:=T.c2_NOUGHT
 haveI:=T.c2_ONE
 refine Pu.J7 h ?_;rintro as Qp ⟨p,q,rfl,sp,sq,k⟩;trivial;rw [B83];refine ⟨_,_,rfl,sp,⟨by have:=sq.1; unfold Sm at *; show (-q.num).natAbs < _; omega,sq.2⟩,?_⟩;show Qp (.d (dq (p + -q)));rw [<- Rat.sub_eq_add_neg]; exact k
theorem A7v (T:Txt K mg D):FnOk P w K mg base CX0 1 D.a_bb D.d_bb ["one","other"] (Pu.spOf K [.dat,.dat] A6n):=by
 refine T.F_bb.ok sc_bb (Pu.spOf.len rfl) (fun cdv A outer s H vs Q E hr h=>?_);refine ⟨_,(QSs.out (A8 (C0 (L1 A06 (C9 F7 (A9 (A6 (K:=K) rfl) (qpv 0) A3 (fun _ _=>rfl)) (A9 (A6 (K:=K) rfl) (qpv 1) A3 (fun _ _=>rfl))) (C9 F7 (A9 (A6 (K:=K) rfl) (qpv 1) A3 (fun _ _=>rfl)) (A9 (A6 (K:=K) rfl) (qpv 0) A3 (fun _ _=>rfl))) (C2 _))))),?_⟩
 haveI:=T.c2_NOUGHT
 haveI:=T.c2_ONE
 refine Pu.J7 h ?_;rintro as Qp ⟨p,q,rfl,sp,sq,k⟩;trivial;have p1:=sp.1.mono (l:=8000) (by decide);have p2:=sp.2.mono (l:=8000) (by decide);have q1:=sq.1.mono (l:=8000) (by decide);have q2:=sq.2.mono (l:=8000) (by decide);refine ⟨⟨p1,q2⟩,⟨q1,p2⟩,?_⟩;rw [A39]; exact k
def A4y:Pu.PSp:=fun as Q=>∃ (h:Str × Int × Rat) (ts:LQ) (arc:PyData),as=[.d (hD h),.bor (ts.map dq),.d arc]/\Hk h.1/\(0<=h.2.1/\h.2.1 < (ts.length:Int))/\SmQ 3900 h.2.2/\(∀ t ∈ ts,SmQ 3900 t)/\Q (.d (.tuple (if h.1="from" then [.int (ts.length:Int),.int h.2.1,dq h.2.2,arc] else if h.1="till" then [.int h.2.1,.int (ts.length:Int),dq (0 - h.2.2),arc] else [.int h.2.1,.int (ts.length:Int),dq (rat ts h.2.1 - h.2.2),arc])))
theorem A46 (T:Txt K mg D):FnOk P w K mg base CX0 4 D.a_ad D.d_ad ["hold","times","arc"] (Pu.spOf K [.dat,.vw,.dat] A4y):=by
 refine T.F_ad.ok sc_ad (Pu.spOf.len rfl) (fun cdv A outer s H vs Q E hr h=>?_);refine ⟨_,(QSs.out (A4 (F6 (qpv 0) (D3 (K:=K) (n:=3) rfl rfl (B3 (B0 (i:=3) sc_ad.nd rfl (Or.inl rfl) (Or.inl rfl)) (B3 (B0 (i:=4) sc_ad.nd rfl (Or.inl rfl) (Or.inl rfl)) (B3 (B0 (i:=5) sc_ad.nd rfl (Or.inl rfl) (Or.inl rfl)) D2))) rfl rfl))
   (A4 (B6 (i:=6) sc_ad.nd rfl (Or.inl rfl) (B7 (C7 (K:=K) rfl) (by rfl) T.z_len PySem.boot_len (A0 (qpv 1) A2)))
   (A4 (D0 (B5 (D1 (K:=K) rfl hr.units) (qpv 3) C8 (C2 _))
    (A8 (C0 (C4 (A0 (qpv 6) (A0 (qpv 4) (A0 (qpv 5) (A0 (qpv 2) A2)))))))
    C6)
   (A4 (D0 (B5 (D1 (K:=K) rfl hr.units) (qpv 3) C8 (C2 _))
    (A8 (C0 (C4 (A0 (qpv 4) (A0 (qpv 6) (A0 (A7 (T6 (K:=K) T) hr.mo rfl T.m_c1 T.F_c1.kp (A0j T) .nil B8 (A0 (Q5 (v:=.ref D.k_NOUGHT) rfl T.c_NOUGHT rfl) (A0 (qpv 5) A2))) (A0 (qpv 2) A2)))))))
    C6)
   (A8 (C0 (C4 (A0 (qpv 4) (A0 (qpv 6) (A0 (A7 (T6 (K:=K) T) hr.mo rfl T.m_c1 T.F_c1.kp (A0j T) .nil B8 (A0 (A9 (A6 (K:=K) rfl) (qpv 1) (qpv 4) (fun _ _=>rfl)) (A0 (qpv 5) A2))) (A0 (qpv 2) A2)))))))))))),?_⟩
 haveI:=T.c2_NOUGHT
 haveI:=T.c2_ONE
 refine Pu.J7 h ?_;rintro as Qp ⟨⟨kd,b,l⟩,ts,arc,rfl,hk,hb,sl,st,k⟩;have eb:=W9 hb.1 hb.2;unfold hD;trivial;refine ⟨hk.lay,A1g,?_⟩;rcases hk with hk | hk | hk
 ·have hk':kd="from":=hk;subst hk';rw [B29,if_pos rfl];trivial;rw [if_pos rfl] at k;exact k
 ·have hk':kd="till":=hk;subst hk';rw [B27,if_neg (by decide)];refine ⟨S4,S4,?_⟩;rw [B28,if_pos rfl];trivial;refine ⟨0,l,rfl,smq0,sl,?_⟩;trivial;rw [if_neg A8j,if_pos rfl] at k;exact k
 ·have hk':kd="by":=hk;subst hk';rw [B3c,if_neg (by decide)];refine ⟨X9,S4,?_⟩;rw [B3b,if_neg (by decide)];refine E6 eb ?_;trivial;refine ⟨_,l,rfl,st _ (U4 hb.1 hb.2),sl,?_⟩;trivial;rw [if_neg A8k,if_neg A2s] at k;exact k
def A6l:Pu.PSp:=fun as Q=>∃ (t:OT) (ts:LQ) (ws:LW) (hs:LH) (W:Option Rat),as=[.bt t,.bor (ts.map dq),.d (vD W)]/\NetB t ws hs/\NOk ts ws hs/\(∀ w,W=some w->O4 w)/\Q (.own ((J1 ts ws hs W).map wyD))
theorem A07 (T:Txt K mg D):FnOk P w K mg base CX0 5 D.a_bd D.d_bd ["net","times","whole"] (Pu.spOf K [.bt,.vw,.dat] A6l):=by
 refine T.F_bd.ok sc_bd (Pu.spOf.len rfl) (fun cdv A outer s H vs Q E hr h=>?_);refine ⟨_,(QSs.out (A4 (B6 (i:=3) sc_bd.nd rfl (Or.inr rfl) (B7 (C7 (K:=K) rfl) (by rfl) T.z_len PySem.boot_len (A0 (qpv 1) A2)))
   (A4 (G3 (i:=4) rfl sc_bd.nd rfl rfl (E8 (N':=["root","work"]) (cap:=[some 3,none]) rfl rfl rfl rfl (by decide +kernel) rfl rfl) (F9 rfl T.z_range (A0 (qpv 3) A2)) (fun _ _ _=>(B0 (i:=1) (show (["root","work"]:List Str).Nodup from by decide +kernel) rfl (Or.inl rfl) (Or.inr rfl))) (fun _ _ _=>G0) (fun _ _ _=>(C4 (A0 (qpv 0) (A0 (qpv 1) (A0 (Q5 (v:=.ref D.k_NOUGHT) rfl T.c_NOUGHT rfl) (A0 (C4 (A0 C8 (A0 (qpv 1) A2))) A2)))))) rfl)
   (A4 (D0 (B5 T5 (qpv 2) K0 (C2 _))
    (A8 (E9 PassesOwn.never rfl (U6 (K:=K) rfl rfl T.z_enumerate (A0 (qpv 1) A2)) (D3 (K:=K) (n:=2) rfl rfl (B3 (B0 (i:=5) sc_bd.nd rfl (Or.inl rfl) (Or.inl rfl)) (B3 (B0 (i:=6) sc_bd.nd rfl (Or.inl rfl) (Or.inl rfl)) D2)) rfl rfl)
     (A8 (G5 (K4 (K:=K) rfl PySem.F.plainAttrs_list PySem.F.slot_list_append PySem.F.type_list_append G2 (qpv 4) (A0 (C4 (A0 (qpv 5) (A0 (qpv 3) (A0 (A7 (T6 (K:=K) T) hr.mo rfl T.m_c1 T.F_c1.kp (A0j T) .nil B8 (A0 (qpv 6) (A0 (qpv 2) A2))) (A0 (C4 (A0 C8 (A0 (qpv 5) A2))) A2))))) A2))))))
    C6)
   (A4 (E9 PassesOwn.never rfl (U6 (K:=K) rfl rfl T.z_enumerate (A0 (qPth (A9 (A6 (K:=K) rfl) (qpv 0) A3 (fun _ _=>rfl))) A2)) (D3 (K:=K) (n:=2) rfl rfl (B3 (B0 (i:=7) sc_bd.nd rfl (Or.inl rfl) (Or.inl rfl)) (B3 (D3 (K:=K) (n:=3) rfl rfl (B3 (B0 (i:=8) sc_bd.nd rfl (Or.inl rfl) (Or.inl rfl)) (B3 (B0 (i:=9) sc_bd.nd rfl (Or.inl rfl) (Or.inl rfl)) (B3 (B0 (i:=10) sc_bd.nd rfl (Or.inl rfl) (Or.inl rfl)) D2))) rfl rfl) D2)) rfl rfl)
    (A8 (G5 (K4 (K:=K) rfl PySem.F.plainAttrs_list PySem.F.slot_list_append PySem.F.type_list_append G2 (qpv 4) (A0 (C4 (A0 (qpv 8) (A0 (qpv 9) (A0 (A7 (A2o (K:=K) T) hr.mo rfl T.m_c3 T.F_c3.kp (A92 T) .nil B8 (A0 (A9 (A6 (K:=K) rfl) (qpv 1) (qpv 8) (fun _ _=>rfl)) (A0 (qpv 10) A2))) (A0 (C4 (A0 C8 (A0 (qpv 7) A2))) A2))))) A2)))))
   (A4 (E9 PassesOwn.never rfl (U6 (K:=K) rfl rfl T.z_enumerate (A0 (qPth (A9 (A6 (K:=K) rfl) (qpv 0) A3 (fun _ _=>rfl))) A2)) (D3 (K:=K) (n:=2) rfl rfl (B3 (B0 (i:=7) sc_bd.nd rfl (Or.inl rfl) (Or.inl rfl)) (B3 (B0 (i:=11) sc_bd.nd rfl (Or.inl rfl) (Or.inl rfl)) D2)) rfl rfl)
    (A8 (G5 (K4 (K:=K) rfl PySem.F.plainAttrs_list PySem.F.slot_list_append PySem.F.type_list_append G2 (qpv 4) (A0 (A7 (A46 (K:=K) T) hr.mo rfl T.m_ad T.F_ad.kp (A93 T) .nil B8 (A0 (qpv 11) (A0 (qpv 1) (A0 (C4 (A0 C8 (A0 (qpv 7) A2))) A2)))) A2)))))
   (A8 (C0 (qpv 4))))))))),?_⟩
 haveI:=T.c2_NOUGHT
 haveI:=T.c2_ONE
 refine Pu.J7 h ?_;rintro as Qp ⟨t,ts,ws,hs,W,rfl,⟨u1,u2,p1,s1,p2,s2⟩,ok,hW,k⟩;have n1:=ok.n1;have wl:=ok.wl;have hl:=ok.hl;refine hd fun R hR=>?_;trivial;subst hR;refine hd fun R hR=>?_;trivial;refine ⟨by omega,by rw [M0]; omega,T8 (fun i e ys=>∃ o:Option SV,e=[some (.d (.int (ts.length:Int))),o]/\ys=((stW ts.length).take i).map wyD) ⟨_,rfl,rfl⟩ ?_ ?_⟩
 ·rintro i e ys hi ⟨o,rfl,rfl⟩;have hi':i < ts.length:=by omega
  trivial;refine ⟨_,rfl,?_⟩;unfold stW;rw [List.take_add_one,List.getElem?_map,List.getElem?_range hi',List.map_append];rfl
 rintro e ys ⟨o,rfl,rfl⟩;rw [show (stW ts.length).take (ts.length:Int).toNat=stW ts.length from List.take_of_length_le (by simp [stW])];trivial;subst hR;refine Q9 (fun e=>∃ o5 o6:Option SV,e=[some (.bt t),some (.bor (ts.map dq)),some (.d (vD W)),some (.d (.int (ts.length:Int))),some (.own ((stW ts.length++enO ts W).map wyD)),o5,o6,none,none,none,none,none]) (fun R hR=>?_) ?_
 ·rcases W with _ | W
  ·trivial;refine ite2 (fun z=>absurd z (fun z=>nomatch z)) (fun _=>?_);refine hR _ ⟨_,_,by rw [show enO ts none=[] from rfl,List.append_nil]⟩
  ·have oW:=hW W rfl;rw [show vD (some W)=dq W from rfl];trivial;refine A0c (f:=dq) (xs:=ts) (fun i e=>∃ o5 o6:Option SV,e=[some (.bt t),some (.bor (ts.map dq)),some (.d (dq W)),some (.d (.int (ts.length:Int))),some (.own ((stW ts.length++(enO ts (some W)).take i).map wyD)),o5,o6,none,none,none,none,none]) ⟨_,_,by rw [List.take_zero,List.append_nil]⟩ ?_ ?_
   ·rintro i q e hi ⟨o5,o6,rfl⟩;have oq:=ok.t q (List.mem_of_getElem? hi);trivial;refine ⟨q,W,rfl,oq.q,oW.q,?_⟩;trivial;rw [A2t (show (enO ts (some W)).take (i + 1)=(enO ts (some W)).take i++[(i,ts.length,q - W,(("end":Str),(i:Int)))] from A15 _ hi)];exact ⟨by have:=A2x (ts:=ts) (W:=some W); rw [List.length_append,Y8,List.length_take]; omega,_,_,rfl⟩
   ·rintro e ⟨o5,o6,rfl⟩;rw [show (enO ts (some W)).take ts.length=enO ts (some W) from A5l _];exact hR _ ⟨_,_,rfl⟩
 rintro e ⟨o5,o6,rfl⟩;have le:=A2x (ts:=ts) (W:=W);refine hd fun R hR=>?_;trivial;refine ⟨u1,p1,_,s1,?_⟩;trivial;refine A0c (f:=wD) (xs:=ws) (fun i e=>∃ o5 o6 o7 o8 o9 o10:Option SV,e=[some (.bt t),some (.bor (ts.map dq)),some (.d (vD W)),some (.d (.int (ts.length:Int))),some (.own ((stW ts.length++enO ts W++(waW ts ws).take i).map wyD)),o5,o6,o7,o8,o9,o10,none]) ⟨_,_,_,_,_,_,by rw [List.take_zero,List.append_nil]⟩ ?_ ?_
 ·rintro i x e hi ⟨o5,o6,o7,o8,o9,o10,rfl⟩;obtain ⟨ha,hb,hx⟩:=ok.w x (List.mem_of_getElem? hi);have hil:i < ws.length:=(List.getElem?_eq_some_iff.mp hi).1;have ez:(waW ts ws).take (i + 1)=(waW ts ws).take i++[(x.1.toNat,x.2.1.toNat,rat ts x.1 + x.2.2,(("wait":Str),(i:Int)))]:=A15 _ hi;rw [A2t ez];obtain ⟨a,b,l⟩:=x;obtain ⟨a,rfl⟩:=Int.eq_ofNat_of_zero_le ha.1;obtain ⟨b,rfl⟩:=Int.eq_ofNat_of_zero_le hb.1;unfold wD;trivial;refine E6 (W9 (o:=(a:Int)) ha.1 ha.2) ?_;trivial;refine ⟨_,l,rfl,(ok.t _ (U4 ha.1 ha.2)).q,hx.q,?_⟩;trivial;exact ⟨by rw [List.length_append,List.length_append,Y8,List.length_take]; omega,_,_,_,_,_,_,rfl⟩
 rintro e ⟨o5,o6,o7,o8,o9,o10,rfl⟩;rw [show (waW ts ws).take ws.length=waW ts ws from A5l _];subst hR;trivial;refine ⟨u2,p2,_,s2,?_⟩;trivial;refine A0c (f:=hD) (xs:=hs) (fun i e=>∃ o5 o6 o7 o8 o9 o10 o11:Option SV,e=[some (.bt t),some (.bor (ts.map dq)),some (.d (vD W)),some (.d (.int (ts.length:Int))),some (.own ((stW ts.length++enO ts W++waW ts ws++(hoW ts hs).take i).map wyD)),o5,o6,o7,o8,o9,o10,o11]) ⟨_,_,_,_,_,_,_,by rw [List.take_zero,List.append_nil]⟩ ?_ ?_
 ·rintro i x e hi ⟨o5,o6,o7,o8,o9,o10,o11,rfl⟩;obtain ⟨hk,hb,hx⟩:=ok.h x (List.mem_of_getElem? hi);have hil:i < hs.length:=(List.getElem?_eq_some_iff.mp hi).1;have ez:(hoW ts hs).take (i + 1)=(hoW ts hs).take i++[hoO ts x i]:=A15 _ hi;rw [A2t ez];trivial;refine ⟨x,ts,_,rfl,hk,hb,hx.q,fun q hq=>(ok.t q hq).q,?_⟩;trivial;have ew:wyD (hoO ts x i)=PyData.tuple (if x.1="from" then [.int (ts.length:Int),.int x.2.1,dq x.2.2,.tuple [.str "hold",.int (i:Int)]] else if x.1="till" then [.int x.2.1,.int (ts.length:Int),dq (0 - x.2.2),.tuple [.str "hold",.int (i:Int)]] else [.int x.2.1,.int (ts.length:Int),dq (rat ts x.2.1 - x.2.2),.tuple [.str "hold",.int (i:Int)]]):=by
   obtain ⟨kd,b,l⟩:=x;obtain ⟨b,rfl⟩:=Int.eq_ofNat_of_zero_le hb.1;unfold hoO;dsimp only;split
   ·rfl
   ·split <;> rfl
  exact ⟨by rw [List.length_append,List.length_append,List.length_append,Y8,A5q,List.length_take]; omega,_,_,_,_,_,_,_,by rw [ew]⟩
 rintro e ⟨o5,o6,o7,o8,o9,o10,o11,rfl⟩;rw [show (hoW ts hs).take hs.length=hoW ts hs from A5l _];trivial;exact k
def A4w:Pu.PMu:=fun xs ys zs Q=>∃ (ways:List Wy) (f:List (Option Rat)) (c:List (Option Wy)) (m:Nat),xs=[.list (ways.map wyD)]/\ys=f.map vD/\zs=c.map cD/\(∀ w ∈ ways,w.1 < f.length/\w.2.1 < f.length/\On (LL * 4) (1 * 2 ^ 60) w.2.2.1)/\c.length=f.length/\FB m f/\m + ways.length<=2 ^ 12/\Q (mD (strF ways (f,c,none)).2.2) ((strF ways (f,c,none)).1.map vD) ((strF ways (f,c,none)).2.1.map cD)
theorem A45 (T:Txt K mg D):FnOk P w K mg base CX0 3 D.a_ae D.d_ae ["ways","far","came"] (Pu.spMu K 1 A4w):=by
 refine T.F_ae.ok sc_ae (Pu.spMu.len rfl) (fun cdv A outer s H vs Q E hr h=>?_);refine ⟨_,(QSs.out (A4 (B6 (i:=3) sc_ae.nd rfl (Or.inl rfl) K0)
   (A4 (E9 PassesOwn.never rfl (D9 (K:=K) rfl (qpv 0)) (B0 (i:=4) sc_ae.nd rfl (Or.inl rfl) (Or.inl rfl))
    (A4 (F6 (qpv 4) (D3 (K:=K) (n:=4) rfl rfl (B3 (B0 (i:=5) sc_ae.nd rfl (Or.inl rfl) (Or.inl rfl)) (B3 (B0 (i:=6) sc_ae.nd rfl (Or.inl rfl) (Or.inl rfl)) (B3 (B0 (i:=7) sc_ae.nd rfl (Or.inl rfl) (Or.inl rfl)) (B3 (B0 (i:=8) sc_ae.nd rfl (Or.inl rfl) (Or.inl rfl)) D2)))) rfl rfl))
    (A8 (D0 (B5 T5 (A9 (A6 (K:=K) rfl) (qMu (qpv 1)) (qpv 5) (fun _ _=>rfl)) K0 (C2 _))
     (A4 (B6 (i:=9) sc_ae.nd rfl (Or.inl rfl) (A7 (A2o (K:=K) T) hr.mo rfl T.m_c3 T.F_c3.kp (A92 T) .nil B8 (A0 (A9 (A6 (K:=K) rfl) (qMu (qpv 1)) (qpv 5) (fun _ _=>rfl)) (A0 (qpv 7) A2))))
     (A8 (D0 (QW.pt (K1 (B5 A2m (A9 (A6 (K:=K) rfl) (qMu (qpv 1)) (qpv 6) (fun _ _=>rfl)) K0 (C2 _)) (K3 (F2 (A7 (A7v (K:=K) T) hr.mo rfl T.m_bb T.F_bb.kp (B1j T) .nil B8 (A0 (A9 (A6 (K:=K) rfl) (qMu (qpv 1)) (qpv 6) (fun _ _=>rfl)) (A0 (qpv 9) A2)))))))
      (A4 (F6 (qpv 9) (M6 (qMu (qpv 1)) (qpv 6) J0))
      (A4 (F6 (qpv 4) (M6 (qMu (qpv 2)) (qpv 6) J0))
      (A8 (B6 (i:=3) sc_ae.nd rfl (Or.inl rfl) (qpv 6)))))
      C6)))
     C6))))
   (A8 (C0 (qpv 3)))))),?_⟩
 haveI:=T.c2_NOUGHT
 haveI:=T.c2_ONE
 refine Pu.B5z h ?_;rintro xs ys zs p q Qp hpq ⟨ways,f,c,m,rfl,rfl,rfl,hw,hl,fb,hm,k⟩;trivial;refine L0 (f:=wyD) (xs:=ways) (fun i e=>∃ o4 o5 o6 o7 o8 o9:Option SV,e=[some (.d (.list (ways.map wyD))),some (.tr (.nd true p (C5 ((strF (ways.take i) (f,c,none)).1.map vD)))),some (.tr (.nd true q (C5 ((strF (ways.take i) (f,c,none)).2.1.map cD)))),some (.d (mD (strF (ways.take i) (f,c,none)).2.2)),o4,o5,o6,o7,o8,o9]) ⟨_,_,_,_,_,_,rfl⟩ ?_ ?_
 ·rintro i w e hi ⟨o4,o5,o6,o7,o8,o9,rfl⟩;have hil:i < ways.length:=(List.getElem?_eq_some_iff.mp hi).1;obtain ⟨h1,h2,h3⟩:=hw w (List.mem_of_getElem? hi);have hb:FB (m + i) (strF (ways.take i) (f,c,none)).1:=by
   have:=FB.strF (ways:=ways.take i) (s:=(f,c,none)) fb (fun x hx=>(hw x (List.mem_of_mem_take hx)).2)
   rwa [List.length_take,Nat.min_eq_left (by omega)] at this
  have es:=A55 (s:=(f,c,none)) hi;have hlf:(strF (ways.take i) (f,c,none)).1.length=f.length:=strF_len.1;have hlc:(strF (ways.take i) (f,c,none)).2.1.length=f.length:=strF_len.2.trans hl;generalize strF (ways.take i) (f,c,none)=s at *;rw [es];obtain ⟨t,h,l,ar⟩:=w;rw [show wyD (t,h,l,ar)=PyData.tuple [.int (t:Int),.int (h:Int),dq l,qD ar] from rfl];have h1':t < s.1.length:=by rw [hlf]; exact h1
  have h2':h < s.1.length:=by rw [hlf]; exact h2
  trivial;refine E6 (B08 h1') ?_;trivial;refine ite2 (fun hn=>?_) (fun hn=>?_)
  ·cases ha:fa s.1 t with
   | none=>rw [ha] at hn; cases hn
   | some a =>
    refine E6 (B08 h1') ?_;rw [ha,show vD (some a)=dq a from rfl];trivial;have oa:=B6g (by decide) (hb _ _ ha) h3 (Nat.le_refl _);refine ⟨a,l,rfl,unQ (hb _ _ ha) (by decide) (by decide) (by omega),unQ h3 (by decide) (by decide) (by decide),?_⟩;trivial;refine E6 (B08 h2') ?_;trivial;have er:rlx s (t,h,l,ar)=if upB (fa s.1 h) (a + l) then (s.1.set h (some (a + l)),s.2.1.set h (some (t,h,l,ar)),some h) else s:=by
     show (match fa s.1 t with | none=>s | some a=>if upB (fa s.1 h) (a + l) then (s.1.set h (some (a + l)),s.2.1.set h (some (t,h,l,ar)),some h) else s)=_;rw [ha]
    have ix1:ixN s.1.length (h:Int)=some h:=Q1 (o:=(h:Int)) (by omega) (by omega);have ix2:ixN s.2.1.length (h:Int)=some h:=Q1 (o:=(h:Int)) (by omega) (by omega);cases hh:fa s.1 h with
    | none =>
     rw [hh,show upB none (a + l)=true from rfl,if_pos rfl] at er;rw [er];trivial;refine ite2 (fun _=>?_) (fun z=>absurd rfl z);exact ⟨h,ix1,h,ix2,_,_,_,_,_,_,by rw [List.map_set,List.map_set]; rfl⟩
    | some b =>
     rw [hh,show upB (some b) (a + l)=decide (b < a + l) from rfl] at er;trivial;refine ite2 (fun z=>absurd z (by show ¬ isNo (dq b)=true; exact fun z=>nomatch z)) (fun _=>?_);refine E6 (B08 h2') ?_;rw [hh,show vD (some b)=dq b from rfl];trivial;refine ⟨b,a + l,rfl,unQ (hb _ _ hh) (by decide) (by decide) (by omega),unQ oa (by decide) (by decide) (by omega),?_⟩;trivial;refine ite2 (fun z=>?_) (fun z=>?_)
     ·rw [if_pos (decide_eq_true z)] at er;rw [er];exact ⟨h,ix1,h,ix2,_,_,_,_,_,_,by rw [List.map_set,List.map_set]; rfl⟩
     ·rw [if_neg (fun y=>z (of_decide_eq_true y))] at er;rw [er];exact ⟨_,_,_,_,_,_,rfl⟩
  ·cases ha:fa s.1 t with
   | none =>
    have er:rlx s (t,h,l,ar)=s:=by
     show (match fa s.1 t with | none=>s | some a=>if upB (fa s.1 h) (a + l) then (s.1.set h (some (a + l)),s.2.1.set h (some (t,h,l,ar)),some h) else s)=_;rw [ha]
    rw [er];exact ⟨_,_,_,_,_,_,rfl⟩
   | some a=>rw [ha] at hn; exact absurd rfl hn
 ·rintro e ⟨o4,o5,o6,o7,o8,o9,rfl⟩;rw [List.take_length];trivial;exact ⟨_,_,rfl,rfl,k⟩
theorem A49 (T:Txt K mg D):FnOk P w K mg base CX0 1 D.a_af D.d_af ["_law_script","_law_k"] (B1u K):=by
 refine T.F_af.ok sc_af (fun vs H Q E h=>?_) (fun cdv A outer s H vs Q E hr h=>?_)
 ·obtain ⟨a,ns,k,rfl,_⟩:=h; rfl
 ·obtain ⟨a,ns,k,rfl,ha,k0,k1,kk⟩:=h;refine ⟨_,(L3 (X1 (i:=2) sc_af.nd rfl (Or.inl rfl) F8)
   (L3 (B4c (A6k (K5 (K:=K) rfl hr.units) (pv 0) (A62 X2) (C2 _))
    (R5 (X1 (i:=2) sc_af.nd rfl (Or.inl rfl) (Z3 (B02 (K:=K) rfl) (pv 0) (M7 P4 (pv 1) (A3s call_len_seq (by rfl) T.z_len PySem.boot_len (Q3 (pv 0) X2))) (fun _ _=>rfl))))
    A2e)
   (R5 (A3p (A62 (Q3 (pv 2) (Q3 (M7 P4 (M7 G9 (M7 G9 (M7 P4 (pv 2) F8) (M7 F7 (M7 F7 F8 (pv 1)) (pv 1))) F8) F8) (Q3 (Z4 B7w (pv 2) (M7 X4 F8 F8) (C2 _)) X2)))))))),?_⟩
  have fin:∀ (c:Int) (H:Hp),(∀ p H',H p=none->StAt H' p->Kp p H H'->Q (.ref p) H')->∃ v,([some (V.ref a),some (V.int k),some (V.int c)]:St)[2]?=some (some v) /\
    (L9 (tOp (rI (fun _ j=>0 < j) fun i j=>.int (i % j)) (tOp (rI0 fun i j=>.int (i + j)) (tOp (rI0 fun i j=>.int (i + j)) (tOp (rI (fun _ j=>0 < j) fun i j=>.int (i % j)) (tVar 2) (tC (.int 2147483587)))
     (tOp (rI B6b fun i j=>.int (i * j)) (tOp (rI B6b fun i j=>.int (i * j)) (tC (.int 104729)) (tVar 1)) (tVar 1))) (tC (.int 7))) (tC (.int 2147483587)))
     (L9 (tOp (rI0 fun i j=>.bl (decide (j<=i))) (tVar 2) (tOp (rI CPow fun i j=>.int (i ^ j.toNat)) (tC (.int 10)) (tC (.int 18)))) tNil)) [some (V.ref a),some (V.int k),some (V.int c)] H
     fun xs H1=>(v :: xs).length<=sizeLine/\∀ p,H1 p=none->Q (.ref p) (upd H1 p (.lst (v :: xs))):=by
   intro c H kk;refine ⟨_,rfl,_,rfl,_,_,rfl,rfl,(by show (0:Int) < 2147483587; decide),_,rfl,_,_,rfl,rfl,⟨W7 0,sm32 k0 (by omega)⟩,_,rfl,_,_,rfl,rfl,⟨(Sm.mul (k:=20) (l:=20) (by unfold Sm; decide) (by unfold Sm; omega)).mono (by decide),sm32 k0 (by omega)⟩,
    _,_,rfl,rfl,_,_,rfl,rfl,_,_,rfl,rfl,(by show (0:Int) < 2147483587; decide),_,rfl,_,_,rfl,rfl,Y0 18,_,_,rfl,rfl,by show 3<=sizeLine; decide,fun p hp=>?_⟩
   have e1:=Int.emod_nonneg (c % 2147483587 + 104729 * k * k + 7) (show (2147483587:Int)≠0 by decide);have e2:=Int.emod_lt_of_pos (c % 2147483587 + 104729 * k * k + 7) (show (0:Int) < 2147483587 by decide);exact kk p _ hp ⟨_,_,_,D5,e1,by omega⟩ (Same.upd hp).kp
  refine ⟨_,rfl,Nat.zero_le _,fun p hp=>?_⟩;have sm:=Same.upd (H:=H) (o:=.lst []) hp;have ha':SqL K (upd H p (.lst [])) a (ns.map V.int):=Pu.B0c sm ha;have kk':∀ q H',(upd H p (.lst [])) q=none->StAt H' q->Kp q (upd H p (.lst [])) H'->Q (.ref q) H':=fun q H' hq hs kp=>kk q H' (by
   by_cases z:q=p
   ·rw [z]; exact hp
   ·rw [D8 z] at hq; exact hq) hs (fun b o nb e=>kp b o nb (sm b o e))
  refine ⟨.list (ns.map .int),.list [],.lst ha' (A4j ns),.lst (.inl (.inl D5)) .nil,A4a ns,rfl,A9h ns,_,rfl,?_⟩;rw [B09];cases ns with
  | nil=>exact fin 0 _ kk'
  | cons c r =>
   obtain ⟨m,hm,hml⟩:∃ m:Nat,k % (((c :: r).map V.int).length:Int)=(m:Int)/\m < ((c :: r).map V.int).length:=by
    have h0:(0:Int) < (((c :: r).map V.int).length:Int):=by first | (simp; done) | (simp; omega)
    have h1:=Int.emod_nonneg k (Int.ne_of_gt h0);have h2:=Int.emod_lt_of_pos k h0;exact ⟨(k % (((c :: r).map V.int).length:Int)).toNat,by omega,by omega⟩
   obtain ⟨z,hz⟩:∃ z,((c :: r).map V.int)[m]?=some (V.int z):=by
    have:m < (c :: r).length:=by simpa using hml
    exact ⟨(c :: r)[m],by rw [List.getElem?_map,List.getElem?_eq_getElem this]; rfl⟩
   refine ⟨_,rfl,_,rfl,_,rfl,a,_,rfl,.inl ha',k,_,rfl,rfl,(by first | (simp; done) | (simp; omega)),a,_,_,_,rfl,rfl,ha',by rw [hm]; exact G4 hz,?_⟩;exact fin z _ kk'
theorem K7 (T:Txt K mg D):FnOk P w K mg base CX0 1 D.a_af D.d_af ["_law_script","_law_k"] (Pu.spOf K [.vw,.dat] B15):=FnOk.imp (A49 T) B9h
theorem A7x (T:Txt K mg D):FnOk P w K mg base CX0 1 D.a_c0 D.d_c0 ["_law_state","_law_many"] A57:=by
 refine T.F_c0.ok sc_c0 (fun vs H Q E h=>?_) (fun cdv A outer s H vs Q E hr h=>?_)
 ·obtain ⟨p,n,rfl,_⟩:=h; rfl
 ·obtain ⟨p,n,rfl,S0,n0,sn,k⟩:=h;refine ⟨_,(L3 (B4c (B13 (Z3 ix_list (pv 0) F8 (fun _ _=>rfl)))
    (L3 (X1 (i:=2) sc_c0.nd rfl (Or.inl rfl) (M7 P4 (Z3 ix_list (pv 0) F8 (fun _ _=>rfl)) (pv 1)))
    (L3 (A3q (M7 N2 (Z3 ix_list (pv 0) F8 (fun _ _=>rfl)) (pv 1)) (A3r (pv 0) F8 J0))
    (L3 (A3q (Z4 R6 (Z3 ix_list (pv 0) F8 (fun _ _=>rfl)) F8 (C2 _)) (A3r (pv 0) F8 J0))
    (R5 (A3p (pv 2))))))
    A2e)
   (L3 (X1 (i:=3) sc_c0.nd rfl (Or.inl rfl) F8)
   (L3 (B14 PassesOwn.never rfl (A02 rfl T.z_range (Q3 (M7 G9 F8 (M7 F7 F8 (A03 A1v (by rfl) T.z_int (by rfl) (Q3 (Z4 R6 (pv 1) (M7 X4 F8 F8) (C2 _)) X2)))) X2)) (A61 (i:=4) sc_c0.nd rfl (Or.inl rfl) (Or.inl rfl))
    (L3 (A3q (M7 P4 (M7 G9 (M7 F7 (Z3 ix_list (pv 0) F8 (fun _ _=>rfl)) F8) F8) F8) (A3r (pv 0) F8 J0))
    (R5 (X1 (i:=3) sc_c0.nd rfl (Or.inl rfl) (M7 G9 (M7 F7 (pv 3) F8) (M7 P4 (M7 F7 (Z3 ix_list (pv 0) F8 (fun _ _=>rfl)) (Z3 ix_list (pv 0) F8 (fun _ _=>rfl))) F8))))))
   (R5 (A3p (M7 P4 (M7 N2 (pv 3) F8) (pv 1))))))),?_⟩
  obtain ⟨c,m,f,hp,m0,m1⟩:=S0.ex;refine ⟨_,rfl,p,_,_,_,rfl,rfl,SqL.of hp,at2,f,rfl,?_⟩;have s8:Sm 8000 n:=sn.mono (by decide);cases f with
  | true =>
   refine iteT ?_;refine ⟨_,rfl,p,_,_,_,rfl,rfl,SqL.of hp,at0,_,rfl,_,_,rfl,rfl,n0,?_⟩;refine ⟨_,rfl,p,_,_,_,rfl,rfl,SqL.of hp,at0,_,rfl,_,_,rfl,rfl,⟨by omega,s8⟩,_,rfl,p,_,_,0,rfl,rfl,hp,rfl,?_⟩;refine ⟨_,rfl,p,_,_,_,rfl,rfl,SqL.of D5,at0,_,_,rfl,rfl,_,rfl,p,_,_,2,rfl,rfl,D5,rfl,?_⟩;refine ⟨_,rfl,?_⟩;exact k _ _ (Int.emod_nonneg c (by omega)) (Int.emod_lt_of_pos c n0) ⟨_,_,_,D5,m0,m1⟩ (Kp.upd.trans Kp.upd)
  | false =>
   refine iteF ?_;refine ⟨_,rfl,_,_,rfl,rfl,Y0 6,_,_,rfl,rfl,.inr ⟨_,rfl,_,_,rfl,rfl,⟨W7 0,B6m _⟩,_,_,rfl,rfl,_,rfl,?_,?_,A88 (lo:=0)
    (fun i σ H'=>∃ (m' md:Int) (x:Option V),σ=[some (V.ref p),some (V.int n),none,some (V.int md),x]/\H' p=some (.lst [.int c,.int m',.bl false])/\0<=m'/\m' < 2147483648/\Kp p H H'/\Sm (40 * i + 1) md)
    ⟨m,0,none,rfl,hp,m0,m1,Kp.refl,by unfold Sm; decide⟩ ?_ ?_⟩⟩
   ·split <;> omega
   ·split <;> omega
   ·rintro i σ H' hi ⟨m',md,x,rfl,hp',h0,h1,kk,sd⟩;have hi9:i < 9:=by
     refine Nat.lt_of_lt_of_le hi ?_;split <;> decide
    refine ⟨_,rfl,p,_,_,_,rfl,rfl,SqL.of hp',at1,_,_,rfl,rfl,⟨sm32 h0 h1,W7 0⟩,_,_,rfl,rfl,_,_,rfl,rfl,(by show (0:Int) < 2147483647; decide),_,rfl,p,_,_,1,rfl,rfl,hp',rfl,?_⟩;have e1:=Int.emod_nonneg (m' * 39373 + 17) (show (2147483647:Int)≠0 by decide);have e2:=Int.emod_lt_of_pos (m' * 39373 + 17) (show (0:Int) < 2147483647 by decide);have sm:=sm32 e1 (by omega);refine ⟨_,rfl,_,_,rfl,rfl,⟨sd.mono (by omega),W7 0⟩,_,rfl,p,_,_,_,rfl,rfl,SqL.of D5,at1,_,rfl,p,_,_,_,rfl,rfl,SqL.of D5,at1,_,_,rfl,rfl,⟨sm,sm⟩,_,_,rfl,rfl,(by show (0:Int) < 2147483587; decide),_,_,rfl,rfl,?_⟩;have g1:=Int.emod_nonneg ((m' * 39373 + 17) % 2147483647 * ((m' * 39373 + 17) % 2147483647)) (show (2147483587:Int)≠0 by decide);have g2:=Int.emod_lt_of_pos ((m' * 39373 + 17) % 2147483647 * ((m' * 39373 + 17) % 2147483647)) (show (0:Int) < 2147483587 by decide);refine ⟨_,_,_,rfl,D5,e1,by omega,kk.trans Kp.upd,?_⟩;refine Sm.mono (k:=40 * i + 1 + 32 + 1) (Sm.add (sd.mul (l:=32) (by unfold Sm; decide)) ?_) (by omega);exact Sm.mono (k:=32) (by unfold Sm; omega) (by omega)
   ·rintro σ H' ⟨m',md,x,rfl,hp',h0,h1,kk,sd⟩;refine ⟨_,rfl,_,_,rfl,rfl,⟨by decide,W7 0⟩,_,rfl,_,_,rfl,rfl,n0,?_⟩;exact k _ _ (Int.emod_nonneg _ (by omega)) (Int.emod_lt_of_pos _ n0) ⟨_,_,_,hp',h0,h1⟩ kk
theorem D4 (T:Txt K mg D):FnOk P w K mg base CX0 1 D.a_c0 D.d_c0 ["_law_state","_law_many"] (Pu.spOf K [.st,.dat] Pu.A6m):=FnOk.imp (A7x T) Pu.B3q
theorem R7 (T:Txt K mg D):FnOk P w K mg base CX0 1 D.a_c2 D.d_c2 ["_law_top","_law_bottom"] (Pu.spOf K [.dat,.dat] B4b):=by
 refine T.F_c2.ok sc_c2 (Pu.spOf.len rfl) (fun cdv A outer s H vs Q E hr h=>?_);refine ⟨_,(QSs.out (A4 (B6 (i:=2) sc_c2.nd rfl (Or.inl rfl) (qpv 0))
   (A4 (B6 (i:=3) sc_c2.nd rfl (Or.inl rfl) (qpv 1))
   (A4 (U5 PassesOwn.never (B5 (K5 (K:=K) rfl hr.units) (qpv 3) A3 (C2 _))
    (A8 (Z1 (i:=2) (j:=3) rfl sc_c2.nd rfl rfl (by decide) rfl rfl (A0 (qpv 3) (A0 (C9 P4 (qpv 2) (qpv 3)) A2)) rfl)))
   (A8 (C0 (C4 (A0 (C9 N2 (qpv 0) (qpv 2)) (A0 (C9 N2 (qpv 1) (qpv 2)) A2))))))))),?_⟩
 haveI:=T.c2_NOUGHT
 haveI:=T.c2_ONE
 refine Pu.J7 h ?_;rintro as Qp ⟨t,b,rfl,hb,st,sb,k⟩;trivial;refine ⟨fun m e=>∃ x y:Int,e=[some (.d (.int t)),some (.d (.int b)),some (.d (.int x)),some (.d (.int y))]/\0<=y/\(y=0->0 < x)/\m=y.toNat/\Int.gcd x y=Int.gcd t b,⟨_,_,_,rfl,by omega,fun e=>by omega,rfl,rfl⟩,?_⟩;rintro m e ⟨x,y,rfl,hy,hx,rfl,hg⟩;trivial;refine ite2 (fun e=>?_) (fun hn=>?_)
 ·subst e;have hx0:=hx rfl;have e1:x=sh t b:=by
   have:=A4f x (by omega);rw [hg] at this;unfold sh; rw [if_neg (by omega)]; exact this.symm
  subst e1;have hb0:b≠0:=by omega
  refine ⟨⟨B6o hb0,B6l sb hb0⟩,⟨B6o hb0,B6l sb hb0⟩,?_⟩;rw [A8o hb0,B5n hb0]; exact k
 ·have h1:=Int.emod_lt_of_pos x (show 0 < y by omega);have h2:=Int.emod_nonneg x hn;exact ⟨by omega,(x % y).toNat,by omega,y,x % y,rfl,h2,fun _=>by omega,rfl,by rw [A86,hg]⟩
theorem D6 (T:Txt K mg D):FnOk P w K mg base CX0 2 D.a_bf D.d_bf ["_law_one","_law_other"] (Pu.spOf K [.dat,.dat] (A0x (·+·))):=by
 refine T.F_bf.ok sc_bf (Pu.spOf.len rfl) (fun cdv A outer s H vs Q E hr h=>?_);refine ⟨_,(QSs.out (A8 (C0 (A7 (R7 (K:=K) T) hr.mo rfl T.m_c2 T.F_c2.kp (Y3 T) .nil B8 (A0 (C9 G9 (C9 F7 (A9 (A6 (K:=K) rfl) (qpv 0) A3 (fun _ _=>rfl)) (A9 (A6 (K:=K) rfl) (qpv 1) A3 (fun _ _=>rfl))) (C9 F7 (A9 (A6 (K:=K) rfl) (qpv 1) A3 (fun _ _=>rfl)) (A9 (A6 (K:=K) rfl) (qpv 0) A3 (fun _ _=>rfl)))) (A0 (C9 F7 (A9 (A6 (K:=K) rfl) (qpv 0) A3 (fun _ _=>rfl)) (A9 (A6 (K:=K) rfl) (qpv 1) A3 (fun _ _=>rfl))) A2)))))),?_⟩
 haveI:=T.c2_NOUGHT
 haveI:=T.c2_ONE
 refine Pu.J7 h ?_;rintro as Qp ⟨p,q,rfl,sp,sq,k⟩;trivial;have p1:=sp.1.mono (l:=8000) (by decide);have p2:=sp.2.mono (l:=8000) (by decide);have q1:=sq.1.mono (l:=8000) (by decide);have q2:=sq.2.mono (l:=8000) (by decide);refine ⟨⟨p1,q2⟩,⟨q1,p2⟩,⟨p2,q2⟩,_,_,rfl,Int.mul_pos (denp p) (denp q),((sp.1.mul sq.2).add (sq.1.mul sp.2)).mono (by decide),(sp.2.mul sq.2).mono (by decide),?_⟩;rw [B63]; exact k
theorem K6 (T:Txt K mg D):FnOk P w K mg base CX0 2 D.a_b3 D.d_b3 ["_law_one","_law_other"] (Pu.spOf K [.dat,.dat] (A0x (·-·))):=by
 refine T.F_b3.ok sc_b3 (Pu.spOf.len rfl) (fun cdv A outer s H vs Q E hr h=>?_);refine ⟨_,(QSs.out (A8 (C0 (A7 (R7 (K:=K) T) hr.mo rfl T.m_c2 T.F_c2.kp (Y3 T) .nil B8 (A0 (C9 A05 (C9 F7 (A9 (A6 (K:=K) rfl) (qpv 0) A3 (fun _ _=>rfl)) (A9 (A6 (K:=K) rfl) (qpv 1) A3 (fun _ _=>rfl))) (C9 F7 (A9 (A6 (K:=K) rfl) (qpv 1) A3 (fun _ _=>rfl)) (A9 (A6 (K:=K) rfl) (qpv 0) A3 (fun _ _=>rfl)))) (A0 (C9 F7 (A9 (A6 (K:=K) rfl) (qpv 0) A3 (fun _ _=>rfl)) (A9 (A6 (K:=K) rfl) (qpv 1) A3 (fun _ _=>rfl))) A2)))))),?_⟩
 haveI:=T.c2_NOUGHT
 haveI:=T.c2_ONE
 refine Pu.J7 h ?_;rintro as Qp ⟨p,q,rfl,sp,sq,k⟩;trivial;have p1:=sp.1.mono (l:=8000) (by decide);have p2:=sp.2.mono (l:=8000) (by decide);have q1:=sq.1.mono (l:=8000) (by decide);have q2:=sq.2.mono (l:=8000) (by decide);refine ⟨⟨p1,q2⟩,⟨q1,p2⟩,⟨p2,q2⟩,_,_,rfl,Int.mul_pos (denp p) (denp q),((sp.1.mul sq.2).sub (sq.1.mul sp.2)).mono (by decide),(sp.2.mul sq.2).mono (by decide),?_⟩;rw [B61]; exact k
theorem M9 (T:Txt K mg D):FnOk P w K mg base CX0 2 D.a_b8 D.d_b8 ["_law_one","_law_other"] (Pu.spOf K [.dat,.dat] (A0x (·*·))):=by
 refine T.F_b8.ok sc_b8 (Pu.spOf.len rfl) (fun cdv A outer s H vs Q E hr h=>?_);refine ⟨_,(QSs.out (A8 (C0 (A7 (R7 (K:=K) T) hr.mo rfl T.m_c2 T.F_c2.kp (Y3 T) .nil B8 (A0 (C9 F7 (A9 (A6 (K:=K) rfl) (qpv 0) A3 (fun _ _=>rfl)) (A9 (A6 (K:=K) rfl) (qpv 1) A3 (fun _ _=>rfl))) (A0 (C9 F7 (A9 (A6 (K:=K) rfl) (qpv 0) A3 (fun _ _=>rfl)) (A9 (A6 (K:=K) rfl) (qpv 1) A3 (fun _ _=>rfl))) A2)))))),?_⟩
 haveI:=T.c2_NOUGHT
 haveI:=T.c2_ONE
 refine Pu.J7 h ?_;rintro as Qp ⟨p,q,rfl,sp,sq,k⟩;trivial;have p1:=sp.1.mono (l:=8000) (by decide);have p2:=sp.2.mono (l:=8000) (by decide);have q1:=sq.1.mono (l:=8000) (by decide);have q2:=sq.2.mono (l:=8000) (by decide);refine ⟨⟨p1,q1⟩,⟨p2,q2⟩,_,_,rfl,Int.mul_pos (denp p) (denp q),(sp.1.mul sq.1).mono (by decide),(sp.2.mul sq.2).mono (by decide),?_⟩;rw [B62]; exact k
theorem N9 (T:Txt K mg D):FnOk P w K mg base CX0 1 D.a_b9 D.d_b9 ["_law_one","_law_other"] (Pu.spOf K [.dat,.dat] A6n):=by
 refine T.F_b9.ok sc_b9 (Pu.spOf.len rfl) (fun cdv A outer s H vs Q E hr h=>?_);refine ⟨_,(QSs.out (A8 (C0 (L1 A06 (C9 F7 (A9 (A6 (K:=K) rfl) (qpv 0) A3 (fun _ _=>rfl)) (A9 (A6 (K:=K) rfl) (qpv 1) A3 (fun _ _=>rfl))) (C9 F7 (A9 (A6 (K:=K) rfl) (qpv 1) A3 (fun _ _=>rfl)) (A9 (A6 (K:=K) rfl) (qpv 0) A3 (fun _ _=>rfl))) (C2 _))))),?_⟩
 haveI:=T.c2_NOUGHT
 haveI:=T.c2_ONE
 refine Pu.J7 h ?_;rintro as Qp ⟨p,q,rfl,sp,sq,k⟩;trivial;have p1:=sp.1.mono (l:=8000) (by decide);have p2:=sp.2.mono (l:=8000) (by decide);have q1:=sq.1.mono (l:=8000) (by decide);have q2:=sq.2.mono (l:=8000) (by decide);refine ⟨⟨p1,q2⟩,⟨q1,p2⟩,?_⟩;rw [A39]; exact k
theorem K2 (T:Txt K mg D):FnOk P w K mg base CX0 2 D.a_aa D.d_aa ["_law_state","_law_plain","_law_least"] (Pu.spOf K [.st,.dat,.dat] A6q):=by
 refine T.F_aa.ok sc_aa (Pu.spOf.len rfl) (fun cdv A outer s H vs Q E hr h=>?_);refine ⟨_,(QSs.out (A4 (B6 (i:=3) sc_aa.nd rfl (Or.inl rfl) (A7 (D4 (K:=K) T) hr.mo rfl T.m_c0 T.F_c0.kp (D7 T) .nil B8 (A0 (qpv 0) (A0 A3 A2))))
   (A4 (D0 (F2 (qpv 1))
    (A8 (C0 (C4 (A0 (C9 G9 (qpv 2) (A7 (D4 (K:=K) T) hr.mo rfl T.m_c0 T.F_c0.kp (D7 T) .nil B8 (A0 (qpv 0) (A0 (A9 (A6 (K:=K) rfl) (F3 (A0 A3 (A0 A3 (A0 A3 (A0 A3 (A0 A3 (A0 A3 A2))))))) (qpv 3) (fun _ _=>rfl)) A2)))) (A0 A3 A2)))))
    C6)
   (A4 (B6 (i:=4) sc_aa.nd rfl (Or.inl rfl) (C9 G9 A3 (A7 (D4 (K:=K) T) hr.mo rfl T.m_c0 T.F_c0.kp (D7 T) .nil B8 (A0 (qpv 0) (A0 (A9 (A6 (K:=K) rfl) (F3 (A0 A3 (A0 A3 (A0 A3 (A0 A3 (A0 A3 (A0 A3 A2))))))) (qpv 3) (fun _ _=>rfl)) A2)))))
   (A8 (C0 (A7 (R7 (K:=K) T) hr.mo rfl T.m_c2 T.F_c2.kp (Y3 T) .nil B8 (A0 (C9 G9 (qpv 2) (A7 (D4 (K:=K) T) hr.mo rfl T.m_c0 T.F_c0.kp (D7 T) .nil B8 (A0 (qpv 0) (A0 (A9 (A6 (K:=K) rfl) (F3 (A0 A3 (A0 A3 (A0 A3 (A0 A3 (A0 (C9 X4 A3 A3) (A0 A3 A2))))))) (qpv 3) (fun _ _=>rfl)) A2)))) (A0 (qpv 4) A2))))))))),?_⟩
 haveI:=T.c2_NOUGHT
 haveI:=T.c2_ONE
 refine Pu.J7 h ?_;rintro as Qp ⟨pl,le,rfl,hle,k⟩;trivial;refine ⟨6,rfl,by decide,sm4 6,fun d d0 d6=>?_⟩;trivial;refine ite2 (fun hp=>?_) (fun hp=>?_)
 ·obtain ⟨z,hz,e⟩:=B5i (xs:=[2,3,3,4,5,6]) d0 d6;have hb:2<=z/\z<=6:=by simp at hz; omega
  refine E6 e ?_;trivial;refine ⟨z,rfl,by omega,A59 (by omega) (by omega),fun d2 g0 g1=>?_⟩;trivial;rw [B85];have s3:Sm 3 (le + d2):=N7 (B:=7) (by omega) (by omega) (by decide);exact k _ (B8v (by omega)) (fun h1=>B8u (by omega)) ((A19 s3).mono (by decide) (by decide)) fun _=>⟨A19 s3,B3y (A19 s3)⟩
 ·obtain ⟨x,hx,ex⟩:=B5i (xs:=[1,1,2,4,12,60]) d0 d6;have hbx:1<=x/\x<=60:=by simp at hx; omega
  obtain ⟨z,hz,ez⟩:=B5i (xs:=[3,9,12,30,1000000000000,90]) d0 d6;have hbz:3<=z/\z<=1000000000000:=by simp at hz; omega
  refine E6 ex ?_;trivial;refine ⟨x,rfl,by omega,A59 (by omega) (by omega),fun d1 f0 f1=>?_⟩;trivial;refine ⟨Y0 12,E6 ez ?_⟩;trivial;refine ⟨z,rfl,by omega,A59 (by omega) (by omega),fun d2 g0 g1=>?_⟩;trivial;have st:Sm 41 (le + d2):=N7 (B:=1000000000000) (by omega) (by omega) (by decide);have sb:Sm 6 (1 + d1):=N7 (B:=60) (by omega) (by omega) (by decide);refine ⟨_,_,rfl,by omega,st.mono (by decide),sb.mono (by decide),?_⟩;exact k _ (A3m (by omega) (by omega)) (fun h1=>B9r (by omega) (by omega)) (SmR.low st sb (by omega)) fun h=>absurd h hp
def A6v:Pu.PSp:=fun as Q=>∃ (kd:Str) (mo:Int),as=[.st,.d (.str kd),.d (.int mo),.d (.bool false)]/\0 < mo/\mo<=5/\Kd kd/\∀ cs,OfG kd cs 100 54 244 130->OnC cs->(kd="straight"->OnP cs)->cs.length<=mo.toNat->Q (.d (offD kd cs))
theorem A70 (T:Txt K mg D):FnOk P w K mg base CX0 3 D.a_b4 D.d_b4 ["_law_state","_law_kind","_law_most","_law_plain"] (Pu.spOf K [.st,.dat,.dat,.dat] A6v):=by
 refine T.F_b4.ok sc_b4 (Pu.spOf.len rfl) (fun cdv A outer s H vs Q E hr h=>?_);refine ⟨_,(QSs.out (A4 (B6 (i:=4) sc_b4.nd rfl (Or.inl rfl) (C9 G9 A3 (A7 (D4 (K:=K) T) hr.mo rfl T.m_c0 T.F_c0.kp (D7 T) .nil B8 (A0 (qpv 0) (A0 (qpv 2) A2)))))
   (A4 (B6 (i:=5) sc_b4.nd rfl (Or.inl rfl) (A7 (K2 (K:=K) T) hr.mo rfl T.m_aa T.F_aa.kp (L8 T) .nil B8 (A0 (qpv 0) (A0 (qpv 3) (A0 A3 A2)))))
   (A4 (B6 (i:=6) sc_b4.nd rfl (Or.inl rfl) (A7 (K2 (K:=K) T) hr.mo rfl T.m_aa T.F_aa.kp (L8 T) .nil B8 (A0 (qpv 0) (A0 (qpv 3) (A0 A3 A2)))))
   (A4 (G3 (i:=7) rfl sc_b4.nd rfl rfl (E8 (N':=["_law_state","_law_plain","_law_k"]) (cap:=[some 0,some 3,none]) rfl rfl rfl rfl (by decide +kernel) rfl rfl) (F9 rfl T.z_range (A0 (C9 A05 (qpv 4) A3) A2)) (fun _ _ _=>(B0 (i:=2) (show (["_law_state","_law_plain","_law_k"]:List Str).Nodup from by decide +kernel) rfl (Or.inl rfl) (Or.inr rfl))) (fun _ _ _=>G0) (fun _ _ _=>(A7 (K2 (K:=K) T) hr.mo rfl T.m_aa T.F_aa.kp (L8 T) .nil B8 (A0 (qpv 0) (A0 (qpv 1) (A0 A3 A2))))) rfl)
   (A4 (E9 PassesOwn.never rfl (D9 (K:=K) rfl (qpv 7)) (B0 (i:=8) sc_b4.nd rfl (Or.inl rfl) (Or.inl rfl))
    (A8 (B6 (i:=5) sc_b4.nd rfl (Or.inl rfl) (A7 (D6 (K:=K) T) hr.mo rfl T.m_bf T.F_bf.kp (F4 T) .nil B8 (A0 (qpv 5) (A0 (qpv 8) A2))))))
   (A4 (B6 (i:=9) sc_b4.nd rfl (Or.inl rfl) (F3 (A0 (C4 (A0 (qpv 5) (A0 (qpv 6) A2))) A2)))
   (A4 (B6 (i:=10) sc_b4.nd rfl (Or.inl rfl) (C4 (A0 A3 (A0 A3 A2))))
   (A4 (E9 PassesOwn.never rfl (D9 (K:=K) rfl (qpv 7)) (B0 (i:=8) sc_b4.nd rfl (Or.inl rfl) (Or.inl rfl))
    (A4 (B6 (i:=11) sc_b4.nd rfl (Or.inl rfl) (A7 (K2 (K:=K) T) hr.mo rfl T.m_aa T.F_aa.kp (L8 T) .nil B8 (A0 (qpv 0) (A0 (qpv 3) (A0 A3 A2)))))
    (A4 (B6 (i:=5) sc_b4.nd rfl (Or.inl rfl) (A7 (K6 (K:=K) T) hr.mo rfl T.m_b3 T.F_b3.kp (M2 T) .nil B8 (A0 (qpv 5) (A0 (qpv 8) A2))))
    (A4 (B6 (i:=10) sc_b4.nd rfl (Or.inl rfl) (A7 (D6 (K:=K) T) hr.mo rfl T.m_bf T.F_bf.kp (F4 T) .nil B8 (A0 (qpv 10) (A0 (qpv 11) A2))))
    (A4 (D0 (B5 (D1 (K:=K) rfl hr.units) (qpv 1) C8 (C2 _))
     (A8 (B6 (i:=11) sc_b4.nd rfl (Or.inl rfl) (A7 (M9 (K:=K) T) hr.mo rfl T.m_b8 T.F_b8.kp (O6 T) .nil B8 (A0 (qpv 10) (A0 (qpv 8) A2)))))
     C6)
    (A4 (B6 (i:=6) sc_b4.nd rfl (Or.inl rfl) (A7 (D6 (K:=K) T) hr.mo rfl T.m_bf T.F_bf.kp (F4 T) .nil B8 (A0 (qpv 6) (A0 (qpv 11) A2))))
    (A8 (G5 (K4 (K:=K) rfl PySem.F.plainAttrs_list PySem.F.slot_list_append PySem.F.type_list_append G2 (qpv 9) (A0 (C4 (A0 (qpv 5) (A0 (qpv 6) A2))) A2))))))))))
   (A8 (C0 (C4 (A0 (qpv 1) (A0 (qpv 9) A2)))))))))))))),?_⟩
 haveI:=T.c2_NOUGHT
 haveI:=T.c2_ONE
 refine Pu.J7 h ?_;rintro as Qp ⟨kd,mo,rfl,m0,m5,hk,k⟩;trivial;refine ⟨mo,rfl,m0,N7 (B:=5) (by omega) (by omega) (by decide),fun d d0 d1=>?_⟩;trivial;refine ⟨_,_,rfl,.inl rfl,fun q1 q10 _ s1 _=>?_⟩;trivial;refine ⟨_,_,rfl,.inl rfl,fun q2 q20 _ s2 _=>?_⟩;trivial;refine ⟨by omega,by rw [M0]; omega,?_⟩;refine T8 (fun i e ys=>∃ (qs:LQ) (o:Option SV),e=[some .st,some (.d (.bool false)),o]/\ys=qs.map dq/\qs.length=i/\∀ q ∈ qs,0 < q/\SmR 41 6 q) ⟨[],_,rfl,rfl,rfl,fun _ z=>nomatch z⟩ ?_ ?_
 ·rintro i e ys hi ⟨qs,o,rfl,rfl,hl,hq⟩;trivial;refine ⟨_,_,rfl,.inr rfl,fun q _ qp sq _=>?_⟩;trivial;refine ⟨qs++[q],_,rfl,by rw [List.map_append]; rfl,by simp [hl],fun c z=>(List.mem_append.mp z).elim (hq c) fun z=>?_⟩;simp at z; subst z; exact ⟨qp rfl,sq⟩
 ·rintro e ys ⟨qs,o,rfl,rfl,hl,hq⟩;have hm:qs.length<=4:=by omega
  trivial;refine L0 (fun i e=>∃ (o8:Option SV) (T':Rat),e=[some .st,some (.d (.str kd)),some (.d (.int mo)),some (.d (.bool false)),some (.d (.int (1 + d))),some (.d (dq T')),some (.d (dq q2)),some (.d (.list (qs.map dq))),o8,none,none,none]/\SmR (41 + 7 * i) (6 + 6 * i) T'/\T'=q1 + sumR (qs.take i)/\On LL ((1 + i) * 2 ^ 41) T') ⟨_,_,rfl,s1,by show q1=q1 + 0; grind,(P5 s1).mono (Nat.le_of_ble_eq_true rfl)⟩ ?_ ?_
  ·rintro i q e hqi ⟨o8,T',rfl,sT,eT,oT⟩;have hil:i < qs.length:=(List.getElem?_eq_some_iff.mp hqi).1;have sg:=(hq q (List.mem_of_getElem? hqi)).2;trivial;refine ⟨_,_,rfl,sT.q (by omega) (by omega),sg.q (by decide) (by decide),?_⟩;trivial;exact ⟨_,_,rfl,(sT.add sg).mono (by omega) (by omega),by rw [List.take_add_one,hqi,Option.toList_some,A0q,eT]; grind,(oT.add J4 (P5 sg)).mono (by rw [show 1 + (i + 1)=(1 + i) + 1 by omega,Nat.add_mul (1 + i) 1,Nat.one_mul]; exact Nat.le_refl _)⟩
  ·rintro e ⟨o8,T0,rfl,sT0,eT0,oT0⟩;try rw [List.length_map] at oT0
   try rw [List.length_map] at eT0
   rw [List.take_length] at eT0;have hq0:∀ q ∈ qs,0 < q:=fun q hq'=>(hq q hq').1;have sT0:SmR 69 30 T0:=sT0.mono (by omega) (by omega);trivial;refine L0 (fun i e=>∃ (o8 o11:Option SV) (T' P' R':Rat) (cs:LR),e=[some .st,some (.d (.str kd)),some (.d (.int mo)),some (.d (.bool false)),some (.d (.int (1 + d))),some (.d (dq T')),some (.d (dq P')),some (.d (.list (qs.map dq))),o8,some (.own ((cs++[(T',P')]).map dcn)),some (.d (dq R')),o11] /\
    SmR (69 + 7 * i) (30 + 6 * i) T'/\SmR (116 + 32 * i) (6 + 31 * i) P'/\SmR (41 + 7 * i) (1 + 6 * i) R'/\(On LL ((6 + i) * 2 ^ 41) T'/\On (LL * LL) ((1 + i) * 2 ^ 85) P'/\On LL (i * 2 ^ 41) R'/\OnC cs/\(kd="straight"->OnP (cs++[(T',P')])))/\(T'=q1 + sumR (qs.drop i)/\0<=P'/\0<=R'/\RiseO (cs++[(T',P')])/\∀ c ∈ cs,0<=c.1/\0<=c.2)/\(kd="straight"->CvR (cs++[(T',P')]) R')/\Dec (cs++[(T',P')])/\cs.length=i/\∀ c ∈ cs,SmR 100 54 c.1/\SmR 244 130 c.2)
    ⟨_,_,T0,q2,0,[],rfl,sT0,s2.mono (by decide) (by decide),sm_zero.mono (by decide) (by decide),⟨oT0.mono (Nat.mul_le_mul_right _ (by omega)),((P5 s2).up J4).mono (Nat.le_of_ble_eq_true rfl),On.zero.mono (Nat.zero_le _),(fun _ z=>nomatch z),fun _=>OnP.one _⟩,⟨eT0,q20,Rat.le_refl,RiseO.one _,fun _ z=>nomatch z⟩,fun _=>CvR.one _,True.intro,rfl,fun _ z=>nomatch z⟩ ?_ ?_
   ·rintro i q e hqi ⟨o8,o11,T',P',R',cs,rfl,sT,sP,sR,⟨oT,oP,oR,oC,oS⟩,⟨eT,P0,R0,up,nn⟩,cv,dec,hcl,hcs⟩;have hil:i < qs.length:=(List.getElem?_eq_some_iff.mp hqi).1;obtain ⟨qp,sg⟩:=hq q (List.mem_of_getElem? hqi);have ed:qs.drop i=q :: qs.drop (i + 1):=by rw [List.drop_eq_getElem_cons hil]; congr 1; exact (List.getElem?_eq_some_iff.mp hqi).2
    have eT2:T' - q=q1 + sumR (qs.drop (i + 1)):=by
     rw [ed] at eT;have:sumR (q :: qs.drop (i + 1))=q + sumR (qs.drop (i + 1)):=rfl;rw [this] at eT; grind
    have nT2:=Y7 (qs:=qs.drop (i + 1)) fun x hx=>hq0 x (List.mem_of_mem_drop hx);have nT:=Y7 (qs:=qs.drop i) fun x hx=>hq0 x (List.mem_of_mem_drop hx);trivial;refine ⟨_,_,rfl,.inr rfl,fun v1 _ vp sv1 _=>?_⟩;have v0:=vp rfl;have nn':∀ c ∈ cs++[(T',P')],0<=c.1/\0<=c.2:=fun c hc=>by
     rcases List.mem_append.mp hc with z | z
     ·exact nn c z
     ·cases List.mem_singleton.mp z;exact ⟨by show 0<=T'; rw [eT]; grind,P0⟩
    trivial;refine ⟨_,_,rfl,sT.q (by omega) (by omega),sg.q (by decide) (by decide),?_⟩;trivial;refine ⟨_,_,rfl,sR.q (by omega) (by omega),sv1.q (by decide) (by decide),?_⟩;trivial;have hi4:i < 4:=by omega
    have oT2:On LL ((6 + (i + 1)) * 2 ^ 41) (T' - q):=(oT.sub J4 (P5 sg)).mono (by rw [show 6 + (i + 1)=(6 + i) + 1 by omega,Nat.add_mul (6 + i) 1,Nat.one_mul]; exact Nat.le_refl _);have oR2:On LL ((i + 1) * 2 ^ 41) (R' + v1):=(oR.add J4 (P5 sv1)).mono (by rw [Nat.add_mul,Nat.one_mul]; exact Nat.le_refl _);have oC2:OnC (cs++[(T',P')]):=fun c hc=>by
     rcases List.mem_append.mp hc with z | z
     ·exact oC c z
     ·cases List.mem_singleton.mp z;exact ⟨oT.mono (Nat.le_trans (Nat.mul_le_mul_right _ (show 6 + i<=16 by omega)) (Nat.le_of_ble_eq_true rfl)),oP.mono (Nat.le_trans (Nat.mul_le_mul_right _ (show 1 + i<=16 by omega)) (Nat.le_of_ble_eq_true rfl))⟩
    have sT2:SmR (69 + 7 * (i + 1)) (30 + 6 * (i + 1)) (T' - q):=(sT.sub sg).mono (by omega) (by omega);have sR2:SmR (41 + 7 * (i + 1)) (1 + 6 * (i + 1)) (R' + v1):=(sR.add sv1).mono (by omega) (by omega);refine ⟨hk.lay,A8s,?_⟩;refine ite2 (fun h2=>?_) (fun h2=>?_);case' refine_1 =>
     refine ⟨_,_,rfl,sR2.q (by omega) (by omega),sg.q (by decide) (by decide),?_⟩;trivial;have sv2:SmR 110 31 ((R' + v1) * q):=(sR2.mul sg).mono (by omega) (by omega);obtain ⟨v2,ev2⟩:∃ v2,v2=(R' + v1) * q:=⟨_,rfl⟩;rw [<- ev2] at sv2 ⊢;have hv:kd="straight"->v2=(R' + v1) * q:=fun _=>ev2;have ov:On (LL * LL) (2 ^ 85) v2:=by rw [ev2]; exact (oR2.mul (P5 sg)).mono (Nat.le_trans (Nat.mul_le_mul_right _ (Nat.mul_le_mul_right _ (show i + 1<=8 by omega))) (Nat.le_of_ble_eq_true rfl))
     have w0:0 < v2:=by rw [ev2]; exact Rat.mul_pos (by grind) qp
    case' refine_2 =>
     have sv2:SmR 110 31 v1:=sv1.mono (by decide) (by decide);have hv:kd="straight"->v1=(R' + v1) * q:=fun z=>absurd (by rw [z]; exact B8y) h2;have ov:On (LL * LL) (2 ^ 85) v1:=((P5 sv1).up J4).mono (Nat.le_of_ble_eq_true rfl);have w0:0 < v1:=v0
    all_goals
     refine ⟨_,_,rfl,sP.q (by omega) (by omega),sv2.q (by decide) (by decide),?_⟩;trivial;refine ⟨by simp; omega,_,_,_,_,_,cs++[(T',P')],by simp only [List.map_append]; rfl,sT2,(sP.add sv2).mono (by omega) (by omega),sR2,⟨oT2,(oP.add (Nat.mul_pos J4 J4) ov).mono (by rw [show 1 + (i + 1)=(1 + i) + 1 by omega,Nat.add_mul (1 + i) 1,Nat.one_mul]; exact Nat.le_refl _),oR2,oC2,fun z=>(oS z).snoc (by rw [((cv z).step qp (vp rfl) (hv z)).2 cs _ _ (by simp)]; exact oR2.mono (Nat.le_trans (Nat.mul_le_mul_right _ (show i + 1<=8 by omega)) (Nat.le_of_ble_eq_true rfl)))⟩,⟨eT2,by grind,by grind,RiseO.snoc up (by show T' - q < T'; grind) (by show P' < P' + _; grind),nn'⟩,fun z=>(cv z).step qp (vp rfl) (hv z),Dec.snoc dec (by show T' - q < T'; grind),by simp [hcl],fun c hc=>?_⟩;rcases List.mem_append.mp hc with z | z
     ·exact hcs c z
     ·cases List.mem_singleton.mp z;exact ⟨sT.mono (by omega) (by omega),sP.mono (by omega) (by omega)⟩
   ·rintro e ⟨o8,o11,T',P',R',cs,rfl,sT,sP,sR,⟨oT,oP,oR,oC,oS⟩,⟨eT,P0,R0,up,nn⟩,cv,dec,hcl,hcs⟩;trivial;have nT:=Y7 (qs:=qs.drop (qs.map dq).length) fun x hx=>hq0 x (List.mem_of_mem_drop hx);have hl4:(qs.map dq).length<=4:=by rw [List.length_map]; exact hm
    refine k _ ⟨⟨by simp,by simp; omega,dec,fun c hc=>?_⟩,fun c hc=>?_,up,fun z=>(cv z).1⟩ (fun c hc=>?_) oS (by simp; omega)
    ·rcases List.mem_append.mp hc with z | z
     ·exact hcs c z
     ·simp at z; subst z; exact ⟨sT.mono (by omega) (by omega),sP.mono (by omega) (by omega)⟩
    ·rcases List.mem_append.mp hc with z | z
     ·exact nn c z
     ·simp at z; subst z; exact ⟨by show 0<=T'; rw [eT]; grind,P0⟩
    ·rcases List.mem_append.mp hc with z | z
     ·exact oC c z
     ·cases List.mem_singleton.mp z;exact ⟨oT.mono (Nat.le_trans (Nat.mul_le_mul_right _ (show 6 + _<=16 by omega)) (Nat.le_of_ble_eq_true rfl)),oP.mono (Nat.le_trans (Nat.mul_le_mul_right _ (show 1 + _<=16 by omega)) (Nat.le_of_ble_eq_true rfl))⟩
def A6s:Pu.PSp:=fun as Q=>∃ (ns:List Int) (kz:List Str),as=[.bor (ns.map .int),.d (.list (kz.map .str))]/\ns.length<=63/\1<=kz.length/\kz.length<=3/\(∀ z ∈ kz,Kd z)/\∀ n xs vs us,ShOk n xs vs us->Q (.d (shD xs vs us))
theorem A7y (T:Txt K mg D):FnOk P w K mg base CX0 4 D.a_b7 D.d_b7 ["_law_script","_law_kinds"] (Pu.spOf K [.vw,.dat] A6s):=by
 refine T.F_b7.ok sc_b7 (Pu.spOf.len rfl) (fun cdv A outer s H vs Q E hr h=>?_);refine ⟨_,(QSs.out (A4 (B6 (i:=2) sc_b7.nd rfl (Or.inl rfl) (A7 (K7 (K:=K) T) hr.mo rfl T.m_af T.F_af.kp (M3 T) .nil B8 (A0 (qpv 0) (A0 A3 A2))))
   (A4 (B6 (i:=3) sc_b7.nd rfl (Or.inl rfl) (A9 (A6 (K:=K) rfl) (F3 (A0 A3 (A0 A3 (A0 A3 (A0 A3 (A0 A3 (A0 A3 (A0 A3 (A0 A3 A2))))))))) (A7 (D4 (K:=K) T) hr.mo rfl T.m_c0 T.F_c0.kp (D7 T) .nil B8 (A0 (qpv 2) (A0 A3 A2))) (fun _ _=>rfl)))
   (A4 (B6 (i:=4) sc_b7.nd rfl (Or.inl rfl) (C9 G9 A3 (A7 (D4 (K:=K) T) hr.mo rfl T.m_c0 T.F_c0.kp (D7 T) .nil B8 (A0 (qpv 2) (A0 A3 A2)))))
   (A4 (B6 (i:=5) sc_b7.nd rfl (Or.inl rfl) (A7 (D4 (K:=K) T) hr.mo rfl T.m_c0 T.F_c0.kp (D7 T) .nil B8 (A0 (qpv 2) (A0 A3 A2))))
   (A4 (B6 (i:=6) sc_b7.nd rfl (Or.inl rfl) (C9 F7 A3 (R4 A9u (by rfl) T.z_int (by rfl) (A0 (L1 (D1 (K:=K) rfl hr.units) (A7 (D4 (K:=K) T) hr.mo rfl T.m_c0 T.F_c0.kp (D7 T) .nil B8 (A0 (qpv 2) (A0 A3 A2))) A3 (C2 _)) A2))))
   (A4 (B6 (i:=7) sc_b7.nd rfl (Or.inl rfl) (F3 A2))
   (A4 (E9 PassesOwn.never rfl (F9 rfl T.z_range (A0 (qpv 3) A2)) (B0 (i:=8) sc_b7.nd rfl (Or.inl rfl) (Or.inl rfl))
    (A4 (B6 (i:=9) sc_b7.nd rfl (Or.inl rfl) (A7 (K7 (K:=K) T) hr.mo rfl T.m_af T.F_af.kp (M3 T) .nil B8 (A0 (qpv 0) (A0 (C9 G9 A3 (qpv 8)) A2))))
    (A4 (B6 (i:=10) sc_b7.nd rfl (Or.inl rfl) (A9 (A6 (K:=K) rfl) (qpv 1) (A7 (D4 (K:=K) T) hr.mo rfl T.m_c0 T.F_c0.kp (D7 T) .nil B8 (A0 (qpv 9) (A0 (B7 (C7 (K:=K) rfl) (by rfl) T.z_len PySem.boot_len (A0 (qpv 1) A2)) A2))) (fun _ _=>rfl)))
    (A8 (G5 (K4 (K:=K) rfl PySem.F.plainAttrs_list PySem.F.slot_list_append PySem.F.type_list_append G2 (qpv 7) (A0 (C4 (A0 (C9 B5a (A9 (A6 (K:=K) rfl) C8 (qpv 8) (fun _ _=>rfl)) (qpv 4)) (A0 (A7 (A70 (K:=K) T) hr.mo rfl T.m_b4 T.F_b4.kp (B1n T) .nil B8 (A0 (qpv 9) (A0 (qpv 10) (A0 A3 (A0 G8 A2))))) A2))) A2)))))))
   (A4 (B6 (i:=11) sc_b7.nd rfl (Or.inl rfl) (F3 A2))
   (A4 (B6 (i:=12) sc_b7.nd rfl (Or.inl rfl) (F3 A2))
   (A4 (E9 PassesOwn.never rfl (X0 rfl T.z_range (A0 A3 (A0 (C9 G9 (B7 (A1s rfl) (by rfl) T.z_max (by rfl) (A0 (C9 G9 A3 (qpv 5)) (A0 (B7 (A9q rfl) (by rfl) T.z_min (by rfl) (A0 (B7 (C7 (K:=K) rfl) (by rfl) T.z_len PySem.boot_len (A0 (qpv 0) A2)) (A0 A3 A2))) A2))) (C9 F7 A3 (qpv 6))) A2))) (B0 (i:=8) sc_b7.nd rfl (Or.inl rfl) (Or.inl rfl))
    (A4 (B6 (i:=9) sc_b7.nd rfl (Or.inl rfl) (A7 (K7 (K:=K) T) hr.mo rfl T.m_af T.F_af.kp (M3 T) .nil B8 (A0 (qpv 0) (A0 (qpv 8) A2))))
    (A4 (B6 (i:=13) sc_b7.nd rfl (Or.inl rfl) (A7 (D4 (K:=K) T) hr.mo rfl T.m_c0 T.F_c0.kp (D7 T) .nil B8 (A0 (qpv 9) (A0 (qpv 3) A2))))
    (A8 (D0 (QW.pt (J2 (B5 R6 (qpv 3) A3 (C2 _)) (J2 (B5 A06 (A7 (D4 (K:=K) T) hr.mo rfl T.m_c0 T.F_c0.kp (D7 T) .nil B8 (A0 (qpv 9) (A0 A3 A2))) A3 (C2 _)) (J5 (B5 A06 (B7 (C7 (K:=K) rfl) (by rfl) T.z_len PySem.boot_len (A0 (qpv 11) A2)) A3 (C2 _))))))
     (A8 (G5 (K4 (K:=K) rfl PySem.F.plainAttrs_list PySem.F.slot_list_append PySem.F.type_list_append G2 (qpv 11) (A0 (C4 (A0 (qpv 13) (A0 (C9 P4 (C9 G9 (C9 G9 (qpv 13) A3) (A7 (D4 (K:=K) T) hr.mo rfl T.m_c0 T.F_c0.kp (D7 T) .nil B8 (A0 (qpv 9) (A0 (C9 A05 (qpv 3) A3) A2)))) (qpv 3)) A2))) A2))))
     (A8 (D0 (B5 A06 (B7 (C7 (K:=K) rfl) (by rfl) T.z_len PySem.boot_len (A0 (qpv 12) A2)) A3 (C2 _))
      (A8 (G5 (K4 (K:=K) rfl PySem.F.plainAttrs_list PySem.F.slot_list_append PySem.F.type_list_append G2 (qpv 12) (A0 (C4 (A0 (A9 (A6 (K:=K) rfl) (F3 (A0 C8 (A0 C8 (A0 C8 A2)))) (A7 (D4 (K:=K) T) hr.mo rfl T.m_c0 T.F_c0.kp (D7 T) .nil B8 (A0 (qpv 9) (A0 A3 A2))) (fun _ _=>rfl)) (A0 (qpv 13) A2))) A2))))
      C6)))))))
   (A8 (C0 (C4 (A0 (qpv 7) (A0 (qpv 11) (A0 (qpv 12) A2))))))))))))))))),?_⟩
 haveI:=T.c2_NOUGHT
 haveI:=T.c2_ONE
 refine Pu.J7 h ?_;rintro as Qp ⟨ns,kz,rfl,hns,k1,k3,hkz,k⟩;refine hd fun R hR=>?_;trivial;refine ⟨ns,_,rfl,by decide,by decide,?_⟩;trivial;subst hR;refine hd fun R hR=>?_;trivial;refine ⟨8,rfl,by decide,sm4 8,fun d d0 d1=>?_⟩;trivial;obtain ⟨n,⟨n0,n1⟩,en⟩:=B5j d0 d1;refine E6 en ?_;trivial;subst hR;refine hd fun R hR=>?_;trivial;refine ⟨8,rfl,by decide,sm4 8,fun sz sz0 sz1=>?_⟩;trivial;subst hR;refine hd fun R hR=>?_;trivial;refine ⟨8,rfl,by decide,sm4 8,fun le le0 le1=>?_⟩;trivial;subst hR;refine hd fun R hR=>?_;trivial;refine ⟨8,rfl,by decide,sm4 8,fun fu fu0 fu1=>?_⟩;trivial;refine ⟨⟨N7 (B:=40) (by omega) (by omega) (by decide),N7 (B:=1) (by split <;> omega) (by split <;> omega) (by decide)⟩,?_⟩
 obtain ⟨fl,hfl,fl0,fl1⟩:∃ fl:Int,fl=40 * (if fu=5 then 1 else 0)/\0<=fl/\fl<=40:=⟨_,rfl,by split <;> omega,by split <;> omega⟩
 rw [<- hfl];subst hR;refine hd fun R hR=>?_;trivial;subst hR;refine Q9 (fun e=>∃ (xs:List Wk) (o8 o9 o10:Option SV),e=[some (.bor (ns.map .int)),some (.d (.list (kz.map .str))),some .st,some (.d (.int (n:Int))),some (.d (.int (1 + sz))),some (.d (.int le)),some (.d (.int fl)),some (.own (xs.map kD)),o8,o9,o10,none,none,none]/\xs.length=n/\(∀ x ∈ xs,Kd x.2.1/\OfG x.2.1 x.2.2 100 54 244 130/\OnC x.2.2/\(x.2.1="straight"->OnP x.2.2))/\∀ x ∈ xs,(PyData.str x.1).canLay0=true) (fun R hR=>?_) ?_
 ·trivial;refine ⟨⟨by omega,by omega⟩,N4 (fun i e=>∃ (xs:List Wk) (o8 o9 o10:Option SV),e=[some (.bor (ns.map .int)),some (.d (.list (kz.map .str))),some .st,some (.d (.int (n:Int))),some (.d (.int (1 + sz))),some (.d (.int le)),some (.d (.int fl)),some (.own (xs.map kD)),o8,o9,o10,none,none,none]/\xs.length=i/\(∀ x ∈ xs,Kd x.2.1/\OfG x.2.1 x.2.2 100 54 244 130/\OnC x.2.2/\(x.2.1="straight"->OnP x.2.2))/\∀ x ∈ xs,(PyData.str x.1).canLay0=true) ⟨[],_,_,_,rfl,rfl,(fun _ z=>nomatch z),fun _ z=>nomatch z⟩ ?_ ?_⟩
  ·rintro i e hi ⟨xs,o8,o9,o10,rfl,hl,hx,hn⟩;have hin:i < n:=by simpa using hi
   refine hd fun R hR=>?_;trivial;refine ⟨ns,_,rfl,by omega,by omega,?_⟩;trivial;subst hR;refine hd fun R hR=>?_;trivial;refine ⟨(kz.length:Int),by simp,by omega,N7 (B:=3) (by omega) (by omega) (by decide),fun g g0 g1=>?_⟩;trivial;obtain ⟨gj,rfl⟩:=Int.eq_ofNat_of_zero_le g0;have hgj:gj < kz.length:=by omega
   have eg:L2.atI (kz.map PyData.str) (gj:Int)=some (.str kz[gj]):=G4 (by rw [List.getElem?_map,List.getElem?_eq_getElem hgj]; rfl);refine E6 eg ?_;trivial;subst hR;trivial;refine ⟨(show ltr2.length<=1000 by rw [Z6]; decide),?_⟩;refine getS (z:=ltr2) (by rw [Z6]; decide) B0z (by omega) (by rw [Z6]; omega) (fun c hc=>?_);rw [show sgn c=PyData.str ⟨#[c]⟩ from rfl];trivial;refine ⟨⟨by omega,by omega⟩,(show 1<=100 by decide),kz[gj],5,rfl,by decide,by decide,hkz _ (List.getElem_mem hgj),fun cs og oc op ol=>?_⟩;trivial;refine ⟨by omega,xs++[(Txt.mul ⟨#[c]⟩ (1 + sz),kz[gj],cs)],_,_,_,by rw [List.map_append]; rfl,by rw [List.length_append,hl]; rfl,fun x hx'=>?_,fun x hx'=>?_⟩
   ·rcases List.mem_append.mp hx' with q | q
    ·exact hx x q
    ·rw [List.mem_singleton.mp q]; exact ⟨hkz _ (List.getElem_mem hgj),og,oc,op⟩
   ·rcases List.mem_append.mp hx' with q | q
    ·exact hn x q
    ·rw [List.mem_singleton.mp q]; exact B5h (B6q hc)
  ·rintro e ⟨xs,o8,o9,o10,rfl,hl,hx,hn⟩;exact hR _ ⟨xs,_,_,_,rfl,by simpa using hl,hx,hn⟩
 rintro e ⟨xs,o8,o9,o10,rfl,hl,hx,hn⟩;refine hd fun R hR=>?_;trivial;subst hR;refine hd fun R hR=>?_;trivial;subst hR;trivial;refine ⟨⟨N7 (B:=2) (by omega) (by omega) (by decide),N7 (B:=40) (by omega) (by omega) (by decide)⟩,?_⟩;have hM:0<=(if (if 40 < (ns.length:Int) then 40 else (ns.length:Int)) > 7 + le then if 40 < (ns.length:Int) then 40 else (ns.length:Int) else 7 + le) + 2 * fl/\(if (if 40 < (ns.length:Int) then 40 else (ns.length:Int)) > 7 + le then if 40 < (ns.length:Int) then 40 else (ns.length:Int) else 7 + le) + 2 * fl<=120:=by
  split <;> split <;> omega
 generalize (if (if 40 < (ns.length:Int) then 40 else (ns.length:Int)) > 7 + le then if 40 < (ns.length:Int) then 40 else (ns.length:Int) else 7 + le) + 2 * fl=M at hM ⊢;refine ⟨⟨by decide,by decide,by omega,by omega⟩,N4 (fun i e=>∃ (vs:List (Int × Int)) (us:List (Str × Int)) (o8 o9 o10 o13:Option SV),e=[some (.bor (ns.map .int)),some (.d (.list (kz.map .str))),some .st,some (.d (.int (n:Int))),some (.d (.int (1 + sz))),some (.d (.int le)),some (.d (.int fl)),some (.own (xs.map kD)),o8,o9,o10,some (.own (vs.map pD)),some (.own (us.map qD)),o13]/\ShOk n xs vs us) ⟨[],[],_,_,_,_,rfl,hl,n0,n1,hx,hn,Nat.zero_le _,(fun _ z=>nomatch z),Nat.zero_le _,(fun _ z=>nomatch z),fun _ z=>nomatch z⟩ ?_ ?_⟩
 ·rintro i e hi ⟨vs,us,o8,o9,o10,o13,rfl,ok⟩;have vl:=ok.vl;have ul:=ok.ul;refine hd fun R hR=>?_;trivial;refine ⟨ns,_,rfl,by omega,by omega,?_⟩;trivial;subst hR;refine hd fun R hR=>?_;trivial;refine ⟨(n:Int),rfl,by omega,N7 (B:=10) (by omega) (by omega) (by decide),fun a a0 a1=>?_⟩;trivial;subst hR;trivial;refine ite2 (fun h1=>?_) (fun h1=>?_)
  ·refine ⟨3,rfl,by decide,sm4 3,fun t t0 t1=>?_⟩;trivial;refine ite2 (fun h3=>ite2 (fun h4=>?_) (fun h4=>?_)) (fun h3=>?_)
   ·refine ⟨(n:Int) - 1,rfl,by omega,N7 (B:=10) (by omega) (by omega) (by decide),fun b b0 b1=>?_⟩;trivial;exact ⟨by omega,by omega,vs++[(a,(a + 1 + b) % (n:Int))],us,_,_,_,_,by rw [List.map_append]; rfl,ok.addV ⟨a0,a1⟩ ⟨Int.emod_nonneg _ (by omega),Int.emod_lt_of_pos _ (by omega)⟩ (by omega) (B8d a0 a1 b0 (by omega))⟩
   all_goals
    refine ite2 (fun h2=>?_) (fun h2=>⟨vs,us,_,_,_,_,rfl,ok⟩);refine ⟨3,rfl,by decide,sm4 3,fun g g0 g1=>?_⟩;trivial;obtain ⟨kd,hkd,ek⟩:=B24 g0 g1;refine E6 ek ?_;trivial;exact ⟨by omega,vs,us++[(kd,a)],_,_,_,_,by rw [List.map_append]; rfl,ok.addU ⟨a0,a1⟩ hkd (by omega)⟩
  ·refine ite2 (fun h2=>?_) (fun h2=>⟨vs,us,_,_,_,_,rfl,ok⟩);refine ⟨3,rfl,by decide,sm4 3,fun g g0 g1=>?_⟩;trivial;obtain ⟨kd,hkd,ek⟩:=B24 g0 g1;refine E6 ek ?_;trivial;exact ⟨by omega,vs,us++[(kd,a)],_,_,_,_,by rw [List.map_append]; rfl,ok.addU ⟨a0,a1⟩ hkd (by omega)⟩
 rintro e ⟨vs,us,o8,o9,o10,o13,rfl,ok⟩;trivial;exact k n xs vs us ok
def A6x:Pu.PSp:=fun as Q=>∃ (xs:List Wk) (ws:LW) (hs:LH) (gs:LP) (ps:LR) (W:Option Rat) (B a:Nat),as=[.d (netD xs ws hs gs),.bor (ps.map dcn),.d (vD W)]/\PSz B a ws hs ps/\(∀ w,W=some w->On B (2 ^ a) w)/\∀ b:Bool,(b=true ↔ Kps ws hs ps W)->Q (.d (.bool b))
theorem A72 (T:Txt K mg D):FnOk P w K mg base CX0 3 D.a_b1 D.d_b1 ["_law_net","_law_plan","_law_whole_here"] (Pu.spOf K [.dat,.vw,.dat] A6x):=by
 refine T.F_b1.ok sc_b1 (Pu.spOf.len rfl) (fun cdv A outer s H vs Q E hr h=>?_);refine ⟨_,(QSs.out (A4 (G3 (i:=3) rfl sc_b1.nd rfl rfl (E8 (N':=["_law_start","_law_time"]) (cap:=[none,none]) rfl rfl rfl rfl (by decide +kernel) rfl rfl) (D9 (K:=K) rfl (qpv 1)) (fun _ _ _=>(D3 (K:=K) (n:=2) rfl rfl (B3 (B0 (i:=0) (show (["_law_start","_law_time"]:List Str).Nodup from by decide +kernel) rfl (Or.inl rfl) (Or.inr rfl)) (B3 (B0 (i:=1) (show (["_law_start","_law_time"]:List Str).Nodup from by decide +kernel) rfl (Or.inl rfl) (Or.inr rfl)) D2)) rfl rfl)) (fun _ _ _=>G0) (fun _ _ _=>(A7 (D6 (K:=K) T) hr.mo rfl T.m_bf T.F_bf.kp (F4 T) .nil B8 (A0 (qpv 0) (A0 (qpv 1) A2)))) rfl)
   (A4 (E9 PassesOwn.never rfl (D9 (K:=K) rfl (qpv 1)) (D3 (K:=K) (n:=2) rfl rfl (B3 (B0 (i:=4) sc_b1.nd rfl (Or.inl rfl) (Or.inl rfl)) (B3 (B0 (i:=5) sc_b1.nd rfl (Or.inl rfl) (Or.inl rfl)) D2)) rfl rfl)
    (A8 (D0 (B5 A06 (A9 (A6 (K:=K) rfl) (qpv 4) A3 (fun _ _=>rfl)) A3 (C2 _))
     (A8 (C0 G8))
     C6)))
   (A4 (E9 PassesOwn.never rfl (D9 (K:=K) rfl (A9 (A6 (K:=K) rfl) (qpv 0) A3 (fun _ _=>rfl))) (D3 (K:=K) (n:=3) rfl rfl (B3 (B0 (i:=6) sc_b1.nd rfl (Or.inl rfl) (Or.inl rfl)) (B3 (B0 (i:=7) sc_b1.nd rfl (Or.inl rfl) (Or.inl rfl)) (B3 (B0 (i:=8) sc_b1.nd rfl (Or.inl rfl) (Or.inl rfl)) D2))) rfl rfl)
    (A8 (D0 (F2 (A7 (N9 (K:=K) T) hr.mo rfl T.m_b9 T.F_b9.kp (P8 T) .nil B8 (A0 (A9 (A6 (K:=K) rfl) (A9 (A6 (K:=K) rfl) (qpv 1) (qpv 7) (fun _ _=>rfl)) A3 (fun _ _=>rfl)) (A0 (A7 (D6 (K:=K) T) hr.mo rfl T.m_bf T.F_bf.kp (F4 T) .nil B8 (A0 (A9 (A6 (K:=K) rfl) (qpv 3) (qpv 6) (fun _ _=>rfl)) (A0 (qpv 8) A2))) A2))))
     (A8 (C0 G8))
     C6)))
   (A4 (E9 PassesOwn.never rfl (D9 (K:=K) rfl (A9 (A6 (K:=K) rfl) (qpv 0) A3 (fun _ _=>rfl))) (D3 (K:=K) (n:=3) rfl rfl (B3 (B0 (i:=9) sc_b1.nd rfl (Or.inl rfl) (Or.inl rfl)) (B3 (B0 (i:=10) sc_b1.nd rfl (Or.inl rfl) (Or.inl rfl)) (B3 (B0 (i:=11) sc_b1.nd rfl (Or.inl rfl) (Or.inl rfl)) D2))) rfl rfl)
    (A4 (D0 (QW.pt (K1 (QW.pt (J2 (B5 (D1 (K:=K) rfl hr.units) (qpv 9) C8 (C2 _)) (J5 (F2 (A7 (N9 (K:=K) T) hr.mo rfl T.m_b9 T.F_b9.kp (P8 T) .nil B8 (A0 (A9 (A6 (K:=K) rfl) (A9 (A6 (K:=K) rfl) (qpv 1) (qpv 10) (fun _ _=>rfl)) A3 (fun _ _=>rfl)) (A0 (qpv 11) A2))))))) (K3 (QW.pt (J2 (B5 (D1 (K:=K) rfl hr.units) (qpv 9) C8 (C2 _)) (J5 (F2 (A7 (N9 (K:=K) T) hr.mo rfl T.m_b9 T.F_b9.kp (P8 T) .nil B8 (A0 (qpv 11) (A0 (A9 (A6 (K:=K) rfl) (A9 (A6 (K:=K) rfl) (qpv 1) (qpv 10) (fun _ _=>rfl)) A3 (fun _ _=>rfl)) A2))))))))))
     (A8 (C0 G8))
     C6)
    (A8 (D0 (QW.pt (J2 (B5 (D1 (K:=K) rfl hr.units) (qpv 9) C8 (C2 _)) (J5 (F2 (A7 (N9 (K:=K) T) hr.mo rfl T.m_b9 T.F_b9.kp (P8 T) .nil B8 (A0 (qpv 11) (A0 (A9 (A6 (K:=K) rfl) (qpv 3) (qpv 10) (fun _ _=>rfl)) A2)))))))
     (A8 (C0 G8))
     C6))))
   (A8 (C0 (B60 (L1 A2m (qpv 2) K0 (C2 _)) (U7 (B35 (B7 (A9v (K:=K) rfl) (by rfl) T.z_any (by rfl) (A0 (N1 rfl (E8 (N':=["_law_whole_here","_law_end"]) (cap:=[some 2,none]) rfl rfl rfl rfl (by decide +kernel) rfl rfl) (D9 (K:=K) rfl (qpv 3)) (fun _ _ _=>(B0 (i:=1) (show (["_law_whole_here","_law_end"]:List Str).Nodup from by decide +kernel) rfl (Or.inl rfl) (Or.inr rfl))) (fun _ _ _=>G0) (fun _ _ _=>(A7 (N9 (K:=K) T) hr.mo rfl T.m_b9 T.F_b9.kp (P8 T) .nil B8 (A0 (qpv 0) (A0 (qpv 1) A2))))) A2)))))))))))),?_⟩
 haveI:=T.c2_NOUGHT
 haveI:=T.c2_ONE
 refine Pu.J7 h ?_;rintro as Qp ⟨xs,ws,hs,gs,ps,W,B,a,rfl,ok,oW,k⟩;have no:¬ Kps ws hs ps W->Qp (.d (.bool false)):=fun h=>k false ⟨fun z=>(nomatch z),fun z=>absurd z h⟩;have hl:=ok.ln;have ii:∀ {o:Int},0<=o->o < (ps.length:Int)->o < ((ps.map enD).length:Int):=fun _ h=>by rw [List.length_map]; exact h
 unfold netD;refine hd fun R hR=>?_;trivial;refine ⟨by omega,J8 (f:=dcn) (xs:=ps) (fun i e ys=>∃ o1 o2:Option SV,e=[o1,o2]/\ys=((ps.map enD).take i).map dq) ⟨_,_,rfl,rfl⟩ ?_ ?_⟩
 ·rintro i p e ys hi ⟨o1,o2,rfl,rfl⟩;obtain ⟨p1,p2⟩:=ok.p p (List.mem_of_getElem? hi);trivial;refine ⟨_,_,rfl,ok.sm p1 (by omega),ok.sm p2 (by omega),?_⟩;trivial;refine ⟨_,_,rfl,?_⟩;rw [List.take_add_one,List.getElem?_map,hi,List.map_append];rfl
 rintro e ys ⟨o1,o2,rfl,rfl⟩;rw [show (ps.map enD).take ps.length=ps.map enD from List.take_of_length_le (by rw [List.length_map]; exact Nat.le_refl _)];trivial;subst hR;refine hd fun R hR=>?_;trivial;refine L0 (f:=dcn) (xs:=ps) (fun i e=>∃ o4 o5:Option SV,e=[some (.d (.tuple [.list (xs.map kD),.list (ws.map wD),.list (hs.map hD),.list gs])),some (.bor (ps.map dcn)),some (.d (vD W)),some (.own ((ps.map enD).map dq)),o4,o5,none,none,none,none,none,none]/\∀ j p,j < i->ps[j]?=some p->0<=p.1) ⟨_,_,rfl,fun j p h=>absurd h (Nat.not_lt_zero _)⟩ ?_ ?_
 ·rintro i p e hi ⟨o4,o5,rfl,hj⟩;trivial;refine ite2 (fun z=>?_) (fun z=>?_)
  ·exact no fun h=>absurd (num_lt.mp z) (Rat.not_lt.mpr (h.s p (List.mem_of_getElem? hi)))
  ·refine ⟨_,_,rfl,fun j q hj' hq=>?_⟩;by_cases h:j=i
   ·subst h; rw [hi] at hq; cases hq; exact Rat.not_lt.mp fun y=>z (num_lt.mpr y)
   ·exact hj j q (by omega) hq
 rintro e ⟨o4,o5,rfl,hs0⟩;have ks:∀ p ∈ ps,0<=p.1:=fun p hp=>by
  obtain ⟨j,hj,e⟩:=List.getElem_of_mem hp;exact hs0 j p hj (by rw [List.getElem?_eq_getElem hj,e])
 subst hR;dsimp only;refine hd fun R hR=>?_;trivial;refine L0 (f:=wD) (xs:=ws) (fun i e=>∃ o4 o5 o6 o7 o8:Option SV,e=[some (.d (.tuple [.list (xs.map kD),.list (ws.map wD),.list (hs.map hD),.list gs])),some (.bor (ps.map dcn)),some (.d (vD W)),some (.own ((ps.map enD).map dq)),o4,o5,o6,o7,o8,none,none,none]/\∀ j w,j < i->ws[j]?=some w->0<=wSl ps w) ⟨_,_,_,_,_,rfl,fun j p h=>absurd h (Nat.not_lt_zero _)⟩ ?_ ?_
 ·rintro i x e hi ⟨o4,o5,o6,o7,o8,rfl,hj⟩;have hx:=List.mem_of_getElem? hi;obtain ⟨ha,hb,hl⟩:=ok.w x hx;rw [show wD x=PyData.tuple [.int x.1,.int x.2.1,dq x.2.2] from rfl];trivial;refine E6 (A6e hb.1 hb.2) ?_;trivial;refine E6 (W9 ha.1 (ii ha.1 ha.2)) ?_;rw [B1y];trivial;refine ⟨_,_,rfl,(ok.pl ha.1 ha.2).e,ok.sm hl (by omega),?_⟩;trivial;refine ⟨_,_,rfl,(ok.pl hb.1 hb.2).s,ok.sm (ok.wS hx).2 (by omega),?_⟩;trivial;refine ite2 (fun z=>?_) (fun z=>?_)
  ·refine no fun h=>?_;have:=h.w x hx;unfold wSl at this;grind
  ·refine ⟨_,_,_,_,_,rfl,fun j q hj' hq=>?_⟩;by_cases h:j=i
   ·subst h; rw [hi] at hq; cases hq;unfold wSl;grind
   ·exact hj j q (by omega) hq
 rintro e ⟨o4,o5,o6,o7,o8,rfl,hw0⟩;have kw:∀ w ∈ ws,0<=wSl ps w:=fun p hp=>by
  obtain ⟨j,hj,e⟩:=List.getElem_of_mem hp;exact hw0 j p hj (by rw [List.getElem?_eq_getElem hj,e])
 subst hR;dsimp only;refine hd fun R hR=>?_;trivial;refine L0 (f:=hD) (xs:=hs) (fun i e=>∃ o4 o5 o6 o7 o8 o9 o10 o11:Option SV,e=[some (.d (.tuple [.list (xs.map kD),.list (ws.map wD),.list (hs.map hD),.list gs])),some (.bor (ps.map dcn)),some (.d (vD W)),some (.own ((ps.map enD).map dq)),o4,o5,o6,o7,o8,o9,o10,o11]/\∀ j w,j < i->hs[j]?=some w->0<=hSl ps w) ⟨_,_,_,_,_,_,_,_,rfl,fun j p h=>absurd h (Nat.not_lt_zero _)⟩ ?_ ?_
 ·rintro i x e hi ⟨o4,o5,o6,o7,o8,o9,o10,o11,rfl,hj⟩;have hx:=List.mem_of_getElem? hi;obtain ⟨hk,hb,hl⟩:=ok.h x hx;have up:0<=hSl ps x->∀ j w,j < i + 1->hs[j]?=some w->0<=hSl ps w:=fun h0 j q hj' hq=>by
   by_cases h:j=i
   ·subst h; rw [hi] at hq; cases hq; exact h0
   ·exact hj j q (by omega) hq
  have dn:hSl ps x < 0->¬ Kps ws hs ps W:=fun h0 h=>absurd h0 (Rat.not_lt.mpr (h.h x hx));have pb:=ok.pl hb.1 hb.2;have sl:=ok.sm hl (by omega);obtain ⟨kd,o,m⟩:=x;rw [show hD (kd,o,m)=PyData.tuple [.str kd,.int o,dq m] from rfl];trivial;refine ⟨hk.lay,A1g,?_⟩;rcases hk with hk | hk | hk
  ·have hk':kd="from":=hk;subst hk';rw [B29,if_pos rfl];refine E6 (A6e hb.1 hb.2) ?_;trivial;refine ⟨_,_,rfl,pb.s,sl,?_⟩;trivial;have eh:hSl ps (Str.ofString "from",o,m)=(sat ps o).1 - m:=if_pos rfl;refine ite2 (fun z=>no (dn (by rw [eh]; grind))) (fun z=>⟨A1g,S4,?_⟩);rw [B80,if_neg (by decide)];refine ⟨A1g,X9,?_⟩;rw [B81,if_neg (by decide)];exact ⟨_,_,_,_,_,_,_,_,rfl,up (by rw [eh]; grind)⟩
  ·have hk':kd="till":=hk;subst hk';have eh:hSl ps (Str.ofString "till",o,m)=m - (sat ps o).1:=(if_neg A8j).trans (if_pos rfl);rw [B27,if_neg (by decide)];refine ⟨S4,S4,?_⟩;rw [B28,if_pos rfl];refine E6 (A6e hb.1 hb.2) ?_;trivial;refine ⟨_,_,rfl,sl,pb.s,?_⟩;trivial;refine ite2 (fun z=>no (dn (by rw [eh]; grind))) (fun z=>⟨S4,X9,?_⟩);rw [B8z,if_neg (by decide)];exact ⟨_,_,_,_,_,_,_,_,rfl,up (by rw [eh]; grind)⟩
  ·have hk':kd="by":=hk;subst hk';have eh:hSl ps (Str.ofString "by",o,m)=m - enD (sat ps o):=(if_neg A8k).trans (if_neg A2s);rw [B3c,if_neg (by decide)];refine ⟨X9,S4,?_⟩;rw [B3b,if_neg (by decide)];refine ⟨X9,X9,?_⟩;rw [B82,if_pos rfl];refine E6 (W9 hb.1 (ii hb.1 hb.2)) ?_;rw [B1y];trivial;refine ⟨_,_,rfl,sl,pb.e,?_⟩;trivial;refine ite2 (fun z=>no (dn (by rw [eh]; grind))) (fun z=>?_);exact ⟨_,_,_,_,_,_,_,_,rfl,up (by rw [eh]; grind)⟩
 rintro e ⟨o4,o5,o6,o7,o8,o9,o10,o11,rfl,hh0⟩;have kh:∀ h ∈ hs,0<=hSl ps h:=fun p hp=>by
  obtain ⟨j,hj,e⟩:=List.getElem_of_mem hp;exact hh0 j p hj (by rw [List.getElem?_eq_getElem hj,e])
 subst hR;trivial;rcases W with _ | V
 ·refine ite2 (fun _=>k true ⟨fun _=>⟨ks,kw,kh,fun _ e=>(nomatch e)⟩,fun _=>rfl⟩) (fun z=>absurd rfl z)
 ·have oV:=oW V rfl;refine ite2 (fun z=>absurd z (by show ¬ isNo (dq V)=true; exact fun z=>nomatch z)) (fun _=>?_);rw [show vD (some V)=dq V from rfl];refine ⟨by omega,J8 (f:=dq) (xs:=ps.map enD) (fun i e ys=>∃ o1:Option SV,e=[some (.d (dq V)),o1]/\ys=((ps.map enD).take i).map fun q=>.bool (decide (V < q))) ⟨_,rfl,rfl⟩ ?_ ?_⟩
  ·rintro i q e ys hi ⟨o1,rfl,rfl⟩;obtain ⟨p,hp,rfl⟩:∃ p ∈ ps,q=enD p:=by
    obtain ⟨p,hp,e⟩:=List.mem_map.mp (List.mem_of_getElem? hi);exact ⟨p,hp,e.symm⟩
   obtain ⟨p1,p2⟩:=ok.p p hp;trivial;refine ⟨_,_,rfl,ok.sm oV (by omega),ok.sm (p1.add2 ok.b0 p2 (Nat.le_refl (a + 1))) (by omega),?_⟩;trivial;refine ⟨_,rfl,?_⟩;rw [List.take_add_one,hi,List.map_append];rfl
  rintro e ys ⟨o1,rfl,rfl⟩;rw [List.take_length];trivial;refine ⟨_,A0h _ _,k _ ⟨fun h=>⟨ks,kw,kh,fun V' e p hp=>?_⟩,fun h=>?_⟩⟩
  ·cases e;rw [Bool.not_eq_true',List.any_eq_false] at h;have:=h (decide (V < enD p)) (List.mem_map.mpr ⟨enD p,List.mem_map.mpr ⟨p,hp,rfl⟩,rfl⟩);exact Rat.not_lt.mp fun z=>this (decide_eq_true z)
  ·rw [Bool.not_eq_true',List.any_eq_false];intro x hx;obtain ⟨q,hq,rfl⟩:=List.mem_map.mp hx;obtain ⟨p,hp,rfl⟩:=List.mem_map.mp hq;exact fun z=>absurd (of_decide_eq_true z) (Rat.not_lt.mpr (h.e V rfl p hp))
def A0z:Pu.PSp:=fun as Q=>∃ q:Rat,as=[.d (dq q)]/\SmQ 3900 q/\Q (.d (.bool true))
theorem S3 (T:Txt K mg D):FnOk P w K mg base CX0 2 D.a_a3 D.d_a3 ["_law_found"] (Pu.spOf K [.dat] A0z):=by
 refine T.F_a3.ok sc_a3 (Pu.spOf.len rfl) (fun cdv A outer s H vs Q E hr h=>?_);refine ⟨_,(QSs.out (A4 (D0 (QW.pt (K1 (J9 (F2 (B7 (G6 (K:=K) rfl) (by rfl) T.z_isinstance (by rfl) (A0 (qpv 0) (A0 (J6 (v:=.ty "tuple") rfl T.z_tuple (by rfl) rfl) A2))))) (K3 (B5 (K5 (K:=K) rfl hr.units) (B7 (C7 (K:=K) rfl) (by rfl) T.z_len PySem.boot_len (A0 (qpv 0) A2)) A3 (C2 _)))))
    (A8 (C0 G8))
    C6)
   (A4 (E9 PassesOwn.never rfl (D9 (K:=K) rfl (qpv 0)) (B0 (i:=1) sc_a3.nd rfl (Or.inl rfl) (Or.inl rfl))
    (A8 (D0 (QW.pt (K1 (J9 (F2 (B7 (G6 (K:=K) rfl) (by rfl) T.z_isinstance (by rfl) (A0 (qpv 1) (A0 (J6 (v:=.ty "int") rfl T.z_int (by rfl) rfl) A2))))) (K3 (F2 (B7 (G6 (K:=K) rfl) (by rfl) T.z_isinstance (by rfl) (A0 (qpv 1) (A0 (J6 (v:=.ty "bool") rfl T.z_bool (by rfl) rfl) A2)))))))
     (A8 (C0 G8))
     C6)))
   (A8 (C0 (Z2 (L1 R6 (A9 (A6 (K:=K) rfl) (qpv 0) A3 (fun _ _=>rfl)) A3 (C2 _)) (U7 (L1 (D1 (K:=K) rfl hr.units) (A7 (R7 (K:=K) T) hr.mo rfl T.m_c2 T.F_c2.kp (Y3 T) .nil B8 (A0 (A9 (A6 (K:=K) rfl) (qpv 0) A3 (fun _ _=>rfl)) (A0 (A9 (A6 (K:=K) rfl) (qpv 0) A3 (fun _ _=>rfl)) A2))) (qpv 0) (C2 _))))))))),?_⟩
 haveI:=T.c2_NOUGHT
 haveI:=T.c2_ONE
 refine Pu.J7 h ?_;rintro as Qp ⟨q,rfl,sq,k⟩;trivial;refine B5y (fun i e=>∃ o:Option SV,e=[some (.d (dq q)),o]) ⟨_,rfl⟩ ?_ ?_
 ·rintro i x e hi ⟨o,rfl⟩;have hx:∃ z,x=.int z:=by
   match i,hi with
   | 0,hi=>cases hi; exact ⟨_,rfl⟩
   | 1,hi=>cases hi; exact ⟨_,rfl⟩
  obtain ⟨z,rfl⟩:=hx;trivial;exact ⟨_,rfl⟩
 rintro e ⟨o,rfl⟩;trivial;have hd0:(0:Int) < (q.den:Int):=by have:=q.den_pos; omega
 refine ite2 (fun _=>?_) (fun z=>absurd hd0 z);refine ⟨q.num,(q.den:Int),rfl,hd0,sq.1.mono (by decide),sq.2.mono (by decide),?_⟩;rw [Rat.num_divInt_den];trivial;exact k
theorem A31 (T:Txt K mg D):∀ n:Nat,FnOk P w K mg base CX0 (n + 1) D.a_be D.d_be ["_law_thing"] (Pu.spOf K [.dat] (A6p n)):=by
 have step:∀ (n:Nat) (psI:Pu.PSp),FnOk P w K mg base CX0 n D.a_be D.d_be ["_law_thing"] (Pu.spOf K [.dat] psI)->(∀ xs,(okA n (.list xs)\/okA n (.tuple xs))->xs.length < 1000/\∀ x ∈ xs,∀ (b:Bool) (Q:SV->Prop),(∀ t,CpB b x t->Q (OT.out t))->psI [.d x] Q) ->
   FnOk P w K mg base CX0 (n + 1) D.a_be D.d_be ["_law_thing"] (Pu.spOf K [.dat] (A6p n)):=by
  intro n psI IH hI;refine T.F_be.ok sc_be (Pu.spOf.len rfl) (fun cdv A outer s H vs Q E hr h=>?_);refine ⟨_,(QSs.out (A4 (D0 (F2 (B7 (G6 (K:=K) rfl) (by rfl) T.z_isinstance (by rfl) (A0 (qpv 0) (A0 (J6 (v:=.ty "list") rfl T.z_list (by rfl) rfl) A2))))
    (A8 (C0 (qCmT (N1 rfl (E8 (N':=["_law_one"]) (cap:=[none]) rfl rfl rfl rfl (by decide +kernel) rfl rfl) (D9 (K:=K) rfl (qpv 0)) (fun _ _ _=>(B0 (i:=0) (show (["_law_one"]:List Str).Nodup from by decide +kernel) rfl (Or.inl rfl) (Or.inr rfl))) (fun _ _ _=>G0) (fun _ _ _=>(A7 IH hr.mo rfl T.m_be T.F_be.kp (A0m T) .nil B8 (A0 (qpv 0) A2)))))))
    C6)
   (A4 (D0 (F2 (B7 (G6 (K:=K) rfl) (by rfl) T.z_isinstance (by rfl) (A0 (qpv 0) (A0 (J6 (v:=.ty "tuple") rfl T.z_tuple (by rfl) rfl) A2))))
    (A8 (C0 (R4 (A9p (K:=K) rfl) (by rfl) T.z_tuple (by rfl) (A0 (qCmT (N1 rfl (E8 (N':=["_law_one"]) (cap:=[none]) rfl rfl rfl rfl (by decide +kernel) rfl rfl) (D9 (K:=K) rfl (qpv 0)) (fun _ _ _=>(B0 (i:=0) (show (["_law_one"]:List Str).Nodup from by decide +kernel) rfl (Or.inl rfl) (Or.inr rfl))) (fun _ _ _=>G0) (fun _ _ _=>(A7 IH hr.mo rfl T.m_be T.F_be.kp (A0m T) .nil B8 (A0 (qpv 0) A2))))) A2))))
    C6)
   (A8 (C0 (qpv 0)))))),?_⟩
  refine Pu.J7 h ?_;rintro as Qp ⟨cb,x,rfl,ox,k⟩;cases x with
  | none =>
   trivial;exact k _ .non
  | bool b =>
   trivial;exact k _ (.bl b)
  | int i =>
   trivial;exact k _ (.int i)
  | str t =>
   trivial;exact k _ (.str t)
  | dict kvs=>unfold okA at ox; exact ox.elim
  | list xs =>
   obtain ⟨hl,hx⟩:=hI xs (.inl ox);trivial;refine ⟨by omega,fun i e ts=>∃ o:Option SV,e=[o]/\CpsB cb (xs.take i) ts,⟨_,rfl,.nil⟩,?_,?_⟩
   ·rintro i x e ts hi ⟨o,rfl,hc⟩;trivial;refine hx x (List.mem_of_getElem? hi) cb _ fun t ht=>?_;trivial;refine B2n ⟨_,rfl,?_⟩;rw [List.take_add_one,hi];exact hc.snoc ht
   ·rintro e ts ⟨o,rfl,hc⟩;rw [List.take_length] at hc;trivial;exact fun a=>k _ (.lst hc)
  | tuple xs =>
   obtain ⟨hl,hx⟩:=hI xs (.inr ox);trivial;refine ⟨by omega,fun i e ts=>∃ o:Option SV,e=[o]/\CpsB cb (xs.take i) ts,⟨_,rfl,.nil⟩,?_,?_⟩
   ·rintro i x e ts hi ⟨o,rfl,hc⟩;trivial;refine hx x (List.mem_of_getElem? hi) cb _ fun t ht=>?_;trivial;refine B2n ⟨_,rfl,?_⟩;rw [List.take_add_one,hi];exact hc.snoc ht
   ·rintro e ts ⟨o,rfl,hc⟩;rw [List.take_length] at hc;trivial;cases cb with
    | true=>exact fun a=>⟨a,_,rfl,.inr fun p=>k _ (.tupN hc (.inl rfl))⟩
    | false =>
     refine fun a=>⟨a,_,rfl,.inl fun p=>?_⟩;obtain ⟨t,ht,et⟩:=A5e (p:=p) hc;rw [et];exact k _ ht
 intro n;induction n with
 | zero=>exact step 0 _ (B05 rfl) fun xs h=>by rcases h with h | h <;> (unfold okA at h; exact h.elim)
 | succ n ih =>
  refine step (n + 1) _ ih fun xs h=>?_;have h':xs.length < 1000/\∀ x ∈ xs,okA n x:=by rcases h with h | h <;> (unfold okA at h; exact h)
  exact ⟨h'.1,fun x hx b Q q=>⟨b,x,rfl,h'.2 x hx,q⟩⟩
def A4z:Pu.PSp:=fun as Q=>∃ Ls:LQ,as=[.d (.tuple [.str "starts",.list (Ls.map dq)]),.d (.str "starts"),.d (.int (Ls.length:Int))]/\(∀ q ∈ Ls,SmQ 3900 q)/\Ls.length<=1000/\Q (.d (.bool true))
theorem A47 (T:Txt K mg D):FnOk P w K mg base CX0 3 D.a_ac D.d_ac ["_law_found","_law_word","_law_many"] (Pu.spOf K [.dat,.dat,.dat] A4z):=by
 refine T.F_ac.ok sc_ac (Pu.spOf.len rfl) (fun cdv A outer s H vs Q E hr h=>?_);refine ⟨_,(QSs.out (A4 (D0 (QW.pt (K1 (J9 (F2 (B7 (G6 (K:=K) rfl) (by rfl) T.z_isinstance (by rfl) (A0 (qpv 0) (A0 (J6 (v:=.ty "tuple") rfl T.z_tuple (by rfl) rfl) A2))))) (K1 (B5 (K5 (K:=K) rfl hr.units) (B7 (C7 (K:=K) rfl) (by rfl) T.z_len PySem.boot_len (A0 (qpv 0) A2)) A3 (C2 _)) (K1 (B5 (K5 (K:=K) rfl hr.units) (A9 (A6 (K:=K) rfl) (qpv 0) A3 (fun _ _=>rfl)) (qpv 1) (C2 _)) (K3 (J9 (F2 (B7 (G6 (K:=K) rfl) (by rfl) T.z_isinstance (by rfl) (A0 (A9 (A6 (K:=K) rfl) (qpv 0) A3 (fun _ _=>rfl)) (A0 (J6 (v:=.ty "list") rfl T.z_list (by rfl) rfl) A2))))))))))
    (A8 (C0 G8))
    C6)
   (A8 (C0 (Z2 (L1 (D1 (K:=K) rfl hr.units) (B7 (C7 (K:=K) rfl) (by rfl) T.z_len PySem.boot_len (A0 (A9 (A6 (K:=K) rfl) (qpv 0) A3 (fun _ _=>rfl)) A2)) (qpv 2) (C2 _)) (U7 (B7 (V8 (K:=K) rfl) (by rfl) T.z_all (by rfl) (A0 (N1 rfl (E8 (N':=["_law_start"]) (cap:=[none]) rfl rfl rfl rfl (by decide +kernel) rfl rfl) (D9 (K:=K) rfl (A9 (A6 (K:=K) rfl) (qpv 0) A3 (fun _ _=>rfl))) (fun _ _ _=>(B0 (i:=0) (show (["_law_start"]:List Str).Nodup from by decide +kernel) rfl (Or.inl rfl) (Or.inr rfl))) (fun _ _ _=>G0) (fun _ _ _=>(A7 (S3 (K:=K) T) hr.mo rfl T.m_a3 T.F_a3.kp (W0 T) .nil B8 (A0 (qpv 0) A2)))) A2)))))))),?_⟩
 haveI:=T.c2_NOUGHT
 haveI:=T.c2_ONE
 refine Pu.J7 h ?_;rintro as Qp ⟨Ls,rfl,sm,hl,k⟩;trivial;refine ite2 (fun _=>?_) (fun z=>absurd (by decide) z);refine ⟨by decide +kernel,by decide +kernel,by omega,J8 (f:=dq) (xs:=Ls) (fun i e ys=>∃ o:Option SV,e=[o]/\ys=List.replicate i (.bool true)) ⟨_,rfl,rfl⟩ ?_ ?_⟩
 ·rintro i x e ys hi ⟨o,rfl,rfl⟩;trivial;refine ⟨x,rfl,sm x (List.mem_of_getElem? hi),?_⟩;trivial;exact ⟨_,rfl,(List.replicate_succ' ..).symm⟩
 rintro e ys ⟨o,rfl,rfl⟩;trivial;exact ⟨_,B1h _,by rw [B1q]; exact k⟩
def A0w:Pu.PSp:=fun as Q=>∃ (c:List (Option Wy)) (m q:Nat),as=[.d (.list (c.map cD)),.d (.int (m:Int))]/\c.length<=11/\Rnd c m c.length q/\∀ s,1<=s->s<=q->plc c m (c.length + s)=plc c m c.length->(∀ s',1<=s'->s' < s->plc c m (c.length + s')≠plc c m c.length)->Q (.own ((List.range s).map fun i=>rgW c (plc c m (c.length + i))))
theorem A08 (T:Txt K mg D):FnOk P w K mg base CX0 1 D.a_a5 D.d_a5 ["came","moved"] (Pu.spOf K [.dat,.dat] A0w):=by
 refine T.F_a5.ok sc_a5 (Pu.spOf.len rfl) (fun cdv A outer s H vs Q E hr h=>?_);refine ⟨_,(QSs.out (A4 (B6 (i:=2) sc_a5.nd rfl (Or.inl rfl) (qpv 1))
   (A4 (E9 PassesOwn.never rfl (F9 rfl T.z_range (A0 (B7 (C7 (K:=K) rfl) (by rfl) T.z_len PySem.boot_len (A0 (qpv 0) A2)) A2)) (B0 (i:=3) sc_a5.nd rfl (Or.inl rfl) (Or.inl rfl))
    (A8 (B6 (i:=2) sc_a5.nd rfl (Or.inl rfl) (A9 (A6 (K:=K) rfl) (A9 (A6 (K:=K) rfl) (qpv 0) (qpv 2) (fun _ _=>rfl)) A3 (fun _ _=>rfl)))))
   (A4 (B6 (i:=4) sc_a5.nd rfl (Or.inl rfl) (F3 A2))
   (A4 (B6 (i:=5) sc_a5.nd rfl (Or.inl rfl) (qpv 2))
   (A4 (U5 PassesOwn.never (QW.pt (K1 (B5 (D1 (K:=K) rfl hr.units) (B7 (C7 (K:=K) rfl) (by rfl) T.z_len PySem.boot_len (A0 (qpv 4) A2)) A3 (C2 _)) (K3 (B5 (K5 (K:=K) rfl hr.units) (qpv 5) (qpv 2) (C2 _)))))
    (A4 (F6 (A9 (A6 (K:=K) rfl) (qpv 0) (qpv 5) (fun _ _=>rfl)) (D3 (K:=K) (n:=4) rfl rfl (B3 (B0 (i:=6) sc_a5.nd rfl (Or.inl rfl) (Or.inl rfl)) (B3 (B0 (i:=7) sc_a5.nd rfl (Or.inl rfl) (Or.inl rfl)) (B3 (B0 (i:=8) sc_a5.nd rfl (Or.inl rfl) (Or.inl rfl)) (B3 (B0 (i:=9) sc_a5.nd rfl (Or.inl rfl) (Or.inl rfl)) D2)))) rfl rfl))
    (A4 (G5 (K4 (K:=K) rfl PySem.F.plainAttrs_list PySem.F.slot_list_append PySem.F.type_list_append G2 (qpv 4) (A0 (C4 (A0 (qpv 9) (A0 (Q5 (v:=.ref D.k_ONE) rfl T.c_ONE rfl) A2))) A2)))
    (A8 (B6 (i:=5) sc_a5.nd rfl (Or.inl rfl) (qpv 6))))))
   (A8 (C0 (qpv 4))))))))),?_⟩
 haveI:=T.c2_NOUGHT
 haveI:=T.c2_ONE
 refine Pu.J7 h ?_;rintro as Qp ⟨c,m,q,rfl,hl,⟨q1,q2,hs,hq⟩,k⟩;refine hd fun R hR=>?_;trivial;subst hR;refine hd fun R hR=>?_;trivial;refine ⟨by omega,N4 (fun i e=>∃ o3:Option SV,e=[some (.d (.list (c.map cD))),some (.d (.int (m:Int))),some (.d (.int (plc c m i:Int))),o3,none,none,none,none,none,none]) ⟨_,rfl⟩ ?_ ?_⟩
 ·rintro i e hi ⟨o3,rfl⟩;obtain ⟨w,hw⟩:=hs i (by omega);trivial;refine E6 (B51 hw).2 ?_;rw [show wyD w=PyData.tuple [.int (w.1:Int),.int (w.2.1:Int),dq w.2.2.1,qD w.2.2.2] from rfl];trivial;exact ⟨_,by rw [T4 hw]⟩
 rintro e ⟨o3,rfl⟩;rw [Int.toNat_natCast];subst hR;dsimp only;refine hd fun R hR=>?_;trivial;subst hR;refine hd fun R hR=>?_;trivial;subst hR;trivial;refine ⟨fun μ e=>∃ (s:Nat) (o6 o7 o8 o9:Option SV),e=[some (.d (.list (c.map cD))),some (.d (.int (m:Int))),some (.d (.int (plc c m c.length:Int))),o3,some (.own ((List.range s).map fun i=>rgW c (plc c m (c.length + i)))),some (.d (.int (plc c m (c.length + s):Int))),o6,o7,o8,o9]/\s<=q/\μ=q - s/\∀ s',1<=s'->s' < s->plc c m (c.length + s')≠plc c m c.length,⟨q,0,_,_,_,_,rfl,Nat.zero_le _,rfl,fun s' h1 h2=>by omega⟩,?_⟩;rintro μ e ⟨s,o6,o7,o8,o9,rfl,sq,rfl,hn⟩;trivial;rw [List.length_range];refine ite2 (fun z=>?_) (fun z=>ite2 (fun y=>?_) (fun y=>?_))
 ·have z':s=0:=by omega
  obtain ⟨w,hw⟩:=hs (c.length + s) (by omega);refine E6 (B51 hw).2 ?_;rw [show wyD w=PyData.tuple [.int (w.1:Int),.int (w.2.1:Int),dq w.2.2.1,qD w.2.2.2] from rfl];trivial;have er:(List.range (s + 1)).map (fun i=>rgW c (plc c m (c.length + i)))=(List.range s).map (fun i=>rgW c (plc c m (c.length + i)))++[PyData.tuple [qD w.2.2.2,dq 1]]:=by
   rw [List.range_succ,List.map_append,show List.map (fun i=>rgW c (plc c m (c.length + i))) [s]=[PyData.tuple [qD w.2.2.2,dq 1]] by show [rgW c (plc c m (c.length + s))]=_; unfold rgW; rw [hw]; rfl]
  have ep:plc c m (c.length + (s + 1))=w.1:=T4 hw;exact ⟨by rw [List.length_range]; omega,q - (s + 1),by omega,s + 1,_,_,_,_,by rw [er,ep],by omega,rfl,fun s' h1 h2=>by omega⟩
 ·exact k s (by omega) sq (by omega) hn
 ·have y':plc c m (c.length + s)≠plc c m c.length:=fun e=>y (by rw [e]);have sl:s < q:=by
   rcases Nat.lt_or_ge s q with h | h
   ·exact h
   ·exact absurd (by rw [show s=q by omega]; exact hq) y'
  obtain ⟨w,hw⟩:=hs (c.length + s) (by omega);refine E6 (B51 hw).2 ?_;rw [show wyD w=PyData.tuple [.int (w.1:Int),.int (w.2.1:Int),dq w.2.2.1,qD w.2.2.2] from rfl];trivial;have er:(List.range (s + 1)).map (fun i=>rgW c (plc c m (c.length + i)))=(List.range s).map (fun i=>rgW c (plc c m (c.length + i)))++[PyData.tuple [qD w.2.2.2,dq 1]]:=by
   rw [List.range_succ,List.map_append,show List.map (fun i=>rgW c (plc c m (c.length + i))) [s]=[PyData.tuple [qD w.2.2.2,dq 1]] by show [rgW c (plc c m (c.length + s))]=_; unfold rgW; rw [hw]; rfl]
  have ep:plc c m (c.length + (s + 1))=w.1:=T4 hw;exact ⟨by rw [List.length_range]; omega,q - (s + 1),by omega,s + 1,_,_,_,_,by rw [er,ep],by omega,rfl,fun s' h1 h2=>by by_cases e:s'=s; (rw [e]; exact y'); exact hn s' h1 (by omega)⟩
def A2f:Pu.PSp:=fun as Q=>∃ (ways:List Wy) (n:Nat),as=[.d (.list (ways.map wyD)),.d (.int (n:Int))]/\n<=10/\ways.length<=100/\(∀ w ∈ ways,w.1<=n/\w.2.1<=n/\On (LL * 4) (1 * 2 ^ 60) w.2.2.1)/\(kst ways n=none->∀ s p w,Rng ways n s p w->RgO ways n (rgL s w)->∀ a b,Q (.tr (.nd false a (.cons (.leaf .none) (.cons (.nd true b (C5 (rgL s w))) .nil)))))/\∀ k,kst ways n=some k->∀ a b,Q (.tr (.nd false a (.cons (.nd true b (C5 (((bsK ways n k).1.take n).map vD))) (.cons (.leaf .none) .nil))))
theorem V1 (T:Txt K mg D):FnOk P w K mg base CX0 4 D.a_a9 D.d_a9 ["ways","many"] (Pu.spOf K [.dat,.dat] A2f):=by
 refine T.F_a9.ok sc_a9 (Pu.spOf.len rfl) (fun cdv A outer s H vs Q E hr h=>?_);refine ⟨_,(QSs.out (A4 (B6 (i:=2) sc_a9.nd rfl (Or.inl rfl) (C9 (A2n (K:=K) rfl) (N1 rfl (E8 (N':=["work"]) (cap:=[none]) rfl rfl rfl rfl (by decide +kernel) rfl rfl) (F9 rfl T.z_range (A0 (qpv 1) A2)) (fun _ _ _=>(B0 (i:=0) (show (["work"]:List Str).Nodup from by decide +kernel) rfl (Or.inl rfl) (Or.inr rfl))) (fun _ _ _=>G0) (fun _ _ _=>K0)) (F3 (A0 (Q5 (v:=.ref D.k_NOUGHT) rfl T.c_NOUGHT rfl) A2))))
   (A4 (G3 (i:=3) rfl sc_a9.nd rfl rfl (E8 (N':=["place"]) (cap:=[none]) rfl rfl rfl rfl (by decide +kernel) rfl rfl) (D9 (K:=K) rfl (qKp (qpv 2))) (fun _ _ _=>(B0 (i:=0) (show (["place"]:List Str).Nodup from by decide +kernel) rfl (Or.inl rfl) (Or.inr rfl))) (fun _ _ _=>G0) (fun _ _ _=>K0) rfl)
   (A4 (B6 (i:=4) sc_a9.nd rfl (Or.inl rfl) K0)
   (A4 (E9 PassesOwn.never rfl (F9 rfl T.z_range (A0 (C9 G9 (qpv 1) A3) A2)) (B0 (i:=5) sc_a9.nd rfl (Or.inl rfl) (Or.inl rfl))
    (A4 (B6 (i:=4) sc_a9.nd rfl (Or.inl rfl) (A7 (A45 (K:=K) T) hr.mo rfl T.m_ae T.F_ae.kp (A91 T) .nil B8 (A0 (qpv 0) (A0 (qpv 2) (A0 (qpv 3) A2)))))
    (A8 (D0 (B5 A2m (qpv 4) K0 (C2 _))
     (A8 (C0 (A2d (C4 (A0 (A0v (B0e (K:=K) rfl) (qpv 2) A3l (A3k (qpv 1))) (A0 K0 A2))))))
     C6))))
   (A8 (C0 (A2d (C4 (A0 K0 (A0 (A7 (A08 (K:=K) T) hr.mo rfl T.m_a5 T.F_a5.kp (A22 T) .nil B8 (A0 (qpv 3) (A0 (qpv 4) A2))) A2))))))))))),?_⟩
 haveI:=T.c2_NOUGHT
 haveI:=T.c2_ONE
 refine Pu.J7 h ?_;rintro as Qp ⟨ways,n,rfl,hn,hl,hw,kr,k⟩;refine hd fun R hR=>?_;trivial;refine ⟨by omega,by rw [M0]; omega,T8 (fun i e ys=>∃ o:Option SV,e=[o]/\ys=(List.replicate i (none:Option Rat)).map vD) ⟨_,rfl,rfl⟩ ?_ ?_⟩
 ·rintro i e ys hi ⟨o,rfl,rfl⟩;trivial;exact ⟨_,rfl,by rw [<- List.map_cons,<- List.replicate_succ,List.replicate_succ',List.map_append]; rfl⟩
 rintro e ys ⟨o,rfl,rfl⟩;have e0:List.map vD (List.replicate (n:Int).toNat none)++[dq 0]=(bs0 n).1.map vD:=by
  unfold bs0;dsimp only;rw [List.map_append,Int.toNat_natCast]; rfl
 trivial;refine ⟨by rw [List.length_replicate]; omega,?_⟩;rw [e0];subst hR;refine hd fun R hR=>?_;trivial;refine ⟨by rw [show (bs0 n).1.length=n + 1 from (G7 (ways:=ways) (n:=n) 0).1]; omega,J8 (f:=vD) (xs:=(bs0 n).1) (fun i e ys=>∃ o:Option SV,e=[o]/\ys=(List.replicate i (none:Option Wy)).map cD) ⟨_,rfl,rfl⟩ ?_ ?_⟩
 ·rintro i x e ys hi ⟨o,rfl,rfl⟩;trivial;exact ⟨_,rfl,by rw [<- List.map_cons,<- List.replicate_succ,List.replicate_succ',List.map_append]; rfl⟩
 rintro e ys ⟨o,rfl,rfl⟩;rw [show (List.replicate (bs0 n).1.length (none:Option Wy)).map cD=(bs0 n).2.1.map cD by rw [show (bs0 n).1.length=n + 1 from (G7 (ways:=ways) (n:=n) 0).1]; rfl];trivial;subst hR;refine hd fun R hR=>?_;trivial;subst hR;trivial;refine ⟨by omega,N4 (fun i e=>∃ o5:Option SV,e=[some (.d (.list (ways.map wyD))),some (.d (.int (n:Int))),some (.own ((bsK ways n i).1.map vD)),some (.own ((bsK ways n i).2.1.map cD)),some (.d (mD (bsK ways n i).2.2)),o5]/\∀ j,j < i->(bsK ways n (j + 1)).2.2≠none) ⟨_,rfl,fun j hj=>absurd hj (Nat.not_lt_zero _)⟩ ?_ ?_⟩
 ·rintro i e hi ⟨o5,rfl,hj⟩;have hi':i < n + 1:=by omega
  trivial;refine ⟨by decide,ways,(bsK ways n i).1,(bsK ways n i).2.1,i * ways.length,rfl,rfl,rfl,fun w h=>?_,by rw [(G7 i).1,(G7 i).2],A9y hw i,?_,?_⟩
  ·rw [(G7 i).1]; have:=hw w h; exact ⟨by omega,by omega,this.2.2⟩
  ·have:=Nat.mul_le_mul (show i<=10 by omega) hl; omega
  rw [show strF ways ((bsK ways n i).1,(bsK ways n i).2.1,none)=bsK ways n (i + 1) from rfl];trivial;refine ite2 (fun z=>?_) (fun z=>?_)
  ·have hm:(bsK ways n (i + 1)).2.2=none:=by
    cases hq:(bsK ways n (i + 1)).2.2 with
    | none=>rfl
    | some v=>rw [hq] at z; cases z
   rw [(A9w (fun w h=>⟨(hw w h).1,(hw w h).2.1⟩) hm).2,B88 (f:=vD) (by rw [(G7 i).1]; omega)];refine fun b _ _=>⟨Nat.le_of_ble_eq_true rfl,fun a _=>k i ?_ a b⟩;unfold kst;rw [List.find?_range_eq_some];refine ⟨by rw [hm]; rfl,List.mem_range.mpr hi',fun j h=>?_⟩;cases hq:(bsK ways n (j + 1)).2.2 with
   | none=>exact absurd hq (hj j h)
   | some v=>rfl
  ·refine ⟨_,rfl,fun j hj'=>?_⟩;by_cases h:j < i
   ·exact hj j h
   ·rw [show j=i by omega];intro hq;rw [hq] at z;exact z rfl
 ·rintro e ⟨o5,rfl,hj⟩;rw [show ((n:Int) + 1).toNat=n + 1 by omega] at hj ⊢;have hw':∀ w ∈ ways,w.1<=n/\w.2.1<=n:=fun w h=>⟨(hw w h).1,(hw w h).2.1⟩;cases hm:(bsK ways n (n + 1)).2.2 with
  | none=>exact absurd hm (hj n (by omega))
  | some m =>
   obtain ⟨_,q,hq⟩:=B0h hw' hm;have hk:kst ways n=none:=by
    unfold kst;rw [List.find?_eq_none];intro x hx;rw [List.mem_range] at hx;cases e:(bsK ways n (x + 1)).2.2 with
    | none=>exact absurd e (hj x hx)
    | some v=>exact fun z=>nomatch z
   rw [show mD (some m)=PyData.int (m:Int) from rfl];trivial;refine ⟨_,m,q,rfl,by rw [(G7 (n + 1)).2]; omega,by rw [(G7 (n + 1)).2]; exact hq,fun s s1 s2 s3 s4=>?_⟩;rw [(G7 (n + 1)).2] at s3 s4 ⊢;have rg:=B32 hw' hq s1 s2 s3 s4;have ro:RgO ways n _:=⟨m,s,hm,s1,s3,s4,rfl⟩;rw [B6u];trivial;exact fun b _ _=>⟨Nat.le_of_ble_eq_true rfl,fun a _=>kr hk _ _ _ rg ro a b⟩
def A2g:Pu.PSp:=fun as Q=>∃ (t:OT) (ts:LQ) (ws:LW) (hs:LH),as=[.bt t,.bor (ts.map dq)]/\NetB t ws hs/\NOk ts ws hs/\∀ wd ls,Tle ts ws hs wd ls->∀ a b,Q (.tr (.nd false a (.cons (.leaf (.str wd)) (.cons (.nd true b (C5 ls)) .nil))))
theorem A2p (T:Txt K mg D):FnOk P w K mg base CX0 6 D.a_a8 D.d_a8 ["net","times"] (Pu.spOf K [.bt,.vw] A2g):=by
 refine T.F_a8.ok sc_a8 (Pu.spOf.len rfl) (fun cdv A outer s H vs Q E hr h=>?_);refine ⟨_,(QSs.out (A4 (F6 (qUn (A7 (V1 (K:=K) T) hr.mo rfl T.m_a9 T.F_a9.kp (Y2 T) .nil B8 (A0 (A7 (A07 (K:=K) T) hr.mo rfl T.m_bd T.F_bd.kp (A4m T) .nil B8 (A0 (qpv 0) (A0 (qpv 1) (A0 K0 A2)))) (A0 (B7 (C7 (K:=K) rfl) (by rfl) T.z_len PySem.boot_len (A0 (qpv 1) A2)) A2)))) (D3 (K:=K) (n:=2) rfl rfl (B3 (B0 (i:=2) sc_a8.nd rfl (Or.inl rfl) (Or.inl rfl)) (B3 (B0 (i:=3) sc_a8.nd rfl (Or.inl rfl) (Or.inl rfl)) D2)) rfl rfl))
   (A4 (D0 (B5 T5 (qpv 3) K0 (C2 _))
    (A8 (C0 (A2d (C4 (A0 C8 (A0 (qpv 3) A2))))))
    C6)
   (A8 (C0 (A2d (C4 (A0 C8 (A0 (qpv 2) A2))))))))),?_⟩
 haveI:=T.c2_NOUGHT
 haveI:=T.c2_ONE
 refine Pu.J7 h ?_;rintro as Qp ⟨t,ts,ws,hs,rfl,hb,ok,k⟩;have hw:=S8 ok (W:=none) (fun _ e=>nomatch e);have hl:=T9 (W:=none) ok;refine hd fun R hR=>?_;trivial;refine ⟨t,ts,ws,hs,none,rfl,hb,ok,(fun _ e=>nomatch e),?_⟩;trivial;refine ⟨_,ts.length,rfl,ok.n1,hl,hw,fun hk s p w rg ro a0 b0=>?_,fun j hj a0 b0=>?_⟩
 ·trivial;subst hR;trivial;exact fun b _ _=>⟨Nat.le_of_ble_eq_true rfl,fun a _=>k _ _ (.inl ⟨rfl,hk,ro,s,p,w,rg,rfl⟩) a b⟩
 obtain ⟨P,hP⟩:=A4h hw hj B0b hl ok.n1;have fo:=A9c hw hP hl ok.n1;rw [<- A2w hj,A5y (by rw [fo.ln]; omega) (fun v hv=>B50 fo hv)];trivial;subst hR;trivial;exact fun b _ _=>⟨Nat.le_of_ble_eq_true rfl,fun a _=>k _ _ (.inr ⟨rfl,B8k ok hP⟩) a b⟩
def A6o:Pu.PSp:=fun as Q=>∃ (t:OT) (ts:LQ) (ws:LW) (hs:LH) (W:Rat),as=[.bt t,.bor (ts.map dq),.d (dq W)]/\NetB t ws hs/\NOk ts ws hs/\O4 W/\∀ wd ls,Tld ts ws hs W wd ls->∀ a b,Q (.tr (.nd false a (.cons (.leaf (.str wd)) (.cons (.nd true b (C5 ls)) .nil))))
theorem V0 (T:Txt K mg D):FnOk P w K mg base CX0 7 D.a_bc D.d_bc ["net","times","whole"] (Pu.spOf K [.bt,.vw,.dat] A6o):=by
 refine T.F_bc.ok sc_bc (Pu.spOf.len rfl) (fun cdv A outer s H vs Q E hr h=>?_);refine ⟨_,(QSs.out (A4 (F6 (qUn (A7 (A2p (K:=K) T) hr.mo rfl T.m_a8 T.F_a8.kp (A5h T) .nil B8 (A0 (qpv 0) (A0 (qpv 1) A2)))) (D3 (K:=K) (n:=2) rfl rfl (B3 (B0 (i:=3) sc_bc.nd rfl (Or.inl rfl) (Or.inl rfl)) (B3 (B0 (i:=4) sc_bc.nd rfl (Or.inl rfl) (Or.inl rfl)) D2)) rfl rfl))
   (A4 (D0 (B5 (D1 (K:=K) rfl hr.units) (qpv 3) C8 (C2 _))
    (A8 (C0 (A2d (C4 (A0 C8 (A0 (qpv 4) A2))))))
    C6)
   (A4 (G3 (i:=5) rfl sc_bc.nd rfl rfl (E8 (N':=["tail","head","length","arc"]) (cap:=[none,none,none,none]) rfl rfl rfl rfl (by decide +kernel) rfl rfl) (D9 (K:=K) rfl (A7 (A07 (K:=K) T) hr.mo rfl T.m_bd T.F_bd.kp (A4m T) .nil B8 (A0 (qpv 0) (A0 (qpv 1) (A0 (qpv 2) A2))))) (fun _ _ _=>(D3 (K:=K) (n:=4) rfl rfl (B3 (B0 (i:=0) (show (["tail","head","length","arc"]:List Str).Nodup from by decide +kernel) rfl (Or.inl rfl) (Or.inr rfl)) (B3 (B0 (i:=1) (show (["tail","head","length","arc"]:List Str).Nodup from by decide +kernel) rfl (Or.inl rfl) (Or.inr rfl)) (B3 (B0 (i:=2) (show (["tail","head","length","arc"]:List Str).Nodup from by decide +kernel) rfl (Or.inl rfl) (Or.inr rfl)) (B3 (B0 (i:=3) (show (["tail","head","length","arc"]:List Str).Nodup from by decide +kernel) rfl (Or.inl rfl) (Or.inr rfl)) D2)))) rfl rfl)) (fun _ _ _=>G0) (fun _ _ _=>(C4 (A0 (qpv 1) (A0 (qpv 0) (A0 (qpv 2) (A0 (qpv 3) A2)))))) rfl)
   (A4 (F6 (qUn (A7 (V1 (K:=K) T) hr.mo rfl T.m_a9 T.F_a9.kp (Y2 T) .nil B8 (A0 (qpv 5) (A0 (B7 (C7 (K:=K) rfl) (by rfl) T.z_len PySem.boot_len (A0 (qpv 1) A2)) A2)))) (D3 (K:=K) (n:=2) rfl rfl (B3 (B0 (i:=6) sc_bc.nd rfl (Or.inl rfl) (Or.inl rfl)) (B3 (B0 (i:=7) sc_bc.nd rfl (Or.inl rfl) (Or.inl rfl)) D2)) rfl rfl))
   (A4 (D0 (B5 T5 (qpv 7) K0 (C2 _))
    (A8 (C0 (A2d (C4 (A0 C8 (A0 (qpv 7) A2))))))
    C6)
   (A8 (C0 (A2d (C4 (A0 C8 (A0 (N1 rfl (E8 (N':=["lead"]) (cap:=[none]) rfl rfl rfl rfl (by decide +kernel) rfl rfl) (D9 (K:=K) rfl (qpv 6)) (fun _ _ _=>(B0 (i:=0) (show (["lead"]:List Str).Nodup from by decide +kernel) rfl (Or.inl rfl) (Or.inr rfl))) (fun _ _ _=>G0) (fun _ _ _=>(A7 (T6 (K:=K) T) hr.mo rfl T.m_c1 T.F_c1.kp (A0j T) .nil B8 (A0 (Q5 (v:=.ref D.k_NOUGHT) rfl T.c_NOUGHT rfl) (A0 (qpv 0) A2))))) A2)))))))))))),?_⟩
 haveI:=T.c2_NOUGHT
 haveI:=T.c2_ONE
 refine Pu.J7 h ?_;rintro as Qp ⟨t,ts,ws,hs,W,rfl,hb,ok,oW,k⟩;have hw:=B3m ok oW;have hl:(bkL ts ws hs W).length<=100:=by unfold bkL; rw [List.length_map]; exact T9 ok
 refine hd fun R hR=>?_;trivial;refine ⟨t,ts,ws,hs,rfl,hb,ok,fun wd ls tle a1 b1=>?_⟩;trivial;subst hR;refine hd fun R hR=>?_;rcases tle with ⟨rfl,k1,ro,s,p,w,rg,rfl⟩ | ⟨rfl,k1⟩
 ·trivial;exact ⟨by decide +kernel,by decide +kernel,fun b _ _=>⟨Nat.le_of_ble_eq_true rfl,fun a _=>k _ _ (.inl ⟨rfl,⟨s,w,rg.rgn A5o,rfl⟩,.inl ⟨k1,ro⟩⟩) a b⟩⟩
 trivial;refine ⟨by decide +kernel,by decide +kernel,?_⟩;refine ite2 (fun h=>absurd h (by decide +kernel)) (fun _=>?_);subst hR;refine hd fun R hR=>?_;trivial;refine ⟨t,ts,ws,hs,some W,rfl,hb,ok,(fun _ e=>by cases e; exact oW),?_⟩;trivial;refine ⟨by have:=T9 (W:=some W) ok; omega,J8 (f:=wyD) (xs:=J1 ts ws hs (some W)) (fun i e ys=>∃ o1 o2 o3 o4:Option SV,e=[o1,o2,o3,o4]/\ys=((bkL ts ws hs W).take i).map wyD) ⟨_,_,_,_,rfl,rfl⟩ ?_ ?_⟩
 ·rintro i x e ys hi ⟨o1,o2,o3,o4,rfl,rfl⟩;rw [show wyD x=PyData.tuple [.int (x.1:Int),.int (x.2.1:Int),dq x.2.2.1,qD x.2.2.2] from rfl];trivial;refine ⟨_,_,_,_,rfl,?_⟩;unfold bkL;rw [List.take_add_one,List.getElem?_map,hi,List.map_append];rfl
 rintro e ys ⟨o1,o2,o3,o4,rfl,rfl⟩;rw [show (bkL ts ws hs W).take (J1 ts ws hs (some W)).length=bkL ts ws hs W from List.take_of_length_le (by unfold bkL; rw [List.length_map]; exact Nat.le_refl _)];trivial;subst hR;refine hd fun R hR=>?_;trivial;refine ⟨_,ts.length,rfl,ok.n1,hl,hw,fun hk s p w rg ro a0 b0=>?_,fun j hj a0 b0=>?_⟩
 ·trivial;subst hR;trivial;exact fun b _ _=>⟨Nat.le_of_ble_eq_true rfl,fun a _=>k _ _ (.inl ⟨rfl,⟨s,fun i=>swp (w i),rg.rgnB,rfl⟩,.inr ⟨k1,hk,ro⟩⟩) a b⟩
 obtain ⟨P,hP'⟩:=A4h hw hj A56 hl ok.n1;have fo:=A9c hw hP' hl ok.n1;rw [<- A2w hj,A5y (by rw [fo.ln]; omega) (fun v hv=>A21 fo hv)];trivial;subst hR;trivial;have hx:∀ (i:Nat) a,(((farS (bkL ts ws hs W) ts.length).take ts.length).map fun x=>x.getD 0)[i]?=some a->SmQ 3900 a:=fun i a h=>by
  rw [List.getElem?_map] at h;obtain ⟨x,hx,rfl⟩:=Option.map_eq_some_iff.mp h;have hi:=(List.getElem?_eq_some_iff.mp hx).1;rw [List.length_take] at hi;rw [List.getElem?_take] at hx;split at hx
  ·rename_i hi';obtain ⟨b,hb⟩:=A21 fo hi';have:=fo.fb i b hb;unfold fa at hb;rw [hx] at hb;rw [show x=some b from hb];exact unQ this (by decide) (by decide) (by decide)
  ·cases hx
 refine ⟨by rw [List.length_take]; have:=ok.n1; omega,J8 (f:=dq) (xs:=((farS (bkL ts ws hs W) ts.length).take ts.length).map fun x=>x.getD 0) (fun i e ys=>∃ o1:Option SV,e=[o1]/\ys=((latS ts ws hs W).take i).map dq) ⟨_,rfl,rfl⟩ ?_ ?_⟩
 ·rintro i x e ys hi ⟨o1,rfl,rfl⟩;trivial;refine ⟨0,x,rfl,smq0,hx i x hi,?_⟩;trivial;refine ⟨_,rfl,?_⟩;rw [List.getElem?_map] at hi;obtain ⟨y,hy,rfl⟩:=Option.map_eq_some_iff.mp hi;rw [List.take_add_one,List.map_append];unfold latS;rw [List.getElem?_map,hy];rfl
 rintro e ys ⟨o1,rfl,rfl⟩;rw [show (latS ts ws hs W).take (((farS (bkL ts ws hs W) ts.length).take ts.length).map fun x=>x.getD 0).length=latS ts ws hs W from List.take_of_length_le (by unfold latS; rw [List.length_map,List.length_map]; exact Nat.le_refl _)];trivial;exact fun b _ _=>⟨Nat.le_of_ble_eq_true rfl,fun a _=>k _ _ (.inr ⟨rfl,k1,(fun z=>by rw [hj] at z; cases z),fo,rfl⟩) a b⟩
def A6y:Pu.PSp:=fun as Q=>∃ (xs:List Wk) (ws:LW) (hs:LH) (gs:LP) (ts:LQ) (W:Rat) (s:Nat) (w:Nat->Wy),as=[.d (netD xs ws hs gs),.d (.list (rgL s w))]/\LN xs ws hs gs/\ts.length=xs.length/\s<=11/\(∀ i,i < s->w i ∈ J1 ts ws hs (some W))/\Q (.d (.tuple [.list (((List.range xs.length).map (flF hs w s)).map dq),.list (((List.range xs.length).map (flG hs w s)).map dq)]))
theorem A1b (T:Txt K mg D):FnOk P w K mg base CX0 3 D.a_b0 D.d_b0 ["_law_net","_law_paper"] (Pu.spOf K [.dat,.dat] A6y):=by
 refine T.F_b0.ok sc_b0 (Pu.spOf.len rfl) (fun cdv A outer s H vs Q E hr h=>?_);refine ⟨_,(QSs.out (A4 (F6 (A0v (B3z (K:=K) rfl) (qpv 0) A3l (A3k A3)) (D3 (K:=K) (n:=3) rfl rfl (B3 (B0 (i:=2) sc_b0.nd rfl (Or.inl rfl) (Or.inl rfl)) (B3 (B0 (i:=3) sc_b0.nd rfl (Or.inl rfl) (Or.inl rfl)) (B3 (B0 (i:=4) sc_b0.nd rfl (Or.inl rfl) (Or.inl rfl)) D2))) rfl rfl))
   (A4 (G3 (i:=5) rfl sc_b0.nd rfl rfl (E8 (N':=["_law_work"]) (cap:=[none]) rfl rfl rfl rfl (by decide +kernel) rfl rfl) (D9 (K:=K) rfl (qpv 2)) (fun _ _ _=>(B0 (i:=0) (show (["_law_work"]:List Str).Nodup from by decide +kernel) rfl (Or.inl rfl) (Or.inr rfl))) (fun _ _ _=>G0) (fun _ _ _=>(C4 (A0 A3 (A0 A3 A2)))) rfl)
   (A4 (G3 (i:=6) rfl sc_b0.nd rfl rfl (E8 (N':=["_law_work"]) (cap:=[none]) rfl rfl rfl rfl (by decide +kernel) rfl rfl) (D9 (K:=K) rfl (qpv 2)) (fun _ _ _=>(B0 (i:=0) (show (["_law_work"]:List Str).Nodup from by decide +kernel) rfl (Or.inl rfl) (Or.inr rfl))) (fun _ _ _=>G0) (fun _ _ _=>(C4 (A0 A3 (A0 A3 A2)))) rfl)
   (A4 (E9 PassesOwn.never rfl (D9 (K:=K) rfl (qpv 1)) (D3 (K:=K) (n:=2) rfl rfl (B3 (D3 (K:=K) (n:=2) rfl rfl (B3 (B0 (i:=7) sc_b0.nd rfl (Or.inl rfl) (Or.inl rfl)) (B3 (B0 (i:=8) sc_b0.nd rfl (Or.inl rfl) (Or.inl rfl)) D2)) rfl rfl) (B3 (B0 (i:=9) sc_b0.nd rfl (Or.inl rfl) (Or.inl rfl)) D2)) rfl rfl)
    (A8 (D0 (B5 (D1 (K:=K) rfl hr.units) (qpv 7) C8 (C2 _))
     (A8 (F6 (A7 (D6 (K:=K) T) hr.mo rfl T.m_bf T.F_bf.kp (F4 T) .nil B8 (A0 (A9 (A6 (K:=K) rfl) (qpv 5) (qpv 8) (fun _ _=>rfl)) (A0 (qpv 9) A2))) (M6 (qpv 5) (qpv 8) J0)))
     (A8 (D0 (B5 (D1 (K:=K) rfl hr.units) (qpv 7) C8 (C2 _))
      (A8 (F6 (A7 (D6 (K:=K) T) hr.mo rfl T.m_bf T.F_bf.kp (F4 T) .nil B8 (A0 (A9 (A6 (K:=K) rfl) (qpv 6) (qpv 8) (fun _ _=>rfl)) (A0 (qpv 9) A2))) (M6 (qpv 6) (qpv 8) J0)))
      (A8 (D0 (B5 (D1 (K:=K) rfl hr.units) (qpv 7) C8 (C2 _))
       (A4 (F6 (A7 (D6 (K:=K) T) hr.mo rfl T.m_bf T.F_bf.kp (F4 T) .nil B8 (A0 (A9 (A6 (K:=K) rfl) (qpv 6) (A9 (A6 (K:=K) rfl) (A9 (A6 (K:=K) rfl) (qpv 3) (qpv 8) (fun _ _=>rfl)) A3 (fun _ _=>rfl)) (fun _ _=>rfl)) (A0 (qpv 9) A2))) (M6 (qpv 6) (A9 (A6 (K:=K) rfl) (A9 (A6 (K:=K) rfl) (qpv 3) (qpv 8) (fun _ _=>rfl)) A3 (fun _ _=>rfl)) J0))
       (A8 (F6 (A7 (D6 (K:=K) T) hr.mo rfl T.m_bf T.F_bf.kp (F4 T) .nil B8 (A0 (A9 (A6 (K:=K) rfl) (qpv 5) (A9 (A6 (K:=K) rfl) (A9 (A6 (K:=K) rfl) (qpv 3) (qpv 8) (fun _ _=>rfl)) A3 (fun _ _=>rfl)) (fun _ _=>rfl)) (A0 (qpv 9) A2))) (M6 (qpv 5) (A9 (A6 (K:=K) rfl) (A9 (A6 (K:=K) rfl) (qpv 3) (qpv 8) (fun _ _=>rfl)) A3 (fun _ _=>rfl)) J0))))
       (A8 (D0 (B5 (D1 (K:=K) rfl hr.units) (A9 (A6 (K:=K) rfl) (A9 (A6 (K:=K) rfl) (qpv 4) (qpv 8) (fun _ _=>rfl)) A3 (fun _ _=>rfl)) C8 (C2 _))
        (A8 (F6 (A7 (D6 (K:=K) T) hr.mo rfl T.m_bf T.F_bf.kp (F4 T) .nil B8 (A0 (A9 (A6 (K:=K) rfl) (qpv 6) (A9 (A6 (K:=K) rfl) (A9 (A6 (K:=K) rfl) (qpv 4) (qpv 8) (fun _ _=>rfl)) A3 (fun _ _=>rfl)) (fun _ _=>rfl)) (A0 (qpv 9) A2))) (M6 (qpv 6) (A9 (A6 (K:=K) rfl) (A9 (A6 (K:=K) rfl) (qpv 4) (qpv 8) (fun _ _=>rfl)) A3 (fun _ _=>rfl)) J0)))
        (A8 (D0 (B5 (D1 (K:=K) rfl hr.units) (A9 (A6 (K:=K) rfl) (A9 (A6 (K:=K) rfl) (qpv 4) (qpv 8) (fun _ _=>rfl)) A3 (fun _ _=>rfl)) C8 (C2 _))
         (A8 (F6 (A7 (D6 (K:=K) T) hr.mo rfl T.m_bf T.F_bf.kp (F4 T) .nil B8 (A0 (A9 (A6 (K:=K) rfl) (qpv 5) (A9 (A6 (K:=K) rfl) (A9 (A6 (K:=K) rfl) (qpv 4) (qpv 8) (fun _ _=>rfl)) A3 (fun _ _=>rfl)) (fun _ _=>rfl)) (A0 (qpv 9) A2))) (M6 (qpv 5) (A9 (A6 (K:=K) rfl) (A9 (A6 (K:=K) rfl) (qpv 4) (qpv 8) (fun _ _=>rfl)) A3 (fun _ _=>rfl)) J0)))
         (A8 (F6 (A7 (K6 (K:=K) T) hr.mo rfl T.m_b3 T.F_b3.kp (M2 T) .nil B8 (A0 (A9 (A6 (K:=K) rfl) (qpv 5) (A9 (A6 (K:=K) rfl) (A9 (A6 (K:=K) rfl) (qpv 4) (qpv 8) (fun _ _=>rfl)) A3 (fun _ _=>rfl)) (fun _ _=>rfl)) (A0 (qpv 9) A2))) (M6 (qpv 5) (A9 (A6 (K:=K) rfl) (A9 (A6 (K:=K) rfl) (qpv 4) (qpv 8) (fun _ _=>rfl)) A3 (fun _ _=>rfl)) J0))))))))))))))
   (A8 (C0 (C4 (A0 (qpv 5) (A0 (qpv 6) A2)))))))))),?_⟩
 haveI:=T.c2_NOUGHT
 haveI:=T.c2_ONE
 refine Pu.J7 h ?_;rintro as Qp ⟨xs,ws,hs,gs,ts,W,s,w,rfl,ok,tl,s11,hw,k⟩;have n0:=ok.n0;have n1:=ok.n1;have wl:=ok.wl;have hl:=ok.hl;unfold netD rgL;refine hd fun R hR=>?_;trivial;refine ⟨_,3,rfl,rfl,?_⟩;rw [show List.take 3 [PyData.list (xs.map kD),.list (ws.map wD),.list (hs.map hD),.list gs]=[PyData.list (xs.map kD),.list (ws.map wD),.list (hs.map hD)] from rfl];trivial;subst hR;refine hd fun R hR=>?_;trivial;refine ⟨by omega,J8 (f:=kD) (xs:=xs) (fun i e ys=>∃ o:Option SV,e=[o]/\ys=((List.range i).map fun _=>(0:Rat)).map dq) ⟨_,rfl,rfl⟩ ?_ ?_⟩
 ·rintro i x e ys hx ⟨o,rfl,rfl⟩;trivial;exact ⟨_,rfl,by rw [List.range_succ,List.map_append,List.map_append]; rfl⟩
 rintro e ys ⟨o,rfl,rfl⟩;trivial;subst hR;refine hd fun R hR=>?_;trivial;refine ⟨by omega,J8 (f:=kD) (xs:=xs) (fun i e ys=>∃ o:Option SV,e=[o]/\ys=((List.range i).map fun _=>(0:Rat)).map dq) ⟨_,rfl,rfl⟩ ?_ ?_⟩
 ·rintro i x e ys hx ⟨o,rfl,rfl⟩;trivial;exact ⟨_,rfl,by rw [List.range_succ,List.map_append,List.map_append]; rfl⟩
 rintro e ys ⟨o,rfl,rfl⟩;trivial;subst hR;refine hd fun R hR=>?_;trivial;refine L0 (f:=fun i=>rgA (w i)) (xs:=List.range s) (fun i e=>∃ (is os:LQ) (o7 o8 o9:Option SV),e=[some (.d (.tuple [.list (xs.map kD),.list (ws.map wD),.list (hs.map hD),.list gs])),some (.d (.list ((List.range s).map fun i=>rgA (w i)))),some (.d (.list (xs.map kD))),some (.d (.list (ws.map wD))),some (.d (.list (hs.map hD))),some (.own (is.map dq)),some (.own (os.map dq)),o7,o8,o9]/\is=(List.range xs.length).map (flF hs w i)/\os=(List.range xs.length).map (flG hs w i)) ⟨_,_,_,_,_,rfl,rfl,rfl⟩ ?_ ?_
 ·rintro i i' e hpi ⟨is,os,o7,o8,o9,rfl,hi,ho⟩;have hil:i < s:=by have:=(List.getElem?_eq_some_iff.mp hpi).1; rwa [List.length_range] at this
  have e':i'=i:=by rw [List.getElem?_range hil] at hpi; exact (Option.some.inj hpi).symm
  subst e';have fs:=fun v=>B8x (hs:=hs) (w:=w) (v:=v) (show i'<=12 by omega);have li:is.length=xs.length:=by rw [hi]; simp
  have lo:os.length=xs.length:=by rw [ho]; simp
  have F1:flF hs w (i' + 1)=effF hs (w i') (flF hs w i'):=rfl;have G1:flG hs w (i' + 1)=effG hs (w i') (flG hs w i'):=rfl;have mw:=hw i' hil;generalize hy:w i'=y at mw F1 G1 ⊢;rcases S7 mw with ⟨j,hj,rfl⟩ | ⟨j,hj,rfl⟩ | ⟨m,⟨a,b,q⟩,ez,rfl⟩ | ⟨m,z,ez,rfl⟩
  ·have tn:isTl hs (ts.length,j,(0:Rat),(("start":Str),(j:Int)))=false:=A4t (by decide +kernel);rw [show rgA (ts.length,j,(0:Rat),(("start":Str),(j:Int)))=PyData.tuple [.tuple [.str "start",.int (j:Int)],dq 1] from rfl];trivial;refine ⟨by decide +kernel,by decide +kernel,?_⟩;refine C3 (f:=dq) (xs:=is) (n:=j) (by rw [hi]; exact A2a (by omega)) ?_;trivial;refine ⟨_,_,rfl,(fs j).1,O8,?_⟩;trivial;exact ⟨j,Q1 (o:=(j:Int)) (by omega) (by rw [li]; omega),is.set j (flF hs w i' j + 1),os,_,_,_,by rw [List.map_set],by rw [hi,F1]; exact U3 fun v hv=>(Q2 (G:=flG hs w i') tn).1,by rw [ho,G1]; exact R3 fun v hv=>by rw [(Q2 (F:=flF hs w i') tn).2,A1m (by omega)]; exact Rat.add_zero _⟩
  ·have tn:isTl hs (j,ts.length,rat ts (j:Int) - W,(("end":Str),(j:Int)))=false:=A4t (by decide +kernel);rw [show rgA (j,ts.length,rat ts (j:Int) - W,(("end":Str),(j:Int)))=PyData.tuple [.tuple [.str "end",.int (j:Int)],dq 1] from rfl];trivial;refine ⟨by decide +kernel,by decide +kernel,ite2 (fun h=>absurd h (by decide +kernel)) (fun _=>⟨by decide +kernel,by decide +kernel,?_⟩)⟩;refine C3 (f:=dq) (xs:=os) (n:=j) (by rw [ho]; exact A2a (by omega)) ?_;trivial;refine ⟨_,_,rfl,(fs j).2,O8,?_⟩;trivial;exact ⟨j,Q1 (o:=(j:Int)) (by omega) (by rw [lo]; omega),is,os.set j (flG hs w i' j + 1),_,_,_,by rw [List.map_set],by rw [hi,F1]; exact R3 fun v hv=>by rw [(Q2 (G:=flG hs w i') tn).1,A1m (show v < ts.length by omega)]; exact Rat.add_zero _,by rw [ho,G1]; exact U3 fun v hv=>(Q2 (F:=flF hs w i') tn).2⟩
  ·have tn:isTl hs (a.toNat,b.toNat,rat ts a + q,(("wait":Str),(m:Int)))=false:=A4t (by decide +kernel);obtain ⟨⟨a0,a1⟩,⟨b0,b1⟩,_⟩:=ok.w _ (List.mem_of_getElem? ez);obtain ⟨a,rfl⟩:=Int.eq_ofNat_of_zero_le (show 0<=a from a0);obtain ⟨b,rfl⟩:=Int.eq_ofNat_of_zero_le (show 0<=b from b0);have a1:a < xs.length:=by have:(a:Int) < (xs.length:Int):=a1; omega
   have b1:b < xs.length:=by have:(b:Int) < (xs.length:Int):=b1; omega
   rw [show rgA ((a:Int).toNat,(b:Int).toNat,rat ts (a:Int) + q,(("wait":Str),(m:Int)))=PyData.tuple [.tuple [.str "wait",.int (m:Int)],dq 1] from rfl];trivial;refine ⟨by decide +kernel,by decide +kernel,ite2 (fun h=>absurd h (by decide +kernel)) (fun _=>⟨by decide +kernel,by decide +kernel,ite2 (fun h=>absurd h (by decide +kernel)) (fun _=>⟨by decide +kernel,by decide +kernel,?_⟩)⟩)⟩;have ed:wD ((a:Int),(b:Int),q)=PyData.tuple [.int (a:Int),.int (b:Int),dq q]:=rfl;refine C3 ez ?_;rw [ed];trivial;refine C3 (f:=dq) (xs:=os) (n:=a) (by rw [ho]; exact A2a a1) ?_;trivial;refine ⟨_,_,rfl,(fs a).2,O8,?_⟩;trivial;refine C3 ez ?_;rw [ed];trivial;refine ⟨a,Q1 (o:=(a:Int)) (by omega) (by rw [lo]; omega),?_⟩;refine C3 ez ?_;rw [ed];trivial;refine C3 (f:=dq) (xs:=is) (n:=b) (by rw [hi]; exact A2a b1) ?_;trivial;refine ⟨_,_,rfl,(fs b).1,O8,?_⟩;trivial;refine C3 ez ?_;rw [ed];trivial;exact ⟨b,Q1 (o:=(b:Int)) (by omega) (by rw [li]; omega),is.set b (flF hs w i' b + 1),os.set a (flG hs w i' a + 1),_,_,_,by rw [List.map_set,List.map_set],by rw [hi,F1]; exact U3 fun v hv=>(Q2 (G:=flG hs w i') tn).1,by rw [ho,G1]; exact U3 fun v hv=>(Q2 (F:=flF hs w i') tn).2⟩
  ·have er:rgA (hoO ts z m)=PyData.tuple [.tuple [.str "hold",.int (m:Int)],dq 1]:=by
    unfold hoO rgA;split
    ·rfl
    ·split <;> rfl
   rw [er];trivial;refine ⟨by decide +kernel,by decide +kernel,ite2 (fun h=>absurd h (by decide +kernel)) (fun _=>⟨by decide +kernel,by decide +kernel,ite2 (fun h=>absurd h (by decide +kernel)) (fun _=>⟨by decide +kernel,by decide +kernel,ite2 (fun h=>absurd h (by decide +kernel)) (fun _=>?_)⟩)⟩)⟩;obtain ⟨hk,⟨o0,o1⟩,_⟩:=ok.h _ (List.mem_of_getElem? ez);obtain ⟨kd,o,mo⟩:=z;obtain ⟨o,rfl⟩:=Int.eq_ofNat_of_zero_le (show 0<=o from o0);have o1:o < xs.length:=by have:(o:Int) < (xs.length:Int):=o1; omega
   have ed:hD (kd,(o:Int),mo)=PyData.tuple [.str kd,.int (o:Int),dq mo]:=rfl;have eo:((List.range xs.length).map (flG hs w i'))[o]?=some (flG hs w i' o):=A2a o1;have ei:((List.range xs.length).map (flF hs w i'))[o]?=some (flF hs w i' o):=A2a o1;rw [<- ho] at eo;rw [<- hi] at ei;have ixi:ixN is.length (o:Int)=some o:=Q1 (o:=(o:Int)) (by omega) (by rw [li]; omega);have ixo:ixN os.length (o:Int)=some o:=Q1 (o:=(o:Int)) (by omega) (by rw [lo]; omega);have hk:kd="from"\/kd="till"\/kd="by":=hk;refine C3 ez ?_;rw [ed];trivial;refine ⟨Hk.lay hk,by decide +kernel,ite2 (fun hb=>?_) (fun hb=>?_)⟩
   ·have kb:kd="by":=by rw [M1] at hb; exact of_decide_eq_true hb
    subst kb;have ey:hoO ts (Str.ofString "by",(o:Int),mo) m=(o,ts.length,rat ts (o:Int) - mo,(("hold":Str),(m:Int))):=(if_neg A8k).trans (if_neg A2s);have tn:isTl hs (o,ts.length,rat ts (o:Int) - mo,(("hold":Str),(m:Int)))=false:=(A4u ez).trans (decide_eq_false A2s);rw [ey] at F1 G1;refine C3 ez ?_;rw [ed];trivial;refine C3 eo ?_;trivial;refine ⟨_,_,rfl,(fs o).2,O8,?_⟩;trivial;refine C3 ez ?_;rw [ed];trivial;exact ⟨o,ixo,is,os.set o (flG hs w i' o + 1),_,_,_,by rw [List.map_set],by rw [hi,F1]; exact R3 fun v hv=>by rw [(Q2 (G:=flG hs w i') tn).1,A1m (show v < ts.length by omega)]; exact Rat.add_zero _,by rw [ho,G1]; exact U3 fun v hv=>(Q2 (F:=flF hs w i') tn).2⟩
   ·have nb:kd≠"by":=fun z=>hb (by rw [M1]; exact decide_eq_true z);refine C3 ez ?_;rw [ed];trivial;refine ⟨Hk.lay hk,by decide +kernel,ite2 (fun hb=>?_) (fun hb=>?_)⟩
    ·have kb:kd="from":=by rw [M1] at hb; exact of_decide_eq_true hb
     subst kb;have ey:hoO ts (Str.ofString "from",(o:Int),mo) m=(ts.length,o,mo,(("hold":Str),(m:Int))):=if_pos rfl;have tn:isTl hs (ts.length,o,mo,(("hold":Str),(m:Int)))=false:=(A4u ez).trans (decide_eq_false (show ¬ (Str.ofString "from"=Str.ofString "till") by decide +kernel));rw [ey] at F1 G1;refine C3 ez ?_;rw [ed];trivial;refine C3 ei ?_;trivial;refine ⟨_,_,rfl,(fs o).1,O8,?_⟩;trivial;refine C3 ez ?_;rw [ed];trivial;exact ⟨o,ixi,is.set o (flF hs w i' o + 1),os,_,_,_,by rw [List.map_set],by rw [hi,F1]; exact U3 fun v hv=>(Q2 (G:=flG hs w i') tn).1,by rw [ho,G1]; exact R3 fun v hv=>by rw [(Q2 (F:=flF hs w i') tn).2,A1m (by omega)]; exact Rat.add_zero _⟩
    ·have kb:kd="till":=by
      rcases hk with h | h | h
      ·exact absurd (by rw [M1]; exact decide_eq_true h) hb
      ·exact h
      ·exact absurd h nb
     subst kb;have ey:hoO ts (Str.ofString "till",(o:Int),mo) m=(o,ts.length,0 - mo,(("hold":Str),(m:Int))):=(if_neg A8j).trans (if_pos rfl);have tn:isTl hs (o,ts.length,0 - mo,(("hold":Str),(m:Int)))=true:=(A4u ez).trans (decide_eq_true rfl);rw [ey] at F1 G1;refine C3 ez ?_;rw [ed];trivial;refine C3 ei ?_;trivial;refine ⟨_,_,rfl,(fs o).1,O8,?_⟩;trivial;refine C3 ez ?_;rw [ed];trivial;refine ⟨o,ixi,is.set o (flF hs w i' o - 1),os,_,_,_,by rw [List.map_set],?_,by rw [ho,G1]; exact R3 fun v hv=>(B3e (F:=flF hs w i') tn).2⟩;rw [hi,F1,show flF hs w i' o - 1=flF hs w i' o + (-1) by grind];refine U3 fun v hv=>?_;rw [(B3e (G:=flG hs w i') tn).1,A1m (show v < ts.length by omega)];show flF hs w i' v + 0 - dl o v=_;unfold dl;split <;> grind
 rintro e ⟨is,os,o7,o8,o9,rfl,rfl,rfl⟩;rw [List.length_range];subst hR;trivial;exact k
def A6w:Pu.PSp:=fun as Q=>∃ (n:Nat) (xs:List Wk) (vs:List (Int × Int)) (us:List (Str × Int)) (ns:List Int),as=[.d (shD xs vs us),.bor (ns.map .int)]/\ShOk n xs vs us/\∀ ws hs,LN xs ws hs []->L5 ws hs->Q (.d (netD xs ws hs []))
theorem A71 (T:Txt K mg D):FnOk P w K mg base CX0 3 D.a_b2 D.d_b2 ["_law_shape_here","_law_script"] (Pu.spOf K [.dat,.vw] A6w):=by
 refine T.F_b2.ok sc_b2 (Pu.spOf.len rfl) (fun cdv A outer s H vs Q E hr h=>?_);refine ⟨_,(QSs.out (A4 (F6 (qpv 0) (D3 (K:=K) (n:=3) rfl rfl (B3 (B0 (i:=2) sc_b2.nd rfl (Or.inl rfl) (Or.inl rfl)) (B3 (B0 (i:=3) sc_b2.nd rfl (Or.inl rfl) (Or.inl rfl)) (B3 (B0 (i:=4) sc_b2.nd rfl (Or.inl rfl) (Or.inl rfl)) D2))) rfl rfl))
   (A4 (B6 (i:=5) sc_b2.nd rfl (Or.inl rfl) (F3 A2))
   (A4 (E9 PassesOwn.never rfl (F9 rfl T.z_range (A0 (B7 (C7 (K:=K) rfl) (by rfl) T.z_len PySem.boot_len (A0 (qpv 3) A2)) A2)) (B0 (i:=6) sc_b2.nd rfl (Or.inl rfl) (Or.inl rfl))
    (A4 (B6 (i:=7) sc_b2.nd rfl (Or.inl rfl) (A7 (K7 (K:=K) T) hr.mo rfl T.m_af T.F_af.kp (M3 T) .nil B8 (A0 (qpv 1) (A0 (C9 G9 A3 (qpv 6)) A2))))
    (A4 (G5 (A7 (D4 (K:=K) T) hr.mo rfl T.m_c0 T.F_c0.kp (D7 T) .nil B8 (A0 (qpv 7) (A0 A3 A2))))
    (A4 (B6 (i:=8) sc_b2.nd rfl (Or.inl rfl) (A7 (K2 (K:=K) T) hr.mo rfl T.m_aa T.F_aa.kp (L8 T) .nil B8 (A0 (qpv 7) (A0 G8 (A0 A3 A2)))))
    (A4 (D0 (QW.pt (J2 (B5 R6 (A9 (A6 (K:=K) rfl) (A9 (A6 (K:=K) rfl) (qpv 3) (qpv 6) (fun _ _=>rfl)) A3 (fun _ _=>rfl)) (A9 (A6 (K:=K) rfl) (A9 (A6 (K:=K) rfl) (qpv 3) (qpv 6) (fun _ _=>rfl)) A3 (fun _ _=>rfl)) (C2 _)) (J5 (B5 R6 (A7 (D4 (K:=K) T) hr.mo rfl T.m_c0 T.F_c0.kp (D7 T) .nil B8 (A0 (qpv 7) (A0 A3 A2))) A3 (C2 _)))))
     (A8 (B6 (i:=8) sc_b2.nd rfl (Or.inl rfl) (A7 (K6 (K:=K) T) hr.mo rfl T.m_b3 T.F_b3.kp (M2 T) .nil B8 (A0 (C4 (A0 A3 (A0 A3 A2))) (A0 (A7 (D6 (K:=K) T) hr.mo rfl T.m_bf T.F_bf.kp (F4 T) .nil B8 (A0 (qpv 8) (A0 (A9 (A6 (K:=K) rfl) (F3 (A0 (C4 (A0 A3 (A0 A3 A2))) (A0 (C4 (A0 A3 (A0 A3 A2))) (A0 (C4 (A0 (C9 X4 A3 A3) (A0 A3 A2))) A2)))) (A7 (D4 (K:=K) T) hr.mo rfl T.m_c0 T.F_c0.kp (D7 T) .nil B8 (A0 (qpv 7) (A0 A3 A2))) (fun _ _=>rfl)) A2))) A2)))))
     C6)
    (A8 (G5 (K4 (K:=K) rfl PySem.F.plainAttrs_list PySem.F.slot_list_append PySem.F.type_list_append G2 (qpv 5) (A0 (C4 (A0 (A9 (A6 (K:=K) rfl) (A9 (A6 (K:=K) rfl) (qpv 3) (qpv 6) (fun _ _=>rfl)) A3 (fun _ _=>rfl)) (A0 (A9 (A6 (K:=K) rfl) (A9 (A6 (K:=K) rfl) (qpv 3) (qpv 6) (fun _ _=>rfl)) A3 (fun _ _=>rfl)) (A0 (qpv 8) A2)))) A2)))))))))
   (A4 (B6 (i:=9) sc_b2.nd rfl (Or.inl rfl) (F3 A2))
   (A4 (E9 PassesOwn.never rfl (F9 rfl T.z_range (A0 (B7 (C7 (K:=K) rfl) (by rfl) T.z_len PySem.boot_len (A0 (qpv 4) A2)) A2)) (B0 (i:=6) sc_b2.nd rfl (Or.inl rfl) (Or.inl rfl))
    (A4 (B6 (i:=7) sc_b2.nd rfl (Or.inl rfl) (A7 (K7 (K:=K) T) hr.mo rfl T.m_af T.F_af.kp (M3 T) .nil B8 (A0 (qpv 1) (A0 (C9 G9 A3 (qpv 6)) A2))))
    (A4 (G5 (A7 (D4 (K:=K) T) hr.mo rfl T.m_c0 T.F_c0.kp (D7 T) .nil B8 (A0 (qpv 7) (A0 A3 A2))))
    (A4 (B6 (i:=10) sc_b2.nd rfl (Or.inl rfl) (A7 (K2 (K:=K) T) hr.mo rfl T.m_aa T.F_aa.kp (L8 T) .nil B8 (A0 (qpv 7) (A0 G8 (A0 A3 A2)))))
    (A4 (B6 (i:=11) sc_b2.nd rfl (Or.inl rfl) (A7 (D4 (K:=K) T) hr.mo rfl T.m_c0 T.F_c0.kp (D7 T) .nil B8 (A0 (qpv 7) (A0 A3 A2))))
    (A4 (D0 (QW.pt (J2 (B5 (K5 (K:=K) rfl hr.units) (A9 (A6 (K:=K) rfl) (A9 (A6 (K:=K) rfl) (qpv 4) (qpv 6) (fun _ _=>rfl)) A3 (fun _ _=>rfl)) C8 (C2 _)) (J5 (B5 R6 (qpv 11) A3 (C2 _)))))
     (A8 (B6 (i:=10) sc_b2.nd rfl (Or.inl rfl) (A7 (D6 (K:=K) T) hr.mo rfl T.m_bf T.F_bf.kp (F4 T) .nil B8 (A0 (qpv 10) (A0 (A9 (A6 (K:=K) rfl) (F3 (A0 (C4 (A0 A3 (A0 A3 A2))) (A0 (C4 (A0 A3 (A0 A3 A2))) (A0 (C4 (A0 (C9 X4 A3 A3) (A0 A3 A2))) (A0 (C4 (A0 (C9 X4 A3 A3) (A0 A3 A2))) A2))))) (A7 (D4 (K:=K) T) hr.mo rfl T.m_c0 T.F_c0.kp (D7 T) .nil B8 (A0 (qpv 7) (A0 A3 A2))) (fun _ _=>rfl)) A2)))))
     (A8 (D0 (B5 A06 (qpv 11) A3 (C2 _))
      (A8 (B6 (i:=10) sc_b2.nd rfl (Or.inl rfl) (A7 (K6 (K:=K) T) hr.mo rfl T.m_b3 T.F_b3.kp (M2 T) .nil B8 (A0 (C4 (A0 A3 (A0 A3 A2))) (A0 (qpv 10) A2)))))
      C6)))
    (A8 (G5 (K4 (K:=K) rfl PySem.F.plainAttrs_list PySem.F.slot_list_append PySem.F.type_list_append G2 (qpv 9) (A0 (C4 (A0 (A9 (A6 (K:=K) rfl) (A9 (A6 (K:=K) rfl) (qpv 4) (qpv 6) (fun _ _=>rfl)) A3 (fun _ _=>rfl)) (A0 (A9 (A6 (K:=K) rfl) (A9 (A6 (K:=K) rfl) (qpv 4) (qpv 6) (fun _ _=>rfl)) A3 (fun _ _=>rfl)) (A0 (qpv 10) A2)))) A2))))))))))
   (A8 (C0 (C4 (A0 (qpv 2) (A0 (qpv 5) (A0 (qpv 9) (A0 (F3 A2) A2))))))))))))),?_⟩
 haveI:=T.c2_NOUGHT
 haveI:=T.c2_ONE
 refine Pu.J7 h ?_;rintro as Qp ⟨n,xs,vs,us,ns,rfl,ok,k⟩;have n1:=ok.n1;have ln:=ok.ln;have vl:=ok.vl;have ul:=ok.ul;refine hd fun R hR=>?_;unfold shD;trivial;subst hR;refine hd fun R hR=>?_;trivial;subst hR;refine hd fun R hR=>?_;trivial;refine ⟨by omega,N4 (fun i e=>∃ (ws:LW) (o6 o7 o8:Option SV),e=[some (.d (.tuple [.list (xs.map kD),.list (vs.map pD),.list (us.map qD)])),some (.bor (ns.map .int)),some (.d (.list (xs.map kD))),some (.d (.list (vs.map pD))),some (.d (.list (us.map qD))),some (.own (ws.map wD)),o6,o7,o8,none,none,none]/\ws.length=i/\∀ w ∈ ws,Ln5W n w) ⟨[],_,_,_,rfl,rfl,fun _ z=>nomatch z⟩ ?_ ?_⟩
 ·rintro i e hi ⟨ws,o6,o7,o8,rfl,lw,hw⟩;obtain ⟨⟨v1,v2⟩,ev⟩:∃ z,vs[i]?=some z:=⟨_,List.getElem?_eq_getElem (by omega)⟩;have vk:=ok.vk _ (List.mem_of_getElem? ev);have fin:∀ q:Rat,O5 q->∀ w ∈ ws++[(v1,v2,q)],Ln5W n w:=fun q oq w h=>by
   rcases List.mem_append.mp h with z | z
   ·exact hw w z
   ·rw [List.mem_singleton.mp z]; exact ⟨vk.1,vk.2,oq⟩
  refine hd fun R hR=>?_;trivial;refine ⟨ns,_,rfl,by omega,by omega,?_⟩;trivial;subst hR;refine hd fun R hR=>?_;trivial;refine ⟨7907,rfl,by decide,N7 (B:=7907) (by omega) (by omega) (by decide),fun d d0 d1=>?_⟩;trivial;subst hR;refine hd fun R hR=>?_;trivial;refine ⟨_,_,rfl,.inl rfl,fun q q0 _ sq _=>?_⟩;have oq:=P5 sq;trivial;subst hR;refine Q9 (fun e=>∃ (q:Rat) (o7:Option SV),e=[some (.d (.tuple [.list (xs.map kD),.list (vs.map pD),.list (us.map qD)])),some (.bor (ns.map .int)),some (.d (.list (xs.map kD))),some (.d (.list (vs.map pD))),some (.d (.list (us.map qD))),some (.own (ws.map wD)),some (.d (.int (i:Int))),o7,some (.d (dq q)),none,none,none]/\O5 q) (fun R hR=>?_) ?_
  ·refine hd3 fun S hS=>?_;trivial;refine C3 ev ?_;rw [show pD (v1,v2)=PyData.tuple [.int v1,.int v2] from rfl];trivial;refine C3 ev ?_;rw [show pD (v1,v2)=PyData.tuple [.int v1,.int v2] from rfl];trivial;refine ite2 (fun _=>?_) (fun _=>hR _ ⟨q,_,rfl,A5a oq (by decide)⟩);refine ⟨6,rfl,by decide,sm4 6,fun b b0 b1=>?_⟩;trivial;refine ite2 (fun _=>?_) (fun _=>hR _ ⟨q,_,rfl,A5a oq (by decide)⟩);subst hS;generalize hL:pLst _=L;trivial;subst hL;refine lit3 fun qs ql hq=>?_;trivial;refine ⟨3,rfl,by decide,sm4 3,fun g g0 g1=>?_⟩;trivial;obtain ⟨g,rfl⟩:=Int.eq_ofNat_of_zero_le g0;obtain ⟨y,ey⟩:∃ z,qs[g]?=some z:=⟨_,List.getElem?_eq_getElem (by omega)⟩;have oy:=hq y (List.mem_of_getElem? ey);have os:=(oq.p2 (b:=44) (by decide)).add2 (b:=45) J4 oy (by decide);refine C3 ey ?_;trivial;refine ⟨_,_,rfl,onL oq (by decide),onL oy (by decide),?_⟩;trivial;refine ⟨0,_,rfl,smq0,onL os (by decide),?_⟩;trivial;exact hR _ ⟨_,_,rfl,A5a ((On.zero.mono (Nat.zero_le (2 ^ 45))).sub2 (b:=46) J4 os (by decide)) (by decide)⟩
  ·rintro e ⟨q,o7,rfl,o4⟩;trivial;refine C3 ev ?_;rw [show pD (v1,v2)=PyData.tuple [.int v1,.int v2] from rfl];trivial;refine C3 ev ?_;rw [show pD (v1,v2)=PyData.tuple [.int v1,.int v2] from rfl];trivial;exact ⟨by omega,ws++[(v1,v2,q)],_,_,_,by rw [List.map_append]; rfl,by rw [List.length_append,lw]; rfl,fin q o4⟩
 rintro e ⟨ws,o6,o7,o8,rfl,lw,hw⟩;subst hR;dsimp only;refine hd fun R hR=>?_;trivial;subst hR;refine hd fun R hR=>?_;trivial;refine ⟨by omega,N4 (fun i e=>∃ (hs:LH) (o6 o7 o10 o11:Option SV),e=[some (.d (.tuple [.list (xs.map kD),.list (vs.map pD),.list (us.map qD)])),some (.bor (ns.map .int)),some (.d (.list (xs.map kD))),some (.d (.list (vs.map pD))),some (.d (.list (us.map qD))),some (.own (ws.map wD)),o6,o7,o8,some (.own (hs.map hD)),o10,o11]/\hs.length=i/\∀ h ∈ hs,Ln5H n h) ⟨[],_,_,_,_,rfl,rfl,fun _ z=>nomatch z⟩ ?_ ?_⟩
 ·rintro i e hi ⟨hs,o6,o7,o10,o11,rfl,lh,hh⟩;obtain ⟨⟨u1,u2⟩,eu⟩:∃ z,us[i]?=some z:=⟨_,List.getElem?_eq_getElem (by omega)⟩;have uk:=ok.uk _ (List.mem_of_getElem? eu);have fin:∀ q:Rat,O5 q->∀ h ∈ hs++[(u1,u2,q)],Ln5H n h:=fun q oq w h=>by
   rcases List.mem_append.mp h with z | z
   ·exact hh w z
   ·rw [List.mem_singleton.mp z]; exact ⟨uk.1,uk.2,oq⟩
  refine hd fun R hR=>?_;trivial;refine ⟨ns,_,rfl,by omega,by omega,?_⟩;trivial;subst hR;refine hd fun R hR=>?_;trivial;refine ⟨7907,rfl,by decide,N7 (B:=7907) (by omega) (by omega) (by decide),fun d d0 d1=>?_⟩;trivial;subst hR;refine hd fun R hR=>?_;trivial;refine ⟨_,_,rfl,.inl rfl,fun q q0 _ sq _=>?_⟩;have oq:=P5 sq;trivial;subst hR;refine hd fun R hR=>?_;trivial;refine ⟨8,rfl,by decide,sm4 8,fun b b0 b1=>?_⟩;trivial;subst hR;refine Q9 (fun e=>∃ (q:Rat) (o7 o11:Option SV),e=[some (.d (.tuple [.list (xs.map kD),.list (vs.map pD),.list (us.map qD)])),some (.bor (ns.map .int)),some (.d (.list (xs.map kD))),some (.d (.list (vs.map pD))),some (.d (.list (us.map qD))),some (.own (ws.map wD)),some (.d (.int (i:Int))),o7,o8,some (.own (hs.map hD)),some (.d (dq q)),o11]/\O5 q) (fun R hR=>?_) ?_
  ·generalize hL:pLst _=L;trivial;refine C3 eu ?_;rw [show qD (u1,u2)=PyData.tuple [.str u1,.int u2] from rfl];trivial;refine ⟨uk.1.lay,A1g,ite2 (fun _=>ite2 (fun _=>?_) (fun _=>?_)) (fun _=>?_)⟩
   ·subst hL;refine lit4 fun qs ql hq=>?_;trivial;refine ⟨4,rfl,by decide,sm4 4,fun g g0 g1=>?_⟩;trivial;obtain ⟨g,rfl⟩:=Int.eq_ofNat_of_zero_le g0;obtain ⟨y,ey⟩:∃ z,qs[g]?=some z:=⟨_,List.getElem?_eq_getElem (by omega)⟩;have oy:=hq y (List.mem_of_getElem? ey);have os:=(oq.p2 (b:=44) (by decide)).add2 (b:=45) J4 oy (by decide);refine C3 ey ?_;trivial;refine ⟨_,_,rfl,onL oq (by decide),onL oy (by decide),?_⟩;trivial;exact hR _ ⟨_,_,_,rfl,A5a os (by decide)⟩
   all_goals
    trivial;refine ite2 (fun _=>?_) (fun _=>hR _ ⟨q,_,_,rfl,A5a oq (by decide)⟩);trivial;refine ⟨0,_,rfl,smq0,onL oq (by decide),?_⟩;trivial;exact hR _ ⟨_,_,_,rfl,A5a ((On.zero.mono (Nat.zero_le (2 ^ 41))).sub2 (b:=42) J4 oq (by decide)) (by decide)⟩
  ·rintro e ⟨q,o7,o11,rfl,o4⟩;trivial;refine C3 eu ?_;rw [show qD (u1,u2)=PyData.tuple [.str u1,.int u2] from rfl];trivial;refine C3 eu ?_;rw [show qD (u1,u2)=PyData.tuple [.str u1,.int u2] from rfl];trivial;exact ⟨by omega,hs++[(u1,u2,q)],_,_,_,_,by rw [List.map_append]; rfl,by rw [List.length_append,lh]; rfl,fin q o4⟩
 rintro e ⟨hs,o6,o7,o10,o11,rfl,lh,hh⟩;subst hR;trivial;refine k ws hs ⟨by rw [ln]; exact ok.n0,by omega,fun x hx=>?_,ok.nm,by omega,by omega,by rw [ln]; exact fun w h=>⟨(hw w h).1,(hw w h).2.1,(hw w h).2.2.o4⟩,by rw [ln]; exact fun w h=>⟨(hh w h).1,(hh w h).2.1,(hh w h).2.2.o4⟩,.inl rfl⟩ ⟨fun w h=>(hw w h).2.2,fun w h=>(hh w h).2.2⟩;obtain ⟨a,b,c,_⟩:=ok.of x hx;exact ⟨a,b,c⟩
def W2:Pu.PSp:=fun as Q=>∃ (xs:List Wk) (ws:LW) (hs:LH) (gs:LP) (ns:List Int) (a:Int),as=[.d (netD xs ws hs gs),.bor (ns.map .int),.d (.int a)]/\0<=a/\a<=100/\LN xs ws hs gs/\∀ ts:LQ,ts.length=xs.length->(∀ t ∈ ts,On (LL * 4) (2 ^ 50) t)->Q (.own (ts.map dq))
theorem W3 (T:Txt K mg D):FnOk P w K mg base CX0 3 D.a_a0 D.d_a0 ["_law_net","_law_script","_law_at"] (Pu.spOf K [.dat,.vw,.dat] W2):=by
 refine T.F_a0.ok sc_a0 (Pu.spOf.len rfl) (fun cdv A outer s H vs Q E hr h=>?_);refine ⟨_,(QSs.out (A4 (B6 (i:=3) sc_a0.nd rfl (Or.inl rfl) (F3 A2))
   (A4 (E9 PassesOwn.never rfl (F9 rfl T.z_range (A0 (B7 (C7 (K:=K) rfl) (by rfl) T.z_len PySem.boot_len (A0 (A9 (A6 (K:=K) rfl) (qpv 0) A3 (fun _ _=>rfl)) A2)) A2)) (B0 (i:=4) sc_a0.nd rfl (Or.inl rfl) (Or.inl rfl))
    (A4 (B6 (i:=5) sc_a0.nd rfl (Or.inl rfl) (A7 (K7 (K:=K) T) hr.mo rfl T.m_af T.F_af.kp (M3 T) .nil B8 (A0 (qpv 1) (A0 (C9 G9 (qpv 2) (qpv 4)) A2))))
    (A4 (G5 (A7 (D4 (K:=K) T) hr.mo rfl T.m_c0 T.F_c0.kp (D7 T) .nil B8 (A0 (qpv 5) (A0 A3 A2))))
    (A4 (F6 (A9 (A6 (K:=K) rfl) (A9 (A6 (K:=K) rfl) (A9 (A6 (K:=K) rfl) (qpv 0) A3 (fun _ _=>rfl)) (qpv 4) (fun _ _=>rfl)) A3 (fun _ _=>rfl)) (D3 (K:=K) (n:=2) rfl rfl (B3 (B0 (i:=6) sc_a0.nd rfl (Or.inl rfl) (Or.inl rfl)) (B3 (B0 (i:=7) sc_a0.nd rfl (Or.inl rfl) (Or.inl rfl)) D2)) rfl rfl))
    (A4 (B6 (i:=8) sc_a0.nd rfl (Or.inl rfl) (A7 (D4 (K:=K) T) hr.mo rfl T.m_c0 T.F_c0.kp (D7 T) .nil B8 (A0 (qpv 5) (A0 (B7 (C7 (K:=K) rfl) (by rfl) T.z_len PySem.boot_len (A0 (qpv 7) A2)) A2))))
    (A4 (B6 (i:=9) sc_a0.nd rfl (Or.inl rfl) (A9 (A6 (K:=K) rfl) (A9 (A6 (K:=K) rfl) (qpv 7) (qpv 8) (fun _ _=>rfl)) A3 (fun _ _=>rfl)))
    (A4 (D0 (QW.pt (J2 (B5 (D1 (K:=K) rfl hr.units) (qpv 6) C8 (C2 _)) (J2 (B5 R6 (qpv 8) A3 (C2 _)) (J5 (B5 (D1 (K:=K) rfl hr.units) (A7 (D4 (K:=K) T) hr.mo rfl T.m_c0 T.F_c0.kp (D7 T) .nil B8 (A0 (qpv 5) (A0 A3 A2))) A3 (C2 _))))))
     (A4 (B6 (i:=10) sc_a0.nd rfl (Or.inl rfl) (A7 (K6 (K:=K) T) hr.mo rfl T.m_b3 T.F_b3.kp (M2 T) .nil B8 (A0 (A9 (A6 (K:=K) rfl) (A9 (A6 (K:=K) rfl) (qpv 7) (C9 A05 (qpv 8) A3) (fun _ _=>rfl)) A3 (fun _ _=>rfl)) (A0 (qpv 9) A2))))
     (A8 (B6 (i:=9) sc_a0.nd rfl (Or.inl rfl) (A7 (D6 (K:=K) T) hr.mo rfl T.m_bf T.F_bf.kp (F4 T) .nil B8 (A0 (qpv 9) (A0 (A7 (M9 (K:=K) T) hr.mo rfl T.m_b8 T.F_b8.kp (O6 T) .nil B8 (A0 (qpv 10) (A0 (A7 (R7 (K:=K) T) hr.mo rfl T.m_c2 T.F_c2.kp (Y3 T) .nil B8 (A0 (C9 G9 A3 (A7 (D4 (K:=K) T) hr.mo rfl T.m_c0 T.F_c0.kp (D7 T) .nil B8 (A0 (qpv 5) (A0 A3 A2)))) (A0 A3 A2))) A2))) A2))))))
     C6)
    (A8 (G5 (K4 (K:=K) rfl PySem.F.plainAttrs_list PySem.F.slot_list_append PySem.F.type_list_append G2 (qpv 3) (A0 (qpv 9) A2)))))))))))
   (A8 (C0 (qpv 3)))))),?_⟩
 haveI:=T.c2_NOUGHT
 haveI:=T.c2_ONE
 refine Pu.J7 h ?_;rintro as Qp ⟨xs,ws,hs,gs,ns,a,rfl,a0,a1,ok,k⟩;have n0:=ok.n0;have n1:=ok.n1;unfold netD;refine hd fun R hR=>?_;trivial;subst hR;refine hd fun R hR=>?_;trivial;refine ⟨by omega,N4 (fun i e=>∃ (ts:LQ) (o4 o5 o6 o7 o8 o9 o10:Option SV),e=[some (.d (.tuple [.list (xs.map kD),.list (ws.map wD),.list (hs.map hD),.list gs])),some (.bor (ns.map .int)),some (.d (.int a)),some (.own (ts.map dq)),o4,o5,o6,o7,o8,o9,o10]/\ts.length=i/\∀ t ∈ ts,On (LL * 4) (2 ^ 50) t) ⟨[],_,_,_,_,_,_,_,rfl,rfl,fun _ z=>nomatch z⟩ ?_ ?_⟩
 ·rintro i e hi ⟨ts,o4,o5,o6,o7,o8,o9,o10,rfl,tl,ht⟩;obtain ⟨x,ex⟩:∃ z,xs[i]?=some z:=⟨_,List.getElem?_eq_getElem (by omega)⟩;obtain ⟨hk,og,oc⟩:=ok.of x (List.mem_of_getElem? ex);have l0:=og.ok.ne;have l5:=og.ok.le;have fin:∀ q:Rat,On (LL * 4) (2 ^ 50) q->∀ t ∈ ts++[q],On (LL * 4) (2 ^ 50) t:=fun q oq w h=>by
   rcases List.mem_append.mp h with z | z
   ·exact ht w z
   ·rw [List.mem_singleton.mp z]; exact oq
  refine hd fun R hR=>?_;trivial;refine ⟨ns,_,rfl,by omega,by omega,?_⟩;trivial;subst hR;refine hd fun R hR=>?_;trivial;refine ⟨7901,rfl,by decide,N7 (B:=7901) (by omega) (by omega) (by decide),fun d d0 d1=>?_⟩;trivial;subst hR;refine hd fun R hR=>?_;trivial;refine C3 ex ?_;rw [show kD x=PyData.tuple [.str x.1,.tuple [.str x.2.1,.list (x.2.2.map dcn)]] from rfl];trivial;subst hR;refine hd fun R hR=>?_;trivial;refine ⟨(x.2.2.length:Int),by simp,by omega,N7 (B:=5) (by omega) (by omega) (by decide),fun c c0 c1=>?_⟩;trivial;subst hR;obtain ⟨c,rfl⟩:=Int.eq_ofNat_of_zero_le c0;obtain ⟨cc,ec⟩:∃ z,x.2.2[c]?=some z:=⟨_,List.getElem?_eq_getElem (by omega)⟩;have o1:=(oc cc (List.mem_of_getElem? ec)).1;refine hd fun R hR=>?_;trivial;refine C3 ec ?_;trivial;subst hR;refine hd fun R hR=>?_;trivial;refine ⟨hk.lay,A8s,?_⟩;refine ite2 (fun _=>ite2 (fun c0=>?_) (fun _=>?_)) (fun _=>?_)
  ·refine ⟨3,rfl,by decide,sm4 3,fun b b0 b1=>?_⟩;trivial;refine ite2 (fun _=>?_) (fun _=>?_)
   ·obtain ⟨c2,ec2⟩:∃ z,x.2.2[c - 1]?=some z:=⟨_,List.getElem?_eq_getElem (by omega)⟩;have o2:=(oc c2 (List.mem_of_getElem? ec2)).1;rw [show (c:Int) - 1=((c - 1:Nat):Int) by omega];refine C3 ec2 ?_;trivial;have B4:0 < LL * 4:=by decide
    have og2:=(o2.sub2 (b:=46) J4 o1 (by decide));refine ⟨_,_,rfl,onL o2 (by decide),onL o1 (by decide),?_⟩;trivial;refine ⟨3,rfl,by decide,sm4 3,fun g g0 g1=>?_⟩;trivial;refine ⟨_,_,rfl,by decide,N7 (B:=4) (by omega) (by omega) (by decide),N7 (B:=4) (by omega) (by omega) (by decide),?_⟩;trivial;have B9:LL * 4<=2 ^ 1000:=O2 A26 (by decide);have o3:On 4 1 (Rat.divInt (1 + g) 4):=⟨1 + g,rfl,by omega⟩;have o5:On (LL * 4) (2 ^ 46) ((c2.1 - cc.1) * Rat.divInt (1 + g) 4):=(On.mul og2 o3).mono (by decide);refine ⟨_,_,rfl,onL og2 (by decide),onQ o3 (by decide) (by decide) (by decide),?_⟩;trivial;refine ⟨_,_,rfl,onL o1 (by decide),onQ o5 B4 B9 (Nat.pow_le_pow_right (by decide) (by decide)),?_⟩;trivial;subst hR;trivial;exact ⟨by omega,ts++[cc.1 + (c2.1 - cc.1) * Rat.divInt (1 + g) 4],_,_,_,_,_,_,_,by rw [List.map_append]; rfl,by rw [List.length_append,tl]; rfl,fin _ ((((o1.up (C:=4) (by decide)).p2 (b:=46) (by decide)).add2 (b:=47) B4 o5 (by decide)).p2 (by decide))⟩
   ·subst hR;trivial;exact ⟨by omega,ts++[cc.1],_,_,_,_,_,_,_,by rw [List.map_append]; rfl,by rw [List.length_append,tl]; rfl,fin _ ((o1.up (by decide)).p2 (by decide))⟩
  ·subst hR;trivial;exact ⟨by omega,ts++[cc.1],_,_,_,_,_,_,_,by rw [List.map_append]; rfl,by rw [List.length_append,tl]; rfl,fin _ ((o1.up (by decide)).p2 (by decide))⟩
  ·subst hR;trivial;exact ⟨by omega,ts++[cc.1],_,_,_,_,_,_,_,by rw [List.map_append]; rfl,by rw [List.length_append,tl]; rfl,fin _ ((o1.up (by decide)).p2 (by decide))⟩
 rintro e ⟨ts,o4,o5,o6,o7,o8,o9,o10,rfl,tl,ht⟩;subst hR;trivial;exact k ts (by omega) ht
def A00:Pu.PSp:=fun as Q=>∃ (xs:List Wk) (ws:LW) (hs:LH) (gs:LP) (ts:LQ) (W:Rat) (s:Nat) (w:Nat->Wy),as=[.d (netD xs ws hs gs),.d (.list (rgL s w))]/\LN xs ws hs gs/\ts.length=xs.length/\Rgn (J1 ts ws hs (some W)) ts.length s w/\Q (.d (.bool true))
theorem A1c (T:Txt K mg D):FnOk P w K mg base CX0 4 D.a_a2 D.d_a2 ["_law_net","_law_paper"] (Pu.spOf K [.dat,.dat] A00):=by
 refine T.F_a2.ok sc_a2 (Pu.spOf.len rfl) (fun cdv A outer s H vs Q E hr h=>?_);refine ⟨_,(QSs.out (A4 (D0 (J9 (F2 (B7 (G6 (K:=K) rfl) (by rfl) T.z_isinstance (by rfl) (A0 (qpv 1) (A0 (J6 (v:=.ty "list") rfl T.z_list (by rfl) rfl) A2)))))
    (A8 (C0 G8))
    C6)
   (A4 (B6 (i:=2) sc_a2.nd rfl (Or.inl rfl) (F3 A2))
   (A4 (E9 PassesOwn.never rfl (D9 (K:=K) rfl (qpv 1)) (B0 (i:=3) sc_a2.nd rfl (Or.inl rfl) (Or.inl rfl))
    (A4 (D0 (QW.pt (K1 (J9 (F2 (B7 (G6 (K:=K) rfl) (by rfl) T.z_isinstance (by rfl) (A0 (qpv 3) (A0 (J6 (v:=.ty "tuple") rfl T.z_tuple (by rfl) rfl) A2))))) (K1 (B5 (K5 (K:=K) rfl hr.units) (B7 (C7 (K:=K) rfl) (by rfl) T.z_len PySem.boot_len (A0 (qpv 3) A2)) A3 (C2 _)) (K1 (J9 (F2 (B7 (G6 (K:=K) rfl) (by rfl) T.z_isinstance (by rfl) (A0 (A9 (A6 (K:=K) rfl) (qpv 3) A3 (fun _ _=>rfl)) (A0 (J6 (v:=.ty "tuple") rfl T.z_tuple (by rfl) rfl) A2))))) (K3 (B5 (K5 (K:=K) rfl hr.units) (B7 (C7 (K:=K) rfl) (by rfl) T.z_len PySem.boot_len (A0 (A9 (A6 (K:=K) rfl) (qpv 3) A3 (fun _ _=>rfl)) A2)) A3 (C2 _)))))))
     (A8 (C0 G8))
     C6)
    (A4 (F6 (A9 (A6 (K:=K) rfl) (qpv 3) A3 (fun _ _=>rfl)) (D3 (K:=K) (n:=2) rfl rfl (B3 (B0 (i:=4) sc_a2.nd rfl (Or.inl rfl) (Or.inl rfl)) (B3 (B0 (i:=5) sc_a2.nd rfl (Or.inl rfl) (Or.inl rfl)) D2)) rfl rfl))
    (A4 (D0 (QW.pt (K1 (B5 (A44 (K:=K) rfl hr.units) (qpv 4) (C4 (A0 C8 (A0 C8 (A0 C8 (A0 C8 A2))))) (by with_unfolding_all rfl)) (K1 (J9 (F2 (B7 (G6 (K:=K) rfl) (by rfl) T.z_isinstance (by rfl) (A0 (qpv 5) (A0 (J6 (v:=.ty "int") rfl T.z_int (by rfl) rfl) A2))))) (K3 (F2 (B7 (G6 (K:=K) rfl) (by rfl) T.z_isinstance (by rfl) (A0 (qpv 5) (A0 (J6 (v:=.ty "bool") rfl T.z_bool (by rfl) rfl) A2))))))))
     (A8 (C0 G8))
     C6)
    (A4 (D0 (QW.pt (K1 (J9 (A6i B7t A06 A3 (qpv 5) (B7 (C7 (K:=K) rfl) (by rfl) T.z_len PySem.boot_len (A0 (A9 (A6 (K:=K) rfl) (qpv 0) (A9 (A6 (K:=K) rfl) (F3 (A0 A3 (A0 A3 (A0 A3 (A0 A3 A2))))) (K4 (K:=K) rfl PySem.F.plainAttrs_list PySem.F.slot_list_index PySem.F.type_list_index (A5b (K:=K) rfl hr.units) (F3 (A0 C8 (A0 C8 (A0 C8 (A0 C8 A2))))) (A0 (qpv 4) A2)) (fun _ _=>rfl)) (fun _ _=>rfl)) A2)))) (K3 (B5 (B5b (K:=K) rfl hr.units) (A9 (A6 (K:=K) rfl) (qpv 3) A3 (fun _ _=>rfl)) (qpv 2) (by with_unfolding_all rfl)))))
     (A8 (C0 G8))
     C6)
    (A4 (G5 (K4 (K:=K) rfl PySem.F.plainAttrs_list PySem.F.slot_list_append PySem.F.type_list_append G2 (qpv 2) (A0 (A9 (A6 (K:=K) rfl) (qpv 3) A3 (fun _ _=>rfl)) A2)))
    (A8 (D0 (QW.pt (K1 (J9 (F2 (A7 (S3 (K:=K) T) hr.mo rfl T.m_a3 T.F_a3.kp (W0 T) .nil B8 (A0 (A9 (A6 (K:=K) rfl) (qpv 3) A3 (fun _ _=>rfl)) A2)))) (K3 (B5 B7t (A9 (A6 (K:=K) rfl) (A9 (A6 (K:=K) rfl) (qpv 3) A3 (fun _ _=>rfl)) A3 (fun _ _=>rfl)) A3 (C2 _)))))
     (A8 (C0 G8))
     C6))))))))
   (A4 (F6 (A7 (A1b (K:=K) T) hr.mo rfl T.m_b0 T.F_b0.kp (A4o T) .nil B8 (A0 (qpv 0) (A0 (qpv 1) A2))) (D3 (K:=K) (n:=2) rfl rfl (B3 (B0 (i:=6) sc_a2.nd rfl (Or.inl rfl) (Or.inl rfl)) (B3 (B0 (i:=7) sc_a2.nd rfl (Or.inl rfl) (Or.inl rfl)) D2)) rfl rfl))
   (A8 (C0 (Z2 (L1 (D1 (K:=K) rfl hr.units) (qpv 6) (qpv 7) (C2 _)) (U7 (B7 (V8 (K:=K) rfl) (by rfl) T.z_all (by rfl) (A0 (N1 rfl (E8 (N':=["_law_amount_here"]) (cap:=[none]) rfl rfl rfl rfl (by decide +kernel) rfl rfl) (D9 (K:=K) rfl (qpv 6)) (fun _ _ _=>(B0 (i:=0) (show (["_law_amount_here"]:List Str).Nodup from by decide +kernel) rfl (Or.inl rfl) (Or.inr rfl))) (fun _ _ _=>G0) (fun _ _ _=>(L1 B7w (A9 (A6 (K:=K) rfl) (qpv 0) A3 (fun _ _=>rfl)) A3 (C2 _)))) A2))))))))))),?_⟩
 haveI:=T.c2_NOUGHT
 haveI:=T.c2_ONE
 refine Pu.J7 h ?_;rintro as Qp ⟨xs,ws,hs,gs,ts,W,s,w,rfl,ok,tl,rg,k⟩;have n0:=ok.n0;have n1:=ok.n1;have wl:=ok.wl;have hl:=ok.hl;have sn:=rg.sn;have en:netD xs ws hs gs=.tuple [.list (xs.map kD),.list (ws.map wD),.list (hs.map hD),.list gs]:=rfl;have el:rgL s w=(List.range s).map fun i=>rgA (w i):=rfl;rw [el];refine hd fun R hR=>?_;trivial;subst hR;refine hd fun R hR=>?_;trivial;subst hR;refine hd fun R hR=>?_;trivial;refine L0 (f:=fun i=>rgA (w i)) (xs:=List.range s) (fun i e=>∃ (o3 o4 o5:Option SV),e=[some (.d (netD xs ws hs gs)),some (.d (.list ((List.range s).map fun i=>rgA (w i)))),some (.own ((List.range i).map fun j=>qD (w j).2.2.2)),o3,o4,o5,none,none]) ⟨_,_,_,rfl⟩ ?_ ?_
 ·rintro i i' e hpi ⟨o3,o4,o5,rfl⟩;have hil:i < s:=by have:=(List.getElem?_eq_some_iff.mp hpi).1; rwa [List.length_range] at this
  have e':i'=i:=by rw [List.getElem?_range hil] at hpi; exact (Option.some.inj hpi).symm
  subst e';have new:∀ j,j < i'->(w j).2.2.2≠(w i').2.2.2:=fun j hj z=>by
   have hj':j < s:=by omega
   have:=B6c (rg.mem j hj') (rg.mem i' hil) z;have:=rg.dif i' j hil hj' this.symm;omega
  obtain ⟨c,m,ew,cs⟩:=A5n (rg.mem i' hil);have er:rgA (w i')=PyData.tuple [.tuple [.str c,.int (m:Int)],dq 1]:=by unfold rgA; rw [ew]; rfl
  rw [er,en];refine hd fun R hR=>?_;trivial;refine ite2 (fun _=>ite2 (fun _=>?_) (fun z=>absurd rfl z)) (fun z=>absurd rfl z);subst hR;refine hd fun R hR=>?_;trivial;subst hR;refine hd fun R hR=>?_;trivial;obtain ⟨j,t,zs,cl,ca,hidx,hat,hnt,hm⟩:∃ (j t:Nat) (zs:LP),(PyData.str c).canLay0=true/\([PyData.str "start",.str "end",.str "wait",.str "hold"].any fun z=>z.eqv (PyData.str c))=true/\[PyData.str "start",.str "end",.str "wait",.str "hold"].findIdx? (fun z=>z.eqv (PyData.str c))=some j/\L2.atI [PyData.int 0,.int 0,.int 1,.int 2] (j:Int)=some (.int (t:Int))/\L2.atI [PyData.list (xs.map kD),.list (ws.map wD),.list (hs.map hD),.list gs] (t:Int)=some (.list zs)/\m < zs.length:=by
   rcases cs with ⟨rfl,l,_⟩ | ⟨rfl,l,_⟩ | ⟨rfl,l,_⟩ | ⟨rfl,l,_⟩
   ·exact ⟨0,0,_,by decide +kernel,by decide +kernel,by decide +kernel,G4 rfl,G4 rfl,by rw [List.length_map]; omega⟩
   ·exact ⟨1,0,_,by decide +kernel,by decide +kernel,by decide +kernel,G4 rfl,G4 rfl,by rw [List.length_map]; omega⟩
   ·exact ⟨2,1,_,by decide +kernel,by decide +kernel,by decide +kernel,G4 rfl,G4 rfl,by rw [List.length_map]; exact l⟩
   ·exact ⟨3,2,_,by decide +kernel,by decide +kernel,by decide +kernel,G4 rfl,G4 rfl,by rw [List.length_map]; exact l⟩
  refine ⟨by decide +kernel,cl,ite2 (fun z=>absurd (ca.symm.trans z) (by decide)) (fun _=>?_)⟩;subst hR;refine hd fun R hR=>?_;generalize hX:A30 _ _ _ _ _=X;trivial;subst hX;refine B1b cl hidx hat hnt hm ?_;trivial;have nmn:∀ j,j < s->∃ (c:Str) (m:Nat),(w j).2.2.2=(c,(m:Int))/\(PyData.str c).canLay0=true:=fun j hj=>by
   obtain ⟨c,m,e,h⟩:=A5n (rg.mem j hj);refine ⟨c,m,e,?_⟩;rcases h with ⟨rfl,_⟩ | ⟨rfl,_⟩ | ⟨rfl,_⟩ | ⟨rfl,_⟩ <;> decide +kernel
  have ly:∀ {c:Str} {m:Int},(PyData.str c).canLay0=true->(PyData.tuple [PyData.str c,.int m]).canLay0=true:=fun h=>by
   show (_ && (_ && _))=true;rw [h]; rfl
  refine ⟨Z9 fun x hx=>?_,ly cl,Nat.le_of_ble_eq_true rfl,ite2 (fun z=>?_) (fun _=>?_)⟩
  ·obtain ⟨j,hj,rfl⟩:=List.mem_map.mp hx;obtain ⟨c,m,e,h⟩:=nmn j (by have:=List.mem_range.mp hj; omega);rw [e]; exact ly h
  ·exfalso;obtain ⟨x,hx,z⟩:=List.any_eq_true.mp z;obtain ⟨j,hj,rfl⟩:=List.mem_map.mp hx;have hj:=List.mem_range.mp hj;refine new j hj ?_;obtain ⟨c',m',e',_⟩:=nmn j (by omega);rw [e'] at z;have z:((PyData.str c').eqv (.str c) && ((PyData.int (m':Int)).eqv (.int (m:Int)) && true))=true:=z;rw [M1,V5,Bool.and_eq_true,Bool.and_eq_true] at z;rw [ew,e',of_decide_eq_true z.1,of_decide_eq_true z.2.1]
  subst hR;refine hd fun R hR=>?_;trivial;refine ⟨by rw [List.length_range]; omega,?_⟩;rw [show ((List.range i').map fun j=>qD (w j).2.2.2)++[PyData.tuple [.str c,.int (m:Int)]]=(List.range (i' + 1)).map fun j=>qD (w j).2.2.2 by rw [List.range_succ,List.map_append,show List.map (fun j=>qD (w j).2.2.2) [i']=[qD (w i').2.2.2] from rfl,ew]; rfl];subst hR;trivial;refine ⟨1,rfl,O8,?_⟩;trivial;exact ite2 (fun z=>absurd z (by decide)) (fun _=>⟨_,_,_,rfl⟩)
 rintro e ⟨o3,o4,o5,rfl⟩;rw [List.length_range];subst hR;dsimp only;refine hd fun R hR=>?_;trivial;refine ⟨xs,ws,hs,gs,ts,W,s,w,rfl,ok,tl,by omega,fun i hi=>rg.mem i hi,?_⟩;trivial;subst hR;rw [show (List.range xs.length).map (flG hs w s)=(List.range xs.length).map (flF hs w s) from R3 fun v _=>(rg.bal hs v).1];trivial;refine ⟨X8 _,X8 _,B3f _,?_⟩;rw [PySem.SeqAt.eqv_refl _ (X8 _),if_pos rfl];refine ⟨by rw [List.length_range]; omega,J8 (f:=dq) (xs:=(List.range xs.length).map (flF hs w s)) (fun i e ys=>∃ o1:Option SV,e=[o1]/\ys=(((List.range xs.length).map (flF hs w s)).take i).map fun q=>.bool (decide (0<=q.num))) ⟨_,rfl,rfl⟩ ?_ ?_⟩
 ·rintro i q e ys hi ⟨o1,rfl,rfl⟩;trivial;exact ⟨_,rfl,by rw [List.take_add_one,hi,List.map_append]; rfl⟩
 rintro e ys ⟨o1,rfl,rfl⟩;rw [List.take_length];trivial;refine ⟨_,A0h _ _,?_⟩;rw [show ((((List.range xs.length).map (flF hs w s)).map fun q=>decide (0<=q.num)).all id)=true by
  rw [List.all_eq_true];intro b hb;obtain ⟨q,hq,rfl⟩:=List.mem_map.mp hb;obtain ⟨v,_,rfl⟩:=List.mem_map.mp hq;exact decide_eq_true (Rat.num_nonneg.mpr (rg.bal hs v).2)]
 exact k
def A40:Pu.PSp:=fun as Q=>∃ (xs:List Wk) (ws:LW) (hs:LH) (gs:LP) (ts:LQ) (W:Rat) (s:Nat) (w:Nat->Wy),as=[.d (netD xs ws hs gs),.bor (ts.map dq),.d (.list (rgL s w))]/\LN xs ws hs gs/\ts.length=xs.length/\(∀ t ∈ ts,O4 t)/\O4 W/\Rgn (J1 ts ws hs (some W)) ts.length s w/\∀ (r:Nat) (q:Rat),r<=11->SmQ 3900 q->(r:Rat) * W < q->Q (.d (.tuple [dq (r:Rat),dq q]))
theorem A48 (T:Txt K mg D):FnOk P w K mg base CX0 4 D.a_ab D.d_ab ["_law_net","_law_times_here","_law_paper"] (Pu.spOf K [.dat,.vw,.dat] A40):=by
 refine T.F_ab.ok sc_ab (Pu.spOf.len rfl) (fun cdv A outer s H vs Q E hr h=>?_);refine ⟨_,(QSs.out (A4 (B6 (i:=3) sc_ab.nd rfl (Or.inl rfl) (C4 (A0 A3 (A0 A3 A2))))
   (A4 (B6 (i:=4) sc_ab.nd rfl (Or.inl rfl) (C4 (A0 A3 (A0 A3 A2))))
   (A4 (E9 PassesOwn.never rfl (D9 (K:=K) rfl (qpv 2)) (D3 (K:=K) (n:=2) rfl rfl (B3 (D3 (K:=K) (n:=2) rfl rfl (B3 (B0 (i:=5) sc_ab.nd rfl (Or.inl rfl) (Or.inl rfl)) (B3 (B0 (i:=6) sc_ab.nd rfl (Or.inl rfl) (Or.inl rfl)) D2)) rfl rfl) (B3 (B0 (i:=7) sc_ab.nd rfl (Or.inl rfl) (Or.inl rfl)) D2)) rfl rfl)
    (A8 (D0 (B5 (D1 (K:=K) rfl hr.units) (qpv 5) C8 (C2 _))
     (A8 (B6 (i:=3) sc_ab.nd rfl (Or.inl rfl) (A7 (D6 (K:=K) T) hr.mo rfl T.m_bf T.F_bf.kp (F4 T) .nil B8 (A0 (qpv 3) (A0 (qpv 7) A2)))))
     (A8 (D0 (B5 (D1 (K:=K) rfl hr.units) (qpv 5) C8 (C2 _))
      (A8 (B6 (i:=4) sc_ab.nd rfl (Or.inl rfl) (A7 (D6 (K:=K) T) hr.mo rfl T.m_bf T.F_bf.kp (F4 T) .nil B8 (A0 (qpv 4) (A0 (A7 (M9 (K:=K) T) hr.mo rfl T.m_b8 T.F_b8.kp (O6 T) .nil B8 (A0 (qpv 7) (A0 (A9 (A6 (K:=K) rfl) (A9 (A6 (K:=K) rfl) (A9 (A6 (K:=K) rfl) (qpv 0) A3 (fun _ _=>rfl)) (qpv 6) (fun _ _=>rfl)) A3 (fun _ _=>rfl)) A2))) A2)))))
      (A8 (D0 (QW.pt (J2 (B5 (D1 (K:=K) rfl hr.units) (qpv 5) C8 (C2 _)) (J5 (B5 (D1 (K:=K) rfl hr.units) (A9 (A6 (K:=K) rfl) (A9 (A6 (K:=K) rfl) (A9 (A6 (K:=K) rfl) (qpv 0) A3 (fun _ _=>rfl)) (qpv 6) (fun _ _=>rfl)) A3 (fun _ _=>rfl)) C8 (C2 _)))))
       (A8 (B6 (i:=4) sc_ab.nd rfl (Or.inl rfl) (A7 (D6 (K:=K) T) hr.mo rfl T.m_bf T.F_bf.kp (F4 T) .nil B8 (A0 (qpv 4) (A0 (A7 (M9 (K:=K) T) hr.mo rfl T.m_b8 T.F_b8.kp (O6 T) .nil B8 (A0 (qpv 7) (A0 (A9 (A6 (K:=K) rfl) (A9 (A6 (K:=K) rfl) (A9 (A6 (K:=K) rfl) (qpv 0) A3 (fun _ _=>rfl)) (qpv 6) (fun _ _=>rfl)) A3 (fun _ _=>rfl)) A2))) A2)))))
       (A8 (D0 (B5 (D1 (K:=K) rfl hr.units) (qpv 5) C8 (C2 _))
        (A8 (B6 (i:=4) sc_ab.nd rfl (Or.inl rfl) (A7 (K6 (K:=K) T) hr.mo rfl T.m_b3 T.F_b3.kp (M2 T) .nil B8 (A0 (qpv 4) (A0 (A7 (M9 (K:=K) T) hr.mo rfl T.m_b8 T.F_b8.kp (O6 T) .nil B8 (A0 (qpv 7) (A0 (A9 (A6 (K:=K) rfl) (A9 (A6 (K:=K) rfl) (A9 (A6 (K:=K) rfl) (qpv 0) A3 (fun _ _=>rfl)) (qpv 6) (fun _ _=>rfl)) A3 (fun _ _=>rfl)) A2))) A2)))))
        C6)))))))))
   (A4 (B6 (i:=8) sc_ab.nd rfl (Or.inl rfl) (A9 (A6 (K:=K) rfl) (A7 (A1b (K:=K) T) hr.mo rfl T.m_b0 T.F_b0.kp (A4o T) .nil B8 (A0 (qpv 0) (A0 (qpv 2) A2))) A3 (fun _ _=>rfl)))
   (A4 (E9 PassesOwn.never rfl (F9 rfl T.z_range (A0 (B7 (C7 (K:=K) rfl) (by rfl) T.z_len PySem.boot_len (A0 (qpv 1) A2)) A2)) (B0 (i:=9) sc_ab.nd rfl (Or.inl rfl) (Or.inl rfl))
    (A8 (B6 (i:=4) sc_ab.nd rfl (Or.inl rfl) (A7 (D6 (K:=K) T) hr.mo rfl T.m_bf T.F_bf.kp (F4 T) .nil B8 (A0 (qpv 4) (A0 (A7 (M9 (K:=K) T) hr.mo rfl T.m_b8 T.F_b8.kp (O6 T) .nil B8 (A0 (A9 (A6 (K:=K) rfl) (qpv 8) (qpv 9) (fun _ _=>rfl)) (A0 (A9 (A6 (K:=K) rfl) (qpv 1) (qpv 9) (fun _ _=>rfl)) A2))) A2))))))
   (A8 (C0 (C4 (A0 (qpv 3) (A0 (qpv 4) A2))))))))))),?_⟩
 haveI:=T.c2_NOUGHT
 haveI:=T.c2_ONE
 refine Pu.J7 h ?_;rintro as Qp ⟨xs,ws,hs,gs,ts,W,s,w,rfl,ok,tl,ht,oW,rg,k⟩;have n0:=ok.n0;have n1:=ok.n1;have wl:=ok.wl;have hl:=ok.hl;have sn:=rg.sn;have B4:0 < LL * 4:=by decide
 have B9:LL * 4<=2 ^ 1000:=O2 A26 (by decide);have en:netD xs ws hs gs=.tuple [.list (xs.map kD),.list (ws.map wD),.list (hs.map hD),.list gs]:=rfl;have el:rgL s w=(List.range s).map fun i=>rgA (w i):=rfl;have sA:∀ {i:Nat} {A:Rat},i < s->On (LL * 4) (i * 2 ^ 58) A->SmQ 3900 A:=fun hi h=>onQ h B4 B9 (Nat.le_trans (Nat.mul_le_mul_right _ (show _<=64 by omega)) (by decide));have mA:∀ {q:Rat},O4 q->O4 (1 * q):=fun h=>by rw [Rat.one_mul]; exact h
 have up:∀ {i:Nat} {A q:Rat},On (LL * 4) (i * 2 ^ 58) A->O4 q->On (LL * 4) ((i + 1) * 2 ^ 58) (A + 1 * q):=fun h g=>(h.add B4 (mA g)).mono (by rw [Nat.add_mul,Nat.one_mul]; exact Nat.le_refl _);have dn:∀ {i:Nat} {A q:Rat},On (LL * 4) (i * 2 ^ 58) A->O4 q->On (LL * 4) ((i + 1) * 2 ^ 58) (A - 1 * q):=fun h g=>(h.sub B4 (mA g)).mono (by rw [Nat.add_mul,Nat.one_mul]; exact Nat.le_refl _);refine hd fun R hR=>?_;trivial;subst hR;refine hd fun R hR=>?_;trivial;subst hR;rw [el];refine hd fun R hR=>?_;trivial;refine L0 (f:=fun i=>rgA (w i)) (xs:=List.range s) (fun i e=>∃ (A:Rat) (o5 o6 o7:Option SV),e=[some (.d (netD xs ws hs gs)),some (.bor (ts.map dq)),some (.d (.list ((List.range s).map fun i=>rgA (w i)))),some (.d (dq (cE w i:Rat))),some (.d (dq A)),o5,o6,o7,none,none]/\A=My.S ((List.range i).map fun i=>(w i).2.2.1 - tpW hs ts (w i)) + W * (cE w i:Rat)/\On (LL * 4) (i * 2 ^ 58) A) ⟨0,_,_,_,rfl,by show (0:Rat)=0 + W * ((0:Nat):Rat); rw [show ((0:Nat):Rat)=0 from rfl,Rat.mul_zero,Rat.add_zero],On.zero.mono (Nat.zero_le _)⟩ ?_ ?_
 ·rintro i i' e hpi ⟨A,o5,o6,o7,rfl,eA,oA⟩;have hil:i < s:=by have:=(List.getElem?_eq_some_iff.mp hpi).1; rwa [List.length_range] at this
  have e':i'=i:=by rw [List.getElem?_range hil] at hpi; exact (Option.some.inj hpi).symm
  subst e';have mw:=rg.mem i' hil;have C1:cE w (i' + 1)=cE w i' + (if (w i').2.2.2.1="end" then 1 else 0):=rfl;have fA:cE w (i' + 1)=cE w i'->My.S ((List.range (i' + 1)).map fun i=>(w i).2.2.1 - tpW hs ts (w i)) + W * (cE w (i' + 1):Rat)=A + ((w i').2.2.1 - tpW hs ts (w i')):=fun h=>by rw [h,B3o,eA]; grind
  have fE:cE w (i' + 1)=cE w i' + 1->My.S ((List.range (i' + 1)).map fun i=>(w i).2.2.1 - tpW hs ts (w i)) + W * (cE w (i' + 1):Rat)=A + ((w i').2.2.1 - tpW hs ts (w i')) + W:=fun h=>by rw [h,B3o,eA,Rat.natCast_add]; show _ + W * (_ + 1)=_; grind
  have oA1:On (LL * 4) ((i' + 1) * 2 ^ 58) A:=oA.mono (Nat.mul_le_mul_right _ (by omega));generalize hy:w i'=y at mw C1 fA fE ⊢;rcases S7 mw with ⟨j,hj,rfl⟩ | ⟨j,hj,rfl⟩ | ⟨m,⟨a,b,q⟩,ez,rfl⟩ | ⟨m,z,ez,rfl⟩
  ·have c0:cE w (i' + 1)=cE w i':=C1.trans (by rw [if_neg (show ¬ (Str.ofString "start"=Str.ofString "end") by decide +kernel),Nat.add_zero]);have A1:=fA c0;have tn:tpW hs ts (ts.length,j,(0:Rat),(("start":Str),(j:Int)))=0:=by
    unfold tpW; rw [A4t (by decide +kernel),if_neg (by decide),if_neg (by show ¬ ts.length < ts.length; omega)]
   rw [show rgA (ts.length,j,(0:Rat),(("start":Str),(j:Int)))=PyData.tuple [.tuple [.str "start",.int (j:Int)],dq 1] from rfl];trivial;refine ⟨by decide +kernel,by decide +kernel,ite2 (fun h=>absurd h (by decide +kernel)) (fun _=>⟨by decide +kernel,by decide +kernel,ite2 (fun h=>absurd h (by decide +kernel)) (fun _=>⟨by decide +kernel,by decide +kernel,ite2 (fun h=>absurd h (by decide +kernel)) (fun _=>⟨by decide +kernel,by decide +kernel,ite2 (fun h=>absurd h (by decide +kernel)) (fun _=>?_)⟩)⟩)⟩)⟩;exact ⟨A,_,_,_,by rw [c0],by rw [A1,tn]; show A=A + ((0:Rat) - 0); grind,oA1⟩
  ·have c1:cE w (i' + 1)=cE w i' + 1:=C1.trans (by rw [if_pos rfl]);have A1:=fE c1;have tn:tpW hs ts (j,ts.length,rat ts (j:Int) - W,(("end":Str),(j:Int)))=rat ts (j:Int):=by
    unfold tpW; rw [A4t (by decide +kernel),if_neg (by decide),if_pos (by show j < _; omega)]
   rw [show rgA (j,ts.length,rat ts (j:Int) - W,(("end":Str),(j:Int)))=PyData.tuple [.tuple [.str "end",.int (j:Int)],dq 1] from rfl];trivial;refine ⟨by decide +kernel,by decide +kernel,?_⟩;refine ⟨_,_,rfl,smE (by have:=B52 (w:=w) i'; omega),O8,?_⟩;trivial;exact ⟨A,_,_,_,by rw [c1,Rat.natCast_add]; rfl,by rw [A1,tn]; show A=A + (rat ts (j:Int) - W - rat ts (j:Int)) + W; grind,oA1⟩
  ·have c0:cE w (i' + 1)=cE w i':=C1.trans (by rw [if_neg (show ¬ (Str.ofString "wait"=Str.ofString "end") by decide +kernel),Nat.add_zero]);have A1:=fA c0;obtain ⟨⟨a0,a1⟩,_,oq⟩:=ok.w _ (List.mem_of_getElem? ez);obtain ⟨a,rfl⟩:=Int.eq_ofNat_of_zero_le (show 0<=a from a0);have a1:a < ts.length:=by have:(a:Int) < (xs.length:Int):=a1; omega
   have oq:O4 q:=oq;have tn:tpW hs ts ((a:Int).toNat,b.toNat,rat ts (a:Int) + q,(("wait":Str),(m:Int)))=rat ts (a:Int):=by
    unfold tpW; rw [A4t (by decide +kernel),if_neg (by decide),if_pos (by show (a:Int).toNat < _; omega)]; rfl
   rw [show rgA ((a:Int).toNat,b.toNat,rat ts (a:Int) + q,(("wait":Str),(m:Int)))=PyData.tuple [.tuple [.str "wait",.int (m:Int)],dq 1] from rfl,en];trivial;refine ⟨by decide +kernel,by decide +kernel,ite2 (fun h=>absurd h (by decide +kernel)) (fun _=>⟨by decide +kernel,by decide +kernel,?_⟩)⟩;refine C3 ez ?_;rw [show wD ((a:Int),b,q)=PyData.tuple [.int (a:Int),.int b,dq q] from rfl];trivial;refine ⟨_,_,rfl,O8,oq.q,?_⟩;trivial;refine ⟨_,_,rfl,sA hil oA,(mA oq).q,?_⟩;trivial;exact ⟨A + 1 * q,_,_,_,by rw [c0],by rw [A1,tn]; show A + 1 * q=A + (rat ts (a:Int) + q - rat ts (a:Int)); grind,up oA oq⟩
  ·have c0:cE w (i' + 1)=cE w i':=C1.trans (by rw [B8w,if_neg (show ¬ (Str.ofString "hold"=Str.ofString "end") by decide +kernel),Nat.add_zero]);have A1:=fA c0;have er:rgA (hoO ts z m)=PyData.tuple [.tuple [.str "hold",.int (m:Int)],dq 1]:=by
    unfold hoO rgA;split
    ·rfl
    ·split <;> rfl
   rw [er,en];obtain ⟨hk,⟨o0,o1⟩,oq⟩:=ok.h _ (List.mem_of_getElem? ez);obtain ⟨kd,o,mo⟩:=z;obtain ⟨o,rfl⟩:=Int.eq_ofNat_of_zero_le (show 0<=o from o0);have o1:o < ts.length:=by have:(o:Int) < (xs.length:Int):=o1; omega
   have oq:O4 mo:=oq;have hk:kd="from"\/kd="till"\/kd="by":=hk;have ed:hD (kd,(o:Int),mo)=PyData.tuple [.str kd,.int (o:Int),dq mo]:=rfl;trivial;refine ⟨by decide +kernel,by decide +kernel,ite2 (fun h=>absurd h (by decide +kernel)) (fun _=>⟨by decide +kernel,by decide +kernel,ite2 (fun h=>absurd h (by decide +kernel)) (fun _=>⟨by decide +kernel,by decide +kernel,?_⟩)⟩)⟩;refine C3 ez ?_;rw [ed];trivial;refine ⟨Hk.lay hk,by decide +kernel,ite2 (fun hb=>?_) (fun hb=>?_)⟩
   ·have kb:kd="from":=by rw [M1] at hb; exact of_decide_eq_true hb
    subst kb;have ey:hoO ts (Str.ofString "from",(o:Int),mo) m=(ts.length,o,mo,(("hold":Str),(m:Int))):=if_pos rfl;have tn:tpW hs ts (ts.length,o,mo,(("hold":Str),(m:Int)))=0:=by
     unfold tpW;rw [A4u ez,show decide ((Str.ofString "from",(o:Int),mo).1="till")=false from decide_eq_false (show ¬ (Str.ofString "from"=Str.ofString "till") by decide +kernel),if_neg (by decide),if_neg (by show ¬ ts.length < ts.length; omega)]
    rw [ey,tn] at A1;refine C3 ez ?_;rw [ed];trivial;refine ⟨_,_,rfl,O8,oq.q,?_⟩;trivial;refine ⟨_,_,rfl,sA hil oA,(mA oq).q,?_⟩;trivial;exact ⟨A + 1 * mo,_,_,_,by rw [c0],by rw [A1]; show A + 1 * mo=A + (mo - 0); grind,up oA oq⟩
   ·have dif:(hoO ts (kd,(o:Int),mo) m).2.2.1 - tpW hs ts (hoO ts (kd,(o:Int),mo) m)=0 - mo:=by
     rcases hk with kb | kb | kb
     ·exact absurd (by rw [M1]; exact decide_eq_true kb) hb
     ·subst kb;have ey:hoO ts (Str.ofString "till",(o:Int),mo) m=(o,ts.length,0 - mo,(("hold":Str),(m:Int))):=(if_neg A8j).trans (if_pos rfl);have tn:tpW hs ts (o,ts.length,0 - mo,(("hold":Str),(m:Int)))=0:=by
       unfold tpW;rw [A4u ez,show decide ((Str.ofString "till",(o:Int),mo).1="till")=true from decide_eq_true rfl,if_pos rfl]
      rw [ey,tn]; show 0 - mo - 0=0 - mo; grind
     ·subst kb;have ey:hoO ts (Str.ofString "by",(o:Int),mo) m=(o,ts.length,rat ts (o:Int) - mo,(("hold":Str),(m:Int))):=(if_neg A8k).trans (if_neg A2s);have tn:tpW hs ts (o,ts.length,rat ts (o:Int) - mo,(("hold":Str),(m:Int)))=rat ts (o:Int):=by
       unfold tpW;rw [A4u ez,show decide ((Str.ofString "by",(o:Int),mo).1="till")=false from decide_eq_false A2s,if_neg (by decide),if_pos (by show o < _; omega)]
      rw [ey,tn]; show rat ts (o:Int) - mo - rat ts (o:Int)=0 - mo; grind
    rw [dif] at A1;refine ⟨by decide +kernel,by decide +kernel,?_⟩;refine C3 ez ?_;rw [ed];trivial;refine ⟨_,_,rfl,O8,oq.q,?_⟩;trivial;refine ⟨_,_,rfl,sA hil oA,(mA oq).q,?_⟩;trivial;exact ⟨A - 1 * mo,_,_,_,by rw [c0],by rw [A1]; show A - 1 * mo=A + (0 - mo); grind,dn oA oq⟩
 rintro e ⟨A,o5,o6,o7,rfl,eA,oA⟩;rw [List.length_range] at eA oA ⊢;subst hR;dsimp only;refine hd fun R hR=>?_;trivial;refine ⟨xs,ws,hs,gs,ts,W,s,w,rfl,ok,tl,by omega,fun i hi=>rg.mem i hi,?_⟩;trivial;subst hR;refine hd fun R hR=>?_;trivial;refine ⟨by omega,N4 (fun i e=>∃ (A':Rat) (o9:Option SV),e=[some (.d (netD xs ws hs gs)),some (.bor (ts.map dq)),some (.d (.list ((List.range s).map fun i=>rgA (w i)))),some (.d (dq (cE w s:Rat))),some (.d (dq A')),o5,o6,o7,some (.d (.list (((List.range xs.length).map (flF hs w s)).map dq))),o9]/\A'=A + sumV (fun v=>flF hs w s v * rat ts (v:Int)) i/\On (LL * 4) (s * 2 ^ 58 + i * 2 ^ 63) A') ⟨A,_,rfl,by show A=A + 0; grind,oA.mono (by omega)⟩ ?_ ?_⟩
 ·rintro i e hi ⟨A',o9,rfl,eA',oA'⟩;have hi:i < ts.length:=by omega
  obtain ⟨t,et⟩:∃ z,ts[i]?=some z:=⟨_,List.getElem?_eq_getElem hi⟩;have ot:=ht t (List.mem_of_getElem? et);obtain ⟨⟨z,ez,hz⟩,_⟩:=A0d (hs:=hs) (w:=w) s i;have of:On (LL * 4) (2 ^ 63) (flF hs w s i * t):=by
   have:=On.mul (U9 (B:=1) (k:=32) (n:=z) (by decide) (by omega)) ot;rw [Nat.one_mul,<- ez] at this;exact this.mono (by decide)
  trivial;refine C3 (f:=dq) (n:=i) (A2a (by omega)) ?_;trivial;refine C3 et ?_;trivial;refine ⟨_,_,rfl,(B8x (by omega)).1,ot.q,?_⟩;trivial;have h1:s * 2 ^ 58<=64 * 2 ^ 58:=Nat.mul_le_mul_right _ (by omega);have h2:i * 2 ^ 63<=64 * 2 ^ 63:=Nat.mul_le_mul_right _ (by omega);have h3:s * 2 ^ 58 + i * 2 ^ 63<=2 ^ 100:=Nat.le_trans (Nat.add_le_add h1 h2) (Nat.le_of_ble_eq_true rfl);refine ⟨_,_,rfl,onQ oA' B4 B9 (Nat.le_trans h3 (Nat.pow_le_pow_right (by decide) (by decide))),onQ of B4 B9 (Nat.pow_le_pow_right (by decide) (by decide)),?_⟩;trivial;exact ⟨_,_,rfl,by rw [L4,eA',show rat ts (i:Int)=t by unfold rat; rw [Int.toNat_natCast,List.getD_eq_getElem?_getD,et]; rfl]; grind,(oA'.add B4 of).mono (Nat.le_of_eq (by rw [Nat.add_mul i 1,Nat.one_mul,Nat.add_assoc]))⟩
 rintro e ⟨A',o9,rfl,eA',oA'⟩;subst hR;trivial;rw [Int.toNat_natCast] at eA';have h1:s * 2 ^ 58<=64 * 2 ^ 58:=Nat.mul_le_mul_right _ (by omega);have h2:ts.length * 2 ^ 63<=64 * 2 ^ 63:=Nat.mul_le_mul_right _ (by omega);have h3:s * 2 ^ 58 + ts.length * 2 ^ 63<=2 ^ 100:=Nat.le_trans (Nat.add_le_add h1 h2) (Nat.le_of_ble_eq_true rfl);rw [Int.toNat_natCast] at oA';exact k (cE w s) A' (by have:=B52 (w:=w) s; omega) (onQ oA' B4 B9 (Nat.le_trans h3 (Nat.pow_le_pow_right (by decide) (by decide)))) (by
  have:=rg.len (hs:=hs);rw [eA',eA];grind)
def A2i:Pu.PSp:=fun as Q=>∃ (xs:List Wk) (ws:LW) (hs:LH) (gs:LP) (ps:LR) (W:Rat),as=[.d (netD xs ws hs gs),.bor (ps.map dcn),.d (dq W)]/\PSz (LL * 4) 70 ws hs ps/\NOk (ps.map (·.2)) ws hs/\O4 W/\Fars (bkL (ps.map (·.2)) ws hs W) ps.length (farS (bkL (ps.map (·.2)) ws hs W) ps.length)/\(∀ v,v<=ps.length->fa (farS (bkL (ps.map (·.2)) ws hs W) ps.length) v=some (0 - pvS ps v))/\Q (.d (.bool true))
theorem A2r (T:Txt K mg D):FnOk P w K mg base CX0 3 D.a_a6 D.d_a6 ["_law_net","_law_plan","_law_whole_here"] (Pu.spOf K [.dat,.vw,.dat] A2i):=by
 refine T.F_a6.ok sc_a6 (Pu.spOf.len rfl) (fun cdv A outer s H vs Q E hr h=>?_);refine ⟨_,(QSs.out (A4 (G3 (i:=3) rfl sc_a6.nd rfl rfl (E8 (N':=["_law_start","_law_time"]) (cap:=[none,none]) rfl rfl rfl rfl (by decide +kernel) rfl rfl) (D9 (K:=K) rfl (qpv 1)) (fun _ _ _=>(D3 (K:=K) (n:=2) rfl rfl (B3 (B0 (i:=0) (show (["_law_start","_law_time"]:List Str).Nodup from by decide +kernel) rfl (Or.inl rfl) (Or.inr rfl)) (B3 (B0 (i:=1) (show (["_law_start","_law_time"]:List Str).Nodup from by decide +kernel) rfl (Or.inl rfl) (Or.inr rfl)) D2)) rfl rfl)) (fun _ _ _=>G0) (fun _ _ _=>(A7 (D6 (K:=K) T) hr.mo rfl T.m_bf T.F_bf.kp (F4 T) .nil B8 (A0 (qpv 0) (A0 (qpv 1) A2)))) rfl)
   (A4 (G3 (i:=4) rfl sc_a6.nd rfl rfl (E8 (N':=["_law_whole_here","_law_end"]) (cap:=[some 2,none]) rfl rfl rfl rfl (by decide +kernel) rfl rfl) (D9 (K:=K) rfl (qpv 3)) (fun _ _ _=>(B0 (i:=1) (show (["_law_whole_here","_law_end"]:List Str).Nodup from by decide +kernel) rfl (Or.inl rfl) (Or.inr rfl))) (fun _ _ _=>G0) (fun _ _ _=>(L1 (D1 (K:=K) rfl hr.units) (qpv 1) (qpv 0) (C2 _))) rfl)
   (A4 (E9 PassesOwn.never rfl (D9 (K:=K) rfl (A9 (A6 (K:=K) rfl) (qpv 0) A3 (fun _ _=>rfl))) (D3 (K:=K) (n:=3) rfl rfl (B3 (B0 (i:=5) sc_a6.nd rfl (Or.inl rfl) (Or.inl rfl)) (B3 (B0 (i:=6) sc_a6.nd rfl (Or.inl rfl) (Or.inl rfl)) (B3 (B0 (i:=7) sc_a6.nd rfl (Or.inl rfl) (Or.inl rfl)) D2))) rfl rfl)
    (A8 (D0 (QW.pt (K1 (QW.pt (J2 (B5 (D1 (K:=K) rfl hr.units) (qpv 5) C8 (C2 _)) (J5 (B5 (D1 (K:=K) rfl hr.units) (A9 (A6 (K:=K) rfl) (A9 (A6 (K:=K) rfl) (qpv 1) (qpv 6) (fun _ _=>rfl)) A3 (fun _ _=>rfl)) (qpv 7) (C2 _))))) (K3 (QW.pt (J2 (B5 (D1 (K:=K) rfl hr.units) (qpv 5) C8 (C2 _)) (J5 (B5 (D1 (K:=K) rfl hr.units) (A9 (A6 (K:=K) rfl) (qpv 3) (qpv 6) (fun _ _=>rfl)) (qpv 7) (C2 _))))))))
     (A8 (F6 G8 (M6 (qpv 4) (qpv 6) J0)))
     C6)))
   (A4 (E9 PassesOwn.never rfl (F9 rfl T.z_range (A0 (B7 (C7 (K:=K) rfl) (by rfl) T.z_len PySem.boot_len (A0 (qpv 1) A2)) A2)) (B0 (i:=8) sc_a6.nd rfl (Or.inl rfl) (Or.inl rfl))
    (A8 (E9 PassesOwn.never rfl (D9 (K:=K) rfl (A9 (A6 (K:=K) rfl) (qpv 0) A3 (fun _ _=>rfl))) (D3 (K:=K) (n:=3) rfl rfl (B3 (B0 (i:=9) sc_a6.nd rfl (Or.inl rfl) (Or.inl rfl)) (B3 (B0 (i:=10) sc_a6.nd rfl (Or.inl rfl) (Or.inl rfl)) (B3 (B0 (i:=11) sc_a6.nd rfl (Or.inl rfl) (Or.inl rfl)) D2))) rfl rfl)
     (A8 (D0 (QW.pt (J2 (F2 (A9 (A6 (K:=K) rfl) (qpv 4) (qpv 10) (fun _ _=>rfl))) (J5 (B5 (D1 (K:=K) rfl hr.units) (A9 (A6 (K:=K) rfl) (A9 (A6 (K:=K) rfl) (qpv 1) (qpv 10) (fun _ _=>rfl)) A3 (fun _ _=>rfl)) (A7 (D6 (K:=K) T) hr.mo rfl T.m_bf T.F_bf.kp (F4 T) .nil B8 (A0 (A9 (A6 (K:=K) rfl) (qpv 3) (qpv 9) (fun _ _=>rfl)) (A0 (qpv 11) A2))) (C2 _)))))
      (A8 (F6 G8 (M6 (qpv 4) (qpv 9) J0)))
      C6)))))
   (A8 (C0 (B7 (V8 (K:=K) rfl) (by rfl) T.z_all (by rfl) (A0 (qpv 4) A2))))))))),?_⟩
 haveI:=T.c2_NOUGHT
 haveI:=T.c2_ONE
 refine Pu.J7 h ?_;rintro as Qp ⟨xs,ws,hs,gs,ps,W,rfl,sz,nk,oW,fo,hF,k⟩;have ln:=sz.ln;have wl:=sz.wl;have hl:=sz.hl;have en:netD xs ws hs gs=.tuple [.list (xs.map kD),.list (ws.map wD),.list (hs.map hD),.list gs]:=rfl;rw [en];refine hd fun R hR=>?_;trivial;refine ⟨by omega,J8 (f:=dcn) (xs:=ps) (fun i e ys=>∃ o1 o2:Option SV,e=[o1,o2]/\ys=((ps.map enD).take i).map dq) ⟨_,_,rfl,rfl⟩ ?_ ?_⟩
 ·rintro i p e ys hi ⟨o1,o2,rfl,rfl⟩;obtain ⟨p1,p2⟩:=sz.p p (List.mem_of_getElem? hi);trivial;refine ⟨_,_,rfl,sz.sm p1 (by omega),sz.sm p2 (by omega),?_⟩;trivial;refine ⟨_,_,rfl,?_⟩;rw [List.take_add_one,List.getElem?_map,hi,List.map_append];rfl
 rintro e ys ⟨o1,o2,rfl,rfl⟩;rw [show (ps.map enD).take ps.length=ps.map enD from List.take_of_length_le (by rw [List.length_map]; exact Nat.le_refl _)];trivial;subst hR;refine hd fun R hR=>?_;trivial;refine ⟨by omega,J8 (f:=dq) (xs:=ps.map enD) (fun i e ys=>∃ o:Option SV,e=[some (.d (dq W)),o]/\ys=(((ps.map enD).take i).map fun q=>decide (q=W)).map PyData.bool) ⟨_,rfl,rfl⟩ ?_ ?_⟩
 ·rintro i q e ys hi ⟨o,rfl,rfl⟩;trivial;exact ⟨_,rfl,by rw [List.take_add_one,hi,List.map_append,List.map_append]; rfl⟩
 rintro e ys ⟨o,rfl,rfl⟩;rw [show (ps.map enD).take (ps.map enD).length=ps.map enD from List.take_length];trivial;subst hR;refine hd fun R hR=>?_;trivial;have pv:∀ {o:Nat},o < ps.length->(sat ps (o:Int)).1=pvS ps o:=fun h=>by rw [B0j (P1 h)]
 refine L0 (f:=hD) (xs:=hs) (fun i e=>∃ (b:List Bool) (o5 o6 o7:Option SV),e=[some (.d (.tuple [.list (xs.map kD),.list (ws.map wD),.list (hs.map hD),.list gs])),some (.bor (ps.map dcn)),some (.d (dq W)),some (.d (.list ((ps.map enD).map dq))),some (.own (b.map PyData.bool)),o5,o6,o7,none,none,none,none]/\b.length=ps.length/\(∀ v:Nat,v < ps.length->enD (sat ps (v:Int))=W->tru b v=true)/\∀ j h,j < i->hs[j]?=some h->(h.1="till"/\(sat ps h.2.1).1=h.2.2)\/(h.1="by"/\enD (sat ps h.2.1)=h.2.2)->tru b h.2.1.toNat=true) ⟨_,_,_,_,rfl,by rw [List.length_map,List.length_map],fun v hv e=>?_,fun j h hj=>absurd hj (Nat.not_lt_zero _)⟩ ?_ ?_
 ·unfold tru;rw [List.getElem?_map,List.getElem?_map,P1 hv];show decide (enD (sat ps (v:Int))=W)=true;exact decide_eq_true e
 ·rintro i h e hi ⟨b,o5,o6,o7,rfl,bl,b0,bh⟩;obtain ⟨hk,⟨h0,h1⟩,ho⟩:=sz.h h (List.mem_of_getElem? hi);obtain ⟨kd,o,m⟩:=h;obtain ⟨o,rfl⟩:=Int.eq_ofNat_of_zero_le (show 0<=o from h0);have o1:o < ps.length:=by have:(o:Int) < (ps.length:Int):=h1; omega
  have hk:Hk kd:=hk;have keep:∀ {c:List Bool},(∀ v,tru b v=true->tru c v=true)->((kd="till"/\(sat ps (o:Int)).1=m)\/(kd="by"/\enD (sat ps (o:Int))=m)->tru c o=true)->(∀ v:Nat,v < ps.length->enD (sat ps (v:Int))=W->tru c v=true)/\∀ j h,j < i + 1->hs[j]?=some h->(h.1="till"/\(sat ps h.2.1).1=h.2.2)\/(h.1="by"/\enD (sat ps h.2.1)=h.2.2)->tru c h.2.1.toNat=true:=fun up here=>⟨fun v hv e=>up v (b0 v hv e),fun j h hj hh e=>by
   by_cases ej:j=i
   ·rw [ej,hi] at hh; cases hh; exact here e
   ·exact up _ (bh j h (by omega) hh e)⟩
  rw [show hD (kd,(o:Int),m)=PyData.tuple [.str kd,.int (o:Int),dq m] from rfl];trivial;have ixb:ixN b.length (o:Int)=some o:=Q1 (o:=(o:Int)) (by omega) (by rw [bl]; omega);have ne:∀ {x:Str},¬ (PyData.str kd).eqv (PyData.str x)=true->kd≠x:=fun h e=>h (by rw [M1]; exact decide_eq_true e);obtain ⟨y1,y2⟩:=keep (c:=b.set o true) (fun v h=>A3d h) (fun _=>by rw [A17 (by omega),if_pos rfl]);refine ⟨hk.lay,by decide +kernel,ite2 (fun kt=>?_) (fun kt=>?_)⟩
  ·have et:kd="till":=by rw [M1] at kt; exact of_decide_eq_true kt
   subst et;refine C3 (P1 o1) ?_;trivial;refine ite2 (fun z=>⟨o,ixb,b.set o true,_,_,_,by rw [List.map_set],by rw [List.length_set]; exact bl,y1,y2⟩) (fun z=>⟨by decide +kernel,by decide +kernel,ite2 (fun h=>absurd h (by decide +kernel)) (fun _=>?_)⟩);obtain ⟨k1,k2⟩:=keep (c:=b) (fun v h=>h) (fun e=>by
    rcases e with ⟨_,e⟩ | ⟨e,_⟩
    ·exact absurd e z
    ·exact absurd e (show ¬ (Str.ofString "till"=Str.ofString "by") by decide +kernel))
   exact ⟨b,_,_,_,rfl,bl,k1,k2⟩
  ·refine ⟨hk.lay,by decide +kernel,ite2 (fun kb=>?_) (fun kb=>?_)⟩
   ·refine C3 (f:=dq) (xs:=ps.map enD) (n:=o) (by rw [List.getElem?_map,P1 o1]; rfl) ?_;trivial;refine ite2 (fun z=>⟨o,ixb,b.set o true,_,_,_,by rw [List.map_set],by rw [List.length_set]; exact bl,y1,y2⟩) (fun z=>?_);obtain ⟨k1,k2⟩:=keep (c:=b) (fun v h=>h) (fun e=>by
     rcases e with ⟨e,_⟩ | ⟨_,e⟩
     ·exact absurd e (ne kt)
     ·exact absurd e z)
    exact ⟨b,_,_,_,rfl,bl,k1,k2⟩
   ·obtain ⟨k1,k2⟩:=keep (c:=b) (fun v h=>h) (fun e=>by
     rcases e with ⟨e,_⟩ | ⟨e,_⟩
     ·exact absurd e (ne kt)
     ·exact absurd e (ne kb))
    exact ⟨b,_,_,_,rfl,bl,k1,k2⟩
 rintro e ⟨b,o5,o6,o7,rfl,bl,b0,bh⟩;subst hR;dsimp only;refine hd fun R hR=>?_;trivial;obtain ⟨tg,htg⟩:∃ tg:Int × Int × Rat->Bool,∀ w,tg w=decide ((sat ps w.1).1=enD (sat ps w.2.1) + w.2.2):=⟨_,fun _=>rfl⟩;obtain ⟨ws',ews⟩:∃ ws',ws'=ws.map fun w:Int × Int × Rat=>(w.2.1,w.1,w.2.2):=⟨_,rfl⟩;refine ⟨by omega,N4 (fun i e=>∃ (o8 o9 o10 o11:Option SV),e=[some (.d (.tuple [.list (xs.map kD),.list (ws.map wD),.list (hs.map hD),.list gs])),some (.bor (ps.map dcn)),some (.d (dq W)),some (.d (.list ((ps.map enD).map dq))),some (.own ((cN tg ws' b i).map PyData.bool)),o5,o6,o7,o8,o9,o10,o11]) ⟨_,_,_,_,rfl⟩ ?_ ?_⟩
 ·rintro i e hi ⟨o8,o9,o10,o11,rfl⟩;trivial;refine L0 (f:=wD) (xs:=ws) (fun j e=>∃ (o8 o9 o10 o11:Option SV),e=[some (.d (.tuple [.list (xs.map kD),.list (ws.map wD),.list (hs.map hD),.list gs])),some (.bor (ps.map dcn)),some (.d (dq W)),some (.d (.list ((ps.map enD).map dq))),some (.own ((cR tg (ws'.take j) (cN tg ws' b i)).map PyData.bool)),o5,o6,o7,o8,o9,o10,o11]) ⟨_,_,_,_,rfl⟩ ?_ ?_
  ·rintro j x e hj ⟨o8,o9,o10,o11,rfl⟩;obtain ⟨ha,hb,hq⟩:=sz.w x (List.mem_of_getElem? hj);have cj:cR tg (ws'.take (j + 1)) (cN tg ws' b i)=cS tg (cR tg (ws'.take j) (cN tg ws' b i)) (x.2.1,x.1,x.2.2):=by
    unfold cR; rw [List.take_add_one,ews,List.getElem?_map,hj,List.foldl_append]; rfl
   have cl:(cR tg (ws'.take j) (cN tg ws' b i)).length=ps.length:=by rw [cR_len,V9,bl]
   rw [cj];generalize cR tg (ws'.take j) (cN tg ws' b i)=c at cl ⊢;obtain ⟨a,o,q⟩:=x;obtain ⟨a,rfl⟩:=Int.eq_ofNat_of_zero_le (show 0<=a from ha.1);obtain ⟨o,rfl⟩:=Int.eq_ofNat_of_zero_le (show 0<=o from hb.1);have a1:a < ps.length:=by have:(a:Int) < (ps.length:Int):=ha.2; omega
   have o1:o < ps.length:=by have:(o:Int) < (ps.length:Int):=hb.2; omega
   have pa:=sz.pl ha.1 ha.2;rw [show wD ((a:Int),(o:Int),q)=PyData.tuple [.int (a:Int),.int (o:Int),dq q] from rfl];trivial;obtain ⟨co,eco⟩:∃ z,c[o]?=some z:=⟨_,List.getElem?_eq_getElem (by omega)⟩;have to:tru c (o:Int).toNat=co:=by unfold tru; rw [Int.toNat_natCast,eco]; rfl
   have tx:=htg ((o:Int),(a:Int),q);refine C3 (f:=PyData.bool) eco ?_;trivial;refine ite2 (fun z=>?_) (fun z=>?_)
   ·refine C3 (P1 o1) ?_;trivial;refine C3 (f:=dq) (xs:=ps.map enD) (n:=a) (by rw [List.getElem?_map,P1 a1]; rfl) ?_;trivial;refine ⟨_,_,rfl,pa.e,sz.sm hq (by omega),?_⟩;trivial;refine ite2 (fun y=>?_) (fun y=>?_)
    ·exact ⟨a,Q1 (o:=(a:Int)) (by omega) (by rw [cl]; omega),_,_,_,_,by rw [show cS tg c ((o:Int),(a:Int),q)=c.set a true from if_pos ⟨by rw [to]; exact z,by rw [tx]; exact decide_eq_true y⟩,List.map_set]⟩
    ·exact ⟨_,_,_,_,by rw [show cS tg c ((o:Int),(a:Int),q)=c from if_neg fun w=>y (by have:=w.2; rw [tx] at this; exact of_decide_eq_true this)]⟩
   ·exact ⟨_,_,_,_,by rw [show cS tg c ((o:Int),(a:Int),q)=c from if_neg fun w=>z (by have:=w.1; rw [to] at this; exact this)]⟩
  rintro e ⟨o8,o9,o10,o11,rfl⟩;exact ⟨_,_,_,_,by rw [show ws'.take ws.length=ws' from List.take_of_length_le (by rw [ews,List.length_map]; exact Nat.le_refl _)]; rfl⟩
 rintro e ⟨o8,o9,o10,o11,rfl⟩;rw [Int.toNat_natCast];subst hR;trivial;refine ⟨_,A0h id _,?_⟩;have all:=B9g (t:=tg) (ws:=ws') (b:=b) (fun w hw=>by
  rw [ews] at hw;obtain ⟨x,hx,rfl⟩:=List.mem_map.mp hw;have:=(sz.w x hx).1;show x.1.toNat < _;omega) fun c cl up cw v hv=>by
  rw [bl] at hv;refine A9o fo (fun w hw=>?_) hF (H:=fun v=>tru c v=true) (fun w hw ho hl e=>?_) v hv
  ·have:=B3m nk oW w hw;rw [List.length_map] at this;exact ⟨this.1,this.2.1⟩
  ·obtain ⟨x,hx,rfl⟩:=List.mem_map.mp hw;have hl:x.1 < ps.length:=hl;have e:0 - pvS ps x.1=0 - pvS ps x.2.1 + x.2.2.1:=e;have ho:x.2.1=ps.length\/tru c x.2.1=true:=ho;show tru c x.1=true;have enV:∀ {o:Nat},o < ps.length->enD (sat ps (o:Int))=pvS ps o + rat (ps.map (·.2)) (o:Int):=fun h=>by rw [Z0,<- pv h]; rfl
   rcases S7 hx with ⟨j,hj,rfl⟩ | ⟨j,hj,rfl⟩ | ⟨m,z,ez,rfl⟩ | ⟨m,z,ez,rfl⟩
   ·have:(ps.map (·.2)).length < ps.length:=hl;rw [List.length_map] at this; omega
   ·refine up j (b0 j hl ?_);have e:0 - pvS ps j=0 - pvS ps (ps.map (·.2)).length + (rat (ps.map (·.2)) (j:Int) - W):=e;rw [List.length_map,Q0] at e;rw [enV hl]; grind
   ·have zk:=sz.w z (List.mem_of_getElem? ez);have e:0 - pvS ps z.1.toNat=0 - pvS ps z.2.1.toNat + (rat (ps.map (·.2)) z.1 + z.2.2):=e;have ha:tru c z.2.1.toNat=true:=ho.resolve_left (by show ¬ z.2.1.toNat=_; omega);refine cw (z.2.1,z.1,z.2.2) (by rw [ews]; exact List.mem_map.mpr ⟨z,List.mem_of_getElem? ez,rfl⟩) ha ?_;rw [htg];refine decide_eq_true ?_;have p1:=enV (o:=z.1.toNat) (by omega);have p2:=pv (o:=z.2.1.toNat) (by omega);rw [show ((z.1.toNat:Nat):Int)=z.1 by omega] at p1;rw [show ((z.2.1.toNat:Nat):Int)=z.2.1 by omega] at p2;show (sat ps z.2.1).1=enD (sat ps z.1) + z.2.2;rw [p1,p2]; grind
   ·have zk:=sz.h z (List.mem_of_getElem? ez);have hm:=(List.getElem?_eq_some_iff.mp ez).1;have hk:z.1="from"\/z.1="till"\/z.1="by":=zk.1;have p2:=pv (o:=z.2.1.toNat) (by omega);have p1:=enV (o:=z.2.1.toNat) (by omega);rw [show ((z.2.1.toNat:Nat):Int)=z.2.1 by omega] at p2 p1;rcases hk with kf | kf | kf
    ·exfalso;rw [show (hoO (ps.map (·.2)) z m)=((ps.map (·.2)).length,z.2.1.toNat,z.2.2,(("hold":Str),(m:Int))) from if_pos kf] at hl;have:(ps.map (·.2)).length < ps.length:=hl;rw [List.length_map] at this; omega
    ·have ey:hoO (ps.map (·.2)) z m=(z.2.1.toNat,(ps.map (·.2)).length,0 - z.2.2,(("hold":Str),(m:Int))):=(if_neg (by rw [kf]; exact A8j)).trans (if_pos kf);rw [ey] at e ⊢;have e:0 - pvS ps z.2.1.toNat=0 - pvS ps (ps.map (·.2)).length + (0 - z.2.2):=e;rw [List.length_map,Q0] at e;exact up _ (bh m z hm ez (.inl ⟨kf,by rw [p2]; grind⟩))
    ·have ey:hoO (ps.map (·.2)) z m=(z.2.1.toNat,(ps.map (·.2)).length,rat (ps.map (·.2)) z.2.1 - z.2.2,(("hold":Str),(m:Int))):=(if_neg (by rw [kf]; exact A8k)).trans (if_neg (by rw [kf]; exact A2s));rw [ey] at e ⊢;have e:0 - pvS ps z.2.1.toNat=0 - pvS ps (ps.map (·.2)).length + (rat (ps.map (·.2)) z.2.1 - z.2.2):=e;rw [List.length_map,Q0] at e;exact up _ (bh m z hm ez (.inr ⟨kf,by rw [p1]; grind⟩))
 rw [bl] at all;rw [show ((cN tg ws' b ps.length).map id).all id=true by
  rw [List.map_id,List.all_eq_true];intro x hx;obtain ⟨j,hj,rfl⟩:=List.getElem_of_mem hx;have:=all j (by rw [V9,bl] at hj; exact hj);unfold tru at this;rw [List.getElem?_eq_getElem hj] at this;exact this]
 exact k
def A6u:Pu.PSp:=fun as Q=>∃ (xs:List Wk) (ws:LW) (hs:LH) (gs:LP) (ts:LQ) (W:Rat) (wd:Str) (ls:LP),as=[.d (netD xs ws hs gs),.d (.list (ts.map dq)),.d (dq W),.d (.tuple [.str wd,.list ls])]/\LN xs ws hs gs/\ts.length=xs.length/\NOk ts ws hs/\O4 W/\Tld ts ws hs W wd ls/\Q (.d (.bool true))
theorem A09 (T:Txt K mg D):FnOk P w K mg base CX0 5 D.a_b5 D.d_b5 ["_law_net","_law_times_here","_law_whole_here","_law_found"] (Pu.spOf K [.dat,.dat,.dat,.dat] A6u):=by
 refine T.F_b5.ok sc_b5 (Pu.spOf.len rfl) (fun cdv A outer s H vs Q E hr h=>?_);refine ⟨_,(QSs.out (A4 (D0 (QW.pt (K1 (J9 (F2 (B7 (G6 (K:=K) rfl) (by rfl) T.z_isinstance (by rfl) (A0 (qpv 3) (A0 (J6 (v:=.ty "tuple") rfl T.z_tuple (by rfl) rfl) A2))))) (K3 (B5 (K5 (K:=K) rfl hr.units) (B7 (C7 (K:=K) rfl) (by rfl) T.z_len PySem.boot_len (A0 (qpv 3) A2)) A3 (C2 _)))))
    (A8 (C0 G8))
    C6)
   (A4 (D0 (B5 (D1 (K:=K) rfl hr.units) (A9 (A6 (K:=K) rfl) (qpv 3) A3 (fun _ _=>rfl)) C8 (C2 _))
    (A4 (D0 (J9 (F2 (A7 (A1c (K:=K) T) hr.mo rfl T.m_a2 T.F_a2.kp (A24 T) .nil B8 (A0 (qpv 0) (A0 (A9 (A6 (K:=K) rfl) (qpv 3) A3 (fun _ _=>rfl)) A2)))))
     (A8 (C0 G8))
     C6)
    (A4 (F6 (A7 (A48 (K:=K) T) hr.mo rfl T.m_ab T.F_ab.kp (A95 T) .nil B8 (A0 (qpv 0) (A0 (qpv 1) (A0 (A9 (A6 (K:=K) rfl) (qpv 3) A3 (fun _ _=>rfl)) A2)))) (D3 (K:=K) (n:=2) rfl rfl (B3 (B0 (i:=4) sc_b5.nd rfl (Or.inl rfl) (Or.inl rfl)) (B3 (B0 (i:=5) sc_b5.nd rfl (Or.inl rfl) (Or.inl rfl)) D2)) rfl rfl))
    (A8 (C0 (A7 (N9 (K:=K) T) hr.mo rfl T.m_b9 T.F_b9.kp (P8 T) .nil B8 (A0 (A7 (M9 (K:=K) T) hr.mo rfl T.m_b8 T.F_b8.kp (O6 T) .nil B8 (A0 (qpv 4) (A0 (qpv 2) A2))) (A0 (qpv 5) A2)))))))
    C6)
   (A4 (D0 (J9 (F2 (A7 (A47 (K:=K) T) hr.mo rfl T.m_ac T.F_ac.kp (A94 T) .nil B8 (A0 (qpv 3) (A0 C8 (A0 (B7 (C7 (K:=K) rfl) (by rfl) T.z_len PySem.boot_len (A0 (qpv 1) A2)) A2))))))
    (A8 (C0 G8))
    C6)
   (A4 (G3 (i:=6) rfl sc_b5.nd rfl rfl (E8 (N':=["_law_times_here","_law_found","_law_i"]) (cap:=[some 1,some 3,none]) rfl rfl rfl rfl (by decide +kernel) rfl rfl) (F9 rfl T.z_range (A0 (B7 (C7 (K:=K) rfl) (by rfl) T.z_len PySem.boot_len (A0 (qpv 1) A2)) A2)) (fun _ _ _=>(B0 (i:=2) (show (["_law_times_here","_law_found","_law_i"]:List Str).Nodup from by decide +kernel) rfl (Or.inl rfl) (Or.inr rfl))) (fun _ _ _=>G0) (fun _ _ _=>(C4 (A0 (A9 (A6 (K:=K) rfl) (A9 (A6 (K:=K) rfl) (qpv 1) A3 (fun _ _=>rfl)) (qpv 2) (fun _ _=>rfl)) (A0 (A9 (A6 (K:=K) rfl) (qpv 0) (qpv 2) (fun _ _=>rfl)) A2)))) rfl)
   (A8 (C0 (Z2 (A7 (A72 (K:=K) T) hr.mo rfl T.m_b1 T.F_b1.kp (B1p T) .nil B8 (A0 (qpv 0) (A0 (qpv 6) (A0 (qpv 2) A2)))) (U7 (A7 (A2r (K:=K) T) hr.mo rfl T.m_a6 T.F_a6.kp (A5j T) .nil B8 (A0 (qpv 0) (A0 (qpv 6) (A0 (qpv 2) A2))))))))))))),?_⟩
 haveI:=T.c2_NOUGHT
 haveI:=T.c2_ONE
 refine Pu.J7 h ?_;rintro as Qp ⟨xs,ws,hs,gs,ts,W,wd,ls,rfl,ok,tl,nk,oW,hf,k⟩;have n1:=nk.n1;rcases hf with ⟨rfl,⟨s,w,rg,rfl⟩,_⟩ | ⟨rfl,_,_,fo,rfl⟩
 ·refine hd fun R hR=>?_;trivial;refine ite2 (fun _=>?_) (fun z=>absurd rfl z);subst hR;refine hd fun R hR=>?_;trivial;refine ⟨by decide +kernel,by decide +kernel,xs,ws,hs,gs,ts,W,s,w,rfl,ok,tl,rg,?_⟩;trivial;refine ⟨xs,ws,hs,gs,ts,W,s,w,rfl,ok,tl,nk.t,oW,rg,fun r q rl sq lt=>?_⟩;trivial;have or:On 1 16 (r:Rat):=U9 (n:=(r:Int)) (by decide) (by omega);refine ⟨_,_,rfl,smE (by omega),oW.q,?_⟩;trivial;have ow:On (LL * 4) (2 ^ 62) ((r:Rat) * W):=by
   have:=On.mul or oW;rw [Nat.one_mul] at this;exact this.mono (by decide)
  refine ⟨_,_,rfl,onQ ow (by decide) (O2 A26 (by decide)) (Nat.pow_le_pow_right (by decide) (by decide)),sq,?_⟩;rw [decide_eq_true lt];exact k
 ·refine hd fun R hR=>?_;trivial;refine ite2 (fun _=>?_) (fun z=>absurd rfl z);subst hR;refine hd fun R hR=>?_;trivial;refine ⟨by decide +kernel,by decide +kernel,ite2 (fun z=>absurd z (by decide +kernel)) (fun _=>?_)⟩;subst hR;have ll:=A0a fo;have sL:∀ {a:Nat} {q:Rat},On (LL * 4) (2 ^ a) q->a<=1000->SmQ 3900 q:=fun h g=>onB h (by decide) (O2 A26 (by decide)) g;have lsm:∀ q ∈ latS ts ws hs W,SmQ 3900 q:=fun q hq=>sL (A8v fo q hq) (by decide);obtain ⟨ps,eps⟩:∃ ps:LR,ps.map (·.2)=ts:=⟨ts.map fun t=>(0,t),by rw [List.map_map]; exact List.map_id _⟩;have pl:ps.length=ts.length:=by rw [<- eps,List.length_map]
  subst eps;rw [List.length_map] at ll tl n1;have rr:∀ i:Nat,i < ps.length->On (LL * 4) (2 ^ 70) (rat (latS (ps.map (·.2)) ws hs W) (i:Int)):=fun i hi=>A8v fo _ (U4 (by omega) (by omega));have dl:PSz (LL * 4) 70 ws hs (lpl ws hs ps W):=by
   refine ⟨by decide,O2 A26 (by decide),by decide,by rw [K9]; exact n1,nk.wl,nk.hl,fun p hp=>?_,fun w hw=>?_,fun h hh=>?_⟩
   ·obtain ⟨j,hj,e⟩:=List.getElem_of_mem hp;rw [K9] at hj;have:=A37 (ws:=ws) (hs:=hs) (W:=W) (P1 hj);rw [List.getElem?_eq_getElem (by rw [K9]; exact hj),e] at this;rw [Option.some.inj this];exact ⟨rr j hj,(nk.t _ (List.mem_map.mpr ⟨_,A6d (ps:=ps) (o:=(j:Int)) (by omega) (by omega),rfl⟩)).p2 (by decide)⟩
   ·have z:=nk.w w hw;rw [List.length_map] at z;rw [K9];exact ⟨z.1,z.2.1,z.2.2.p2 (by decide)⟩
   ·have z:=nk.h h hh;rw [List.length_map] at z;rw [K9];exact ⟨z.1,z.2.1,z.2.2.p2 (by decide)⟩
  have lk:=B5m fo (fun w h=>by have:=S8 nk (W:=some W) (fun _ e=>by cases e; exact oW) w h; rw [List.length_map] at this; exact ⟨this.1,this.2.1⟩);refine hd fun R hR=>?_;trivial;refine ⟨latS (ps.map (·.2)) ws hs W,by rw [ll]; try rfl,lsm,by rw [ll]; omega,?_⟩;trivial;subst hR;refine hd fun R hR=>?_;trivial;refine ⟨by omega,by rw [M0]; omega,T8 (fun i e ys=>∃ o:Option SV,e=[some (.d (.list ((ps.map (·.2)).map dq))),some (.d (.tuple [.str "starts",.list ((latS (ps.map (·.2)) ws hs W).map dq)])),o]/\ys=((lpl ws hs ps W).take i).map dcn) ⟨_,rfl,rfl⟩ ?_ ?_⟩
  ·rintro i e ys hi ⟨o,rfl,rfl⟩;have hil:i < ps.length:=by omega
   have i0:(0:Int)<=(i:Int):=by omega
   trivial;refine E6 (W9 i0 (by omega)) ?_;trivial;refine E6 (W9 i0 (by rw [List.length_map]; omega)) ?_;rw [Z0];trivial;refine ⟨_,rfl,?_⟩;rw [List.take_add_one,A37 (P1 hil),List.map_append];rfl
  rintro e ys ⟨o,rfl,rfl⟩;rw [show (lpl ws hs ps W).take (ps.length:Int).toNat=lpl ws hs ps W from List.take_of_length_le (by rw [K9]; omega)];trivial;subst hR;trivial;refine ⟨xs,ws,hs,gs,lpl ws hs ps W,some W,LL * 4,70,rfl,dl,(fun _ e=>by cases e; exact oW.p2 (by decide)),fun b hb=>?_⟩;rw [hb.mpr lk];trivial;have fl:Fars (bkL ((lpl ws hs ps W).map (·.2)) ws hs W) (lpl ws hs ps W).length (farS (bkL ((lpl ws hs ps W).map (·.2)) ws hs W) (lpl ws hs ps W).length):=by
   rw [Z7,K9];have:=fo;rw [List.length_map] at this;exact this
  refine ⟨xs,ws,hs,gs,lpl ws hs ps W,W,rfl,dl,by rw [Z7]; exact nk,oW,fl,fun v hv=>?_,k⟩;rw [K9] at hv;obtain ⟨a,ha,e⟩:=A8n fo hv;rw [Z7,K9,e,show (0:Rat) - (0 - a)=a by grind];rw [List.length_map] at ha;exact ha
def A6r:Pu.PSp:=fun as Q=>∃ (xs:List Wk) (ws:LW) (hs:LH) (gs:LP) (ts:LQ),as=[.d (netD xs ws hs gs),.bor (ts.map dq),.st]/\LN xs ws hs gs/\L5 ws hs/\ts.length=xs.length/\(∀ t ∈ ts,On (LL * 4) (2 ^ 50) t)/\∀ W,O4 W->Q (.d (dq W))
theorem A7w (T:Txt K mg D):FnOk P w K mg base CX0 3 D.a_ba D.d_ba ["_law_net","_law_times_here","_law_state"] (Pu.spOf K [.dat,.vw,.st] A6r):=by
 refine T.F_ba.ok sc_ba (Pu.spOf.len rfl) (fun cdv A outer s H vs Q E hr h=>?_);refine ⟨_,(QSs.out (A4 (B6 (i:=3) sc_ba.nd rfl (Or.inl rfl) (A7 (K2 (K:=K) T) hr.mo rfl T.m_aa T.F_aa.kp (L8 T) .nil B8 (A0 (qpv 2) (A0 G8 (A0 A3 A2)))))
   (A4 (B6 (i:=4) sc_ba.nd rfl (Or.inl rfl) (A7 (D4 (K:=K) T) hr.mo rfl T.m_c0 T.F_c0.kp (D7 T) .nil B8 (A0 (qpv 2) (A0 A3 A2))))
   (A4 (D0 (B5 (D1 (K:=K) rfl hr.units) (qpv 4) A3 (C2 _))
    (A8 (B6 (i:=3) sc_ba.nd rfl (Or.inl rfl) (A9 (A6 (K:=K) rfl) (F3 (A0 (C4 (A0 A3 (A0 A3 A2))) (A0 (A7 (K6 (K:=K) T) hr.mo rfl T.m_b3 T.F_b3.kp (M2 T) .nil B8 (A0 (C4 (A0 A3 (A0 A3 A2))) (A0 (qpv 3) A2))) A2))) (A7 (D4 (K:=K) T) hr.mo rfl T.m_c0 T.F_c0.kp (D7 T) .nil B8 (A0 (qpv 2) (A0 A3 A2))) (fun _ _=>rfl))))
    C6)
   (A4 (D0 (B5 R6 (qpv 4) A3 (C2 _))
    (A4 (E9 PassesOwn.never rfl (D9 (K:=K) rfl (C9 (A2n (K:=K) rfl) (qpv 1) (N1 rfl (E8 (N':=["_law_kind","_law_i","_law_moment"]) (cap:=[none,none,none]) rfl rfl rfl rfl (by decide +kernel) rfl rfl) (D9 (K:=K) rfl (A9 (A6 (K:=K) rfl) (qpv 0) A3 (fun _ _=>rfl))) (fun _ _ _=>(D3 (K:=K) (n:=3) rfl rfl (B3 (B0 (i:=0) (show (["_law_kind","_law_i","_law_moment"]:List Str).Nodup from by decide +kernel) rfl (Or.inl rfl) (Or.inr rfl)) (B3 (B0 (i:=1) (show (["_law_kind","_law_i","_law_moment"]:List Str).Nodup from by decide +kernel) rfl (Or.inl rfl) (Or.inr rfl)) (B3 (B0 (i:=2) (show (["_law_kind","_law_i","_law_moment"]:List Str).Nodup from by decide +kernel) rfl (Or.inl rfl) (Or.inr rfl)) D2))) rfl rfl)) (fun _ _ _=>(B0i (QW.pt (J2 (B5 (D1 (K:=K) rfl hr.units) (qpv 0) C8 (C2 _)) (J5 (B5 R6 (A9 (A6 (K:=K) rfl) (qpv 2) A3 (fun _ _=>rfl)) A3 (C2 _))))))) (fun _ _ _=>(qpv 2))))) (B0 (i:=5) sc_ba.nd rfl (Or.inl rfl) (Or.inl rfl))
     (A8 (B6 (i:=3) sc_ba.nd rfl (Or.inl rfl) (A7 (D6 (K:=K) T) hr.mo rfl T.m_bf T.F_bf.kp (F4 T) .nil B8 (A0 (qpv 3) (A0 (qpv 5) A2))))))
    (A8 (E9 PassesOwn.never rfl (D9 (K:=K) rfl (A9 (A6 (K:=K) rfl) (qpv 0) A3 (fun _ _=>rfl))) (D3 (K:=K) (n:=3) rfl rfl (B3 (B0 (i:=6) sc_ba.nd rfl (Or.inl rfl) (Or.inl rfl)) (B3 (B0 (i:=7) sc_ba.nd rfl (Or.inl rfl) (Or.inl rfl)) (B3 (B0 (i:=8) sc_ba.nd rfl (Or.inl rfl) (Or.inl rfl)) D2))) rfl rfl)
     (A8 (D0 (B5 R6 (A9 (A6 (K:=K) rfl) (qpv 8) A3 (fun _ _=>rfl)) A3 (C2 _))
      (A8 (B6 (i:=3) sc_ba.nd rfl (Or.inl rfl) (A7 (D6 (K:=K) T) hr.mo rfl T.m_bf T.F_bf.kp (F4 T) .nil B8 (A0 (qpv 3) (A0 (qpv 8) A2)))))
      C6)))))
    C6)
   (A8 (C0 (qpv 3)))))))),?_⟩
 haveI:=T.c2_NOUGHT
 haveI:=T.c2_ONE
 refine Pu.J7 h ?_;rintro as Qp ⟨xs,ws,hs,gs,ts,rfl,ok,l5,tl,ht,k⟩;have n1:=ok.n1;have wl:=ok.wl;have hl:=ok.hl;have B4:0 < LL * 4:=by decide
 have B9:LL * 4<=2 ^ 1000:=O2 A26 (by decide);have en:netD xs ws hs gs=.tuple [.list (xs.map kD),.list (ws.map wD),.list (hs.map hD),.list gs]:=rfl;rw [en];refine hd fun R hR=>?_;trivial;refine ⟨false,0,rfl,.inl rfl,fun q _ _ s1 _=>?_⟩;have oq:=P5 s1;trivial;subst hR;refine hd fun R hR=>?_;trivial;refine ⟨4,rfl,by decide,sm4 4,fun d d0 d2=>?_⟩;trivial;subst hR;refine Q9 (fun e=>∃ q:Rat,e=[some (.d (.tuple [.list (xs.map kD),.list (ws.map wD),.list (hs.map hD),.list gs])),some (.bor (ts.map dq)),some .st,some (.d (dq q)),some (.d (.int d)),none,none,none,none]/\On (LL * 4) (1 * 2 ^ 50) q) (fun R hR=>?_) ?_
 ·have o0:On (LL * 4) (1 * 2 ^ 50) q:=((oq.up (C:=4) (by decide)).p2 (b:=50) (by decide)).mono (by decide);trivial;refine ite2 (fun _=>?_) (fun _=>hR _ ⟨q,rfl,o0⟩);have om:On (LL * 4) (1 * 2 ^ 50) (0 - q):=((On.zero.mono (Nat.zero_le (2 ^ 41))).sub2 (b:=42) J4 oq (by decide) |>.up (C:=4) (by decide) |>.p2 (b:=50) (by decide)).mono (by decide);refine ⟨0,q,rfl,smq0,onL oq (by decide),?_⟩;trivial;refine ⟨2,rfl,by decide,sm4 2,fun b b0 b2=>?_⟩;trivial;have bb:b=0\/b=1:=by omega
  rcases bb with rfl | rfl
  ·exact E6 rfl (hR _ ⟨0,rfl,On.zero.mono (Nat.zero_le _)⟩)
  ·exact E6 rfl (hR _ ⟨0 - q,rfl,om⟩)
 rintro e ⟨q,rfl,oq⟩;refine Q9 (fun e=>∃ (q:Rat) (o5 o6 o7 o8:Option SV),e=[some (.d (.tuple [.list (xs.map kD),.list (ws.map wD),.list (hs.map hD),.list gs])),some (.bor (ts.map dq)),some .st,some (.d (dq q)),some (.d (.int d)),o5,o6,o7,o8]/\O4 q) (fun R hR=>?_) ?_
 ·refine hd2 fun S2 hS2=>?_;trivial;refine ite2 (fun _=>?_) (fun _=>hR _ ⟨q,_,_,_,_,rfl,oq.mono (by decide)⟩);refine ⟨by omega,J8 (f:=hD) (xs:=hs) (fun i e ys=>∃ (o1 o2 o3:Option SV) (ms:LQ),e=[o1,o2,o3]/\ys=ms.map dq/\ms.length<=i/\∀ m ∈ ms,O5 m) ⟨_,_,_,[],rfl,rfl,Nat.le_refl _,fun _ z=>nomatch z⟩ ?_ ?_⟩
  ·rintro i h e ys hi ⟨o1,o2,o3,ms,rfl,rfl,ml,om⟩;obtain ⟨hk,_⟩:=ok.h h (List.mem_of_getElem? hi);rw [show hD h=PyData.tuple [.str h.1,.int h.2.1,dq h.2.2] from rfl];trivial;refine ⟨hk.lay,by decide +kernel,ite2 (fun _=>ite2 (fun _=>?_) (fun _=>⟨_,_,_,ms,rfl,rfl,by omega,om⟩)) (fun _=>⟨_,_,_,ms,rfl,rfl,by omega,om⟩)⟩;exact ⟨_,_,_,ms++[h.2.2],rfl,by rw [List.map_append]; rfl,by rw [List.length_append]; exact Nat.succ_le_succ ml,fun m hm=>by
    rcases List.mem_append.mp hm with z | z
    ·exact om m z
    ·rw [List.mem_singleton.mp z]; exact l5.2 h (List.mem_of_getElem? hi)⟩
  rintro e ys ⟨o1,o2,o3,ms,rfl,rfl,ml,om⟩;trivial;rw [<- List.map_append];have step:∀ {i:Nat} {A q:Rat},On (LL * 4) ((1 + i) * 2 ^ 50) A->O5 q->On (LL * 4) ((1 + (i + 1)) * 2 ^ 50) (A + q):=fun h g=>(h.add B4 g).mono (Nat.le_of_eq (by rw [<- Nat.add_assoc,Nat.add_mul _ 1,Nat.one_mul]));have sA:∀ {i:Nat} {A:Rat},i<=100->On (LL * 4) ((1 + i) * 2 ^ 50) A->SmQ 3900 A:=fun hi h=>onQ h B4 B9 (Nat.le_trans (Nat.mul_le_mul_right _ (show _<=128 by omega)) (by decide));refine ⟨by omega,L0 (f:=dq) (xs:=ts++ms) (fun i e=>∃ (q:Rat) (o5:Option SV),e=[some (.d (.tuple [.list (xs.map kD),.list (ws.map wD),.list (hs.map hD),.list gs])),some (.bor (ts.map dq)),some .st,some (.d (dq q)),some (.d (.int d)),o5,none,none,none]/\On (LL * 4) ((1 + i) * 2 ^ 50) q) ⟨q,_,rfl,oq⟩ ?_ ?_⟩
  ·rintro i x e hi ⟨A,o5,rfl,oA⟩;have ox:O5 x:=by
    rcases List.mem_append.mp (List.mem_of_getElem? hi) with z | z
    ·exact ht x z
    ·exact om x z
   have hil:i < ts.length + ms.length:=by have:=(List.getElem?_eq_some_iff.mp hi).1; rwa [List.length_append] at this
   trivial;refine ⟨A,x,rfl,sA (by omega) oA,onQ ox B4 B9 (Nat.pow_le_pow_right (by decide) (by decide)),?_⟩;exact ⟨_,_,rfl,step oA ox⟩
  rintro e ⟨A,o5,rfl,oA⟩;rw [List.length_append] at oA;dsimp only;subst hS2;trivial;refine L0 (f:=wD) (xs:=ws) (fun i e=>∃ (q:Rat) (o6 o7 o8:Option SV),e=[some (.d (.tuple [.list (xs.map kD),.list (ws.map wD),.list (hs.map hD),.list gs])),some (.bor (ts.map dq)),some .st,some (.d (dq q)),some (.d (.int d)),o5,o6,o7,o8]/\On (LL * 4) ((1 + (ts.length + ms.length + i)) * 2 ^ 50) q) ⟨A,_,_,_,rfl,oA⟩ ?_ ?_
  ·rintro i x e hi ⟨A,o6,o7,o8,rfl,oA⟩;have hil:=(List.getElem?_eq_some_iff.mp hi).1;have ox:O5 x.2.2:=l5.1 x (List.mem_of_getElem? hi);rw [show wD x=PyData.tuple [.int x.1,.int x.2.1,dq x.2.2] from rfl];trivial;refine ite2 (fun _=>?_) (fun _=>⟨A,_,_,_,rfl,oA.mono (Nat.mul_le_mul_right _ (by omega))⟩);refine ⟨A,x.2.2,rfl,sA (by omega) oA,onQ ox B4 B9 (Nat.pow_le_pow_right (by decide) (by decide)),?_⟩;exact ⟨_,_,_,_,rfl,step oA ox⟩
  rintro e ⟨A,o6,o7,o8,rfl,oA⟩;exact hR _ ⟨A,_,_,_,_,rfl,oA.mono (Nat.le_trans (Nat.mul_le_mul_right _ (show _<=128 by omega)) (by decide))⟩
 rintro e ⟨q,o5,o6,o7,o8,rfl,oq⟩;trivial;exact k q oq
def A2h:Pu.PSp:=fun as Q=>∃ (xs:List Wk) (ws:LW) (hs:LH),as=[.d (netD xs ws hs []),.st]/\LN xs ws hs []/\∀ gs,LN xs ws hs gs->Q (.d (netD xs ws hs gs))
theorem A2q (T:Txt K mg D):FnOk P w K mg base CX0 2 D.a_a7 D.d_a7 ["_law_net","_law_state"] (Pu.spOf K [.dat,.st] A2h):=by
 refine T.F_a7.ok sc_a7 (Pu.spOf.len rfl) (fun cdv A outer s H vs Q E hr h=>?_);refine ⟨_,(QSs.out (A4 (B6 (i:=2) sc_a7.nd rfl (Or.inl rfl) (A9 (A6 (K:=K) rfl) (qpv 0) A3 (fun _ _=>rfl)))
   (A4 (D0 (QW.pt (J2 (B5 R6 (B7 (C7 (K:=K) rfl) (by rfl) T.z_len PySem.boot_len (A0 (qpv 2) A2)) A3 (C2 _)) (J2 (B5 (D1 (K:=K) rfl hr.units) (A9 (A6 (K:=K) rfl) (A9 (A6 (K:=K) rfl) (A9 (A6 (K:=K) rfl) (qpv 2) A3 (fun _ _=>rfl)) A3 (fun _ _=>rfl)) A3 (fun _ _=>rfl)) C8 (C2 _)) (J2 (B5 (D1 (K:=K) rfl hr.units) (A9 (A6 (K:=K) rfl) (A9 (A6 (K:=K) rfl) (A9 (A6 (K:=K) rfl) (qpv 2) A3 (fun _ _=>rfl)) A3 (fun _ _=>rfl)) A3 (fun _ _=>rfl)) C8 (C2 _)) (J5 (B5 (D1 (K:=K) rfl hr.units) (A7 (D4 (K:=K) T) hr.mo rfl T.m_c0 T.F_c0.kp (D7 T) .nil B8 (A0 (qpv 1) (A0 A3 A2))) A3 (C2 _)))))))
    (A8 (D0 (B5 (D1 (K:=K) rfl hr.units) (B7 (C7 (K:=K) rfl) (by rfl) T.z_len PySem.boot_len (A0 (A9 (A6 (K:=K) rfl) (A9 (A6 (K:=K) rfl) (A9 (A6 (K:=K) rfl) (qpv 2) A3 (fun _ _=>rfl)) A3 (fun _ _=>rfl)) A3 (fun _ _=>rfl)) A2)) (B7 (C7 (K:=K) rfl) (by rfl) T.z_len PySem.boot_len (A0 (A9 (A6 (K:=K) rfl) (A9 (A6 (K:=K) rfl) (A9 (A6 (K:=K) rfl) (qpv 2) A3 (fun _ _=>rfl)) A3 (fun _ _=>rfl)) A3 (fun _ _=>rfl)) A2)) (C2 _))
     (A8 (C0 (C4 (A0 (A9 (A6 (K:=K) rfl) (qpv 0) A3 (fun _ _=>rfl)) (A0 (A9 (A6 (K:=K) rfl) (qpv 0) A3 (fun _ _=>rfl)) (A0 (A9 (A6 (K:=K) rfl) (qpv 0) A3 (fun _ _=>rfl)) (A0 (F3 (A0 (F3 (A0 A3 (A0 A3 A2))) A2)) A2)))))))
     C6))
    C6)
   (A8 (C0 (qpv 0)))))),?_⟩
 haveI:=T.c2_NOUGHT
 haveI:=T.c2_ONE
 refine Pu.J7 h ?_;rintro as Qp ⟨xs,ws,hs,rfl,ok,k⟩;have n0:=ok.n0;have n1:=ok.n1;have no:=k [] ok;have ye:=k [.list [.int 1,.int 0]] ⟨ok.n0,ok.n1,ok.of,ok.nm,ok.wl,ok.hl,ok.w,ok.h,.inr rfl⟩;unfold netD at no ye ⊢;refine hd fun R hR=>?_;trivial;subst hR;trivial;refine ite2 (fun h1=>?_) (fun _=>no);obtain ⟨x,ex⟩:∃ z,xs[0]?=some z:=⟨_,List.getElem?_eq_getElem (by omega)⟩;obtain ⟨y,ey⟩:∃ z,xs[1]?=some z:=⟨_,List.getElem?_eq_getElem (by omega)⟩;have kx:=(ok.of x (List.mem_of_getElem? ex)).1.lay;have ky:=(ok.of y (List.mem_of_getElem? ey)).1.lay;refine C3 (n:=0) ex ?_;rw [show kD x=PyData.tuple [.str x.1,.tuple [.str x.2.1,.list (x.2.2.map dcn)]] from rfl];trivial;refine ⟨kx,A8t,ite2 (fun _=>?_) (fun _=>no)⟩;refine C3 (n:=1) ey ?_;rw [show kD y=PyData.tuple [.str y.1,.tuple [.str y.2.1,.list (y.2.2.map dcn)]] from rfl];trivial;refine ⟨ky,A8t,ite2 (fun _=>?_) (fun _=>no)⟩;refine ⟨2,rfl,by decide,sm4 2,fun d d0 d2=>?_⟩;trivial;refine ite2 (fun _=>?_) (fun _=>no);refine C3 (n:=0) ex ?_;rw [show kD x=PyData.tuple [.str x.1,.tuple [.str x.2.1,.list (x.2.2.map dcn)]] from rfl];trivial;refine C3 (n:=1) ey ?_;rw [show kD y=PyData.tuple [.str y.1,.tuple [.str y.2.1,.list (y.2.2.map dcn)]] from rfl];trivial;exact ite2 (fun _=>ye) (fun _=>no)
def A0y:Pu.PSp:=fun as Q=>as=[.st]/\∀ q:Rat,On LL (2 ^ 41) q->Q (.d (dq q))
theorem A1a (T:Txt K mg D):FnOk P w K mg base CX0 3 D.a_a4 D.d_a4 ["_law_state"] (Pu.spOf K [.st] A0y):=by
 refine T.F_a4.ok sc_a4 (Pu.spOf.len rfl) (fun cdv A outer s H vs Q E hr h=>?_);refine ⟨_,(QSs.out (A4 (B6 (i:=1) sc_a4.nd rfl (Or.inl rfl) (A7 (K2 (K:=K) T) hr.mo rfl T.m_aa T.F_aa.kp (L8 T) .nil B8 (A0 (qpv 0) (A0 G8 (A0 A3 A2)))))
   (A4 (D0 (B5 (D1 (K:=K) rfl hr.units) (A7 (D4 (K:=K) T) hr.mo rfl T.m_c0 T.F_c0.kp (D7 T) .nil B8 (A0 (qpv 0) (A0 A3 A2))) A3 (C2 _))
    (A8 (C0 (A7 (K6 (K:=K) T) hr.mo rfl T.m_b3 T.F_b3.kp (M2 T) .nil B8 (A0 (C4 (A0 A3 (A0 A3 A2))) (A0 (qpv 1) A2)))))
    C6)
   (A8 (C0 (qpv 1)))))),?_⟩
 haveI:=T.c2_NOUGHT
 haveI:=T.c2_ONE
 refine Pu.J7 h ?_;rintro as Qp ⟨rfl,k⟩;refine hd fun R hR=>?_;trivial;refine ⟨false,0,rfl,.inl rfl,fun q _ _ s1 _=>?_⟩;have oq:=P5 s1;trivial;subst hR;trivial;refine ⟨2,rfl,by decide,sm4 2,fun d d0 d2=>?_⟩;trivial;refine ite2 (fun _=>?_) (fun _=>k q oq);refine ⟨0,q,rfl,onL (On.zero.mono (Nat.zero_le (2 ^ 41))) (by decide),onL oq (by decide),?_⟩;exact k _ ((On.sub J4 On.zero oq).mono (by decide))
def A6t:Pu.PSp:=fun as Q=>∃ (xs:List Wk) (ws:LW) (hs:LH) (gs:LP) (ts:LQ),as=[.d (netD xs ws hs gs),.bor (ts.map dq),.st]/\LN xs ws hs gs/\ts.length=xs.length/\(∀ t ∈ ts,On (LL * 4) (2 ^ 50) t)/\∀ ws',LN xs ws' hs gs->Q (.d (netD xs ws' hs gs))
theorem A7z (T:Txt K mg D):FnOk P w K mg base CX0 4 D.a_b6 D.d_b6 ["_law_net","_law_times_here","_law_state"] (Pu.spOf K [.dat,.vw,.st] A6t):=by
 refine T.F_b6.ok sc_b6 (Pu.spOf.len rfl) (fun cdv A outer s H vs Q E hr h=>?_);refine ⟨_,(QSs.out (A4 (B6 (i:=3) sc_b6.nd rfl (Or.inl rfl) (A7 (D4 (K:=K) T) hr.mo rfl T.m_c0 T.F_c0.kp (D7 T) .nil B8 (A0 (qpv 2) (A0 (B7 (C7 (K:=K) rfl) (by rfl) T.z_len PySem.boot_len (A0 (qpv 1) A2)) A2))))
   (A4 (B6 (i:=4) sc_b6.nd rfl (Or.inl rfl) (C9 P4 (C9 G9 (C9 G9 (qpv 3) A3) (A7 (D4 (K:=K) T) hr.mo rfl T.m_c0 T.F_c0.kp (D7 T) .nil B8 (A0 (qpv 2) (A0 (B7 (A1s rfl) (by rfl) T.z_max (by rfl) (A0 A3 (A0 (C9 A05 (B7 (C7 (K:=K) rfl) (by rfl) T.z_len PySem.boot_len (A0 (qpv 1) A2)) A3) A2))) A2)))) (B7 (C7 (K:=K) rfl) (by rfl) T.z_len PySem.boot_len (A0 (qpv 1) A2))))
   (A4 (D0 (QW.pt (K1 (B5 (D1 (K:=K) rfl hr.units) (qpv 3) (qpv 4) (C2 _)) (K3 (B5 R6 (B7 (C7 (K:=K) rfl) (by rfl) T.z_len PySem.boot_len (A0 (A9 (A6 (K:=K) rfl) (qpv 0) A3 (fun _ _=>rfl)) A2)) A3 (C2 _)))))
    (A8 (C0 (qpv 0)))
    C6)
   (A4 (B6 (i:=5) sc_b6.nd rfl (Or.inl rfl) (A7 (A1a (K:=K) T) hr.mo rfl T.m_a4 T.F_a4.kp (A23 T) .nil B8 (A0 (qpv 2) A2)))
   (A4 (B6 (i:=6) sc_b6.nd rfl (Or.inl rfl) (A7 (K6 (K:=K) T) hr.mo rfl T.m_b3 T.F_b3.kp (M2 T) .nil B8 (A0 (C4 (A0 A3 (A0 A3 A2))) (A0 (A7 (D6 (K:=K) T) hr.mo rfl T.m_bf T.F_bf.kp (F4 T) .nil B8 (A0 (qpv 5) (A0 (A7 (D6 (K:=K) T) hr.mo rfl T.m_bf T.F_bf.kp (F4 T) .nil B8 (A0 (A9 (A6 (K:=K) rfl) (qpv 1) (qpv 3) (fun _ _=>rfl)) (A0 (A9 (A6 (K:=K) rfl) (qpv 1) (qpv 4) (fun _ _=>rfl)) A2))) A2))) A2))))
   (A8 (C0 (C4 (A0 (A9 (A6 (K:=K) rfl) (qpv 0) A3 (fun _ _=>rfl)) (A0 (C9 (A2n (K:=K) rfl) (A9 (A6 (K:=K) rfl) (qpv 0) A3 (fun _ _=>rfl)) (F3 (A0 (C4 (A0 (qpv 3) (A0 (qpv 4) (A0 (qpv 5) A2)))) (A0 (C4 (A0 (qpv 4) (A0 (qpv 3) (A0 (qpv 6) A2)))) A2)))) (A0 (A9 (A6 (K:=K) rfl) (qpv 0) A3 (fun _ _=>rfl)) (A0 (A9 (A6 (K:=K) rfl) (qpv 0) A3 (fun _ _=>rfl)) A2))))))))))))),?_⟩
 haveI:=T.c2_NOUGHT
 haveI:=T.c2_ONE
 refine Pu.J7 h ?_;rintro as Qp ⟨xs,ws,hs,gs,ts,rfl,ok,tl,ht,k⟩;have n0:=ok.n0;have n1:=ok.n1;have no:=k ws ok;unfold netD at k no ⊢;refine hd fun R hR=>?_;trivial;refine ⟨(ts.length:Int),by simp,by omega,N7 (B:=10) (by omega) (by omega) (by decide),fun a a0 a1=>?_⟩;trivial;subst hR;refine hd fun R hR=>?_;trivial;refine ⟨_,rfl,by split <;> omega,N7 (B:=10) (by split <;> omega) (by split <;> omega) (by decide),fun b b0 b1=>?_⟩
 trivial;refine ⟨by omega,?_⟩;obtain ⟨o,ho,oo,ol⟩:∃ o:Int,(a + 1 + b) % (ts.length:Int)=o/\0<=o/\o < (ts.length:Int):=⟨_,rfl,Int.emod_nonneg _ (by omega),Int.emod_lt_of_pos _ (by omega)⟩;rw [ho];subst hR;refine hd fun R hR=>?_;trivial;refine ite2 (fun _=>no) (fun _=>ite2 (fun _=>no) (fun z=>?_));subst hR;refine hd fun R hR=>?_;trivial;refine ⟨rfl,fun q oq=>?_⟩;trivial;subst hR;refine hd fun R hR=>?_;trivial;obtain ⟨a,rfl⟩:=Int.eq_ofNat_of_zero_le a0;obtain ⟨o,rfl⟩:=Int.eq_ofNat_of_zero_le oo;obtain ⟨x,ex⟩:∃ z,ts[a]?=some z:=⟨_,List.getElem?_eq_getElem (by omega)⟩;obtain ⟨y,ey⟩:∃ z,ts[o]?=some z:=⟨_,List.getElem?_eq_getElem (by omega)⟩;have hx:=ht x (List.mem_of_getElem? ex);have hy:=ht y (List.mem_of_getElem? ey);refine C3 ex ?_;trivial;refine C3 ey ?_;trivial;have B4:0 < LL * 4:=by decide
 have B9:LL * 4<=2 ^ 1000:=O2 A26 (by decide);have hxy:=hx.add2 (b:=51) B4 hy (by decide);have hq4:=(oq.up (C:=4) (by decide)).p2 (b:=51) (by decide);have hs:=hq4.add2 (b:=52) B4 hxy (by decide);refine ⟨_,_,rfl,onQ hx B4 B9 (Nat.pow_le_pow_right (by decide) (by decide)),onQ hy B4 B9 (Nat.pow_le_pow_right (by decide) (by decide)),?_⟩;trivial;refine ⟨_,_,rfl,onL oq (by decide),onQ hxy B4 B9 (Nat.pow_le_pow_right (by decide) (by decide)),?_⟩;trivial;refine ⟨0,_,rfl,smq0,onQ hs B4 B9 (Nat.pow_le_pow_right (by decide) (by decide)),?_⟩;trivial;subst hR;trivial;have wl:=ok.wl;have la:(a:Int) < (xs.length:Int):=by omega
 have lo:(o:Int) < (xs.length:Int):=by omega
 refine ⟨by omega,?_⟩;rw [show ws.map wD++[PyData.tuple [.int (a:Int),.int (o:Int),dq q],PyData.tuple [.int (o:Int),.int (a:Int),dq (0 - (q + (x + y)))]]=(ws++[((a:Int),(o:Int),q),((o:Int),(a:Int),0 - (q + (x + y)))]).map wD by rw [List.map_append]; rfl];refine k _ ⟨n0,n1,ok.of,ok.nm,by rw [List.length_append]; show ws.length + 2<=40; omega,ok.hl,fun w h=>?_,ok.h,ok.g⟩;rcases List.mem_append.mp h with h | h
 ·exact ok.w w h
 ·simp only [List.mem_cons,List.not_mem_nil,or_false] at h;rcases h with rfl | rfl
  ·exact ⟨⟨a0,la⟩,⟨oo,lo⟩,B90 oq (by decide)⟩
  ·exact ⟨⟨oo,lo⟩,⟨a0,la⟩,((On.zero.mono (Nat.zero_le (2 ^ 52))).sub2 (b:=53) B4 hs (by decide)).p2 (by decide)⟩
theorem B7y (T:Txt K mg D):FnOk P w K mg base CX0 10 D.a_c4 D.d_c4 ["_law_script"] (B3x K):=by
 refine FnOk.imp (sp:=Pu.spOf K [.vw] Pu.pLaw) ?_ Pu.B8j;refine T.F_c4.ok sc_c4 (Pu.spOf.len rfl) (fun cdv A outer s H vs Q E hr h=>?_);refine ⟨_,(QSs.out (A4 (B6 (i:=1) sc_c4.nd rfl (Or.inl rfl) (A7 (A7y (K:=K) T) hr.mo rfl T.m_b7 T.F_b7.kp (B1l T) .nil B8 (A0 (qpv 0) (A0 (F3 (A0 C8 (A0 C8 (A0 C8 A2)))) A2))))
   (A4 (B6 (i:=2) sc_c4.nd rfl (Or.inl rfl) (A7 (A2q (K:=K) T) hr.mo rfl T.m_a7 T.F_a7.kp (A5i T) .nil B8 (A0 (A7 (A71 (K:=K) T) hr.mo rfl T.m_b2 T.F_b2.kp (B1o T) .nil B8 (A0 (qpv 1) (A0 (qpv 0) A2))) (A0 (A7 (K7 (K:=K) T) hr.mo rfl T.m_af T.F_af.kp (M3 T) .nil B8 (A0 (qpv 0) (A0 A3 A2))) A2))))
   (A4 (B6 (i:=3) sc_c4.nd rfl (Or.inl rfl) (A7 (A31 (K:=K) T 8) hr.mo rfl T.m_be T.F_be.kp (A0m T) .nil B8 (A0 (qpv 2) A2)))
   (A4 (E9 PassesOwn.never rfl (X0 rfl T.z_range (A0 A3 (A0 A3 A2))) (B0 (i:=4) sc_c4.nd rfl (Or.inl rfl) (Or.inl rfl))
    (A4 (B6 (i:=5) sc_c4.nd rfl (Or.inl rfl) (A7 (W3 (K:=K) T) hr.mo rfl T.m_a0 T.F_a0.kp (A0l T) .nil B8 (A0 (qpv 2) (A0 (qpv 0) (A0 (C9 G9 (qpv 4) A3) A2)))))
    (A4 (B6 (i:=6) sc_c4.nd rfl (Or.inl rfl) (A7 (A7w (K:=K) T) hr.mo rfl T.m_ba T.F_ba.kp (B1k T) .nil B8 (A0 (qpv 2) (A0 (qpv 5) (A0 (A7 (K7 (K:=K) T) hr.mo rfl T.m_af T.F_af.kp (M3 T) .nil B8 (A0 (qpv 0) (A0 (qpv 4) A2))) A2)))))
    (A4 (B6 (i:=7) sc_c4.nd rfl (Or.inl rfl) (R4 (A9t (K:=K) rfl) (by rfl) T.z_list (by rfl) (A0 (qpv 5) A2)))
    (A4 (B6 (i:=8) sc_c4.nd rfl (Or.inl rfl) (A7 (V0 (K:=K) T) hr.mo rfl T.m_bc T.F_bc.kp (A0k T) .nil B8 (A0 (qpv 3) (A0 (qpv 7) (A0 (qpv 6) A2)))))
    (A4 (D0 (QW.pt (K1 (J9 (F2 (B12 (A7 (A09 (K:=K) T) hr.mo rfl T.m_b5 T.F_b5.kp (A4n T) .nil B8 (A0 (qpv 2) (A0 (qpv 5) (A0 (qpv 6) (A0 (qpv 8) A2)))))))) (K1 (B5 (K5 (K:=K) rfl hr.units) (qpv 3) (qpv 2) (C2 _)) (K3 (B5 (K5 (K:=K) rfl hr.units) (qpv 7) (qpv 5) (C2 _))))))
     (A8 (C0 G8))
     C6)
    (A4 (B6 (i:=9) sc_c4.nd rfl (Or.inl rfl) (B64 (A7 (A31 (K:=K) T 8) hr.mo rfl T.m_be T.F_be.kp (A0m T) .nil B8 (A0 (qpv 8) A2))))
    (A4 (G5 (K4 (K:=K) rfl PySem.F.plainAttrs_list PySem.F.slot_list_append PySem.F.type_list_append G2 (qPo (A9 (A6 (K:=K) rfl) (qpv 8) A3 (fun _ _=>rfl))) (A0 K0 A2)))
    (A4 (D0 (B5 (K5 (K:=K) rfl hr.units) (A7 (V0 (K:=K) T) hr.mo rfl T.m_bc T.F_bc.kp (A0k T) .nil B8 (A0 (qpv 2) (A0 (qpv 5) (A0 (qpv 6) A2)))) (qpv 9) (C2 _))
     (A8 (C0 G8))
     C6)
    (A4 (B6 (i:=10) sc_c4.nd rfl (Or.inl rfl) (A7 (A7z (K:=K) T) hr.mo rfl T.m_b6 T.F_b6.kp (B1m T) .nil B8 (A0 (qpv 2) (A0 (qpv 5) (A0 (A7 (K7 (K:=K) T) hr.mo rfl T.m_af T.F_af.kp (M3 T) .nil B8 (A0 (qpv 0) (A0 (C9 G9 (qpv 4) A3) A2))) A2)))))
    (A8 (D0 (J9 (F2 (B12 (A7 (A09 (K:=K) T) hr.mo rfl T.m_b5 T.F_b5.kp (A4n T) .nil B8 (A0 (qpv 10) (A0 (qpv 5) (A0 (qpv 6) (A0 (A7 (V0 (K:=K) T) hr.mo rfl T.m_bc T.F_bc.kp (A0k T) .nil B8 (A0 (qpv 10) (A0 (qpv 5) (A0 (qpv 6) A2)))) A2))))))))
     (A8 (C0 G8))
     C6))))))))))))
   (A8 (C0 G8))))))),?_⟩
 haveI:=T.c2_NOUGHT
 haveI:=T.c2_ONE
 refine Pu.J7 h ?_;rintro as Qp ⟨ns,rfl,hns,k⟩;refine hd fun R hR=>?_;trivial;refine ⟨ns,["straight","steps","steps"],rfl,hns,by decide,by decide,kz3b,fun n xs vs us ok=>?_⟩;trivial;subst hR;refine hd fun R hR=>?_;trivial;refine ⟨n,xs,vs,us,ns,rfl,ok,fun ws hs ln l5=>?_⟩;trivial;refine ⟨ns,_,rfl,by decide,by decide,?_⟩;trivial;refine ⟨xs,ws,hs,rfl,ln,fun gs lg=>?_⟩;trivial;subst hR;clear ln;have hhk:∀ h ∈ hs,Hk h.1:=fun h hh=>(lg.h h hh).1;have hnet:okA 8 (netD xs ws hs gs):=B5c (fun x hx=>⟨lg.nm x hx,(lg.of x hx).1,by have:=(lg.of x hx).2.1.ok.le; omega⟩) (by have:=lg.n1; omega) (by have:=lg.wl; omega) (by have:=lg.hl; omega) hhk (by
  rcases lg.g with e | e
  ·rw [e]; exact B74
  ·rw [e]; exact B73)
 refine hd fun R hR=>?_;trivial;refine ⟨false,_,rfl,hnet,fun t ht=>?_⟩;have hdat:=ht.dat;obtain ⟨a0,a1,k1,a2,a3,a4,k4,rfl⟩:=B9a ht;trivial;subst hR;refine hd fun R hR=>?_;trivial;obtain ⟨TT,hTT⟩:∃ TT,TT=OT.nd false a0 (.cons (.nd true a1 k1) (.cons (.nd true a2 (C5 (ws.map wD))) (.cons (.nd true a3 (C5 (hs.map hD))) (.cons (.nd true a4 k4) .nil)))):=⟨_,rfl⟩;have hnb:NetB TT ws hs:=by rw [hTT]; exact ⟨_,_,rfl,A0p,rfl,A0p⟩
 rw [<- hTT] at hdat;have hly:=R8 8 hnet;refine ⟨by decide,N4 (fun i e=>∃ o4 o5 o6 o7 o8 o9 o10:Option SV,e=[some (.bor (ns.map .int)),some (.d (shD xs vs us)),some (.d (netD xs ws hs gs)),some (.tr TT),o4,o5,o6,o7,o8,o9,o10]) ⟨_,_,_,_,_,_,_,by rw [hTT]; rfl⟩ ?_ ?_⟩
 ·rintro i e hi ⟨o4,o5,o6,o7,o8,o9,o10,rfl⟩;refine hd fun R hR=>?_;trivial;refine ⟨xs,ws,hs,gs,ns,_,rfl,by omega,by omega,lg,fun ts tl ht0=>?_⟩;have nk:NOk ts ws hs:=⟨by have:=lg.n0; omega,by have:=lg.n1; omega,lg.wl,lg.hl,fun t h=>(ht0 t h).p2 (by decide),fun w h=>by rw [tl]; exact lg.w w h,fun h hh=>by rw [tl]; exact lg.h h hh⟩;have n1:=nk.n1;trivial;subst hR;refine hd fun R hR=>?_;trivial;refine ⟨ns,_,rfl,by omega,by omega,?_⟩;trivial;refine ⟨xs,ws,hs,gs,ts,rfl,lg,l5,tl,ht0,fun W oW=>?_⟩;trivial;subst hR;refine hd fun R hR=>?_;trivial;subst hR;refine hd fun R hR=>?_;trivial;refine ⟨TT,ts,ws,hs,W,rfl,hnb,nk,oW,fun wd ls tld b0 b1=>?_⟩;obtain ⟨lsl,lok⟩:=tld.ok n1;have lly:=R8 8 lok;trivial;subst hR;refine hd fun R hR=>?_;trivial;refine ⟨_,A3g,xs,ws,hs,gs,ts,W,_,_,rfl,lg,tl,nk,oW,tld,true,rfl,?_⟩;refine ite2 (fun z=>nomatch z) fun _=>?_;refine ⟨_,hdat,hly.1,hly.1,Nat.le_trans hly.2 (by decide),?_⟩;rw [PySem.SeqAt.eqv_refl _ hly.1];refine ite2 (fun z=>nomatch z) fun _=>⟨X8 _,X8 _,B3f _,?_⟩;rw [PySem.SeqAt.eqv_refl _ (X8 _)];refine ite2 (fun z=>nomatch z) fun _=>?_;subst hR;refine hd fun R hR=>?_;trivial;refine ⟨_,A3g,true,_,rfl,lok,fun t ht=>?_⟩;have tdat:=ht.dat;have tat:=ht.atoms;obtain ⟨c0,ck,rfl⟩:∃ a k,t=OT.nd false a k:=by
   cases ht with
   | tupL e _ _=>cases e
   | tupN _ _=>exact ⟨_,_,rfl⟩
  refine ⟨_,rfl,tat,?_⟩;trivial;subst hR;refine hd fun R hR=>?_;trivial;refine ⟨_,_,_,_,_,rfl,rfl,rfl,?_⟩;rw [B8s];refine ⟨by omega,?_⟩;subst hR;refine hd fun R hR=>?_;trivial;refine ⟨_,ts,ws,hs,W,rfl,NetB.leaf,nk,oW,fun wd2 ls2 tld2 b2 b3=>?_⟩;obtain ⟨rfl,rfl⟩:=tld.uniq tld2;trivial;refine ⟨_,A3g,_,tdat,lly.1,lly.1,Nat.le_trans lly.2 (by decide),?_⟩;rw [PySem.SeqAt.eqv_refl _ lly.1];refine ite2 (fun z=>nomatch z) fun _=>?_;subst hR;refine hd fun R hR=>?_;trivial;refine ⟨ns,_,rfl,by omega,by omega,?_⟩;trivial;refine ⟨xs,ws,hs,gs,ts,rfl,lg,tl,ht0,fun ws' lg'=>?_⟩;have nk':NOk ts ws' hs:=⟨nk.n0,nk.n1,lg'.wl,lg'.hl,nk.t,fun w h=>by rw [tl]; exact lg'.w w h,nk.h⟩;trivial;subst hR;trivial;refine ⟨_,ts,ws',hs,W,rfl,NetB.leaf,nk',oW,fun wd3 ls3 tld3 b4 b5=>?_⟩;trivial;refine ⟨_,A3g,xs,ws',hs,gs,ts,W,_,_,rfl,lg',tl,nk',oW,tld3,true,rfl,?_⟩;exact ite2 (fun z=>nomatch z) fun _=>⟨_,_,_,_,_,_,_,rfl⟩
 rintro e ⟨o4,o5,o6,o7,o8,o9,o10,rfl⟩;subst hR;trivial;exact k
end
theorem all_mk {l:PySem.W.OpenLaw} {w:World} {K:PySem.W.Frag} {h:Heap} {mg:Str->Option Value} {fa:Addr} (X:K.In h) (G:h.Ns mainGlobals mg) (hfa:mg "law"=some (.ref fa))
  {od_a1 an_a1:Option Addr} {sl_a1:Array (Option Value)} {oc_a1 kV_a1 dc_a1 pm_a1 cd_a1 ct_a1:Value} {a_a1:Addr}
  {od_c3 an_c3:Option Addr} {sl_c3:Array (Option Value)} {oc_c3 kV_c3 dc_c3 pm_c3 cd_c3 ct_c3:Value} {a_c3:Addr}
  {od_c1 an_c1:Option Addr} {sl_c1:Array (Option Value)} {oc_c1 kV_c1 dc_c1 pm_c1 cd_c1 ct_c1:Value} {a_c1:Addr}
  {od_bb an_bb:Option Addr} {sl_bb:Array (Option Value)} {oc_bb kV_bb dc_bb pm_bb cd_bb ct_bb:Value} {a_bb:Addr}
  {od_ad an_ad:Option Addr} {sl_ad:Array (Option Value)} {oc_ad kV_ad dc_ad pm_ad cd_ad ct_ad:Value} {a_ad:Addr}
  {od_bd an_bd:Option Addr} {sl_bd:Array (Option Value)} {oc_bd kV_bd dc_bd pm_bd cd_bd ct_bd:Value} {a_bd:Addr}
  {od_ae an_ae:Option Addr} {sl_ae:Array (Option Value)} {oc_ae kV_ae dc_ae pm_ae cd_ae ct_ae:Value} {a_ae:Addr}
  {od_a5 an_a5:Option Addr} {sl_a5:Array (Option Value)} {oc_a5 kV_a5 dc_a5 pm_a5 cd_a5 ct_a5:Value} {a_a5:Addr}
  {od_a9 an_a9:Option Addr} {sl_a9:Array (Option Value)} {oc_a9 kV_a9 dc_a9 pm_a9 cd_a9 ct_a9:Value} {a_a9:Addr}
  {od_a8 an_a8:Option Addr} {sl_a8:Array (Option Value)} {oc_a8 kV_a8 dc_a8 pm_a8 cd_a8 ct_a8:Value} {a_a8:Addr}
  {od_bc an_bc:Option Addr} {sl_bc:Array (Option Value)} {oc_bc kV_bc dc_bc pm_bc cd_bc ct_bc:Value} {a_bc:Addr}
  {od_af an_af:Option Addr} {sl_af:Array (Option Value)} {oc_af kV_af dc_af pm_af cd_af ct_af:Value} {a_af:Addr}
  {od_c0 an_c0:Option Addr} {sl_c0:Array (Option Value)} {oc_c0 kV_c0 dc_c0 pm_c0 cd_c0 ct_c0:Value} {a_c0:Addr}
  {od_c2 an_c2:Option Addr} {sl_c2:Array (Option Value)} {oc_c2 kV_c2 dc_c2 pm_c2 cd_c2 ct_c2:Value} {a_c2:Addr}
  {od_bf an_bf:Option Addr} {sl_bf:Array (Option Value)} {oc_bf kV_bf dc_bf pm_bf cd_bf ct_bf:Value} {a_bf:Addr}
  {od_b3 an_b3:Option Addr} {sl_b3:Array (Option Value)} {oc_b3 kV_b3 dc_b3 pm_b3 cd_b3 ct_b3:Value} {a_b3:Addr}
  {od_b8 an_b8:Option Addr} {sl_b8:Array (Option Value)} {oc_b8 kV_b8 dc_b8 pm_b8 cd_b8 ct_b8:Value} {a_b8:Addr}
  {od_b9 an_b9:Option Addr} {sl_b9:Array (Option Value)} {oc_b9 kV_b9 dc_b9 pm_b9 cd_b9 ct_b9:Value} {a_b9:Addr}
  {od_aa an_aa:Option Addr} {sl_aa:Array (Option Value)} {oc_aa kV_aa dc_aa pm_aa cd_aa ct_aa:Value} {a_aa:Addr}
  {od_b4 an_b4:Option Addr} {sl_b4:Array (Option Value)} {oc_b4 kV_b4 dc_b4 pm_b4 cd_b4 ct_b4:Value} {a_b4:Addr}
  {od_b7 an_b7:Option Addr} {sl_b7:Array (Option Value)} {oc_b7 kV_b7 dc_b7 pm_b7 cd_b7 ct_b7:Value} {a_b7:Addr}
  {od_b0 an_b0:Option Addr} {sl_b0:Array (Option Value)} {oc_b0 kV_b0 dc_b0 pm_b0 cd_b0 ct_b0:Value} {a_b0:Addr}
  {od_b2 an_b2:Option Addr} {sl_b2:Array (Option Value)} {oc_b2 kV_b2 dc_b2 pm_b2 cd_b2 ct_b2:Value} {a_b2:Addr}
  {od_a0 an_a0:Option Addr} {sl_a0:Array (Option Value)} {oc_a0 kV_a0 dc_a0 pm_a0 cd_a0 ct_a0:Value} {a_a0:Addr}
  {od_b1 an_b1:Option Addr} {sl_b1:Array (Option Value)} {oc_b1 kV_b1 dc_b1 pm_b1 cd_b1 ct_b1:Value} {a_b1:Addr}
  {od_a3 an_a3:Option Addr} {sl_a3:Array (Option Value)} {oc_a3 kV_a3 dc_a3 pm_a3 cd_a3 ct_a3:Value} {a_a3:Addr}
  {od_be an_be:Option Addr} {sl_be:Array (Option Value)} {oc_be kV_be dc_be pm_be cd_be ct_be:Value} {a_be:Addr}
  {od_ac an_ac:Option Addr} {sl_ac:Array (Option Value)} {oc_ac kV_ac dc_ac pm_ac cd_ac ct_ac:Value} {a_ac:Addr}
  {od_a2 an_a2:Option Addr} {sl_a2:Array (Option Value)} {oc_a2 kV_a2 dc_a2 pm_a2 cd_a2 ct_a2:Value} {a_a2:Addr}
  {od_ab an_ab:Option Addr} {sl_ab:Array (Option Value)} {oc_ab kV_ab dc_ab pm_ab cd_ab ct_ab:Value} {a_ab:Addr}
  {od_a6 an_a6:Option Addr} {sl_a6:Array (Option Value)} {oc_a6 kV_a6 dc_a6 pm_a6 cd_a6 ct_a6:Value} {a_a6:Addr}
  {od_b5 an_b5:Option Addr} {sl_b5:Array (Option Value)} {oc_b5 kV_b5 dc_b5 pm_b5 cd_b5 ct_b5:Value} {a_b5:Addr}
  {od_ba an_ba:Option Addr} {sl_ba:Array (Option Value)} {oc_ba kV_ba dc_ba pm_ba cd_ba ct_ba:Value} {a_ba:Addr}
  {od_a7 an_a7:Option Addr} {sl_a7:Array (Option Value)} {oc_a7 kV_a7 dc_a7 pm_a7 cd_a7 ct_a7:Value} {a_a7:Addr}
  {od_b6 an_b6:Option Addr} {sl_b6:Array (Option Value)} {oc_b6 kV_b6 dc_b6 pm_b6 cd_b6 ct_b6:Value} {a_b6:Addr}
  {od_a4 an_a4:Option Addr} {sl_a4:Array (Option Value)} {oc_a4 kV_a4 dc_a4 pm_a4 cd_a4 ct_a4:Value} {a_a4:Addr}
  {od_c4 an_c4:Option Addr} {sl_c4:Array (Option Value)} {oc_c4 kV_c4 dc_c4 pm_c4 cd_c4 ct_c4:Value} {a_c4:Addr}
  {q_NOUGHT:Addr}
  {q_ONE:Addr}
  {od_NOUGHT:Option Addr} {its_NOUGHT:Array Value} {n_NOUGHT:Nat} {sl_NOUGHT:Array (Option Value)} {t0_NOUGHT t1_NOUGHT:Tok}
  {od_ONE:Option Addr} {its_ONE:Array Value} {n_ONE:Nat} {sl_ONE:Array (Option Value)} {t0_ONE t1_ONE:Tok}
  (g_a1:PySem.W.nsIn K mainGlobals "common_part"=some (some (.ref a_a1)))
  (l_a1:K.lookup a_a1=some ⟨oc_a1,od_a1,.func (PySem.W.fnOf "common_part" "common_part" (B2 s_a1) (B1 s_a1) (A5 s_a1) .none kV_a1 dc_a1 pm_a1 an_a1 cd_a1 ct_a1),sl_a1⟩)
  (c_a1:PySem.W.codeIn K cd_a1 "common_part"=true)
  (k_a1:PySem.W.keepIn K (.ref a_a1)=true)
  (g_c3:PySem.W.nsIn K mainGlobals "plus"=some (some (.ref a_c3)))
  (l_c3:K.lookup a_c3=some ⟨oc_c3,od_c3,.func (PySem.W.fnOf "plus" "plus" (B2 s_c3) (B1 s_c3) (A5 s_c3) .none kV_c3 dc_c3 pm_c3 an_c3 cd_c3 ct_c3),sl_c3⟩)
  (c_c3:PySem.W.codeIn K cd_c3 "plus"=true)
  (k_c3:PySem.W.keepIn K (.ref a_c3)=true)
  (g_c1:PySem.W.nsIn K mainGlobals "minus"=some (some (.ref a_c1)))
  (l_c1:K.lookup a_c1=some ⟨oc_c1,od_c1,.func (PySem.W.fnOf "minus" "minus" (B2 s_c1) (B1 s_c1) (A5 s_c1) .none kV_c1 dc_c1 pm_c1 an_c1 cd_c1 ct_c1),sl_c1⟩)
  (c_c1:PySem.W.codeIn K cd_c1 "minus"=true)
  (k_c1:PySem.W.keepIn K (.ref a_c1)=true)
  (g_bb:PySem.W.nsIn K mainGlobals "is_less"=some (some (.ref a_bb)))
  (l_bb:K.lookup a_bb=some ⟨oc_bb,od_bb,.func (PySem.W.fnOf "is_less" "is_less" (B2 s_bb) (B1 s_bb) (A5 s_bb) .none kV_bb dc_bb pm_bb an_bb cd_bb ct_bb),sl_bb⟩)
  (c_bb:PySem.W.codeIn K cd_bb "is_less"=true)
  (k_bb:PySem.W.keepIn K (.ref a_bb)=true)
  (g_ad:PySem.W.nsIn K mainGlobals "hold_way"=some (some (.ref a_ad)))
  (l_ad:K.lookup a_ad=some ⟨oc_ad,od_ad,.func (PySem.W.fnOf "hold_way" "hold_way" (B2 s_ad) (B1 s_ad) (A5 s_ad) .none kV_ad dc_ad pm_ad an_ad cd_ad ct_ad),sl_ad⟩)
  (c_ad:PySem.W.codeIn K cd_ad "hold_way"=true)
  (k_ad:PySem.W.keepIn K (.ref a_ad)=true)
  (g_bd:PySem.W.nsIn K mainGlobals "ways_of"=some (some (.ref a_bd)))
  (l_bd:K.lookup a_bd=some ⟨oc_bd,od_bd,.func (PySem.W.fnOf "ways_of" "ways_of" (B2 s_bd) (B1 s_bd) (A5 s_bd) .none kV_bd dc_bd pm_bd an_bd cd_bd ct_bd),sl_bd⟩)
  (c_bd:PySem.W.codeIn K cd_bd "ways_of"=true)
  (k_bd:PySem.W.keepIn K (.ref a_bd)=true)
  (g_ae:PySem.W.nsIn K mainGlobals "stretch"=some (some (.ref a_ae)))
  (l_ae:K.lookup a_ae=some ⟨oc_ae,od_ae,.func (PySem.W.fnOf "stretch" "stretch" (B2 s_ae) (B1 s_ae) (A5 s_ae) .none kV_ae dc_ae pm_ae an_ae cd_ae ct_ae),sl_ae⟩)
  (c_ae:PySem.W.codeIn K cd_ae "stretch"=true)
  (k_ae:PySem.W.keepIn K (.ref a_ae)=true)
  (g_a5:PySem.W.nsIn K mainGlobals "ring_paper"=some (some (.ref a_a5)))
  (l_a5:K.lookup a_a5=some ⟨oc_a5,od_a5,.func (PySem.W.fnOf "ring_paper" "ring_paper" (B2 s_a5) (B1 s_a5) (A5 s_a5) .none kV_a5 dc_a5 pm_a5 an_a5 cd_a5 ct_a5),sl_a5⟩)
  (c_a5:PySem.W.codeIn K cd_a5 "ring_paper"=true)
  (k_a5:PySem.W.keepIn K (.ref a_a5)=true)
  (g_a9:PySem.W.nsIn K mainGlobals "farthest"=some (some (.ref a_a9)))
  (l_a9:K.lookup a_a9=some ⟨oc_a9,od_a9,.func (PySem.W.fnOf "farthest" "farthest" (B2 s_a9) (B1 s_a9) (A5 s_a9) .none kV_a9 dc_a9 pm_a9 an_a9 cd_a9 ct_a9),sl_a9⟩)
  (c_a9:PySem.W.codeIn K cd_a9 "farthest"=true)
  (k_a9:PySem.W.keepIn K (.ref a_a9)=true)
  (g_a8:PySem.W.nsIn K mainGlobals "earliest"=some (some (.ref a_a8)))
  (l_a8:K.lookup a_a8=some ⟨oc_a8,od_a8,.func (PySem.W.fnOf "earliest" "earliest" (B2 s_a8) (B1 s_a8) (A5 s_a8) .none kV_a8 dc_a8 pm_a8 an_a8 cd_a8 ct_a8),sl_a8⟩)
  (c_a8:PySem.W.codeIn K cd_a8 "earliest"=true)
  (k_a8:PySem.W.keepIn K (.ref a_a8)=true)
  (g_bc:PySem.W.nsIn K mainGlobals "latest"=some (some (.ref a_bc)))
  (l_bc:K.lookup a_bc=some ⟨oc_bc,od_bc,.func (PySem.W.fnOf "latest" "latest" (B2 s_bc) (B1 s_bc) (A5 s_bc) .none kV_bc dc_bc pm_bc an_bc cd_bc ct_bc),sl_bc⟩)
  (c_bc:PySem.W.codeIn K cd_bc "latest"=true)
  (k_bc:PySem.W.keepIn K (.ref a_bc)=true)
  (g_af:PySem.W.nsIn K mainGlobals "_law_begun"=some (some (.ref a_af)))
  (l_af:K.lookup a_af=some ⟨oc_af,od_af,.func (PySem.W.fnOf "_law_begun" "_law_begun" (B2 s_af) (B1 s_af) (A5 s_af) .none kV_af dc_af pm_af an_af cd_af ct_af),sl_af⟩)
  (c_af:PySem.W.codeIn K cd_af "_law_begun"=true)
  (k_af:PySem.W.keepIn K (.ref a_af)=true)
  (g_c0:PySem.W.nsIn K mainGlobals "_law_take"=some (some (.ref a_c0)))
  (l_c0:K.lookup a_c0=some ⟨oc_c0,od_c0,.func (PySem.W.fnOf "_law_take" "_law_take" (B2 s_c0) (B1 s_c0) (A5 s_c0) .none kV_c0 dc_c0 pm_c0 an_c0 cd_c0 ct_c0),sl_c0⟩)
  (c_c0:PySem.W.codeIn K cd_c0 "_law_take"=true)
  (k_c0:PySem.W.keepIn K (.ref a_c0)=true)
  (g_c2:PySem.W.nsIn K mainGlobals "_law_low"=some (some (.ref a_c2)))
  (l_c2:K.lookup a_c2=some ⟨oc_c2,od_c2,.func (PySem.W.fnOf "_law_low" "_law_low" (B2 s_c2) (B1 s_c2) (A5 s_c2) .none kV_c2 dc_c2 pm_c2 an_c2 cd_c2 ct_c2),sl_c2⟩)
  (c_c2:PySem.W.codeIn K cd_c2 "_law_low"=true)
  (k_c2:PySem.W.keepIn K (.ref a_c2)=true)
  (g_bf:PySem.W.nsIn K mainGlobals "_law_plus"=some (some (.ref a_bf)))
  (l_bf:K.lookup a_bf=some ⟨oc_bf,od_bf,.func (PySem.W.fnOf "_law_plus" "_law_plus" (B2 s_bf) (B1 s_bf) (A5 s_bf) .none kV_bf dc_bf pm_bf an_bf cd_bf ct_bf),sl_bf⟩)
  (c_bf:PySem.W.codeIn K cd_bf "_law_plus"=true)
  (k_bf:PySem.W.keepIn K (.ref a_bf)=true)
  (g_b3:PySem.W.nsIn K mainGlobals "_law_minus"=some (some (.ref a_b3)))
  (l_b3:K.lookup a_b3=some ⟨oc_b3,od_b3,.func (PySem.W.fnOf "_law_minus" "_law_minus" (B2 s_b3) (B1 s_b3) (A5 s_b3) .none kV_b3 dc_b3 pm_b3 an_b3 cd_b3 ct_b3),sl_b3⟩)
  (c_b3:PySem.W.codeIn K cd_b3 "_law_minus"=true)
  (k_b3:PySem.W.keepIn K (.ref a_b3)=true)
  (g_b8:PySem.W.nsIn K mainGlobals "_law_times"=some (some (.ref a_b8)))
  (l_b8:K.lookup a_b8=some ⟨oc_b8,od_b8,.func (PySem.W.fnOf "_law_times" "_law_times" (B2 s_b8) (B1 s_b8) (A5 s_b8) .none kV_b8 dc_b8 pm_b8 an_b8 cd_b8 ct_b8),sl_b8⟩)
  (c_b8:PySem.W.codeIn K cd_b8 "_law_times"=true)
  (k_b8:PySem.W.keepIn K (.ref a_b8)=true)
  (g_b9:PySem.W.nsIn K mainGlobals "_law_under"=some (some (.ref a_b9)))
  (l_b9:K.lookup a_b9=some ⟨oc_b9,od_b9,.func (PySem.W.fnOf "_law_under" "_law_under" (B2 s_b9) (B1 s_b9) (A5 s_b9) .none kV_b9 dc_b9 pm_b9 an_b9 cd_b9 ct_b9),sl_b9⟩)
  (c_b9:PySem.W.codeIn K cd_b9 "_law_under"=true)
  (k_b9:PySem.W.keepIn K (.ref a_b9)=true)
  (g_aa:PySem.W.nsIn K mainGlobals "_law_amount"=some (some (.ref a_aa)))
  (l_aa:K.lookup a_aa=some ⟨oc_aa,od_aa,.func (PySem.W.fnOf "_law_amount" "_law_amount" (B2 s_aa) (B1 s_aa) (A5 s_aa) .none kV_aa dc_aa pm_aa an_aa cd_aa ct_aa),sl_aa⟩)
  (c_aa:PySem.W.codeIn K cd_aa "_law_amount"=true)
  (k_aa:PySem.W.keepIn K (.ref a_aa)=true)
  (g_b4:PySem.W.nsIn K mainGlobals "_law_offer"=some (some (.ref a_b4)))
  (l_b4:K.lookup a_b4=some ⟨oc_b4,od_b4,.func (PySem.W.fnOf "_law_offer" "_law_offer" (B2 s_b4) (B1 s_b4) (A5 s_b4) .none kV_b4 dc_b4 pm_b4 an_b4 cd_b4 ct_b4),sl_b4⟩)
  (c_b4:PySem.W.codeIn K cd_b4 "_law_offer"=true)
  (k_b4:PySem.W.keepIn K (.ref a_b4)=true)
  (g_b7:PySem.W.nsIn K mainGlobals "_law_shape"=some (some (.ref a_b7)))
  (l_b7:K.lookup a_b7=some ⟨oc_b7,od_b7,.func (PySem.W.fnOf "_law_shape" "_law_shape" (B2 s_b7) (B1 s_b7) (A5 s_b7) .none kV_b7 dc_b7 pm_b7 an_b7 cd_b7 ct_b7),sl_b7⟩)
  (c_b7:PySem.W.codeIn K cd_b7 "_law_shape"=true)
  (k_b7:PySem.W.keepIn K (.ref a_b7)=true)
  (g_b0:PySem.W.nsIn K mainGlobals "_law_flows"=some (some (.ref a_b0)))
  (l_b0:K.lookup a_b0=some ⟨oc_b0,od_b0,.func (PySem.W.fnOf "_law_flows" "_law_flows" (B2 s_b0) (B1 s_b0) (A5 s_b0) .none kV_b0 dc_b0 pm_b0 an_b0 cd_b0 ct_b0),sl_b0⟩)
  (c_b0:PySem.W.codeIn K cd_b0 "_law_flows"=true)
  (k_b0:PySem.W.keepIn K (.ref a_b0)=true)
  (g_b2:PySem.W.nsIn K mainGlobals "_law_loose"=some (some (.ref a_b2)))
  (l_b2:K.lookup a_b2=some ⟨oc_b2,od_b2,.func (PySem.W.fnOf "_law_loose" "_law_loose" (B2 s_b2) (B1 s_b2) (A5 s_b2) .none kV_b2 dc_b2 pm_b2 an_b2 cd_b2 ct_b2),sl_b2⟩)
  (c_b2:PySem.W.codeIn K cd_b2 "_law_loose"=true)
  (k_b2:PySem.W.keepIn K (.ref a_b2)=true)
  (g_a0:PySem.W.nsIn K mainGlobals "_law_times_drawn"=some (some (.ref a_a0)))
  (l_a0:K.lookup a_a0=some ⟨oc_a0,od_a0,.func (PySem.W.fnOf "_law_times_drawn" "_law_times_drawn" (B2 s_a0) (B1 s_a0) (A5 s_a0) .none kV_a0 dc_a0 pm_a0 an_a0 cd_a0 ct_a0),sl_a0⟩)
  (c_a0:PySem.W.codeIn K cd_a0 "_law_times_drawn"=true)
  (k_a0:PySem.W.keepIn K (.ref a_a0)=true)
  (g_b1:PySem.W.nsIn K mainGlobals "_law_keeps"=some (some (.ref a_b1)))
  (l_b1:K.lookup a_b1=some ⟨oc_b1,od_b1,.func (PySem.W.fnOf "_law_keeps" "_law_keeps" (B2 s_b1) (B1 s_b1) (A5 s_b1) .none kV_b1 dc_b1 pm_b1 an_b1 cd_b1 ct_b1),sl_b1⟩)
  (c_b1:PySem.W.codeIn K cd_b1 "_law_keeps"=true)
  (k_b1:PySem.W.keepIn K (.ref a_b1)=true)
  (g_a3:PySem.W.nsIn K mainGlobals "_law_fraction"=some (some (.ref a_a3)))
  (l_a3:K.lookup a_a3=some ⟨oc_a3,od_a3,.func (PySem.W.fnOf "_law_fraction" "_law_fraction" (B2 s_a3) (B1 s_a3) (A5 s_a3) .none kV_a3 dc_a3 pm_a3 an_a3 cd_a3 ct_a3),sl_a3⟩)
  (c_a3:PySem.W.codeIn K cd_a3 "_law_fraction"=true)
  (k_a3:PySem.W.keepIn K (.ref a_a3)=true)
  (g_be:PySem.W.nsIn K mainGlobals "_law_copy"=some (some (.ref a_be)))
  (l_be:K.lookup a_be=some ⟨oc_be,od_be,.func (PySem.W.fnOf "_law_copy" "_law_copy" (B2 s_be) (B1 s_be) (A5 s_be) .none kV_be dc_be pm_be an_be cd_be ct_be),sl_be⟩)
  (c_be:PySem.W.codeIn K cd_be "_law_copy"=true)
  (k_be:PySem.W.keepIn K (.ref a_be)=true)
  (g_ac:PySem.W.nsIn K mainGlobals "_law_starts"=some (some (.ref a_ac)))
  (l_ac:K.lookup a_ac=some ⟨oc_ac,od_ac,.func (PySem.W.fnOf "_law_starts" "_law_starts" (B2 s_ac) (B1 s_ac) (A5 s_ac) .none kV_ac dc_ac pm_ac an_ac cd_ac ct_ac),sl_ac⟩)
  (c_ac:PySem.W.codeIn K cd_ac "_law_starts"=true)
  (k_ac:PySem.W.keepIn K (.ref a_ac)=true)
  (g_a2:PySem.W.nsIn K mainGlobals "_law_balanced"=some (some (.ref a_a2)))
  (l_a2:K.lookup a_a2=some ⟨oc_a2,od_a2,.func (PySem.W.fnOf "_law_balanced" "_law_balanced" (B2 s_a2) (B1 s_a2) (A5 s_a2) .none kV_a2 dc_a2 pm_a2 an_a2 cd_a2 ct_a2),sl_a2⟩)
  (c_a2:PySem.W.codeIn K cd_a2 "_law_balanced"=true)
  (k_a2:PySem.W.keepIn K (.ref a_a2)=true)
  (g_ab:PySem.W.nsIn K mainGlobals "_law_length"=some (some (.ref a_ab)))
  (l_ab:K.lookup a_ab=some ⟨oc_ab,od_ab,.func (PySem.W.fnOf "_law_length" "_law_length" (B2 s_ab) (B1 s_ab) (A5 s_ab) .none kV_ab dc_ab pm_ab an_ab cd_ab ct_ab),sl_ab⟩)
  (c_ab:PySem.W.codeIn K cd_ab "_law_length"=true)
  (k_ab:PySem.W.keepIn K (.ref a_ab)=true)
  (g_a6:PySem.W.nsIn K mainGlobals "_law_chained"=some (some (.ref a_a6)))
  (l_a6:K.lookup a_a6=some ⟨oc_a6,od_a6,.func (PySem.W.fnOf "_law_chained" "_law_chained" (B2 s_a6) (B1 s_a6) (A5 s_a6) .none kV_a6 dc_a6 pm_a6 an_a6 cd_a6 ct_a6),sl_a6⟩)
  (c_a6:PySem.W.codeIn K cd_a6 "_law_chained"=true)
  (k_a6:PySem.W.keepIn K (.ref a_a6)=true)
  (g_b5:PySem.W.nsIn K mainGlobals "_law_right"=some (some (.ref a_b5)))
  (l_b5:K.lookup a_b5=some ⟨oc_b5,od_b5,.func (PySem.W.fnOf "_law_right" "_law_right" (B2 s_b5) (B1 s_b5) (A5 s_b5) .none kV_b5 dc_b5 pm_b5 an_b5 cd_b5 ct_b5),sl_b5⟩)
  (c_b5:PySem.W.codeIn K cd_b5 "_law_right"=true)
  (k_b5:PySem.W.keepIn K (.ref a_b5)=true)
  (g_ba:PySem.W.nsIn K mainGlobals "_law_whole"=some (some (.ref a_ba)))
  (l_ba:K.lookup a_ba=some ⟨oc_ba,od_ba,.func (PySem.W.fnOf "_law_whole" "_law_whole" (B2 s_ba) (B1 s_ba) (A5 s_ba) .none kV_ba dc_ba pm_ba an_ba cd_ba ct_ba),sl_ba⟩)
  (c_ba:PySem.W.codeIn K cd_ba "_law_whole"=true)
  (k_ba:PySem.W.keepIn K (.ref a_ba)=true)
  (g_a7:PySem.W.nsIn K mainGlobals "_law_grouped"=some (some (.ref a_a7)))
  (l_a7:K.lookup a_a7=some ⟨oc_a7,od_a7,.func (PySem.W.fnOf "_law_grouped" "_law_grouped" (B2 s_a7) (B1 s_a7) (A5 s_a7) .none kV_a7 dc_a7 pm_a7 an_a7 cd_a7 ct_a7),sl_a7⟩)
  (c_a7:PySem.W.codeIn K cd_a7 "_law_grouped"=true)
  (k_a7:PySem.W.keepIn K (.ref a_a7)=true)
  (g_b6:PySem.W.nsIn K mainGlobals "_law_round"=some (some (.ref a_b6)))
  (l_b6:K.lookup a_b6=some ⟨oc_b6,od_b6,.func (PySem.W.fnOf "_law_round" "_law_round" (B2 s_b6) (B1 s_b6) (A5 s_b6) .none kV_b6 dc_b6 pm_b6 an_b6 cd_b6 ct_b6),sl_b6⟩)
  (c_b6:PySem.W.codeIn K cd_b6 "_law_round"=true)
  (k_b6:PySem.W.keepIn K (.ref a_b6)=true)
  (g_a4:PySem.W.nsIn K mainGlobals "_law_lag_drawn"=some (some (.ref a_a4)))
  (l_a4:K.lookup a_a4=some ⟨oc_a4,od_a4,.func (PySem.W.fnOf "_law_lag_drawn" "_law_lag_drawn" (B2 s_a4) (B1 s_a4) (A5 s_a4) .none kV_a4 dc_a4 pm_a4 an_a4 cd_a4 ct_a4),sl_a4⟩)
  (c_a4:PySem.W.codeIn K cd_a4 "_law_lag_drawn"=true)
  (k_a4:PySem.W.keepIn K (.ref a_a4)=true)
  (g_c4:PySem.W.nsIn K mainGlobals "law"=some (some (.ref a_c4)))
  (l_c4:K.lookup a_c4=some ⟨oc_c4,od_c4,.func (PySem.W.fnOf "law" "law" (B2 s_c4) (B1 s_c4) (A5 s_c4) .none kV_c4 dc_c4 pm_c4 an_c4 cd_c4 ct_c4),sl_c4⟩)
  (c_c4:PySem.W.codeIn K cd_c4 "law"=true)
  (k_c4:PySem.W.keepIn K (.ref a_c4)=true)
  (gc_NOUGHT:PySem.W.nsIn K mainGlobals "NOUGHT"=some (some (.ref q_NOUGHT)))
  (gc_ONE:PySem.W.nsIn K mainGlobals "ONE"=some (some (.ref q_ONE)))
  (z_abs:PySem.W.nsIn K mainGlobals "abs"=some none)
  (z_all:PySem.W.nsIn K mainGlobals "all"=some none)
  (z_any:PySem.W.nsIn K mainGlobals "any"=some none)
  (z_bool:PySem.W.nsIn K mainGlobals "bool"=some none)
  (z_enumerate:PySem.W.nsIn K mainGlobals "enumerate"=some none)
  (z_int:PySem.W.nsIn K mainGlobals "int"=some none)
  (z_isinstance:PySem.W.nsIn K mainGlobals "isinstance"=some none)
  (z_len:PySem.W.nsIn K mainGlobals "len"=some none)
  (z_list:PySem.W.nsIn K mainGlobals "list"=some none)
  (z_max:PySem.W.nsIn K mainGlobals "max"=some none)
  (z_min:PySem.W.nsIn K mainGlobals "min"=some none)
  (z_range:PySem.W.nsIn K mainGlobals "range"=some none)
  (z_tuple:PySem.W.nsIn K mainGlobals "tuple"=some none)
  (lq_NOUGHT:K.lookup q_NOUGHT=some ⟨.type "tuple",od_NOUGHT,.seq its_NOUGHT n_NOUGHT,sl_NOUGHT⟩)
  (vq_NOUGHT:its_NOUGHT=#[Value.int 0 t0_NOUGHT,Value.int 1 t1_NOUGHT])
  (lq_ONE:K.lookup q_ONE=some ⟨.type "tuple",od_ONE,.seq its_ONE n_ONE,sl_ONE⟩)
  (vq_ONE:its_ONE=#[Value.int 1 t0_ONE,Value.int 1 t1_ONE])
  : ∃ fd:FuncData,(∀ (s:Shared) (v:Value),BindsTo s fd ⟨[v],[]⟩ [("_law_script",v)])/\∀ base:Heap,K.In base->base.Ns mainGlobals mg->FnOk l.prog w K mg base CX0 10 fa fd ["_law_script"] (sp_law K):=by
 have e:=hfa.symm.trans (PySem.W.mg_of X G g_c4);cases e;have T:Txt K mg ⟨a_a1,PySem.W.fnOf "common_part" "common_part" (B2 s_a1) (B1 s_a1) (A5 s_a1) .none kV_a1 dc_a1 pm_a1 an_a1 cd_a1 ct_a1,a_c3,PySem.W.fnOf "plus" "plus" (B2 s_c3) (B1 s_c3) (A5 s_c3) .none kV_c3 dc_c3 pm_c3 an_c3 cd_c3 ct_c3,a_c1,PySem.W.fnOf "minus" "minus" (B2 s_c1) (B1 s_c1) (A5 s_c1) .none kV_c1 dc_c1 pm_c1 an_c1 cd_c1 ct_c1,a_bb,PySem.W.fnOf "is_less" "is_less" (B2 s_bb) (B1 s_bb) (A5 s_bb) .none kV_bb dc_bb pm_bb an_bb cd_bb ct_bb,a_ad,PySem.W.fnOf "hold_way" "hold_way" (B2 s_ad) (B1 s_ad) (A5 s_ad) .none kV_ad dc_ad pm_ad an_ad cd_ad ct_ad,a_bd,PySem.W.fnOf "ways_of" "ways_of" (B2 s_bd) (B1 s_bd) (A5 s_bd) .none kV_bd dc_bd pm_bd an_bd cd_bd ct_bd,a_ae,PySem.W.fnOf "stretch" "stretch" (B2 s_ae) (B1 s_ae) (A5 s_ae) .none kV_ae dc_ae pm_ae an_ae cd_ae ct_ae,a_a5,PySem.W.fnOf "ring_paper" "ring_paper" (B2 s_a5) (B1 s_a5) (A5 s_a5) .none kV_a5 dc_a5 pm_a5 an_a5 cd_a5 ct_a5,a_a9,PySem.W.fnOf "farthest" "farthest" (B2 s_a9) (B1 s_a9) (A5 s_a9) .none kV_a9 dc_a9 pm_a9 an_a9 cd_a9 ct_a9,a_a8,PySem.W.fnOf "earliest" "earliest" (B2 s_a8) (B1 s_a8) (A5 s_a8) .none kV_a8 dc_a8 pm_a8 an_a8 cd_a8 ct_a8,a_bc,PySem.W.fnOf "latest" "latest" (B2 s_bc) (B1 s_bc) (A5 s_bc) .none kV_bc dc_bc pm_bc an_bc cd_bc ct_bc,a_af,PySem.W.fnOf "_law_begun" "_law_begun" (B2 s_af) (B1 s_af) (A5 s_af) .none kV_af dc_af pm_af an_af cd_af ct_af,a_c0,PySem.W.fnOf "_law_take" "_law_take" (B2 s_c0) (B1 s_c0) (A5 s_c0) .none kV_c0 dc_c0 pm_c0 an_c0 cd_c0 ct_c0,a_c2,PySem.W.fnOf "_law_low" "_law_low" (B2 s_c2) (B1 s_c2) (A5 s_c2) .none kV_c2 dc_c2 pm_c2 an_c2 cd_c2 ct_c2,a_bf,PySem.W.fnOf "_law_plus" "_law_plus" (B2 s_bf) (B1 s_bf) (A5 s_bf) .none kV_bf dc_bf pm_bf an_bf cd_bf ct_bf,a_b3,PySem.W.fnOf "_law_minus" "_law_minus" (B2 s_b3) (B1 s_b3) (A5 s_b3) .none kV_b3 dc_b3 pm_b3 an_b3 cd_b3 ct_b3,a_b8,PySem.W.fnOf "_law_times" "_law_times" (B2 s_b8) (B1 s_b8) (A5 s_b8) .none kV_b8 dc_b8 pm_b8 an_b8 cd_b8 ct_b8,a_b9,PySem.W.fnOf "_law_under" "_law_under" (B2 s_b9) (B1 s_b9) (A5 s_b9) .none kV_b9 dc_b9 pm_b9 an_b9 cd_b9 ct_b9,a_aa,PySem.W.fnOf "_law_amount" "_law_amount" (B2 s_aa) (B1 s_aa) (A5 s_aa) .none kV_aa dc_aa pm_aa an_aa cd_aa ct_aa,a_b4,PySem.W.fnOf "_law_offer" "_law_offer" (B2 s_b4) (B1 s_b4) (A5 s_b4) .none kV_b4 dc_b4 pm_b4 an_b4 cd_b4 ct_b4,a_b7,PySem.W.fnOf "_law_shape" "_law_shape" (B2 s_b7) (B1 s_b7) (A5 s_b7) .none kV_b7 dc_b7 pm_b7 an_b7 cd_b7 ct_b7,a_b0,PySem.W.fnOf "_law_flows" "_law_flows" (B2 s_b0) (B1 s_b0) (A5 s_b0) .none kV_b0 dc_b0 pm_b0 an_b0 cd_b0 ct_b0,a_b2,PySem.W.fnOf "_law_loose" "_law_loose" (B2 s_b2) (B1 s_b2) (A5 s_b2) .none kV_b2 dc_b2 pm_b2 an_b2 cd_b2 ct_b2,a_a0,PySem.W.fnOf "_law_times_drawn" "_law_times_drawn" (B2 s_a0) (B1 s_a0) (A5 s_a0) .none kV_a0 dc_a0 pm_a0 an_a0 cd_a0 ct_a0,a_b1,PySem.W.fnOf "_law_keeps" "_law_keeps" (B2 s_b1) (B1 s_b1) (A5 s_b1) .none kV_b1 dc_b1 pm_b1 an_b1 cd_b1 ct_b1,a_a3,PySem.W.fnOf "_law_fraction" "_law_fraction" (B2 s_a3) (B1 s_a3) (A5 s_a3) .none kV_a3 dc_a3 pm_a3 an_a3 cd_a3 ct_a3,a_be,PySem.W.fnOf "_law_copy" "_law_copy" (B2 s_be) (B1 s_be) (A5 s_be) .none kV_be dc_be pm_be an_be cd_be ct_be,a_ac,PySem.W.fnOf "_law_starts" "_law_starts" (B2 s_ac) (B1 s_ac) (A5 s_ac) .none kV_ac dc_ac pm_ac an_ac cd_ac ct_ac,a_a2,PySem.W.fnOf "_law_balanced" "_law_balanced" (B2 s_a2) (B1 s_a2) (A5 s_a2) .none kV_a2 dc_a2 pm_a2 an_a2 cd_a2 ct_a2,a_ab,PySem.W.fnOf "_law_length" "_law_length" (B2 s_ab) (B1 s_ab) (A5 s_ab) .none kV_ab dc_ab pm_ab an_ab cd_ab ct_ab,a_a6,PySem.W.fnOf "_law_chained" "_law_chained" (B2 s_a6) (B1 s_a6) (A5 s_a6) .none kV_a6 dc_a6 pm_a6 an_a6 cd_a6 ct_a6,a_b5,PySem.W.fnOf "_law_right" "_law_right" (B2 s_b5) (B1 s_b5) (A5 s_b5) .none kV_b5 dc_b5 pm_b5 an_b5 cd_b5 ct_b5,a_ba,PySem.W.fnOf "_law_whole" "_law_whole" (B2 s_ba) (B1 s_ba) (A5 s_ba) .none kV_ba dc_ba pm_ba an_ba cd_ba ct_ba,a_a7,PySem.W.fnOf "_law_grouped" "_law_grouped" (B2 s_a7) (B1 s_a7) (A5 s_a7) .none kV_a7 dc_a7 pm_a7 an_a7 cd_a7 ct_a7,a_b6,PySem.W.fnOf "_law_round" "_law_round" (B2 s_b6) (B1 s_b6) (A5 s_b6) .none kV_b6 dc_b6 pm_b6 an_b6 cd_b6 ct_b6,a_a4,PySem.W.fnOf "_law_lag_drawn" "_law_lag_drawn" (B2 s_a4) (B1 s_a4) (A5 s_a4) .none kV_a4 dc_a4 pm_a4 an_a4 cd_a4 ct_a4,fa,PySem.W.fnOf "law" "law" (B2 s_c4) (B1 s_c4) (A5 s_c4) .none kV_c4 dc_c4 pm_c4 an_c4 cd_c4 ct_c4,q_NOUGHT,q_ONE⟩:=⟨E7 (st:=s_a1) l_a1 c_a1 k_a1,PySem.W.mg_of X G g_a1,E7 (st:=s_c3) l_c3 c_c3 k_c3,PySem.W.mg_of X G g_c3,E7 (st:=s_c1) l_c1 c_c1 k_c1,PySem.W.mg_of X G g_c1,E7 (st:=s_bb) l_bb c_bb k_bb,PySem.W.mg_of X G g_bb,E7 (st:=s_ad) l_ad c_ad k_ad,PySem.W.mg_of X G g_ad,E7 (st:=s_bd) l_bd c_bd k_bd,PySem.W.mg_of X G g_bd,E7 (st:=s_ae) l_ae c_ae k_ae,PySem.W.mg_of X G g_ae,E7 (st:=s_a5) l_a5 c_a5 k_a5,PySem.W.mg_of X G g_a5,E7 (st:=s_a9) l_a9 c_a9 k_a9,PySem.W.mg_of X G g_a9,E7 (st:=s_a8) l_a8 c_a8 k_a8,PySem.W.mg_of X G g_a8,E7 (st:=s_bc) l_bc c_bc k_bc,PySem.W.mg_of X G g_bc,E7 (st:=s_af) l_af c_af k_af,PySem.W.mg_of X G g_af,E7 (st:=s_c0) l_c0 c_c0 k_c0,PySem.W.mg_of X G g_c0,E7 (st:=s_c2) l_c2 c_c2 k_c2,PySem.W.mg_of X G g_c2,E7 (st:=s_bf) l_bf c_bf k_bf,PySem.W.mg_of X G g_bf,E7 (st:=s_b3) l_b3 c_b3 k_b3,PySem.W.mg_of X G g_b3,E7 (st:=s_b8) l_b8 c_b8 k_b8,PySem.W.mg_of X G g_b8,E7 (st:=s_b9) l_b9 c_b9 k_b9,PySem.W.mg_of X G g_b9,E7 (st:=s_aa) l_aa c_aa k_aa,PySem.W.mg_of X G g_aa,E7 (st:=s_b4) l_b4 c_b4 k_b4,PySem.W.mg_of X G g_b4,E7 (st:=s_b7) l_b7 c_b7 k_b7,PySem.W.mg_of X G g_b7,E7 (st:=s_b0) l_b0 c_b0 k_b0,PySem.W.mg_of X G g_b0,E7 (st:=s_b2) l_b2 c_b2 k_b2,PySem.W.mg_of X G g_b2,E7 (st:=s_a0) l_a0 c_a0 k_a0,PySem.W.mg_of X G g_a0,E7 (st:=s_b1) l_b1 c_b1 k_b1,PySem.W.mg_of X G g_b1,E7 (st:=s_a3) l_a3 c_a3 k_a3,PySem.W.mg_of X G g_a3,E7 (st:=s_be) l_be c_be k_be,PySem.W.mg_of X G g_be,E7 (st:=s_ac) l_ac c_ac k_ac,PySem.W.mg_of X G g_ac,E7 (st:=s_a2) l_a2 c_a2 k_a2,PySem.W.mg_of X G g_a2,E7 (st:=s_ab) l_ab c_ab k_ab,PySem.W.mg_of X G g_ab,E7 (st:=s_a6) l_a6 c_a6 k_a6,PySem.W.mg_of X G g_a6,E7 (st:=s_b5) l_b5 c_b5 k_b5,PySem.W.mg_of X G g_b5,E7 (st:=s_ba) l_ba c_ba k_ba,PySem.W.mg_of X G g_ba,E7 (st:=s_a7) l_a7 c_a7 k_a7,PySem.W.mg_of X G g_a7,E7 (st:=s_b6) l_b6 c_b6 k_b6,PySem.W.mg_of X G g_b6,E7 (st:=s_a4) l_a4 c_a4 k_a4,PySem.W.mg_of X G g_a4,E7 (st:=s_c4) l_c4 c_c4 k_c4,PySem.W.mg_of X G g_c4,PySem.W.mg_of X G gc_NOUGHT,PySem.W.mg_of X G gc_ONE,PySem.W.mg_none_of X G z_abs,PySem.W.mg_none_of X G z_all,PySem.W.mg_none_of X G z_any,PySem.W.mg_none_of X G z_bool,PySem.W.mg_none_of X G z_enumerate,PySem.W.mg_none_of X G z_int,PySem.W.mg_none_of X G z_isinstance,PySem.W.mg_none_of X G z_len,PySem.W.mg_none_of X G z_list,PySem.W.mg_none_of X G z_max,PySem.W.mg_none_of X G z_min,PySem.W.mg_none_of X G z_range,PySem.W.mg_none_of X G z_tuple,⟨fun H=>.tup (.inr ⟨_,its_NOUGHT,n_NOUGHT,lq_NOUGHT,rfl,rfl,by rw [vq_NOUGHT]; show 2<=sizeLine; decide,by rw [vq_NOUGHT]; exact .cons ⟨_,rfl⟩ (.cons ⟨_,rfl⟩ .nil)⟩) (.cons (.int _) (.cons (.int _) .nil))⟩,⟨fun H=>.tup (.inr ⟨_,its_ONE,n_ONE,lq_ONE,rfl,rfl,by rw [vq_ONE]; show 2<=sizeLine; decide,by rw [vq_ONE]; exact .cons ⟨_,rfl⟩ (.cons ⟨_,rfl⟩ .nil)⟩) (.cons (.int _) (.cons (.int _) .nil))⟩⟩;exact ⟨PySem.W.fnOf "law" "law" (B2 s_c4) (B1 s_c4) (A5 s_c4) .none kV_c4 dc_c4 pm_c4 an_c4 cd_c4 ct_c4,fun s v=>.of_eq rfl,fun base _ _=>B7y T⟩
theorem walk {l:PySem.W.OpenLaw} {q:Program} {loose:List Str} {XP:(Str->Option Value)->Heap->Prop} {YP:World->Heap->Prop} {d:DefRec} {K:Params->PySem.W.Frag} (hn:l.most=some 63) (hdf:d.params.defaults=[])
  (hY:∀ (w:World) (h:Heap),YP w h->(K w.params).In h)
  (F:∀ (w:World) (mg:Str->Option Value) (fa:Addr) (h:Heap),(K w.params).In h->h.Ns mainGlobals mg->mg d.name=some (.ref fa) ->
   ∃ fd:FuncData,(∀ (s:Shared) (u:Value),BindsTo s fd ⟨[u],[]⟩ [("_law_script",u)])/\∀ base:Heap,(K w.params).In base->base.Ns mainGlobals mg->FnOk l.prog w (K w.params) mg base CX0 10 fa fd ["_law_script"] (sp_law (K w.params))) :
  PySem.W.WalkO q loose XP YP l.row.toRowW d [] (fun f vs=>PySem.call f vs) :=
 L2.B3p (n:=63) (k:=10) (x:="_law_script") (CX:=fun _=>CX0) (sp:=fun w=>sp_law (K w.params)) hn (by decide) hdf ⟨rfl,rfl,by decide,by decide⟩ hY F (fun _ _ a ns hl _ hS=>⟨a,ns,rfl,hS,hl,fun _=>rfl⟩) fun _ _ _ _ _ z=>z
end Prf
open PySem PySem.W PyProof.Rows
set_option maxRecDepth 100000 in
set_option maxHeartbeats 0 in
theorem PySem.Challenge.cw_hurryprice_k27_whole_latest_or_bar_holds : PySem.Challenge.rw_hurryprice_k27_whole_latest_or_bar.Holds := by
 refine holds_law Prf.said fun ws=>?_;refine holds_open (q:=Prf.qq) (loose:=[]) (Xt:=Prf.xt) (XP:=XL Prf.qq []) (Yf:=Prf.hh.obs)
  (Ya:=Prf.hh.val) (YP:=Prf.hh.says) (N:=2552) Prf.left Prf.hh.of Prf.hh.keeps
  (fun s e=>xl_of s (Bool.and_eq_true_iff.mp e).1) XL.keeps
  (by rfl) (by rfl) (by rfl) (fun s e=>recFacts_of (Bool.and_eq_true_iff.mp e).2)
  (by rfl) ws (by decide +kernel)
  ⟨rfl,rfl,rfl,rfl,rfl,by decide +kernel⟩ ?hw ?hc
 case hw=>w_witness2
 refine Prf.walk (l:=PySem.Challenge.rw_hurryprice_k27_whole_latest_or_bar) (K:=Prf.kk) rfl rfl (fun w h Y=>PySem.W.kIn_of Y) ?F;case F =>
  intro w mg fa h KX G hmg
  k_fill
  refine' Prf.all_mk KX G hmg ?g_a1 ?l_a1 ?c_a1 ?k_a1 ?g_c3 ?l_c3 ?c_c3 ?k_c3 ?g_c1 ?l_c1 ?c_c1 ?k_c1 ?g_bb ?l_bb ?c_bb ?k_bb ?g_ad ?l_ad ?c_ad ?k_ad ?g_bd ?l_bd ?c_bd ?k_bd ?g_ae ?l_ae ?c_ae ?k_ae ?g_a5 ?l_a5 ?c_a5 ?k_a5 ?g_a9 ?l_a9 ?c_a9 ?k_a9 ?g_a8 ?l_a8 ?c_a8 ?k_a8 ?g_bc ?l_bc ?c_bc ?k_bc ?g_af ?l_af ?c_af ?k_af ?g_c0 ?l_c0 ?c_c0 ?k_c0 ?g_c2 ?l_c2 ?c_c2 ?k_c2 ?g_bf ?l_bf ?c_bf ?k_bf ?g_b3 ?l_b3 ?c_b3 ?k_b3 ?g_b8 ?l_b8 ?c_b8 ?k_b8 ?g_b9 ?l_b9 ?c_b9 ?k_b9 ?g_aa ?l_aa ?c_aa ?k_aa ?g_b4 ?l_b4 ?c_b4 ?k_b4 ?g_b7 ?l_b7 ?c_b7 ?k_b7 ?g_b0 ?l_b0 ?c_b0 ?k_b0 ?g_b2 ?l_b2 ?c_b2 ?k_b2 ?g_a0 ?l_a0 ?c_a0 ?k_a0 ?g_b1 ?l_b1 ?c_b1 ?k_b1 ?g_a3 ?l_a3 ?c_a3 ?k_a3 ?g_be ?l_be ?c_be ?k_be ?g_ac ?l_ac ?c_ac ?k_ac ?g_a2 ?l_a2 ?c_a2 ?k_a2 ?g_ab ?l_ab ?c_ab ?k_ab ?g_a6 ?l_a6 ?c_a6 ?k_a6 ?g_b5 ?l_b5 ?c_b5 ?k_b5 ?g_ba ?l_ba ?c_ba ?k_ba ?g_a7 ?l_a7 ?c_a7 ?k_a7 ?g_b6 ?l_b6 ?c_b6 ?k_b6 ?g_a4 ?l_a4 ?c_a4 ?k_a4 ?g_c4 ?l_c4 ?c_c4 ?k_c4 ?gc_NOUGHT ?gc_ONE ?z_abs ?z_all ?z_any ?z_bool ?z_enumerate ?z_int ?z_isinstance ?z_len ?z_list ?z_max ?z_min ?z_range ?z_tuple ?lq_NOUGHT ?vq_NOUGHT ?lq_ONE ?vq_ONE
  (case g_a1=>k_is)
  (case l_a1=>k_is)
  (case c_a1=>k_is)
  (case k_a1=>k_is)
  (case g_c3=>k_is)
  (case l_c3=>k_is)
  (case c_c3=>k_is)
  (case k_c3=>k_is)
  (case g_c1=>k_is)
  (case l_c1=>k_is)
  (case c_c1=>k_is)
  (case k_c1=>k_is)
  (case g_bb=>k_is)
  (case l_bb=>k_is)
  (case c_bb=>k_is)
  (case k_bb=>k_is)
  (case g_ad=>k_is)
  (case l_ad=>k_is)
  (case c_ad=>k_is)
  (case k_ad=>k_is)
  (case g_bd=>k_is)
  (case l_bd=>k_is)
  (case c_bd=>k_is)
  (case k_bd=>k_is)
  (case g_ae=>k_is)
  (case l_ae=>k_is)
  (case c_ae=>k_is)
  (case k_ae=>k_is)
  (case g_a5=>k_is)
  (case l_a5=>k_is)
  (case c_a5=>k_is)
  (case k_a5=>k_is)
  (case g_a9=>k_is)
  (case l_a9=>k_is)
  (case c_a9=>k_is)
  (case k_a9=>k_is)
  (case g_a8=>k_is)
  (case l_a8=>k_is)
  (case c_a8=>k_is)
  (case k_a8=>k_is)
  (case g_bc=>k_is)
  (case l_bc=>k_is)
  (case c_bc=>k_is)
  (case k_bc=>k_is)
  (case g_af=>k_is)
  (case l_af=>k_is)
  (case c_af=>k_is)
  (case k_af=>k_is)
  (case g_c0=>k_is)
  (case l_c0=>k_is)
  (case c_c0=>k_is)
  (case k_c0=>k_is)
  (case g_c2=>k_is)
  (case l_c2=>k_is)
  (case c_c2=>k_is)
  (case k_c2=>k_is)
  (case g_bf=>k_is)
  (case l_bf=>k_is)
  (case c_bf=>k_is)
  (case k_bf=>k_is)
  (case g_b3=>k_is)
  (case l_b3=>k_is)
  (case c_b3=>k_is)
  (case k_b3=>k_is)
  (case g_b8=>k_is)
  (case l_b8=>k_is)
  (case c_b8=>k_is)
  (case k_b8=>k_is)
  (case g_b9=>k_is)
  (case l_b9=>k_is)
  (case c_b9=>k_is)
  (case k_b9=>k_is)
  (case g_aa=>k_is)
  (case l_aa=>k_is)
  (case c_aa=>k_is)
  (case k_aa=>k_is)
  (case g_b4=>k_is)
  (case l_b4=>k_is)
  (case c_b4=>k_is)
  (case k_b4=>k_is)
  (case g_b7=>k_is)
  (case l_b7=>k_is)
  (case c_b7=>k_is)
  (case k_b7=>k_is)
  (case g_b0=>k_is)
  (case l_b0=>k_is)
  (case c_b0=>k_is)
  (case k_b0=>k_is)
  (case g_b2=>k_is)
  (case l_b2=>k_is)
  (case c_b2=>k_is)
  (case k_b2=>k_is)
  (case g_a0=>k_is)
  (case l_a0=>k_is)
  (case c_a0=>k_is)
  (case k_a0=>k_is)
  (case g_b1=>k_is)
  (case l_b1=>k_is)
  (case c_b1=>k_is)
  (case k_b1=>k_is)
  (case g_a3=>k_is)
  (case l_a3=>k_is)
  (case c_a3=>k_is)
  (case k_a3=>k_is)
  (case g_be=>k_is)
  (case l_be=>k_is)
  (case c_be=>k_is)
  (case k_be=>k_is)
  (case g_ac=>k_is)
  (case l_ac=>k_is)
  (case c_ac=>k_is)
  (case k_ac=>k_is)
  (case g_a2=>k_is)
  (case l_a2=>k_is)
  (case c_a2=>k_is)
  (case k_a2=>k_is)
  (case g_ab=>k_is)
  (case l_ab=>k_is)
  (case c_ab=>k_is)
  (case k_ab=>k_is)
  (case g_a6=>k_is)
  (case l_a6=>k_is)
  (case c_a6=>k_is)
  (case k_a6=>k_is)
  (case g_b5=>k_is)
  (case l_b5=>k_is)
  (case c_b5=>k_is)
  (case k_b5=>k_is)
  (case g_ba=>k_is)
  (case l_ba=>k_is)
  (case c_ba=>k_is)
  (case k_ba=>k_is)
  (case g_a7=>k_is)
  (case l_a7=>k_is)
  (case c_a7=>k_is)
  (case k_a7=>k_is)
  (case g_b6=>k_is)
  (case l_b6=>k_is)
  (case c_b6=>k_is)
  (case k_b6=>k_is)
  (case g_a4=>k_is)
  (case l_a4=>k_is)
  (case c_a4=>k_is)
  (case k_a4=>k_is)
  (case g_c4=>k_is)
  (case l_c4=>k_is)
  (case c_c4=>k_is)
  (case k_c4=>k_is)
  (case gc_NOUGHT=>k_is)
  (case gc_ONE=>k_is)
  (case z_abs=>k_is)
  (case z_all=>k_is)
  (case z_any=>k_is)
  (case z_bool=>k_is)
  (case z_enumerate=>k_is)
  (case z_int=>k_is)
  (case z_isinstance=>k_is)
  (case z_len=>k_is)
  (case z_list=>k_is)
  (case z_max=>k_is)
  (case z_min=>k_is)
  (case z_range=>k_is)
  (case z_tuple=>k_is)
  (case lq_NOUGHT=>k_is)
  (case vq_NOUGHT=>exact rfl)
  (case lq_ONE=>k_is)
  (case vq_ONE=>exact rfl)