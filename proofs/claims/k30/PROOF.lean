
import PyProof.Rows.All
import Wide.All
import OpenK.AllK
import Wide.FinOn
import Lean
import PyProof.EqAt
import PyProof.EqKinds
import PyProof.TupleCall
import PySem.Challenge.RW_hurryprice_k30_whole_soonest_whole
set_option Elab.async false
set_option linter.all false
set_option maxRecDepth 100000
set_option maxHeartbeats 4000000
set_option compiler.extract_closed false
theorem Zm {α:Type u} {l:List α} {i:Nat} {a:α} (h:l[i]?=some a):a ∈ l:=List.mem_of_getElem? h
theorem Zg {α:Type u} {l:List α} {i:Nat} (h:i < l.length):l[i]?=some l[i]:=List.getElem?_eq_getElem h
theorem Zs {α:Type u} {l:List α} {i:Nat} {a:α} (h:l[i]?=some a):∃ h:i < l.length,l[i]=a:=List.getElem?_eq_some_iff.mp h
theorem Za {α:Type u} {a:α} {s t:List α} (h:a ∈ s++t):a ∈ s\/a ∈ t:=List.mem_append.mp h
theorem Zi {a:Int} (h:0<=a):∃ n:Nat,a=(n:Int):=Int.eq_ofNat_of_zero_le h
theorem Zo {α:Type u} {β:Type v} {f:α->β} {x:Option α} {b:β} (h:x.map f=some b):∃ a,x=some a/\f a=b:=Option.map_eq_some_iff.mp h
theorem Zn {α:Type u} {a b:α} (h:a ∈ [b]):a=b:=List.mem_singleton.mp h
theorem Zr {α:Type u} {a:α} {l:List α} (y:α) (h:a ∈ l):a ∈ y :: l:=List.mem_cons_of_mem y h
theorem Zu {m n:Nat} (k:Nat) (h:m<=n):m * k<=n * k:=Nat.mul_le_mul_right k h
theorem Zt {α:Type u} {a:α} {as:List α} (bs:List α) (h:a ∈ as):a ∈ as++bs:=List.mem_append_left bs h
theorem Zw {α:Type u} {b:α} (as:List α) {bs:List α} (h:b ∈ bs):b ∈ as++bs:=List.mem_append_right as h
theorem Zj {α:Type u} {a b:α} (h:some a=some b):a=b:=Option.some.inj h
theorem Zp {n m k:Nat} (h:n > 0) (g:m<=k):n ^ m<=n ^ k:=Nat.pow_le_pow_right h g
theorem Zv (n:Nat):n<=n:=Nat.le_refl n
theorem Zx {n m k:Nat} (a:n<=m) (b:m<=k):n<=k:=Nat.le_trans a b
theorem Zy {α:Type u} {a:α} {l:List α}:a ∈ a :: l:=List.mem_cons_self
theorem Zd {p:Prop} [Decidable p] (h:¬p):decide p=false:=decide_eq_false h
theorem Zk {p:Prop} [Decidable p] (h:p):decide p=true:=decide_eq_true h
def Zq:=@PySem.W.mg_of
def Z1:=@PySem.F.plainAttrs_list
def Z2:=@PySem.F.slot_list_append
def Z3:=@PySem.F.type_list_append
theorem Zl {α:Type u} {β:Type v} {as:List α} {f:α->β}:(as.map f).length=as.length:=List.length_map f
theorem Zh {α:Type u} {β:Type v} {f:α->β} {l:List α} {i:Nat}:(l.map f)[i]?=l[i]?.map f:=List.getElem?_map ..
theorem Zc {α:Type u} {β:Type v} {f:α->β} {l k:List α}:(l++k).map f=l.map f++k.map f:=List.map_append ..
theorem Ze {α:Type u} {as bs:List α}:(as++bs).length=as.length + bs.length:=List.length_append ..
abbrev LW:=List (Int × Int × Rat)
abbrev LH:=List (PySem.Str × Int × Rat)
abbrev LR:=List (Rat × Rat)
abbrev LP:=List PySem.PyData
abbrev LQ:=List Rat
namespace L2
open PySem PySem.Spec PyProof.Rows
def N5 (s:Stmt):Arguments:=match s with
 | .FunctionDef _ a _ _ _ _ _ _ _ _=>a
 | _=>{ posonlyargs:=[],args:=[],vararg:=none,kwonlyargs:=[],kw_defaults:=[],kwarg:=none,defaults:=[] }
def L9 (s:Stmt):List Stmt:=match s with
 | .FunctionDef _ _ b _ _ _ _ _ _ _=>b
 | _=>[]
def A8 (s:Stmt):Scope:=match s with
 | .FunctionDef _ _ _ _ _ _ sc _ _ _=>sc
 | _=>{ kind:=.function,names:=[],isGenerator:=false,isCoroutine:=false }
open PySem.W
def U8 (tb:String->Option Builtin) (p:Program) (w:World) (m:Nat) (ann:Option Value):Nat->SharedT->Thread->Option SharedT
 | 0,_,_=>none
 | n + 1,s,t=>match through t with
  | true=>some s
  | false=>match stepOk m ann t with
   | false=>none
   | true=>match stepT (denote tb) p w s t with
    | some x=>U8 tb p w m ann n x.1 x.2
    | none=>none
theorem A04 {tb:String->Option Builtin} {p:Program} {w:World} {m:Nat} {ann:Option Value}:∀ (n:Nat) (s r:SharedT) (t:Thread),U8 tb p w m ann n s t=some r->topRun tb p w m ann n s.abs t=some r.abs
 | 0,_,_,_,h=>by cases h
 | n + 1,s,r,t,h=>by
  unfold U8 at h;unfold topRun;cases a:through t with
  | true=>rw [a] at h; cases h; rfl
  | false =>
   rw [a] at h;cases b:stepOk m ann t with
   | false=>rw [b] at h; cases h
   | true =>
    rw [b] at h;cases c:stepT (denote tb) p w s t with
    | none=>rw [c] at h; cases h
    | some x =>
     rw [c] at h;rw [stepT_spec (s':=x.1) (t':=x.2) c];exact A04 n x.1 r x.2 h
def mkT (os:List Obj):Nat->Nat->Nat->BT
 | 0,_,_=>.nil
 | k + 1,a,b=>match os[b]? with
  | some o=>.node o (mkT os k (2 * a) (a + b)) (mkT os k (2 * a) (2 * a + b))
  | none=>.nil
noncomputable def A7o (w:World) (os:OsState):Shared:=⟨boot_heap w.params,Array.mk [],boot_drawn,boot_toks,os⟩
noncomputable def B3j (w:World) (os:OsState):SharedT:=⟨mkT (boot_heap w.params).objs.toList 12 1 0,(boot_heap w.params).objs.size,(boot_heap w.params).life,Array.mk [],boot_drawn,boot_toks,os⟩
theorem B3i (w:World) (os:OsState):(B3j w os).abs=A7o w os:=by kernel_rfl
theorem B89 (w:World) (os:OsState):((A7o w os).heap.isNs mainGlobals && (A7o w os).gens.size == 0)=true:=by kernel_rfl
theorem C39 {p q:Program} {loose:List Str} {Xt:Shared->Bool} {α:Type} {Yf:Shared->α} {Ya:World->α} {N:Nat} (ho:opening p=plainProg p.main.scope.names) (hN:Nat.ble 600 N=true) (hf:∀ s,fenceModules? p s=some s)
  (run:∀ (w:World) (os:OsState),(U8 treeTable p w (boot_heap w.params).objs.size ((boot_heap w.params).nsMap mainGlobals "__annotations__") N (B3j w os) (topStub p)).map
   (fun x=>(staticsOk (importedModules p.main.body) (boot_heap w.params) x.abs.heap && namesBound p x.abs.heap && gensDone x.abs && laidKept (boot_heap w.params) x.abs.heap,openSeen q loose (importedModules p.main.body) Xt true x.abs,Yf x.abs))=some (true,openGood q loose,Ya w)) :
  LeftO p q loose Xt Yf Ya N:=fun w=>by
 obtain ⟨⟨h,gs,d,k,os⟩,e,z⟩:=Zo (boot_open ho hN hf w);obtain ⟨rfl,rfl,rfl,rfl⟩:h=boot_heap w.params/\gs=Array.mk []/\d=boot_drawn/\k=boot_toks:=by simpa using z
 obtain ⟨x,r,v⟩:=Zo (run w os);have r:=A04 _ _ _ _ r;rw [B3i] at r;obtain ⟨v1,v2⟩:=Prod.mk.inj v;obtain ⟨v2,v3⟩:=Prod.mk.inj v2;show ((fencedOpening treeTable p w N).bind (topFrom treeTable p w N)).map _=_;rw [e];show (topFrom treeTable p w N (A7o w os)).map _=_;have t:topFrom treeTable p w N (A7o w os)=some x.abs:=by
  unfold topFrom;rw [B89];show (topRun treeTable p w (boot_heap w.params).objs.size ((boot_heap w.params).nsMap mainGlobals "__annotations__") N (A7o w os) (topStub p)).bind _=_;rw [r];show (match staticsOk (importedModules p.main.body) (boot_heap w.params) x.abs.heap && namesBound p x.abs.heap && gensDone x.abs && laidKept (boot_heap w.params) x.abs.heap with | true=>some x.abs | false=>none)=_;rw [v1]
 rw [t];show some (openSeen q loose (importedModules p.main.body) Xt true x.abs,Yf x.abs)=_;rw [v2,v3]
noncomputable abbrev ranT (p:Program) (N:Nat) (w:World) (os:OsState):Option SharedT:=U8 treeTable p w (boot_heap w.params).objs.size ((boot_heap w.params).nsMap mainGlobals "__annotations__") N (B3j w os) (topStub p)
theorem C2s {p q:Program} {loose:List Str} {Xt:Shared->Bool} {α:Type} {Yf:Shared->α} {Ya:World->α} {N:Nat} (ho:opening p=plainProg p.main.scope.names) (hN:Nat.ble 600 N=true) (hf:∀ s,fenceModules? p s=some s)
  (a:∀ (w:World) (os:OsState),(ranT p N w os).map (fun x=>staticsOk (importedModules p.main.body) (boot_heap w.params) x.abs.heap && namesBound p x.abs.heap && gensDone x.abs && laidKept (boot_heap w.params) x.abs.heap)=some true)
  (b:∀ (w:World) (os:OsState),(ranT p N w os).map (fun x=>openSeen q loose (importedModules p.main.body) Xt true x.abs)=some (openGood q loose))
  (c:∀ (w:World) (os:OsState),(ranT p N w os).map (fun x=>Yf x.abs)=some (Ya w)):LeftO p q loose Xt Yf Ya N :=
 C39 ho hN hf fun w os=>by
  obtain ⟨x,r,e⟩:=Zo (a w os);have r':U8 treeTable p w (boot_heap w.params).objs.size ((boot_heap w.params).nsMap mainGlobals "__annotations__") N (B3j w os) (topStub p)=some x:=r;have f:openSeen q loose (importedModules p.main.body) Xt true x.abs=openGood q loose:=by have z:=b w os; rw [r] at z; exact Zj z
  have g:Yf x.abs=Ya w:=by have z:=c w os; rw [r] at z; exact Zj z
  rw [r'];show some (_,_,_)=_;rw [e,f,g]
theorem C2r {p q:Program} {loose:List Str} {Xt:Shared->Bool} {α:Type} {Yf:Shared->α} {Ya:World->α} {N:Nat} (ho:opening p=plainProg p.main.scope.names) (hN:Nat.ble 600 N=true) (hf:∀ s,fenceModules? p s=some s)
  (a:∀ (w:World) (os:OsState),(ranT p N w os).map (fun x=>staticsOk (importedModules p.main.body) (boot_heap w.params) x.abs.heap && namesBound p x.abs.heap && gensDone x.abs && laidKept (boot_heap w.params) x.abs.heap)=some true)
  (b:∀ (w:World) (os:OsState),(ranT p N w os).map (fun x=>seen ((recsOf q).map (·.name)) (ownsOf q) [] { heap:=x.abs.heap,drawn:=x.abs.drawn,toks:=x.abs.toks,os:=x.abs.os })=some (expectedOf q))
  (b1:∀ (w:World) (os:OsState),(ranT p N w os).map (fun x=>x.abs.heap.bltView)=some bltViewBooted)
  (k1:∀ (w:World) (os:OsState),(ranT p N w os).map (fun x=>x.abs.heap.keysOk (looseW q loose) ((recsOf q).map (·.name)) ((litsOf q).map (·.1)) ((clssOf q (looseW q loose)).map (·.name)))=some true)
  (k2:∀ (w:World) (os:OsState),(ranT p N w os).map (fun x=>x.abs.heap.accountedOkI (importedModules p.main.body) && x.abs.heap.isNs mainGlobals && x.abs.heap.isNs builtinsNs && tablesOk q x.abs.heap && Xt x.abs && x.abs.gens.size == 0)=some true)
  (b3:∀ (w:World) (os:OsState),(ranT p N w os).map (fun x=>(tabsOk q x.abs,pinSeenD q (drecsOf q) x.abs))=some (true,pinGoodD (drecsOf q)))
  (b5:∀ (w:World) (os:OsState),(ranT p N w os).map (fun x=>(plainSeenE q (looseW q loose) x.abs,plainSeenD q loose x.abs))=some (plainGoodE q (looseW q loose),plainGoodD q loose))
  (b4:∀ (w:World) (os:OsState),(ranT p N w os).map (fun x=>(wideSeen q x.abs,clsSeenW q loose x.abs))=some (wideGood q,clsGoodW q loose))
  (c:∀ (w:World) (os:OsState),(ranT p N w os).map (fun x=>Yf x.abs)=some (Ya w)):LeftO p q loose Xt Yf Ya N :=
 C2s ho hN hf a (fun w os=>by
  obtain ⟨x,r,e⟩:=Zo (b w os);have z1:=b1 w os;have z2:=k1 w os;have z3:=k2 w os;have z4:=b3 w os;have z6:=b4 w os;have z7:=b5 w os;rw [r] at z1 z2 z3 z4 z6 z7 ⊢;have z1:x.abs.heap.bltView=bltViewBooted:=Zj z1;have z2:x.abs.heap.keysOk (looseW q loose) ((recsOf q).map (·.name)) ((litsOf q).map (·.1)) ((clssOf q (looseW q loose)).map (·.name))=true:=Zj z2;have z3:(x.abs.heap.accountedOkI (importedModules p.main.body) && x.abs.heap.isNs mainGlobals && x.abs.heap.isNs builtinsNs && tablesOk q x.abs.heap && Xt x.abs && x.abs.gens.size == 0)=true:=Zj z3;obtain ⟨y1,y2⟩:=Prod.mk.inj (Zj z4);obtain ⟨y3,y4⟩:=Prod.mk.inj (Zj z7);obtain ⟨y5,y6⟩:=Prod.mk.inj (Zj z6);show some (seen ((recsOf q).map (·.name)) (ownsOf q) [] { heap:=x.abs.heap,drawn:=x.abs.drawn,toks:=x.abs.toks,os:=x.abs.os },x.abs.heap.bltView,(x.abs.heap.keysOk (looseW q loose) ((recsOf q).map (·.name)) ((litsOf q).map (·.1)) ((clssOf q (looseW q loose)).map (·.name)) && x.abs.heap.accountedOkI (importedModules p.main.body) && x.abs.heap.isNs mainGlobals && x.abs.heap.isNs builtinsNs && tablesOk q x.abs.heap && Xt x.abs && x.abs.gens.size == 0),tabsOk q x.abs,pinSeenD q (drecsOf q) x.abs,plainSeenE q (looseW q loose) x.abs,plainSeenD q loose x.abs,wideSeen q x.abs,clsSeenW q loose x.abs)=some (expectedOf q,bltViewBooted,true,true,pinGoodD (drecsOf q),plainGoodE q (looseW q loose),plainGoodD q loose,wideGood q,clsGoodW q loose);rw [z1,z2,Bool.true_and,z3,y1,y2,y3,y4,y5,y6];exact congrArg (fun z=>some (z,_)) e) c
end L2
namespace Prf
open PySem L2
def top (i:Nat):Stmt:=PySem.Challenge.pw_hurryprice_k30_whole_soonest_whole.main.body.getD i (.Pass ⟨0,0,0,0⟩)
abbrev s_c1:Stmt:=top 7
abbrev s_b1:Stmt:=top 8
abbrev s_aa:Stmt:=top 9
abbrev s_c0:Stmt:=top 10
abbrev s_e5:Stmt:=top 13
abbrev s_e0:Stmt:=top 14
abbrev s_c2:Stmt:=top 15
abbrev s_d5:Stmt:=top 16
abbrev s_d3:Stmt:=top 17
abbrev s_c4:Stmt:=top 18
abbrev s_e1:Stmt:=top 19
abbrev s_a8:Stmt:=top 21
abbrev s_b0:Stmt:=top 22
abbrev s_a3:Stmt:=top 23
abbrev s_a7:Stmt:=top 24
abbrev s_b2:Stmt:=top 25
abbrev s_e2:Stmt:=top 28
abbrev s_be:Stmt:=top 29
abbrev s_d7:Stmt:=top 30
abbrev s_c5:Stmt:=top 31
abbrev s_b3:Stmt:=top 32
abbrev s_b9:Stmt:=top 33
abbrev s_b8:Stmt:=top 34
abbrev s_d4:Stmt:=top 35
abbrev s_a2:Stmt:=top 37
abbrev s_df:Stmt:=top 39
abbrev s_af:Stmt:=top 40
abbrev s_ac:Stmt:=top 41
abbrev s_bd:Stmt:=top 42
abbrev s_bc:Stmt:=top 43
abbrev s_ad:Stmt:=top 44
abbrev s_d6:Stmt:=top 45
abbrev s_a6:Stmt:=top 46
abbrev s_de:Stmt:=top 48
abbrev s_b5:Stmt:=top 49
abbrev s_ae:Stmt:=top 50
abbrev s_a0:Stmt:=top 51
abbrev s_ab:Stmt:=top 52
abbrev s_a4:Stmt:=top 53
abbrev s_a5:Stmt:=top 54
abbrev s_ba:Stmt:=top 56
abbrev s_b7:Stmt:=top 57
abbrev s_e4:Stmt:=top 58
abbrev s_b4:Stmt:=top 60
abbrev s_c3:Stmt:=top 61
abbrev s_c6:Stmt:=top 63
abbrev s_db:Stmt:=top 64
abbrev s_e3:Stmt:=top 65
abbrev s_d9:Stmt:=top 66
abbrev s_ca:Stmt:=top 67
abbrev s_d1:Stmt:=top 68
abbrev s_d2:Stmt:=top 69
abbrev s_bb:Stmt:=top 70
abbrev s_cc:Stmt:=top 71
abbrev s_cf:Stmt:=top 72
abbrev s_dd:Stmt:=top 73
abbrev s_da:Stmt:=top 74
abbrev s_cd:Stmt:=top 75
abbrev s_c8:Stmt:=top 76
abbrev s_c9:Stmt:=top 77
abbrev s_dc:Stmt:=top 78
abbrev s_b6:Stmt:=top 79
abbrev s_d0:Stmt:=top 80
abbrev s_a9:Stmt:=top 81
abbrev s_d8:Stmt:=top 82
abbrev s_c7:Stmt:=top 83
abbrev s_a1:Stmt:=top 84
abbrev s_ce:Stmt:=top 85
abbrev s_e6:Stmt:=top 86
abbrev cO (n:Str) (a:Tok) (m:Str) (b c:Tok) (l p f:Int) (x y z u v:Value) (g k:Int) (d:Tok):Obj:=⟨.type "code",none,.fields #[.str n a,.str m b,.str "/claim/cut.py" c,.int l 0,.int p 0,.int 0 0,.int 0 0,.int f 0,x,.bool true,.int 181 0,y,.none,z,u,v,.int g 0,.int k 0,.str "/claim/cut.py" d],#[]⟩
abbrev fO (n:Str) (s:Stmt) (m:Str) (t:Tok) (c:Addr):Obj:=⟨.type "function",none,.func (PySem.W.fnOf n n (N5 s) (L9 s) (A8 s) .none .none .none (.str m t) none (.ref c) .none),#[]⟩
abbrev nE (P:Params) (x:Str) (t:Tok) (v:Value):DictEntry:=⟨PyData.keyHash P x,.str x t,v⟩
noncomputable def kk:Params->PySem.W.Frag:=fun P =>
 (nat_lit 3,⟨(.type "dict"),none,(.dict #[nE P "__name__" 165 (.str "law_hurryprice_k30_whole_soonest_whole" 742),nE P "__doc__" 166 .none,nE P "__package__" 167 .none,nE P "__loader__" 168 (.builtin "__main__.__loader__#opaque"),nE P "__spec__" 169 .none,nE P "__annotations__" 170 (.ref 6),nE P "__builtins__" 171 (.ref 4),nE P "__file__" 173 (.str "/claim/cut.py" 172),nE P "__cached__" 174 .none,nE P "HurryError" 206 (.ref 24),nE P "NoNumber" 222 (.ref 37),nE P "NoTime" 238 (.ref 49),nE P "NoPaper" 263 (.ref 68),nE P "Unbalanced" 288 (.ref 87),nE P "is_whole" 297 (.ref 96),nE P "is_tuple_of" 305 (.ref 103),nE P "common_part" 313 (.ref 110),nE P "is_ratio" 322 (.ref 117),nE P "NOUGHT" 327 (.ref 118),nE P "plus" 340 (.ref 125),nE P "minus" 348 (.ref 132),nE P "product" 358 (.ref 139),nE P "parted" 368 (.ref 146),nE P "is_less" 376 (.ref 153),nE P "smaller" 384 (.ref 160),nE P "sum_of" 393 (.ref 167),nE P "rate_between" 403 (.ref 174),nE P "is_offered" 409 (.ref 179),nE P "corners_above" 415 (.ref 184),nE P "price_of_time" 426 (.ref 191),nE P "least_with" 432 (.ref 196),nE P "ONE" 437 (.ref 197),nE P "timed" 452 (.ref 204),nE P "hold_way" 465 (.ref 211),nE P "ways_of" 471 (.ref 216),nE P "stretch" 487 (.ref 223),nE P "ring_paper" 503 (.ref 230),nE P "farthest" 509 (.ref 235),nE P "earliest" 519 (.ref 242),nE P "latest" 525 (.ref 247),nE P "is_number_below" 535 (.ref 254),nE P "is_arc" 551 (.ref 261),nE P "is_carried" 561 (.ref 268),nE P "look_at_form" 572 (.ref 275),nE P "flows_of" 578 (.ref 280),nE P "add_hold" 591 (.ref 287),nE P "amounts_of" 603 (.ref 294),nE P "rate_of" 609 (.ref 299),nE P "look_at_paper" 617 (.ref 306),nE P "end_of" 626 (.ref 313),nE P "wait_slack" 637 (.ref 320),nE P "hold_slack" 648 (.ref 327),nE P "takes_one_corner" 654 (.ref 332),nE P "first_below" 664 (.ref 339),nE P "first_untaken" 676 (.ref 346),nE P "first_broken" 682 (.ref 351),nE P "weight_of" 702 (.ref 358),nE P "claims_of" 708 (.ref 363),nE P "bars" 720 (.ref 370),nE P "slip_alone" 735 (.ref 377),nE P "slips_of" 741 (.ref 382),nE P "_law_begun" 752 (.ref 389),nE P "_law_take" 763 (.ref 396),nE P "_law_low" 773 (.ref 403),nE P "_law_plus" 781 (.ref 410),nE P "_law_minus" 789 (.ref 417),nE P "_law_times" 797 (.ref 424),nE P "_law_under" 805 (.ref 431),nE P "_law_amount" 816 (.ref 438),nE P "_law_offer" 822 (.ref 443),nE P "_law_shape" 841 (.ref 450),nE P "_law_walk" 847 (.ref 455),nE P "_law_rate" 861 (.ref 462),nE P "_law_paper" 867 (.ref 467),nE P "_law_flows" 873 (.ref 472),nE P "_law_least" 885 (.ref 479),nE P "_law_time" 891 (.ref 484),nE P "_law_planned" 897 (.ref 489),nE P "_law_slack" 907 (.ref 496),nE P "_law_latest_end" 918 (.ref 503),nE P "_law_copy" 924 (.ref 508),nE P "_law_drawn" 936 (.ref 515),nE P "_law_soonest_whole" 942 (.ref 520),nE P "_law_round" 964 (.ref 527),nE P "law" 970 (.ref 532)] 85),#[]⟩) ::
 (nat_lit 95,cO "is_whole" 291 "is_whole" 292 293 17 1 3 (.ref 90) (.ref 91) (.ref 92) (.ref 93) (.ref 94) 295 17 296) ::
 (nat_lit 96,fO "is_whole" s_c1 "hurryprice.names" 289 95) ::
 (nat_lit 102,cO "is_tuple_of" 298 "is_tuple_of" 299 300 19 2 3 (.ref 97) (.ref 98) (.ref 99) (.ref 100) (.ref 101) 303 19 304) ::
 (nat_lit 103,fO "is_tuple_of" s_b1 "hurryprice.names" 289 102) ::
 (nat_lit 109,cO "common_part" 306 "common_part" 307 308 21 2 3 (.ref 104) (.ref 105) (.ref 106) (.ref 107) (.ref 108) 311 21 312) ::
 (nat_lit 110,fO "common_part" s_aa "hurryprice.names" 289 109) ::
 (nat_lit 116,cO "is_ratio" 314 "is_ratio" 315 316 26 1 3 (.ref 111) (.ref 112) (.ref 113) (.ref 114) (.ref 115) 320 26 321) ::
 (nat_lit 117,fO "is_ratio" s_c0 "hurryprice.names" 289 116) ::
 (nat_lit 118,⟨(.type "tuple"),none,(.seq #[(.int 0 325),(.int 1 326)] 0),#[]⟩) ::
 (nat_lit 124,cO "plus" 328 "plus" 329 330 35 2 3 (.ref 119) (.ref 120) (.ref 121) (.ref 122) (.ref 123) 338 35 339) ::
 (nat_lit 125,fO "plus" s_e5 "hurryprice.ratios" 323 124) ::
 (nat_lit 131,cO "minus" 341 "minus" 342 343 41 2 3 (.ref 126) (.ref 127) (.ref 128) (.ref 129) (.ref 130) 346 41 347) ::
 (nat_lit 132,fO "minus" s_e0 "hurryprice.ratios" 323 131) ::
 (nat_lit 138,cO "product" 349 "product" 350 351 43 2 3 (.ref 133) (.ref 134) (.ref 135) (.ref 136) (.ref 137) 356 43 357) ::
 (nat_lit 139,fO "product" s_c2 "hurryprice.ratios" 323 138) ::
 (nat_lit 145,cO "parted" 359 "parted" 360 361 46 2 3 (.ref 140) (.ref 141) (.ref 142) (.ref 143) (.ref 144) 366 46 367) ::
 (nat_lit 146,fO "parted" s_d5 "hurryprice.ratios" 323 145) ::
 (nat_lit 152,cO "is_less" 369 "is_less" 370 371 51 2 3 (.ref 147) (.ref 148) (.ref 149) (.ref 150) (.ref 151) 374 51 375) ::
 (nat_lit 153,fO "is_less" s_d3 "hurryprice.ratios" 323 152) ::
 (nat_lit 159,cO "smaller" 377 "smaller" 378 379 53 2 3 (.ref 154) (.ref 155) (.ref 156) (.ref 157) (.ref 158) 382 53 383) ::
 (nat_lit 160,fO "smaller" s_c4 "hurryprice.ratios" 323 159) ::
 (nat_lit 166,cO "sum_of" 385 "sum_of" 386 387 55 1 3 (.ref 161) (.ref 162) (.ref 163) (.ref 164) (.ref 165) 391 55 392) ::
 (nat_lit 167,fO "sum_of" s_e1 "hurryprice.ratios" 323 166) ::
 (nat_lit 173,cO "rate_between" 396 "rate_between" 397 398 61 2 3 (.ref 168) (.ref 169) (.ref 170) (.ref 171) (.ref 172) 401 61 402) ::
 (nat_lit 174,fO "rate_between" s_a8 "hurryprice.offers" 394 173) ::
 (nat_lit 178,cO "is_offered" 404 "is_offered" 405 406 63 2 3 (.ref 175) (.ref 176) .none .none (.ref 177) 407 63 408) ::
 (nat_lit 179,fO "is_offered" s_b0 "hurryprice.offers" 394 178) ::
 (nat_lit 183,cO "corners_above" 410 "corners_above" 411 412 68 2 3 (.ref 180) (.ref 181) .none .none (.ref 182) 413 68 414) ::
 (nat_lit 184,fO "corners_above" s_a3 "hurryprice.offers" 394 183) ::
 (nat_lit 190,cO "price_of_time" 416 "price_of_time" 417 418 70 2 3 (.ref 185) (.ref 186) (.ref 187) (.ref 188) (.ref 189) 424 70 425) ::
 (nat_lit 191,fO "price_of_time" s_a7 "hurryprice.offers" 394 190) ::
 (nat_lit 195,cO "least_with" 427 "least_with" 428 429 79 2 3 (.ref 192) (.ref 193) .none .none (.ref 194) 430 79 431) ::
 (nat_lit 196,fO "least_with" s_b2 "hurryprice.offers" 394 195) ::
 (nat_lit 197,⟨(.type "tuple"),none,(.seq #[(.int 1 435),(.int 1 436)] 0),#[]⟩) ::
 (nat_lit 203,cO "timed" 438 "timed" 439 440 87 2 3 (.ref 198) (.ref 199) (.ref 200) (.ref 201) (.ref 202) 450 87 451) ::
 (nat_lit 204,fO "timed" s_e2 "hurryprice.starts" 433 203) ::
 (nat_lit 210,cO "hold_way" 453 "hold_way" 454 455 93 3 3 (.ref 205) (.ref 206) (.ref 207) (.ref 208) (.ref 209) 463 93 464) ::
 (nat_lit 211,fO "hold_way" s_be "hurryprice.starts" 433 210) ::
 (nat_lit 215,cO "ways_of" 466 "ways_of" 467 468 101 3 3 (.ref 212) (.ref 213) .none .none (.ref 214) 469 101 470) ::
 (nat_lit 216,fO "ways_of" s_d7 "hurryprice.starts" 433 215) ::
 (nat_lit 222,cO "stretch" 472 "stretch" 473 474 112 3 3 (.ref 217) (.ref 218) (.ref 219) (.ref 220) (.ref 221) 485 112 486) ::
 (nat_lit 223,fO "stretch" s_c5 "hurryprice.starts" 433 222) ::
 (nat_lit 229,cO "ring_paper" 488 "ring_paper" 489 490 123 2 3 (.ref 224) (.ref 225) (.ref 226) (.ref 227) (.ref 228) 501 123 502) ::
 (nat_lit 230,fO "ring_paper" s_b3 "hurryprice.starts" 433 229) ::
 (nat_lit 234,cO "farthest" 504 "farthest" 505 506 134 2 3 (.ref 231) (.ref 232) .none .none (.ref 233) 507 134 508) ::
 (nat_lit 235,fO "farthest" s_b9 "hurryprice.starts" 433 234) ::
 (nat_lit 241,cO "earliest" 510 "earliest" 511 512 143 2 3 (.ref 236) (.ref 237) (.ref 238) (.ref 239) (.ref 240) 517 143 518) ::
 (nat_lit 242,fO "earliest" s_b8 "hurryprice.starts" 433 241) ::
 (nat_lit 246,cO "latest" 520 "latest" 521 522 148 3 3 (.ref 243) (.ref 244) .none .none (.ref 245) 523 148 524) ::
 (nat_lit 247,fO "latest" s_d4 "hurryprice.starts" 433 246) ::
 (nat_lit 253,cO "is_number_below" 528 "is_number_below" 529 530 158 2 3 (.ref 248) (.ref 249) (.ref 250) (.ref 251) (.ref 252) 533 158 534) ::
 (nat_lit 254,fO "is_number_below" s_a2 "hurryprice.nets" 526 253) ::
 (nat_lit 260,cO "is_arc" 538 "is_arc" 539 540 161 2 3 (.ref 255) (.ref 256) (.ref 257) (.ref 258) (.ref 259) 549 161 550) ::
 (nat_lit 261,fO "is_arc" s_df "hurryprice.papers" 536 260) ::
 (nat_lit 267,cO "is_carried" 552 "is_carried" 553 554 168 2 3 (.ref 262) (.ref 263) (.ref 264) (.ref 265) (.ref 266) 559 168 560) ::
 (nat_lit 268,fO "is_carried" s_af "hurryprice.papers" 536 267) ::
 (nat_lit 274,cO "look_at_form" 562 "look_at_form" 563 564 173 2 3 (.ref 269) (.ref 270) (.ref 271) (.ref 272) (.ref 273) 570 173 571) ::
 (nat_lit 275,fO "look_at_form" s_ac "hurryprice.papers" 536 274) ::
 (nat_lit 279,cO "flows_of" 573 "flows_of" 574 575 181 2 3 (.ref 276) (.ref 277) .none .none (.ref 278) 576 181 577) ::
 (nat_lit 280,fO "flows_of" s_bd "hurryprice.papers" 536 279) ::
 (nat_lit 286,cO "add_hold" 579 "add_hold" 580 581 197 4 3 (.ref 281) (.ref 282) (.ref 283) (.ref 284) (.ref 285) 589 197 590) ::
 (nat_lit 287,fO "add_hold" s_bc "hurryprice.papers" 536 286) ::
 (nat_lit 293,cO "amounts_of" 592 "amounts_of" 593 594 205 2 3 (.ref 288) (.ref 289) (.ref 290) (.ref 291) (.ref 292) 601 205 602) ::
 (nat_lit 294,fO "amounts_of" s_ad "hurryprice.papers" 536 293) ::
 (nat_lit 298,cO "rate_of" 604 "rate_of" 605 606 212 1 3 (.ref 295) (.ref 296) .none .none (.ref 297) 607 212 608) ::
 (nat_lit 299,fO "rate_of" s_d6 "hurryprice.papers" 536 298) ::
 (nat_lit 305,cO "look_at_paper" 610 "look_at_paper" 611 612 214 2 3 (.ref 300) (.ref 301) (.ref 302) (.ref 303) (.ref 304) 615 214 616) ::
 (nat_lit 306,fO "look_at_paper" s_a6 "hurryprice.papers" 536 305) ::
 (nat_lit 312,cO "end_of" 620 "end_of" 621 622 217 1 3 (.ref 307) (.ref 308) (.ref 309) (.ref 310) (.ref 311) 624 217 625) ::
 (nat_lit 313,fO "end_of" s_de "hurryprice.plans" 618 312) ::
 (nat_lit 319,cO "wait_slack" 627 "wait_slack" 628 629 219 2 3 (.ref 314) (.ref 315) (.ref 316) (.ref 317) (.ref 318) 635 219 636) ::
 (nat_lit 320,fO "wait_slack" s_b5 "hurryprice.plans" 618 319) ::
 (nat_lit 326,cO "hold_slack" 638 "hold_slack" 639 640 222 2 3 (.ref 321) (.ref 322) (.ref 323) (.ref 324) (.ref 325) 646 222 647) ::
 (nat_lit 327,fO "hold_slack" s_ae "hurryprice.plans" 618 326) ::
 (nat_lit 331,cO "takes_one_corner" 649 "takes_one_corner" 650 651 229 3 3 (.ref 328) (.ref 329) .none .none (.ref 330) 652 229 653) ::
 (nat_lit 332,fO "takes_one_corner" s_a0 "hurryprice.plans" 618 331) ::
 (nat_lit 338,cO "first_below" 655 "first_below" 656 657 235 2 3 (.ref 333) (.ref 334) (.ref 335) (.ref 336) (.ref 337) 662 235 663) ::
 (nat_lit 339,fO "first_below" s_ab "hurryprice.plans" 618 338) ::
 (nat_lit 345,cO "first_untaken" 665 "first_untaken" 666 667 240 3 3 (.ref 340) (.ref 341) (.ref 342) (.ref 343) (.ref 344) 674 240 675) ::
 (nat_lit 346,fO "first_untaken" s_a4 "hurryprice.plans" 618 345) ::
 (nat_lit 350,cO "first_broken" 677 "first_broken" 678 679 248 3 3 (.ref 347) (.ref 348) .none .none (.ref 349) 680 248 681) ::
 (nat_lit 351,fO "first_broken" s_a5 "hurryprice.plans" 618 350) ::
 (nat_lit 357,cO "weight_of" 685 "weight_of" 686 687 261 2 3 (.ref 352) (.ref 353) (.ref 354) (.ref 355) (.ref 356) 700 261 701) ::
 (nat_lit 358,fO "weight_of" s_ba "hurryprice.claims" 683 357) ::
 (nat_lit 362,cO "claims_of" 703 "claims_of" 704 705 272 2 3 (.ref 359) (.ref 360) .none .none (.ref 361) 706 272 707) ::
 (nat_lit 363,fO "claims_of" s_b7 "hurryprice.claims" 683 362) ::
 (nat_lit 369,cO "bars" 709 "bars" 710 711 279 3 3 (.ref 364) (.ref 365) (.ref 366) (.ref 367) (.ref 368) 718 279 719) ::
 (nat_lit 370,fO "bars" s_e4 "hurryprice.claims" 683 369) ::
 (nat_lit 376,cO "slip_alone" 723 "slip_alone" 724 725 283 4 3 (.ref 371) (.ref 372) (.ref 373) (.ref 374) (.ref 375) 733 283 734) ::
 (nat_lit 377,fO "slip_alone" s_b4 "hurryprice.slips" 721 376) ::
 (nat_lit 381,cO "slips_of" 736 "slips_of" 737 738 292 3 3 (.ref 378) (.ref 379) .none .none (.ref 380) 739 292 740) ::
 (nat_lit 382,fO "slips_of" s_c3 "hurryprice.slips" 721 381) ::
 (nat_lit 388,cO "_law_begun" 744 "_law_begun" 745 746 299 2 3 (.ref 383) (.ref 384) (.ref 385) (.ref 386) (.ref 387) 750 299 751) ::
 (nat_lit 389,fO "_law_begun" s_c6 "law_hurryprice_k30_whole_soonest_whole" 742 388) ::
 (nat_lit 395,cO "_law_take" 753 "_law_take" 754 755 304 2 3 (.ref 390) (.ref 391) (.ref 392) (.ref 393) (.ref 394) 761 304 762) ::
 (nat_lit 396,fO "_law_take" s_db "law_hurryprice_k30_whole_soonest_whole" 742 395) ::
 (nat_lit 402,cO "_law_low" 764 "_law_low" 765 766 315 2 3 (.ref 397) (.ref 398) (.ref 399) (.ref 400) (.ref 401) 771 315 772) ::
 (nat_lit 403,fO "_law_low" s_e3 "law_hurryprice_k30_whole_soonest_whole" 742 402) ::
 (nat_lit 409,cO "_law_plus" 774 "_law_plus" 775 776 321 2 3 (.ref 404) (.ref 405) (.ref 406) (.ref 407) (.ref 408) 779 321 780) ::
 (nat_lit 410,fO "_law_plus" s_d9 "law_hurryprice_k30_whole_soonest_whole" 742 409) ::
 (nat_lit 416,cO "_law_minus" 782 "_law_minus" 783 784 323 2 3 (.ref 411) (.ref 412) (.ref 413) (.ref 414) (.ref 415) 787 323 788) ::
 (nat_lit 417,fO "_law_minus" s_ca "law_hurryprice_k30_whole_soonest_whole" 742 416) ::
 (nat_lit 423,cO "_law_times" 790 "_law_times" 791 792 325 2 3 (.ref 418) (.ref 419) (.ref 420) (.ref 421) (.ref 422) 795 325 796) ::
 (nat_lit 424,fO "_law_times" s_d1 "law_hurryprice_k30_whole_soonest_whole" 742 423) ::
 (nat_lit 430,cO "_law_under" 798 "_law_under" 799 800 327 2 3 (.ref 425) (.ref 426) (.ref 427) (.ref 428) (.ref 429) 803 327 804) ::
 (nat_lit 431,fO "_law_under" s_d2 "law_hurryprice_k30_whole_soonest_whole" 742 430) ::
 (nat_lit 437,cO "_law_amount" 806 "_law_amount" 807 808 329 3 3 (.ref 432) (.ref 433) (.ref 434) (.ref 435) (.ref 436) 814 329 815) ::
 (nat_lit 438,fO "_law_amount" s_bb "law_hurryprice_k30_whole_soonest_whole" 742 437) ::
 (nat_lit 442,cO "_law_offer" 817 "_law_offer" 818 819 335 4 3 (.ref 439) (.ref 440) .none .none (.ref 441) 820 335 821) ::
 (nat_lit 443,fO "_law_offer" s_cc "law_hurryprice_k30_whole_soonest_whole" 742 442) ::
 (nat_lit 449,cO "_law_shape" 823 "_law_shape" 824 825 353 2 3 (.ref 444) (.ref 445) (.ref 446) (.ref 447) (.ref 448) 839 353 840) ::
 (nat_lit 450,fO "_law_shape" s_cf "law_hurryprice_k30_whole_soonest_whole" 742 449) ::
 (nat_lit 454,cO "_law_walk" 842 "_law_walk" 843 844 373 2 3 (.ref 451) (.ref 452) .none .none (.ref 453) 845 373 846) ::
 (nat_lit 455,fO "_law_walk" s_dd "law_hurryprice_k30_whole_soonest_whole" 742 454) ::
 (nat_lit 461,cO "_law_rate" 848 "_law_rate" 849 850 391 2 3 (.ref 456) (.ref 457) (.ref 458) (.ref 459) (.ref 460) 859 391 860) ::
 (nat_lit 462,fO "_law_rate" s_da "law_hurryprice_k30_whole_soonest_whole" 742 461) ::
 (nat_lit 466,cO "_law_paper" 862 "_law_paper" 863 864 400 3 3 (.ref 463) (.ref 464) .none .none (.ref 465) 865 400 866) ::
 (nat_lit 467,fO "_law_paper" s_cd "law_hurryprice_k30_whole_soonest_whole" 742 466) ::
 (nat_lit 471,cO "_law_flows" 868 "_law_flows" 869 870 416 2 3 (.ref 468) (.ref 469) .none .none (.ref 470) 871 416 872) ::
 (nat_lit 472,fO "_law_flows" s_c8 "law_hurryprice_k30_whole_soonest_whole" 742 471) ::
 (nat_lit 478,cO "_law_least" 874 "_law_least" 875 876 435 2 3 (.ref 473) (.ref 474) (.ref 475) (.ref 476) (.ref 477) 883 435 884) ::
 (nat_lit 479,fO "_law_least" s_c9 "law_hurryprice_k30_whole_soonest_whole" 742 478) ::
 (nat_lit 483,cO "_law_time" 886 "_law_time" 887 888 442 3 3 (.ref 480) (.ref 481) .none .none (.ref 482) 889 442 890) ::
 (nat_lit 484,fO "_law_time" s_dc "law_hurryprice_k30_whole_soonest_whole" 742 483) ::
 (nat_lit 488,cO "_law_planned" 892 "_law_planned" 893 894 454 3 3 (.ref 485) (.ref 486) .none .none (.ref 487) 895 454 896) ::
 (nat_lit 489,fO "_law_planned" s_b6 "law_hurryprice_k30_whole_soonest_whole" 742 488) ::
 (nat_lit 495,cO "_law_slack" 898 "_law_slack" 899 900 480 2 3 (.ref 490) (.ref 491) (.ref 492) (.ref 493) (.ref 494) 905 480 906) ::
 (nat_lit 496,fO "_law_slack" s_d0 "law_hurryprice_k30_whole_soonest_whole" 742 495) ::
 (nat_lit 502,cO "_law_latest_end" 908 "_law_latest_end" 909 910 487 1 3 (.ref 497) (.ref 498) (.ref 499) (.ref 500) (.ref 501) 916 487 917) ::
 (nat_lit 503,fO "_law_latest_end" s_a9 "law_hurryprice_k30_whole_soonest_whole" 742 502) ::
 (nat_lit 507,cO "_law_copy" 919 "_law_copy" 920 921 494 1 3 (.ref 504) (.ref 505) .none .none (.ref 506) 922 494 923) ::
 (nat_lit 508,fO "_law_copy" s_d8 "law_hurryprice_k30_whole_soonest_whole" 742 507) ::
 (nat_lit 514,cO "_law_drawn" 925 "_law_drawn" 926 927 500 2 3 (.ref 509) (.ref 510) (.ref 511) (.ref 512) (.ref 513) 934 500 935) ::
 (nat_lit 515,fO "_law_drawn" s_c7 "law_hurryprice_k30_whole_soonest_whole" 742 514) ::
 (nat_lit 519,cO "_law_soonest_whole" 937 "_law_soonest_whole" 938 939 505 3 3 (.ref 516) (.ref 517) .none .none (.ref 518) 940 505 941) ::
 (nat_lit 520,fO "_law_soonest_whole" s_a1 "law_hurryprice_k30_whole_soonest_whole" 742 519) ::
 (nat_lit 526,cO "_law_round" 943 "_law_round" 944 945 530 3 3 (.ref 521) (.ref 522) (.ref 523) (.ref 524) (.ref 525) 962 530 963) ::
 (nat_lit 527,fO "_law_round" s_ce "law_hurryprice_k30_whole_soonest_whole" 742 526) ::
 (nat_lit 531,cO "law" 965 "law" 966 967 542 1 3 (.ref 528) (.ref 529) .none .none (.ref 530) 968 542 969) ::
 (nat_lit 532,fO "law" s_e6 "law_hurryprice_k30_whole_soonest_whole" 742 531) :: []
noncomputable def qq:Program:=PySem.W.view PySem.Challenge.pw_hurryprice_k30_whole_soonest_whole [1,2,3,4,5,7,8,9,10,12,13,14,15,16,17,18,19,21,22,23,24,25,27,28,29,30,31,32,33,34,35,37,39,40,41,42,43,44,45,46,48,49,50,51,52,53,54,56,57,58,60,61,63,64,65,66,67,68,69,70,71,72,73,74,75,76,77,78,79,80,81,82,83,84,85,86]
noncomputable def aa:List Nat:=[3,95,96,102,103,109,110,116,117,118,124,125,131,132,138,139,145,146,152,153,159,160,166,167,173,174,178,179,183,184,190,191,195,196,197,203,204,210,211,215,216,222,223,229,230,234,235,241,242,246,247,253,254,260,261,267,268,274,275,279,280,286,287,293,294,298,299,305,306,312,313,319,320,326,327,331,332,338,339,345,346,350,351,357,358,362,363,369,370,376,377,381,382,388,389,395,396,402,403,409,410,416,417,423,424,430,431,437,438,442,443,449,450,454,455,461,462,466,467,471,472,478,479,483,484,488,489,495,496,502,503,507,508,514,515,519,520,526,527,531,532]
theorem C4p:∀ P:Params,aa=(kk P).map (·.1):=fun P=>by kernel_rfl
noncomputable abbrev hh:PySem.W.Hook:=PySem.W.kHook kk aa C4p
noncomputable abbrev xt (s:Shared):Bool:=PySem.W.xlAt qq [] s && PySem.W.recOk (PySem.W.RowW.records PySem.Challenge.rw_hurryprice_k30_whole_soonest_whole.row.toRowW) s
theorem run1 (w:World) (os:OsState):(L2.ranT PySem.Challenge.pw_hurryprice_k30_whole_soonest_whole 6840 w os).map (fun x=>PySem.W.staticsOk (importedModules PySem.Challenge.pw_hurryprice_k30_whole_soonest_whole.main.body) (PySem.W.boot_heap w.params) x.abs.heap && PySem.W.namesBound PySem.Challenge.pw_hurryprice_k30_whole_soonest_whole x.abs.heap && PySem.W.gensDone x.abs && PySem.W.laidKept (PySem.W.boot_heap w.params) x.abs.heap)=some true:=by kernel_rfl
open PySem.W PySem.Spec PyProof.Rows
theorem run2 (w:World) (os:OsState):(L2.ranT PySem.Challenge.pw_hurryprice_k30_whole_soonest_whole 6840 w os).map (fun x=>seen ((recsOf qq).map (·.name)) (ownsOf qq) [] { heap:=x.abs.heap,drawn:=x.abs.drawn,toks:=x.abs.toks,os:=x.abs.os })=some (expectedOf qq):=by kernel_rfl
theorem run4 (w:World) (os:OsState):(L2.ranT PySem.Challenge.pw_hurryprice_k30_whole_soonest_whole 6840 w os).map (fun x=>x.abs.heap.bltView)=some bltViewBooted:=by kernel_rfl
theorem run5 (w:World) (os:OsState):(L2.ranT PySem.Challenge.pw_hurryprice_k30_whole_soonest_whole 6840 w os).map (fun x=>x.abs.heap.keysOk (looseW qq []) ((recsOf qq).map (·.name)) ((litsOf qq).map (·.1)) ((clssOf qq (looseW qq [])).map (·.name)))=some true:=by kernel_rfl
theorem run6 (w:World) (os:OsState):(L2.ranT PySem.Challenge.pw_hurryprice_k30_whole_soonest_whole 6840 w os).map (fun x=>x.abs.heap.accountedOkI (importedModules PySem.Challenge.pw_hurryprice_k30_whole_soonest_whole.main.body) && x.abs.heap.isNs mainGlobals && x.abs.heap.isNs builtinsNs && tablesOk qq x.abs.heap && xt x.abs && x.abs.gens.size == 0)=some true:=by kernel_rfl
theorem run7 (w:World) (os:OsState):(L2.ranT PySem.Challenge.pw_hurryprice_k30_whole_soonest_whole 6840 w os).map (fun x=>(tabsOk qq x.abs,pinSeenD qq (drecsOf qq) x.abs))=some (true,pinGoodD (drecsOf qq)):=by kernel_rfl
theorem run9 (w:World) (os:OsState):(L2.ranT PySem.Challenge.pw_hurryprice_k30_whole_soonest_whole 6840 w os).map (fun x=>(plainSeenE qq (looseW qq []) x.abs,plainSeenD qq [] x.abs))=some (plainGoodE qq (looseW qq []),plainGoodD qq []):=by kernel_rfl
theorem run8 (w:World) (os:OsState):(L2.ranT PySem.Challenge.pw_hurryprice_k30_whole_soonest_whole 6840 w os).map (fun x=>(wideSeen qq x.abs,clsSeenW qq [] x.abs))=some (wideGood qq,clsGoodW qq []):=by kernel_rfl
theorem run3 (w:World) (os:OsState):(L2.ranT PySem.Challenge.pw_hurryprice_k30_whole_soonest_whole 6840 w os).map (fun x=>hh.obs x.abs)=some (hh.val w):=by kernel_rfl
theorem left:PySem.W.LeftO PySem.Challenge.pw_hurryprice_k30_whole_soonest_whole qq [] xt hh.obs hh.val 6840:=L2.C2r (by kernel_rfl) (by decide) (fun s=>by kernel_rfl) run1 run2 run4 run5 run6 run7 run9 run8 run3
theorem said:PySem.Challenge.rw_hurryprice_k30_whole_soonest_whole.wellSaid=true:=by
 unfold PySem.W.OpenLaw.wellSaid
 repeat' with_reducible refine Bool.and_eq_true_iff.mpr ⟨?_,?_⟩
 all_goals decide +kernel
end Prf
namespace L2
open PySem PySem.Spec PyProof.Rows
abbrev Key:=Sum Int Str
def A7m:Key->Value->Bool
 | .inl k,v=>Value.isInt k v
 | .inr x,v=>Value.isStrOf x v
def keyH (w:World):Key->Int
 | .inl k=>hashInt k
 | .inr x=>hashStr w x
theorem G5:∀ {k:Key} {v:Value},A7m k v=true->(∃ i t,k=Sum.inl i/\v=Value.int i t)\/(∃ x t,k=Sum.inr x/\v=Value.str x t)
 | .inl i,v,h=>by
  obtain ⟨t,e⟩:=Value.isInt_shape (k:=i) (v:=v) h;exact .inl ⟨i,t,rfl,e⟩
 | .inr x,v,h=>by
  obtain ⟨t,e⟩:=Value.isStrOf_shape (x:=x) (v:=v) h;exact .inr ⟨x,t,rfl,e⟩
theorem A99 (i:Int) (t:Tok):A7m (.inl i) (.int i t)=true:=by simp [A7m,Value.isInt]
theorem A98 (x:Str) (t:Tok):A7m (.inr x) (.str x t)=true:=by simp [A7m,Value.isStrOf]
theorem C24 (a b:Int):decide ((Sum.inl a:Key)=Sum.inl b)=(a == b):=by
 by_cases e:a=b
 ·subst e; simp
 ·have h:¬ (Sum.inl a:Key)=Sum.inl b:=fun q=>e (Sum.inl.inj q);rw [Zd h];exact (beq_eq_false_iff_ne.mpr e).symm
theorem C21 (a b:Str):decide ((Sum.inr a:Key)=Sum.inr b)=decide (a=b):=by
 by_cases e:a=b
 ·subst e; simp
 ·have h:¬ (Sum.inr a:Key)=Sum.inr b:=fun q=>e (Sum.inr.inj q);rw [Zd h,Zd e]
theorem C23 (a:Int) (b:Str):decide ((Sum.inl a:Key)=Sum.inr b)=false:=Zd (fun q=>nomatch q)
theorem C22 (a:Str) (b:Int):decide ((Sum.inr a:Key)=Sum.inl b)=false:=Zd (fun q=>nomatch q)
def K0 (prog:Program) (w:World):PySem.KeyKind prog w Key where
 is:=A7m
 hash:=keyH w
 inj:=fun v a b ha hb=>by
  rcases G5 ha with ⟨i,t,rfl,rfl⟩ | ⟨x,t,rfl,rfl⟩
  ·rcases G5 hb with ⟨j,u,rfl,e⟩ | ⟨y,u,rfl,e⟩
   ·injection e with e1 _; rw [e1]
   ·exact nomatch e
  ·rcases G5 hb with ⟨j,u,rfl,e⟩ | ⟨y,u,rfl,e⟩
   ·exact nomatch e
   ·injection e with e1 _; rw [e1]
 byValue:=fun k v h=>by
  rcases G5 h with ⟨i,t,rfl,rfl⟩ | ⟨x,t,rfl,rfl⟩ <;> rfl
 pyHash:=fun hv h=>by
  rcases G5 hv with ⟨i,t,rfl,rfl⟩ | ⟨x,t,rfl,rfl⟩
  ·exact wpAny_pyHash_int h
  ·exact wpAny_pyHash_str h
 eqBool:=fun hu hv h=>by
  rcases G5 hu with ⟨i,t,rfl,rfl⟩ | ⟨x,t,rfl,rfl⟩
  ·rcases G5 hv with ⟨j,u,rfl,rfl⟩ | ⟨y,u,rfl,rfl⟩
   ·rw [C24] at h; exact wpAny_eqBool_int h
   ·rw [C23] at h; exact SeqAt.EqAt.int_str i t y u _ _ _ _ h
  ·rcases G5 hv with ⟨j,u,rfl,rfl⟩ | ⟨y,u,rfl,rfl⟩
   ·rw [C22] at h; exact SeqAt.EqAt.str_int x t j u _ _ _ _ h
   ·rw [C21] at h; exact wpAny_eqBool_str h
 «strs»:=fun k x t v h=>by
  rcases G5 h with ⟨i,u,rfl,e⟩ | ⟨y,u,rfl,e⟩
  ·exact nomatch e
  ·injection e with e1 _
   subst e1;cases v <;> rfl
theorem A4s (prog:Program) (w:World) (i:Int) (t:Tok):(K0 prog w).is (.inl i) (.int i t)=true:=A99 i t
theorem A4r (prog:Program) (w:World) (x:Str) (t:Tok):(K0 prog w).is (.inr x) (.str x t)=true:=A98 x t
end L2
namespace L2
open PySem PySem.Spec PyProof.Rows
inductive V where
 | non | bl (b:Bool) | int (i:Int) | str (x:Str) | byt (b:Array UInt8) | flt (b:UInt64) | ref (a:Addr) | ty (n:String)
 deriving DecidableEq
def RelV:V->Value->Prop
 | .non,u=>u=Value.none
 | .bl b,u=>u=Value.bool b
 | .int i,u=>∃ t,u=Value.int i t
 | .str x,u=>∃ t,u=Value.str x t
 | .byt b,u=>∃ t,u=Value.bytes b t
 | .flt b,u=>∃ t,u=Value.float b t
 | .ref a,u=>u=Value.ref a
 | .ty n,u=>u=Value.type n
abbrev Vals:List V->List Value->Prop:=Paired RelV
theorem Vals.length {xs:List V} {us:List Value} (r:Vals xs us):xs.length=us.length:=Paired.length r
theorem Vals.get:∀ {xs:List V} {us:List Value} {i:Nat} {x:V},Vals xs us->xs[i]?=some x->∃ u,us[i]?=some u/\RelV x u
 | _,_,_,_,.nil,e=>by simp at e
 | _,_,0,_,.cons r _,e=>by simp at e; subst e; exact ⟨_,rfl,r⟩
 | _,_,i + 1,x,.cons _ t,e=>by
  obtain ⟨u,h1,h2⟩:=Vals.get (i:=i) (x:=x) t (by simpa using e);exact ⟨u,by simpa using h1,h2⟩
theorem Vals.set {x:V} {u:Value} (r:RelV x u):∀ {xs:List V} {us:List Value} (i:Nat),Vals xs us->Vals (xs.set i x) (us.set i u)
 | _,_,_,.nil=>.nil
 | _,_,0,.cons _ t=>.cons r t
 | _,_,i + 1,.cons q t=>.cons q (Vals.set r i t)
theorem Vals.append:∀ {xs ys:List V} {us ws:List Value},Vals xs us->Vals ys ws->Vals (xs++ys) (us++ws)
 | _,_,_,_,.nil,s=>s
 | _,_,_,_,.cons r t,s=>.cons r (Vals.append t s)
theorem Vals.take:∀ {xs:List V} {us:List Value} (n:Nat),Vals xs us->Vals (xs.take n) (us.take n)
 | _,_,0,_=>.nil
 | _,_,_ + 1,.nil=>.nil
 | _,_,n + 1,.cons r t=>.cons r (Vals.take n t)
theorem Vals.drop:∀ {xs:List V} {us:List Value} (n:Nat),Vals xs us->Vals (xs.drop n) (us.drop n)
 | _,_,0,r=>r
 | _,_,_ + 1,.nil=>.nil
 | _,_,n + 1,.cons _ t=>Vals.drop n t
theorem Vals.none_of:∀ {xs:List V} {us:List Value} {i:Nat},Vals xs us->xs[i]?=none->us[i]?=none:=fun {xs us i} r e=>by
 have h1:=r.length;have h2:xs.length<=i:=List.getElem?_eq_none_iff.mp e;exact List.getElem?_eq_none_iff.mpr (by omega)
def RelO:Option V->Option Value->Prop
 | some v,some u=>RelV v u
 | none,none=>True
 | _,_=>False
def KV {κ:Type}:List (κ × V)->List (κ × Value)->Prop:=Paired fun (p:κ × V) (q:κ × Value)=>p.1=q.1/\RelV p.2 q.2
def kV:Key->V
 | .inl i=>.int i
 | .inr x=>.str x
inductive HO where
  | lst (xs:List V)
  | tup (xs:List V)
  | dK (kvs:List (Key × V)) | dT (kvs:List (List Key × V))
  | set (S:Int->Bool) (n:Nat)
  | ins (C dx:Addr) (fs:List (Str × V))
  | own (x:Addr)
  | xd (fs:List (Str × V))
  | met (f x:Addr)
  | rng (lo hi:Int)
  | frz (o:Obj) (u:HO)
  | tbl (ps:Array Value)
  | ext (φ:Heap->Prop)
abbrev Hp:=Addr->Option HO
def upd (H:Hp) (a:Addr) (o:HO):Hp:=fun b=>if b=a then some o else H b
theorem D5 {H:Hp} {a:Addr} {o:HO}:upd H a o a=some o:=by unfold upd; rw [if_pos rfl]
theorem D7 {H:Hp} {a b:Addr} {o:HO} (h:b≠a):upd H a o b=H b:=by unfold upd; rw [if_neg h]
theorem B48 {H:Hp} {a:Addr} {o u:HO}:upd (upd H a o) a u=upd H a u:=by
 funext b; unfold upd; split <;> rfl
theorem C37 {H:Hp} {a b:Addr} {o u:HO} (h:H a=some o) (h':H b=some u) (d:o≠u):a≠b:=by
 intro e; subst e; rw [h] at h'; exact d (Zj h')
theorem F5 {H:Hp} {a b:Addr} {o:HO} (h:H a=some o) (h':H b=none):a≠b:=by
 intro e; subst e; rw [h] at h'; cases h'
section
variable (P:Program) (w:World)
def ObjOk (H:Hp) (h:Heap) (a:Addr):HO->Prop
 | .lst xs=>xs.length<=sizeLine/\∃ (its:List Value) (n:Nat),Vals xs its/\h.get? a=some { cls:=.type "list",data:=.seq its.toArray n }
 | .tup xs=>xs.length<=sizeLine/\∃ its:List Value,Vals xs its/\IsTup h a its.toArray
 | .dK kvs=>kvs.length<=sizeLine/\(a == sysModules)=false/\∃ vs,KV kvs vs/\h.DictOf (K0 P w) a vs
 | .dT kvs=>kvs.length<=sizeLine/\(a == sysModules)=false/\∃ xs:List (List Key × Addr × Value),
   Paired (fun (p:List Key × V) (q:List Key × Addr × Value)=>p.1=q.1/\H q.2.1=some (.tup (p.1.map kV))/\RelV p.2 q.2.2) kvs xs /\
   ∃ o es ep,h.get? a=some o/\o.ExactDict/\o.data=.dict es ep/\es.toList=xs.map (entryOfKey (tupleKind (K0 P w)))/\(xs.map (·.1)).Nodup
 | .set S n=>h.SetOf (intKind P w) a S n
 | .ins C dx fs=>H dx=some (.own a)/\fs.length<=1000/\dx≠a/\h.get? a=some (PySem.W.instObj C dx) /\
   ∃ mA,h.Ns1 dx mA/\(∀ f,RelO (fs.lookup f) (mA f))/\PySem.Within mA (fs.map (·.1))
 | .own _=>∃ o,h.get? a=some o
 | .xd fs=>∃ mA,h.Ns1 a mA/\∀ f,RelO (fs.lookup f) (mA f)
 | .rng lo hi=>∃ t u v,h.get? a=some { cls:=.type "range",data:=.fields #[.int lo t,.int hi u,.int 1 v] }
 | .frz o u=>h.get? a=some o/\ObjOk H h a u
 | .tbl ps=>h.get? a=some { cls:=.none,data:=.fields ps }
 | .met f x=>h.get? a=some (PySem.W.methodObj (.ref f) (.ref x))
 | .ext φ=>φ h/\(∃ o,h.get? a=some o)/\∀ h1 h2:Heap,φ h1->(∀ o,h1.get? a=some o->h2.get? a=some o)->φ h2
def HOk (H:Hp) (h:Heap):Prop:=∀ a o,H a=some o->ObjOk P w H h a o
end
section
variable {P:Program} {w:World} {H H':Hp} {h h':Heap} {a:Addr} {o:HO}
theorem ObjOk.lt (x:ObjOk P w H h a o):a < h.objs.size:=by
 cases o with
 | lst xs=>obtain ⟨_,_,_,_,e⟩:=x; exact Heap.lt_size e
 | tup xs=>obtain ⟨_,_,_,p⟩:=x; exact p.lt
 | dK kvs=>obtain ⟨_,_,_,_,o,_,_,e,_⟩:=x; exact Heap.lt_size e
 | dT kvs=>obtain ⟨_,_,_,_,o,_,_,e,_⟩:=x; exact Heap.lt_size e
 | set S n=>obtain ⟨o,_,_,_,e,_⟩:=x; exact Heap.lt_size e
 | ins C dx fs=>obtain ⟨_,_,_,e,_⟩:=x; exact Heap.lt_size e
 | own y=>obtain ⟨_,e⟩:=x; exact Heap.lt_size e
 | xd fs=>obtain ⟨_,⟨_,_,_,e,_⟩,_⟩:=x; exact Heap.lt_size e
 | rng lo hi=>obtain ⟨_,_,_,e⟩:=x; exact Heap.lt_size e
 | frz ob u=>obtain ⟨e,_⟩:=x; exact Heap.lt_size e
 | tbl ps=>exact Heap.lt_size (show h.get? a=some _ from x)
 | met f y=>exact Heap.lt_size (show h.get? a=some _ from x)
 | ext φ=>obtain ⟨_,⟨_,e⟩,_⟩:=x; exact Heap.lt_size e
theorem Paired.mapP {α β:Type} {F G:α->β->Prop}:∀ {l₁:List α} {l₂:List β},Paired F l₁ l₂->(∀ a b,F a b->G a b)->Paired G l₁ l₂
 | _,_,.nil,_=>.nil
 | _,_,.cons r t,f=>.cons (f _ _ r) (Paired.mapP t f)
theorem ObjOk.stay (x:ObjOk P w H h a o) (k:∀ b u,(b=a\/H b=some (.own a))->h.get? b=some u->h'.get? b=some u)
  (ho:∀ b,H b=some (.own a)->H' b=some (.own a)) (ht:∀ b xs,H b=some (.tup xs)->H' b=some (.tup xs)):ObjOk P w H' h' a o:=by
 induction o with
 | lst xs=>obtain ⟨z,its,n,r,e⟩:=x; exact ⟨z,its,n,r,k _ _ (.inl rfl) e⟩
 | tup xs=>obtain ⟨z,its,r,ob,e,c⟩:=x; exact ⟨z,its,r,ob,k _ _ (.inl rfl) e,c⟩
 | dK kvs=>obtain ⟨z,y,vs,r,ob,es,ep,e,c⟩:=x; exact ⟨z,y,vs,r,ob,es,ep,k _ _ (.inl rfl) e,c⟩
 | dT kvs =>
  obtain ⟨z,y,xs,r,ob,es,ep,e,c⟩:=x;exact ⟨z,y,xs,Paired.mapP r fun p q z=>⟨z.1,ht _ _ z.2.1,z.2.2⟩,ob,es,ep,k _ _ (.inl rfl) e,c⟩
 | set S n=>obtain ⟨ob,es,ep,t,e,c⟩:=x; exact ⟨ob,es,ep,t,k _ _ (.inl rfl) e,c⟩
 | ins C dx fs =>
  obtain ⟨d,z,ne,e,mA,⟨od,es,ep,e2,c⟩,r⟩:=x;exact ⟨ho _ d,z,ne,k _ _ (.inl rfl) e,mA,⟨od,es,ep,k _ _ (.inr d) e2,c⟩,r⟩
 | own y=>obtain ⟨ob,e⟩:=x; exact ⟨ob,k _ _ (.inl rfl) e⟩
 | xd fs=>obtain ⟨mA,⟨od,es,ep,e,c⟩,r⟩:=x; exact ⟨mA,⟨od,es,ep,k _ _ (.inl rfl) e,c⟩,r⟩
 | rng lo hi=>obtain ⟨t,u,v,e⟩:=x; exact ⟨t,u,v,k _ _ (.inl rfl) e⟩
 | frz ob u ih=>obtain ⟨e,q⟩:=x; exact ⟨k _ _ (.inl rfl) e,ih q⟩
 | tbl ps =>
  have e:h.get? a=some { cls:=.none,data:=.fields ps }:=x;show h'.get? a=some { cls:=.none,data:=.fields ps };exact k a _ (.inl rfl) e
 | met f y =>
  have e:h.get? a=some (PySem.W.methodObj (.ref f) (.ref y)):=x;show h'.get? a=some (PySem.W.methodObj (.ref f) (.ref y));exact k a _ (.inl rfl) e
 | ext φ=>obtain ⟨p,⟨o,e⟩,st⟩:=x; exact ⟨st _ _ p fun o q=>k _ _ (.inl rfl) q,⟨o,k _ _ (.inl rfl) e⟩,st⟩
theorem HOk.lt (x:HOk P w H h) (e:H a=some o):a < h.objs.size:=(x a o e).lt
theorem HOk.fresh (x:HOk P w H h) (e:h.objs.size<=a):H a=none:=by
 cases q:H a with
 | none=>rfl
 | some u=>exact absurd (Nat.lt_of_lt_of_le (x.lt q) e) (Nat.lt_irrefl _)
theorem HOk.kept (x:HOk P w H h) (k:∀ b u,h.get? b=some u->h'.get? b=some u):HOk P w H h':=fun a o e =>
 (x a o e).stay (fun b u _ q=>k b u q) (fun _ q=>q) fun _ _ q=>q
theorem HOk.laid (x:HOk P w H h) (k:∀ b u,h.get? b=some u->h'.get? b=some u) (hp:h.objs.size<=a) (new:ObjOk P w (upd H a o) h' a o):HOk P w (upd H a o) h':=fun b u e=>by
 have hn:=x.fresh hp;by_cases hb:b=a
 ·subst hb; rw [D5] at e; cases e; exact new
 ·rw [D7 hb] at e;exact (x b u e).stay (fun c v _ q=>k c v q) (fun c q=>by rw [D7 (F5 q hn)]; exact q) fun c xs q=>by rw [D7 (F5 q hn)]; exact q
end
def Rd (H:Hp) (a:Addr) (u:HO):Prop:=H a=some u\/∃ o,H a=some (.frz o u)
theorem Rd.ok {P:Program} {w:World} {H:Hp} {h:Heap} {a:Addr} {u:HO} (r:Rd H a u) (x:HOk P w H h):ObjOk P w H h a u:=by
 rcases r with r | ⟨o,r⟩
 ·exact x a u r
 ·obtain ⟨_,q⟩:=x a _ r;exact q
def Mut:Option HO->Prop
 | some (.lst _)=>True
 | some (.dK _)=>True
 | some (.dT _)=>True
 | some (.set _ _)=>True
 | some (.ins _ _ _)=>True
 | some (.ext _)=>True
 | _=>False
section
variable {P:Program} {w:World} {H:Hp} {h h':Heap} {x e:Addr} {o':HO}
theorem HOk.write (ok:HOk P w H h) (mu:Mut (H x)) (he:e=x\/H e=some (.own x)) (k:∀ b u,b≠e->h.get? b=some u->h'.get? b=some u) (heo:∃ u,h'.get? e=some u)
  (new:ObjOk P w (upd H x o') h' x o'):HOk P w (upd H x o') h':=fun b u q=>by
 have nown:∀ c y,H c=some (.own y)->c≠x:=fun c y r z=>by subst z; rw [r] at mu; exact mu
 have ntup:∀ c xs,H c=some (.tup xs)->c≠x:=fun c xs r z=>by subst z; rw [r] at mu; exact mu
 by_cases hb:b=x
 ·subst hb; rw [D5] at q; cases q; exact new
 ·rw [D7 hb] at q;by_cases hbe:b=e
  ·have q':H b=some (.own x):=by
    rcases he with z | z
    ·exact absurd (hbe.trans z) hb
    ·rw [hbe]; exact z
   rw [q] at q'; cases q';obtain ⟨v,hv⟩:=heo;exact ⟨v,by rw [hbe]; exact hv⟩
  ·refine (ok b u q).stay (fun c v hc r=>k c v ?_ r) (fun c r=>by rw [D7 (nown c b r)]; exact r) fun c xs r=>by rw [D7 (ntup c xs r)]; exact r
   rcases hc with rfl | hc
   ·exact hbe
   ·rintro rfl;rcases he with z | z
    ·exact nown c b hc z
    ·rw [hc] at z; cases z; exact hb rfl
end
structure Un (fs ex:List Addr) (H H':Hp) (h h':Heap):Prop where
 keep:∀ b o,h.get? b=some o->H b=none->b ∉ fs->b ∉ ex->h'.get? b=some o
 slot:∀ b o,h.get? b=some o->H b=none->b ∈ fs->b ∉ ex->∃ sl,h'.get? b=some { o with slots:=sl }
 free:∀ b o,h.get? b=some o->H b=none->b ∉ ex->H' b=none
 there:∀ b o,h.get? b=some o->b ∉ ex->∃ o',h'.get? b=some o'
 tups:∀ b xs,H b=some (.tup xs)->H' b=some (.tup xs)
 frzs:∀ b o u,H b=some (.frz o u)->H' b=some (.frz o u)
 tbls:∀ b ps,H b=some (.tbl ps)->∃ more,H' b=some (.tbl (ps++more))
section
variable {fs fs' ex ex':List Addr} {H H1 H2:Hp} {h h1 h2 h':Heap} {a x e:Addr} {o:HO}
theorem Un.any (u:Un fs ex H H1 h h1) {b:Addr} {ob:Obj} (q:h.get? b=some ob) (n:H b=none) (hx:b ∉ ex):∃ sl,h1.get? b=some { ob with slots:=sl }:=by
 by_cases hb:b ∈ fs
 ·exact u.slot b ob q n hb hx
 ·exact ⟨ob.slots,u.keep b ob q n hb hx⟩
theorem Un.kept (k:∀ b u,h.get? b=some u->h'.get? b=some u):Un fs ex H H h h' :=
 ⟨fun b ob q _ _ _=>k b ob q,fun b ob q _ _ _=>⟨ob.slots,k b ob q⟩,fun _ _ _ n _=>n,fun b ob q _=>⟨ob,k b ob q⟩,fun _ _ q=>q,fun _ _ _ q=>q,fun _ ps q=>⟨#[],by rw [q]; simp⟩⟩
theorem Un.refl:Un fs ex H H h h:=Un.kept fun _ _ q=>q
theorem Un.laid (k:∀ b u,h.get? b=some u->h'.get? b=some u) (hp:h.objs.size<=a) (hn:H a=none):Un fs ex H (upd H a o) h h' where
 keep:=fun b u q _ _ _=>k b u q
 slot:=fun b u q _ _ _=>⟨u.slots,k b u q⟩
 free:=fun b u q n _=>by rw [D7 (Nat.ne_of_lt (Nat.lt_of_lt_of_le (Heap.lt_size q) hp))]; exact n
 there:=fun b u q _=>⟨u,k b u q⟩
 tups:=fun b xs q=>by rw [D7 (F5 q hn)]; exact q
 frzs:=fun b u xs q=>by rw [D7 (F5 q hn)]; exact q
 tbls:=fun b ps q=>⟨#[],by rw [D7 (F5 q hn),q]; simp⟩
theorem Un.write (mu:Mut (H x)) (he:e=x\/H e=some (.own x)) (k:∀ b u,b≠e->h.get? b=some u->h'.get? b=some u) (heo:∃ u,h'.get? e=some u):Un fs ex H (upd H x o) h h':=by
 have hx:∀ b,H b=none->b≠x:=fun b n z=>by subst z; rw [n] at mu; exact mu
 have hb:∀ b,H b=none->b≠e:=fun b n z=>by
  subst z;rcases he with r | r
  ·exact hx b n r
  ·rw [n] at r; cases r
 have hm:∀ b u,H b=some u->¬ Mut (some u)->b≠x:=fun b u q nm z=>by subst z; rw [q] at mu; exact nm mu
 refine ⟨fun b u q n _ _=>k b u (hb b n) q,fun b u q n _ _=>⟨u.slots,k b u (hb b n) q⟩,fun b u q n _=>by rw [D7 (hx b n)]; exact n,fun b u q _=>?_,
  fun b xs q=>by rw [D7 (hm b _ q fun z=>z)]; exact q,fun b u xs q=>by rw [D7 (hm b _ q fun z=>z)]; exact q,fun b ps q=>⟨#[],by rw [D7 (hm b _ q fun z=>z),q]; simp⟩⟩
 by_cases hbe:b=e
 ·subst hbe; exact heo
 ·exact ⟨u,k b u hbe q⟩
end
def trk (h:Heap) (H:Hp):List Addr:=(List.range h.objs.size).filter fun a=>(H a).isSome
def hidT (h:Heap) (H:Hp):Heap:=PySem.W.hideAll h (trk h H)
theorem B0i (h:Heap) (H:Hp):(hidT h H).objs.size=h.objs.size:=PySem.W.hideAll_size _ _
theorem B28 {h:Heap} {H:Hp} {b:Addr} {o:Obj} (e:h.get? b=some o) (n:H b=none):(hidT h H).get? b=some o :=
 PySem.W.hideAll_get _ e fun hm=>by
  have q:(H b).isSome=true:=(List.mem_filter.mp hm).2;rw [n] at q; simp at q
theorem B7u {h:Heap} {H:Hp} {b:Addr} {o:Obj} (e:(hidT h H).get? b=some o):h.get? b=some o/\H b=none:=by
 have e':h.get? b=some o:=PySem.W.of_hideAll (trk h H) e;refine ⟨e',?_⟩;cases q:H b with
 | none=>rfl
 | some x =>
  have hm:b ∈ trk h H:=List.mem_filter.mpr ⟨List.mem_range.mpr (Heap.lt_size e'),by simp [q]⟩;have z:(hidT h H).get? b=none:=PySem.W.hideAll_none (trk h H) hm;rw [z] at e; cases e
def B9i (g h:Heap) (L:Addr):List (Addr × Obj):=(List.range h.objs.size).filterMap fun a=>if a=L\/(g.get? a).isSome=true then none else (h.get? a).map fun o=>(a,o)
def rest (g h:Heap) (L d:Addr):List (Addr × Obj):=(B9i g h L).filter fun p=>decide (p.1≠d)
end L2
namespace L2
open PySem PySem.Spec PyProof.Rows
structure Mod (K:PySem.W.Frag) (mg:Str->Option Value) (base:Heap):Prop where
 kin:K.In base
 glob:base.Ns mainGlobals mg
 blt:∃ mb,base.Ns builtinsNs mb/\∀ x:Str,x≠"__name__"->mb x=bootBuiltins x
 nolimit:base.NoLimit
structure Cx where
 prog:Program
 w:World
 K:PySem.W.Frag
 mg:Str->Option Value
 base:Heap
 A:Around
 N:List Str
 s₀:Shared
 H₀:Hp
 env:Env
 outer:List Env
 stack:List Env
 ex:List Addr
 fn:Str->Bool
 calm:Bool
 pn:List (Addr × Obj)
 xe:Value->Shared->Prop
def frs (l:List Env):List Addr:=l.filterMap (·.frame)
abbrev Cx.fs (X:Cx):List Addr:=frs X.outer
def Vis (sc:Scope) (x:Str):Prop:=sc.names.lookup x=some .local\/sc.names.lookup x=some .cell\/sc.names.lookup x=some .free
def Loc (sc:Scope) (x:Str):Prop:=sc.names.lookup x=some .local\/sc.names.lookup x=some .cell
def Look (env:Env) (h:Heap) (m:Str->Option Value) (x:Str) (u:Value):Prop :=
 (env.kindOf x=some .local/\m x=some u)\/((env.kindOf x=some .cell\/env.kindOf x=some .free)/\∃ c,env.cells.lookup x=some c/\h.IsCell c (some u))
structure Cx.Ok (X:Cx):Prop where
 mod:Mod X.K X.mg X.base
 kind:X.env.scope.kind=.function
 glob:X.env.globals=mainGlobals
 blt:X.env.builtins=builtinsNs
 above:X.s₀.heap.objs.size<=X.env.locals
 inj:∀ x y c,X.env.cells.lookup x=some c->X.env.cells.lookup y=some c->x=y
 has:∀ x,(X.env.kindOf x=some .cell\/X.env.kindOf x=some .free)->∃ c,X.env.cells.lookup x=some c
 cab:∀ x c,X.fn x=true->X.env.cells.lookup x=some c->X.s₀.heap.objs.size<=c
 hd:X.calm=true->X.A.handled=none
 frames:X.A.frames=some X.stack
 stk:X.stack=X.outer\/(X.stack=X.env :: X.outer/\X.env.frame=some X.env.locals)
 exf:∀ b ∈ X.ex,b≠X.env.locals/\∀ x c,X.env.cells.lookup x=some c->c≠b
 bs:∀ b o,X.base.get? b=some o->X.s₀.heap.get? b=some o/\X.H₀ b=none
 bsz:X.base.objs.size<=X.s₀.heap.objs.size
 noex:∀ b o,X.base.get? b=some o->b ∉ X.ex
 exfs:∀ b ∈ X.ex,b ∉ X.fs
 funs:X.s₀.heap.FunFrames X.base X.outer
 frf:∀ b ∈ X.fs,X.H₀ b=none
structure Inv (X:Cx) (pins:List (Addr × Obj)) (σ:List (Option V)) (H:Hp) (s:Shared):Prop where
 ok:X.Ok
 os:s.os=X.s₀.os
 bare:AllBare s.gens
 base:Un X.fs X.ex X.H₀ H X.s₀.heap s.heap
 loc:∃ m,s.heap.Ns X.env.locals m/\∀ (i:Nat) (x:Str) (v:V),X.N[i]?=some x->σ[i]?=some (some v)->Vis X.env.scope x->∃ u,RelV v u/\Look X.env s.heap m x u
 cell:∀ x c,X.env.cells.lookup x=some c->∃ v,s.heap.IsCell c v
 free:H X.env.locals=none
 freeC:∀ x c,X.env.cells.lookup x=some c->H c=none
 pin:∀ p ∈ X.pn++pins,s.heap.get? p.1=some p.2/\H p.1=none/\p.1≠X.env.locals/\p.1 ∉ X.fs/\∀ v,p.2.data≠.cell v
 hok:HOk X.prog X.w H s.heap
 len:σ.length=X.N.length
section
variable {X:Cx} {pins:List (Addr × Obj)} {σ:List (Option V)} {H H':Hp} {s:Shared} {h':Heap}
theorem Cx.Ok.nofr (ok:X.Ok) {b:Addr} {o:Obj} (e:X.base.get? b=some o):b ∉ X.fs:=fun hb=>by
 have:=(ok.funs.mem hb).1;rw [e] at this; cases this
theorem Inv.bs (I:Inv X pins σ H s):∀ b o,X.base.get? b=some o->s.heap.get? b=some o/\H b=none:=fun b o e =>
 ⟨I.base.keep b o (I.ok.bs b o e).1 (I.ok.bs b o e).2 (I.ok.nofr e) (I.ok.noex b o e),I.base.free b o (I.ok.bs b o e).1 (I.ok.bs b o e).2 (I.ok.noex b o e)⟩
theorem Inv.bk (I:Inv X pins σ H s):∀ b o,X.base.get? b=some o->s.heap.get? b=some o:=fun b o e=>(I.bs b o e).1
theorem Inv.mod (I:Inv X pins σ H s):Mod X.K X.mg X.base:=I.ok.mod
theorem Inv.kIn (I:Inv X pins σ H s):X.K.In s.heap:=I.ok.mod.kin.keeps I.bk
theorem Inv.lt (I:Inv X pins σ H s):X.env.locals < s.heap.objs.size:=let ⟨_,hn,_⟩:=I.loc; hn.lt
theorem Inv.sz (I:Inv X pins σ H s):X.s₀.heap.objs.size<=s.heap.objs.size:=Zx I.ok.above (Nat.le_of_lt I.lt)
theorem Inv.nofs (I:Inv X pins σ H s) {a:Addr} (h:s.heap.objs.size<=a):a ∉ X.fs:=fun hb=>by
 obtain ⟨_,o,ho,_⟩:=I.ok.funs.mem hb;exact absurd (Nat.lt_of_lt_of_le (Heap.lt_size ho) (Zx I.sz h)) (Nat.lt_irrefl _)
theorem Inv.cne (I:Inv X pins σ H s):∀ x c,X.env.cells.lookup x=some c->c≠X.env.locals:=fun x c e z=>by
 obtain ⟨v,o,ho,hd⟩:=I.cell x c e;obtain ⟨m,⟨o',es,ep,ho',hd',_⟩,_⟩:=I.loc;rw [z,ho'] at ho; cases ho; rw [hd'] at hd; cases hd
theorem Inv.funs (I:Inv X pins σ H s):s.heap.FunFrames X.base X.outer:=by
 have all:∀ (l:List Env),(∀ b ∈ frs l,b ∈ X.fs)->X.s₀.heap.FunFrames X.base l->s.heap.FunFrames X.base l:=by
  intro l;induction l with
  | nil=>intro _ _; trivial
  | cons env r ih =>
   intro hs hl;obtain ⟨hk,⟨L,o,hf,hn,ho,hd⟩,hr⟩:=hl;have hL:L ∈ X.fs:=hs L (by unfold frs; rw [List.filterMap_cons,hf]; exact Zy);obtain ⟨sl,e⟩:=I.base.slot L o ho (I.ok.frf L hL) hL fun z=>I.ok.exfs L z hL;exact ⟨hk,⟨L,_,hf,hn,e,hd⟩,ih (fun b hb=>hs b (by unfold frs; rw [List.filterMap_cons,hf]; exact Zr _ hb)) hr⟩
 exact all X.outer (fun _ hb=>hb) I.ok.funs
theorem Inv.stack (I:Inv X pins σ H s):s.heap.FunFrames X.base X.stack:=by
 rcases I.ok.stk with e | ⟨e,hf⟩
 ·rw [e]; exact I.funs
 ·rw [e];obtain ⟨m,hn,_⟩:=I.loc;refine .cons (by rw [I.ok.kind]; decide) hf hn ?_ I.funs;exact Heap.get?_none_of_le (Zx I.ok.bsz I.ok.above)
theorem Inv.stkSub (I:Inv X pins σ H s):∀ b ∈ frs X.stack,b ∈ X.env.locals :: X.fs:=fun b hb=>by
 rcases I.ok.stk with e | ⟨e,hf⟩
 ·rw [e] at hb; exact Zr _ hb
 ·rw [e] at hb;unfold frs at hb;rw [List.filterMap_cons,hf] at hb;exact hb
theorem Inv.stkFree (I:Inv X pins σ H s):∀ b ∈ frs X.stack,H b=none:=fun b hb=>by
 rcases List.mem_cons.mp (I.stkSub b hb) with e | hb
 ·rw [e]; exact I.free
 ·obtain ⟨_,o,ho,_⟩:=I.ok.funs.mem hb;exact I.base.free b o ho (I.ok.frf b hb) fun z=>I.ok.exfs b z hb
theorem Inv.step {g':Array GenState} {t':Nat} {d':Drawn} {ch:List Addr} (I:Inv X pins σ H s)
  (hch:∀ b ∈ ch,(b ∈ X.ex\/X.s₀.heap.objs.size<=b)/\b≠X.env.locals/\(∀ x c,X.env.cells.lookup x=some c->c≠b)/\∀ p ∈ X.pn++pins,p.1≠b)
  (keep:∀ b o,b≠X.env.locals->b ∉ X.fs->b ∉ ch->s.heap.get? b=some o->H b=none->h'.get? b=some o)
  (slot:∀ b o,b≠X.env.locals->b ∈ X.fs->b ∉ ch->s.heap.get? b=some o->H b=none->∃ sl,h'.get? b=some { o with slots:=sl }) (free:∀ b o,b ∉ ch->s.heap.get? b=some o->H b=none->H' b=none)
  (there:∀ b o,b ∉ ch->s.heap.get? b=some o->∃ o',h'.get? b=some o')
  (tups:∀ b xs,H b=some (.tup xs)->H' b=some (.tup xs)) (frzs:∀ b o u,H b=some (.frz o u)->H' b=some (.frz o u)) (tbls:∀ b ps,H b=some (.tbl ps)->∃ more,H' b=some (.tbl (ps++more)))
  (ns:∀ m,s.heap.Ns X.env.locals m->h'.Ns X.env.locals m) (hok:HOk X.prog X.w H' h') (hg:AllBare g') :
  Inv X pins σ H' { s with heap:=h',gens:=g',drawn:=d',toks:=t' }:=by
 have neL:∀ b o,X.s₀.heap.get? b=some o->b≠X.env.locals:=fun b o e=>Nat.ne_of_lt (Nat.lt_of_lt_of_le (Heap.lt_size e) I.ok.above);have neC:∀ b o,X.s₀.heap.get? b=some o->b ∉ X.ex->b ∉ ch:=fun b o e hx hb=>by
  rcases (hch b hb).1 with z | z
  ·exact hx z
  ·exact absurd (Nat.lt_of_lt_of_le (Heap.lt_size e) z) (Nat.lt_irrefl _)
 have cellK:∀ x c,X.env.cells.lookup x=some c->∀ v,s.heap.IsCell c v->h'.IsCell c v:=fun x c e v ⟨o,ho,hd⟩=>by
  have nch:c ∉ ch:=fun z=>(hch c z).2.2.1 x c e rfl;by_cases hc:c ∈ X.fs
  ·obtain ⟨sl,q⟩:=slot c o (I.cne x c e) hc nch ho (I.freeC x c e);exact ⟨_,q,hd⟩
  ·exact ⟨o,keep c o (I.cne x c e) hc nch ho (I.freeC x c e),hd⟩
 refine ⟨I.ok,I.os,hg,⟨fun b o e n hb hx=>?_,fun b o e n hb hx=>?_,fun b o e n hx=>?_,fun b o e hx=>?_,fun b xs e=>tups b xs (I.base.tups b xs e),fun b o xs e=>frzs b o xs (I.base.frzs b o xs e),fun b ps e=>?_⟩,?_,fun x c e=>?_,?_,fun x c e=>?_,fun p hp=>?_,hok,I.len⟩
 ·exact keep b o (neL b o e) hb (neC b o e hx) (I.base.keep b o e n hb hx) (I.base.free b o e n hx)
 ·obtain ⟨sl,e1⟩:=I.base.slot b o e n hb hx;obtain ⟨sl',e2⟩:=slot b _ (neL b o e) hb (neC b o e hx) e1 (I.base.free b o e n hx);exact ⟨sl',e2⟩
 ·obtain ⟨o',e1⟩:=I.base.there b o e hx;exact free b o' (neC b o e hx) e1 (I.base.free b o e n hx)
 ·obtain ⟨o',e1⟩:=I.base.there b o e hx;exact there b o' (neC b o e hx) e1
 ·obtain ⟨m1,e1⟩:=I.base.tbls b ps e;obtain ⟨m2,e2⟩:=tbls b _ e1;exact ⟨m1++m2,by rw [e2,Array.append_assoc]⟩
 ·obtain ⟨m,hn,hl⟩:=I.loc;refine ⟨m,ns m hn,fun i x v e1 e2 e3=>?_⟩;obtain ⟨u,r,l⟩:=hl i x v e1 e2 e3;refine ⟨u,r,?_⟩;rcases l with l | ⟨k,c,e,z⟩
  ·exact .inl l
  ·exact .inr ⟨k,c,e,cellK x c e _ z⟩
 ·obtain ⟨v,z⟩:=I.cell x c e;exact ⟨v,cellK x c e v z⟩
 ·obtain ⟨m,⟨o,_,_,ho,_⟩,_⟩:=I.loc;exact free _ o (fun z=>(hch _ z).2.1 rfl) ho I.free
 ·obtain ⟨v,o,ho,hd⟩:=I.cell x c e;exact free c o (fun z=>(hch c z).2.2.1 x c e rfl) ho (I.freeC x c e)
 ·obtain ⟨e,n,ne,nf,d⟩:=I.pin p hp;have nch:p.1 ∉ ch:=fun z=>(hch p.1 z).2.2.2 p hp rfl;exact ⟨keep p.1 p.2 ne nf nch e n,free p.1 p.2 nch e n,ne,nf,d⟩
theorem Inv.un {t':Nat} (I:Inv X pins σ H s) (u:Un X.fs [] H H' s.heap h') (hok:HOk X.prog X.w H' h'):Inv X pins σ H' { s with heap:=h',toks:=t' }:=by
 obtain ⟨m,⟨o,es,ep,ho,r⟩,_⟩:=id I.loc;obtain ⟨sl,hL⟩:=u.any ho I.free (by simp);exact I.step (g':=s.gens) (d':=s.drawn) (ch:=[]) (fun _ z=>nomatch z) (fun b o _ hb _ e n=>u.keep b o e n hb (by simp)) (fun b o _ hb _ e n=>u.slot b o e n hb (by simp)) (fun b o _ e n=>u.free b o e n (by simp)) (fun b o _ e=>u.there b o e (by simp)) u.tups u.frzs u.tbls (fun m' hm=>by
  obtain ⟨o',es',ep',ho',r'⟩:=hm;rw [ho] at ho'; cases ho';exact ⟨_,es',ep',hL,r'⟩) hok I.bare
theorem Inv.call {g':Array GenState} {t':Nat} {d':Drawn} {ch:List Addr} (I:Inv X pins σ H s) (u:Un (frs X.stack) ch H H' s.heap h') (hok:HOk X.prog X.w H' h') (hg:AllBare g')
  (hch:∀ b ∈ ch,(b ∈ X.ex\/X.s₀.heap.objs.size<=b)/\b≠X.env.locals/\(∀ x c,X.env.cells.lookup x=some c->c≠b)/\∀ p ∈ X.pn++pins,p.1≠b) :
  Inv X pins σ H' { s with heap:=h',gens:=g',drawn:=d',toks:=t' }:=by
 obtain ⟨m,⟨o,es,ep,ho,r⟩,_⟩:=id I.loc;obtain ⟨sl,hL⟩:=u.any ho I.free fun z=>(hch _ z).2.1 rfl;exact I.step (ch:=ch) hch (fun b o hL hb hc e n=>u.keep b o e n (fun z=>(List.mem_cons.mp (I.stkSub b z)).elim hL hb) hc) (fun b o _ _ hc e n=>u.any e n hc) (fun b o hc e n=>u.free b o e n hc) (fun b o hc e=>u.there b o e hc) u.tups u.frzs u.tbls (fun m' hm=>by
  obtain ⟨o',es',ep',ho',r'⟩:=hm;rw [ho] at ho'; cases ho';exact ⟨_,es',ep',hL,r'⟩) hok hg
theorem Inv.turned {t':Nat} {it:Addr} (I:Inv X pins σ H s) (k:∀ b o,b≠it->s.heap.get? b=some o->h'.get? b=some o) (hn:H it=none) (hL:it≠X.env.locals)
  (h1:it ∈ X.ex\/X.s₀.heap.objs.size<=it) (h2:∀ x c,X.env.cells.lookup x=some c->c≠it) (h3:∀ p ∈ X.pn++pins,p.1≠it):Inv X pins σ H { s with heap:=h',toks:=t' }:=by
 have nit:∀ b u,H b=some u->b≠it:=fun b u e z=>by rw [z,hn] at e; cases e
 refine I.step (g':=s.gens) (d':=s.drawn) (ch:=[it]) (fun b hb=>?_) (fun b o _ _ hc e _=>k b o (fun z=>hc (by simp [z])) e) (fun b o _ _ hc e _=>⟨o.slots,k b o (fun z=>hc (by simp [z])) e⟩) (fun _ _ _ _ n=>n)
  (fun b o hc e=>⟨o,k b o (fun z=>hc (by simp [z])) e⟩) (fun _ _ e=>e) (fun _ _ _ e=>e) (fun b ps e=>⟨#[],by rw [e]; simp⟩) (fun m hm=>?_) (fun b u e=>?_) I.bare
 ·have e:b=it:=by simpa using hb
  subst e;exact ⟨h1,hL,h2,h3⟩
 ·obtain ⟨o,es,ep,ho,r⟩:=hm;exact ⟨o,es,ep,k _ o (Ne.symm hL) ho,r⟩
 ·refine (I.hok b u e).stay (fun c v hc q=>k c v ?_ q) (fun _ q=>q) fun _ _ q=>q;rcases hc with z | z
  ·rw [z]; exact nit b u e
  ·exact nit c _ z
theorem Inv.tok (I:Inv X pins σ H s) (t:Nat):Inv X pins σ H { s with toks:=t }:=I.un (h':=s.heap) (t':=t) Un.refl I.hok
theorem Inv.kept {t':Nat} (I:Inv X pins σ H s) (k:∀ b u,s.heap.get? b=some u->h'.get? b=some u):Inv X pins σ H { s with heap:=h',toks:=t' }:=I.un (Un.kept k) (I.hok.kept k)
theorem Inv.laid {a:Addr} {o:HO} {t':Nat} (I:Inv X pins σ H s) (k:∀ b u,s.heap.get? b=some u->h'.get? b=some u) (hp:s.heap.objs.size<=a) (new:ObjOk X.prog X.w (upd H a o) h' a o) :
  Inv X pins σ (upd H a o) { s with heap:=h',toks:=t' }:=I.un (Un.laid k hp (I.hok.fresh hp)) (I.hok.laid k hp new)
theorem Inv.write {x e:Addr} {o:HO} {t':Nat} (I:Inv X pins σ H s) (mu:Mut (H x)) (he:e=x\/H e=some (.own x)) (k:∀ b u,b≠e->s.heap.get? b=some u->h'.get? b=some u) (heo:∃ u,h'.get? e=some u)
  (new:ObjOk X.prog X.w (upd H x o) h' x o):Inv X pins σ (upd H x o) { s with heap:=h',toks:=t' }:=I.un (Un.write mu he k heo) (I.hok.write mu he k heo new)
theorem Inv.pins_of {pins':List (Addr × Obj)} (I:Inv X pins σ H s) (h:∀ p ∈ pins',s.heap.get? p.1=some p.2/\H p.1=none/\p.1≠X.env.locals/\p.1 ∉ X.fs/\∀ v,p.2.data≠.cell v):Inv X pins' σ H s :=
 ⟨I.ok,I.os,I.bare,I.base,I.loc,I.cell,I.free,I.freeC,fun p hp=>(Za hp).elim (fun z=>I.pin p (Zt _ z)) (h p),I.hok,I.len⟩
theorem A58 {N:List Str} (hN:N.Nodup) {i j:Nat} {x:Str} (a:N[i]?=some x) (b:N[j]?=some x):i=j:=by
 obtain ⟨h1,e1⟩:=Zs a;obtain ⟨h2,e2⟩:=Zs b;exact (List.getElem_inj hN).mp (e1.trans e2.symm)
theorem A2t {M:Model} {A:Around} {E:Value->Shared->Prop} {i:Nat} {x:Str} {v:V} {u:Value} {Q:Unit->Shared->Prop} (I:Inv X pins σ H s) (hN:X.N.Nodup) (hi:X.N[i]?=some x) (hx:Loc X.env.scope x) (r:RelV v u)
  (h:∀ s',Inv X pins (σ.set i (some v)) H s'->(∃ a,Heap.SameBut a s.heap s'.heap/\(a=X.env.locals\/X.env.cells.lookup x=some a))->Q () s') (hf:X.fn x=true\/X.env.scope.names.lookup x=some .local:=by first | exact .inl rfl | exact .inr rfl | assumption):wpAny M A (storeName X.env x u) Q E s:=by
 obtain ⟨m,hn,hl⟩:=id I.loc;have hcls:(X.env.scope.kind == .class || (X.env.scope.kind == .module && X.env.locals != X.env.globals))=false:=by rw [I.ok.kind]; rfl
 have hiσ:i < σ.length:=by rw [I.len]; exact (Zs hi).1
 have cne:=I.cne;have tracked:∀ {a:Addr} {h':Heap},(∃ o,s.heap.get? a=some o/\H a=none)->Heap.SameBut a s.heap h'->HOk X.prog X.w H h':=fun {a h'} ha hs b ob e=>by
  obtain ⟨_,_,hfree⟩:=ha;refine (I.hok b ob e).stay (fun c w' hc q=>(hs.2 c ?_).trans q) (fun _ q=>q) fun _ _ q=>q;rintro rfl;rcases hc with rfl | hc
  ·rw [hfree] at e; cases e
  ·rw [hfree] at hc; cases hc
 rcases hx with hk | hk
 ·refine wpAny_storeName_local hk hn (fun h' hn' hs=>?_) hcls;obtain ⟨oL,_,_,hoL,_⟩:=id hn;refine h _ ⟨I.ok,I.os,I.bare,⟨fun b o e n hb hx=>?_,fun b o e n hb hx=>?_,I.base.free,fun b o e hx=>?_,I.base.tups,I.base.frzs,I.base.tbls⟩,⟨_,hn',fun j y v' e1 e2 e3=>?_⟩,fun y c e=>?_,I.free,I.freeC,fun p hp=>?_,tracked ⟨oL,hoL,I.free⟩ hs,by simpa using I.len⟩ ⟨_,hs,.inl rfl⟩
  ·exact (hs.2 b (Nat.ne_of_lt (Nat.lt_of_lt_of_le (Heap.lt_size e) I.ok.above))).trans (I.base.keep b o e n hb hx)
  ·obtain ⟨sl,e1⟩:=I.base.slot b o e n hb hx;exact ⟨sl,(hs.2 b (Nat.ne_of_lt (Nat.lt_of_lt_of_le (Heap.lt_size e) I.ok.above))).trans e1⟩
  ·obtain ⟨o',e1⟩:=I.base.there b o e hx;exact ⟨o',(hs.2 b (Nat.ne_of_lt (Nat.lt_of_lt_of_le (Heap.lt_size e) I.ok.above))).trans e1⟩
  ·by_cases hj:j=i
   ·subst hj;rw [hi] at e1; cases e1;rw [List.getElem?_set_self hiσ] at e2;cases e2;exact ⟨u,r,.inl ⟨hk,by simp⟩⟩
   ·rw [List.getElem?_set_ne (Ne.symm hj)] at e2;obtain ⟨u',r',q⟩:=hl j y v' e1 e2 e3;refine ⟨u',r',?_⟩;rcases q with ⟨k,e⟩ | ⟨k,c,e,z⟩
    ·refine .inl ⟨k,?_⟩;have:y≠x:=fun e=>hj (A58 hN e1 (e ▸ hi));simp [this,e]
    ·exact .inr ⟨k,c,e,z.sameBut hs (cne y c e)⟩
  ·obtain ⟨w',z⟩:=I.cell y c e;exact ⟨w',z.sameBut hs (cne y c e)⟩
  ·obtain ⟨e,n,ne,nf,d⟩:=I.pin p hp;exact ⟨(hs.2 p.1 ne).trans e,n,ne,nf,d⟩
 ·have hfn:X.fn x=true:=by
   rcases hf with z | z
   ·exact z
   ·rw [z] at hk; cases hk
  obtain ⟨c,hc⟩:=I.ok.has x (.inl hk);obtain ⟨w',z⟩:=I.cell x c hc;refine wpAny_storeName_cell I.ok.kind hk hc z (fun h' hc' hs=>?_);obtain ⟨oc,hoc,hocd⟩:=id z;refine h { s with heap:=h' } ⟨I.ok,I.os,I.bare,⟨fun b o e n hb hx=>?_,fun b o e n hb hx=>?_,I.base.free,fun b o e hx=>?_,I.base.tups,I.base.frzs,I.base.tbls⟩,⟨m,hn.sameBut hs (Ne.symm (cne x c hc)),fun j y v' e1 e2 e3=>?_⟩,fun y c' e=>?_,I.free,I.freeC,fun p hp=>?_,tracked ⟨oc,hoc,I.freeC x c hc⟩ hs,by simpa using I.len⟩ ⟨c,hs,.inr hc⟩
  ·exact (hs.2 b (Nat.ne_of_lt (Nat.lt_of_lt_of_le (Heap.lt_size e) (I.ok.cab x c hfn hc)))).trans (I.base.keep b o e n hb hx)
  ·obtain ⟨sl,e1⟩:=I.base.slot b o e n hb hx;exact ⟨sl,(hs.2 b (Nat.ne_of_lt (Nat.lt_of_lt_of_le (Heap.lt_size e) (I.ok.cab x c hfn hc)))).trans e1⟩
  ·obtain ⟨o',e1⟩:=I.base.there b o e hx;exact ⟨o',(hs.2 b (Nat.ne_of_lt (Nat.lt_of_lt_of_le (Heap.lt_size e) (I.ok.cab x c hfn hc)))).trans e1⟩
  ·by_cases hj:j=i
   ·subst hj;rw [hi] at e1; cases e1;rw [List.getElem?_set_self hiσ] at e2;cases e2;exact ⟨u,r,.inr ⟨.inl hk,c,hc,hc'⟩⟩
   ·rw [List.getElem?_set_ne (Ne.symm hj)] at e2;obtain ⟨u',r',q⟩:=hl j y v' e1 e2 e3;refine ⟨u',r',?_⟩;rcases q with q | ⟨k,c',e,z'⟩
    ·exact .inl q
    ·refine .inr ⟨k,c',e,z'.sameBut hs ?_⟩;rintro rfl;exact hj (A58 hN e1 (I.ok.inj _ _ _ e hc ▸ hi))
  ·by_cases hcc:c'=c
   ·subst hcc; exact ⟨_,hc'⟩
   ·obtain ⟨w2,z2⟩:=I.cell y c' e;exact ⟨w2,z2.sameBut hs hcc⟩
  ·obtain ⟨e,n,ne,nf,d⟩:=I.pin p hp;refine ⟨(hs.2 p.1 ?_).trans e,n,ne,nf,d⟩;intro q;rw [q,hoc] at e;have q':oc=p.2:=Zj e;exact d w' (by rw [<- q']; exact hocd)
theorem O6 {M:Model} {A:Around} {E:Value->Shared->Prop} {i:Nat} {x:Str} {v:V} {u:Value} {Q:Unit->Shared->Prop} (I:Inv X pins σ H s) (hN:X.N.Nodup) (hi:X.N[i]?=some x) (hx:Loc X.env.scope x) (r:RelV v u)
  (h:∀ s',Inv X pins (σ.set i (some v)) H s'->Q () s') (hf:X.fn x=true\/X.env.scope.names.lookup x=some .local:=by first | exact .inl rfl | exact .inr rfl | assumption):wpAny M A (storeName X.env x u) Q E s :=
 A2t I hN hi hx r (fun s' I' _=>h s' I') hf
theorem Inv.call' {s':Shared} {ch:List Addr} (I:Inv X pins σ H s) (ho:s'.os=s.os) (u:Un (frs X.stack) ch H H' s.heap s'.heap) (hok:HOk X.prog X.w H' s'.heap) (hg:AllBare s'.gens)
  (hch:∀ b ∈ ch,(b ∈ X.ex\/X.s₀.heap.objs.size<=b)/\b≠X.env.locals/\(∀ x c,X.env.cells.lookup x=some c->c≠b)/\∀ p ∈ X.pn++pins,p.1≠b):Inv X pins σ H' s':=by
 obtain ⟨h',g',d',t',o'⟩:=s';have e:o'=s.os:=ho;subst e;exact I.call (g':=g') (t':=t') (d':=d') u hok hg hch
end
abbrev XK:=Value->Option Addr->Hp->Prop
abbrev St:=List (Option V)
abbrev VK:=V->Hp->Prop
abbrev TE:=St->Hp->VK->Prop
abbrev TT:=St->Hp->(Bool->Hp->Prop)->Prop
abbrev TA:=St->Hp->(List V->Hp->Prop)->Prop
structure Ends where
 nx:St->Hp->Prop
 rt:VK
 bk:St->Hp->Prop:=fun _ _=>False
 ct:St->Hp->Prop:=fun _ _=>False
abbrev TS:=Ends->St->Hp->Prop
def EP (X:Cx) (pins:List (Addr × Obj)) (σ:St) (Q:VK) (u:Value) (s':Shared):Prop:=∃ v H',Inv X pins σ H' s'/\RelV v u/\Q v H'
def TP (X:Cx) (pins:List (Addr × Obj)) (σ:St) (Q:Bool->Hp->Prop) (b:Bool) (s':Shared):Prop:=∃ H',Inv X pins σ H' s'/\Q b H'
def AP (X:Cx) (pins:List (Addr × Obj)) (σ:St) (Q:List V->Hp->Prop) (us:List Value) (s':Shared):Prop:=∃ vs H',Inv X pins σ H' s'/\Vals vs us/\Q vs H'
def SP (X:Cx) (pins:List (Addr × Obj)) (D:Ends) (f:Flow) (s':Shared):Prop :=
 match f with
 | .next=>∃ σ' H',Inv X pins σ' H' s'/\D.nx σ' H'
 | .brk=>∃ σ' H',Inv X pins σ' H' s'/\D.bk σ' H'
 | .cont=>∃ σ' H',Inv X pins σ' H' s'/\D.ct σ' H'
 | .ret u=>∃ v σ' H',Inv X pins σ' H' s'/\RelV v u/\D.rt v H'
def PE (X:Cx) (e:Expr) (t:TE):Prop :=
 ∀ (pins:List (Addr × Obj)) (s:Shared) (σ:St) (H:Hp) (Q:VK),Inv X pins σ H s->t σ H Q->wpAny (model X.prog X.w) X.A (eval e X.env) (EP X pins σ Q) X.xe s
def PT (X:Cx) (e:Expr) (t:TT):Prop :=
 ∀ (pins:List (Addr × Obj)) (s:Shared) (σ:St) (H:Hp) (Q:Bool->Hp->Prop),Inv X pins σ H s->t σ H Q->wpAny (model X.prog X.w) X.A (isTrue e X.env (eval e X.env)) (TP X pins σ Q) X.xe s
def PW (X:Cx) (e:Expr) (t:TT):Prop :=
 ∀ (whole:Sem Value) (pins:List (Addr × Obj)) (s:Shared) (σ:St) (H:Hp) (Q:Bool->Hp->Prop),Inv X pins σ H s->t σ H Q->wpAny (model X.prog X.w) X.A (isTrue e X.env whole) (TP X pins σ Q) X.xe s
theorem PW.pt {X:Cx} {e:Expr} {t:TT} (h:PW X e t):PT X e t:=h _
def PA (X:Cx) (es:List Expr) (t:TA):Prop :=
 ∀ (pos:Pos) (pins:List (Addr × Obj)) (s:Shared) (σ:St) (H:Hp) (Q:List V->Hp->Prop),Inv X pins σ H s->t σ H Q->wpAny (model X.prog X.w) X.A (spliced (backTo pos (starEach es X.env))) (AP X pins σ Q) X.xe s
def PS (X:Cx) (st:Stmt) (t:TS):Prop :=
 ∀ (pins:List (Addr × Obj)) (s:Shared) (σ:St) (H:Hp) (D:Ends),Inv X pins σ H s->t D σ H->wpAny (model X.prog X.w) X.A (exec st X.env) (SP X pins D) X.xe s
def PSs (X:Cx) (st:List Stmt) (t:TS):Prop :=
 ∀ (pins:List (Addr × Obj)) (s:Shared) (σ:St) (H:Hp) (D:Ends),Inv X pins σ H s->t D σ H->wpAny (model X.prog X.w) X.A (execs st X.env) (SP X pins D) X.xe s
theorem thn {α:Type} {t:Sem α} {Q Q':α->Shared->Prop} {M:Model} {A:Around} {E:Value->Shared->Prop} {s:Shared} (h:wpAny M A t Q E s) (hQ:∀ a s,Q a s->Q' a s):wpAny M A t Q' E s:=wpAny_mono h hQ fun _ _ x=>x
end L2
namespace L2
open PySem PySem.Spec PyProof.Rows
section
variable {X:Cx}
theorem bin {a b:Expr} {ta tb:TE} (ha:PE X a ta) (hb:PE X b tb) {pins:List (Addr × Obj)} {s:Shared} {σ:St} {H:Hp} {R:V->V->Hp->Prop} (I:Inv X pins σ H s) (h:ta σ H fun x H1=>tb σ H1 fun y H2=>R x y H2)
  {α:Type} {Q:α->Shared->Prop} {f:Value->Value->Sem α}
  (hf:∀ v u s2 x y H2,Inv X pins σ H2 s2->RelV x v->RelV y u->R x y H2->wpAny (model X.prog X.w) X.A (f v u) Q X.xe s2) :
  wpAny (model X.prog X.w) X.A (eval a X.env) (fun v s₁=>wpAny (model X.prog X.w) X.A (eval b X.env) (fun u s₂=>wpAny (model X.prog X.w) X.A (f v u) Q X.xe s₂) X.xe s₁) X.xe s:=by
 refine thn (ha pins s σ H _ I h) fun v s1 ⟨x,H1,I1,r1,q1⟩=>?_;refine thn (hb pins s1 σ H1 _ I1 q1) fun u s2 ⟨y,H2,I2,r2,q2⟩=>?_;exact hf v u s2 x y H2 I2 r1 r2 q2
def tVar (i:Nat):TE:=fun σ H Q=>∃ v,σ[i]?=some (some v)/\Q v H
def tC (v:V):TE:=fun _ H Q=>Q v H
theorem C0p {i:Nat} {x:Str} {pos:Pos} (hN:X.N[i]?=some x) (hv:Vis X.env.scope x) (hd:(x == ("__debug__":Str))=false:=by decide) (hcd:(x == ("__classdict__":Str))=false:=by decide):PE X (.Name x pos) (tVar i):=by
 intro pins s σ H Q I h;obtain ⟨v,e,h⟩:=h;obtain ⟨m,hn,hl⟩:=I.loc;obtain ⟨u,r,l⟩:=hl i x v hN e hv;have fin:EP X pins σ Q u s:=⟨v,H,I,r,h⟩;rcases l with ⟨hk,hm⟩ | ⟨hk,c,hc,hcell⟩
 ·exact wpAny_Name (wpAny_loadName_local I.ok.kind hk hn hm fin) hd
 ·rcases hk with hk | hk
  ·exact wpAny_Name (wpAny_loadName_cell I.ok.kind hk hc hcell fin) hd
  ·exact wpAny_Name (wpAny_loadName_free I.ok.kind hk hc hcell fin hcd) hd
theorem F6 {i j pos}:PE X (.Constant (.int i) j pos) (tC (.int i)):=fun _ _ _ H _ I h=>wpAny_Constant_int ⟨.int i,H,I.tok _,⟨_,rfl⟩,h⟩
theorem C3z {b j pos}:PE X (.Constant (.bool b) j pos) (tC (.bl b)):=fun _ _ _ H _ I h=>Constant_bool ⟨.bl b,H,I,rfl,h⟩
theorem C0u {j pos}:PE X (.Constant .none j pos) (tC .non):=fun _ _ _ H _ I h=>Constant_none ⟨.non,H,I,rfl,h⟩
theorem C0r {x j pos}:PE X (.Constant (.str x) j pos) (tC (.str x)):=fun _ _ _ H _ I h=>Calls.Constant_str ⟨.str x,H,I.tok _,⟨_,rfl⟩,h⟩
def Gl (X:Cx) (x:Str):Prop:=X.env.kindOf x=some .globalImplicit
theorem A91 {E:Value->Shared->Prop} {pins:List (Addr × Obj)} {s:Shared} {σ:St} {H:Hp} {x:Str} {u:Value} {pos:Pos} {Q:Value->Shared->Prop} (I:Inv X pins σ H s) (hg:Gl X x) (hm:X.mg x=some u) (h:Q u s)
  (hd:(x == ("__debug__":Str))=false:=by decide):wpAny (model X.prog X.w) X.A (eval (.Name x pos) X.env) Q E s :=
 Calls.Name_function_global I.ok.kind hg (Calls.loadGlobal_global (by rw [I.ok.glob]; exact I.mod.glob.keeps I.bk) hm h) hd
theorem A0f {E:Value->Shared->Prop} {pins:List (Addr × Obj)} {s:Shared} {σ:St} {H:Hp} {x:Str} {u:Value} {pos:Pos} {Q:Value->Shared->Prop} (I:Inv X pins σ H s) (hg:Gl X x) (hm:X.mg x=none) (hv:bootBuiltins x=some u) (h:Q u s)
  (hn:x≠"__name__":=by decide) (hd:(x == ("__debug__":Str))=false:=by decide):wpAny (model X.prog X.w) X.A (eval (.Name x pos) X.env) Q E s:=by
 obtain ⟨mb,h1,h2⟩:=I.mod.blt;exact Calls.Name_function_global I.ok.kind hg (Calls.loadGlobal_builtin (by rw [I.ok.glob]; exact I.mod.glob.keeps I.bk) hm (by rw [I.ok.blt]; exact h1.keeps I.bk) ((h2 x hn).trans hv) h) hd
theorem B6v {x:Str} {v:V} {u:Value} {pos:Pos} (hg:Gl X x) (hm:X.mg x=some u) (r:RelV v u) (hd:(x == ("__debug__":Str))=false:=by decide):PE X (.Name x pos) (tC v) :=
 fun _ _ _ H _ I h=>A91 I hg hm ⟨v,H,I,r,h⟩ hd
theorem B60 {x:Str} {v:V} {u:Value} {pos:Pos} (hg:Gl X x) (hm:X.mg x=none) (hv:bootBuiltins x=some u) (r:RelV v u) (hn:x≠"__name__":=by decide) (hd:(x == ("__debug__":Str))=false:=by decide):PE X (.Name x pos) (tC v) :=
 fun _ _ _ H _ I h=>A0f I hg hm hv ⟨v,H,I,r,h⟩ hn hd
variable {a b:Expr} {ta tb:TE} {pos:Pos}
def PC (X:Cx) (op:CmpOp) (a b:Expr) (t:TE):Prop :=
 ∀ (pins:List (Addr × Obj)) (s:Shared) (σ:St) (H:Hp) (Q:VK),Inv X pins σ H s->t σ H Q ->
  wpAny (model X.prog X.w) X.A (eval a X.env) (fun v s₁=>wpAny (model X.prog X.w) X.A (eval b X.env) (fun u s₂=>wpAny (model X.prog X.w) X.A (compareOp op v u) (EP X pins σ Q) X.xe s₂) X.xe s₁) X.xe s
theorem A59 (b:Expr) {op:CmpOp} (h:op≠.In) (h2:op≠.NotIn):behindInMarks op b=false:=by
 have e1:(op == CmpOp.In)=false:=by cases op <;> first | rfl | exact absurd rfl h
 have e2:(op == CmpOp.NotIn)=false:=by cases op <;> first | rfl | exact absurd rfl h2
 cases b <;> simp [behindInMarks,e1,e2]
def tB (t:TE):TT:=fun σ H Q=>t σ H fun x H1=>∃ c,x=.bl c/\Q c H1
theorem C0v {op:CmpOp} {t:TE} (h:PC X op a b t) (h1:behindInMarks op b=false:=by first | exact A59 _ (by decide) (by decide) | rfl):PE X (.Compare a [op] [b] pos) t:=fun pins s σ H Q I hw=>wpAny_Compare1 (h pins s σ H Q I hw) h1
theorem C0k {op:CmpOp} {t:TE} (h:PC X op a b t) (h1:behindInMarks op b=false:=by first | exact A59 _ (by decide) (by decide) | rfl):PT X (.Compare a [op] [b] pos) (tB t):=by
 intro pins s σ H Q I hw;refine wpAny_isTrue_Compare1 (thn (h pins s σ H _ I hw) fun v s1 h1=>thn h1 fun u s2 h2=>thn h2 fun c s3 ⟨x,H1,I1,r1,q1⟩=>?_) h1;obtain ⟨d,rfl,q⟩:=q1;cases r1;exact wpAny_truthy_bool ⟨H1,I1,q⟩
theorem B31 {e:Expr} {t:TE} (h:PE X e t) (he:∀ whole,isTrue e X.env whole=(do let v <- whole; standAt e.pos; holding [v] (truthy v)):=by intro _; rfl):PT X e (tB t):=by
 intro pins s σ H Q I hw;refine isTrue_plain (thn (h pins s σ H _ I hw) fun v s1 ⟨x,H1,I1,r1,q1⟩=>?_) (he _);obtain ⟨d,rfl,q⟩:=q1;cases r1;exact wpAny_truthy_bool ⟨H1,I1,q⟩
variable {tA tB':TT} {rest:List Expr}
def tAnd (t u:TT):TT:=fun σ H Q=>t σ H fun c H1=>if c=true then u σ H1 Q else Q false H1
def tOr (t u:TT):TT:=fun σ H Q=>t σ H fun c H1=>if c=true then Q true H1 else u σ H1 Q
def tNot (t:TT):TT:=fun σ H Q=>t σ H fun c H1=>Q (!c) H1
theorem B6f (ha:PT X a tA):PW X (.BoolOp .And [a] pos) tA:=by
 intro wh pins s σ H Q I h;refine isTrue_and (thn (ha pins s σ H Q I h) fun c s1 e=>?_);cases c with
 | true=>exact isTrue_and_nil e
 | false=>exact e
theorem C0h (ha:PT X a tA):PW X (.BoolOp .Or [a] pos) tA:=by
 intro wh pins s σ H Q I h;refine isTrue_or (thn (ha pins s σ H Q I h) fun c s1 e=>?_);cases c with
 | false=>exact isTrue_or_nil e
 | true=>exact e
theorem C0i (ha:PT X a tA) (hb:PW X (.BoolOp .And (b :: rest) pos) tB'):PW X (.BoolOp .And (a :: b :: rest) pos) (tAnd tA tB'):=by
 intro wh pins s σ H Q I h;refine isTrue_and (thn (ha pins s σ H _ I h) fun c s1 ⟨H1,I1,q1⟩=>?_);cases c with
 | true=>exact hb wh pins s1 σ H1 Q I1 q1
 | false=>exact ⟨H1,I1,q1⟩
theorem C3u (ha:PT X a tA) (hb:PW X (.BoolOp .Or (b :: rest) pos) tB'):PW X (.BoolOp .Or (a :: b :: rest) pos) (tOr tA tB'):=by
 intro wh pins s σ H Q I h;refine isTrue_or (thn (ha pins s σ H _ I h) fun c s1 ⟨H1,I1,q1⟩=>?_);cases c with
 | true=>exact ⟨H1,I1,q1⟩
 | false=>exact hb wh pins s1 σ H1 Q I1 q1
theorem C0j (ha:PT X a tA):PT X (.UnaryOp .Not a pos) (tNot tA):=by
 intro pins s σ H Q I h;exact isTrue_not (ha pins s σ H (fun c H1=>Q (!c) H1) I h)
def B5n (ta tb:TE):TE:=fun σ H Q=>ta σ H fun x H1=>∃ c,x=.bl c/\if c=true then tb σ H1 Q else Q (.bl false) H1
def tOrV (ta tb:TE):TE:=fun σ H Q=>ta σ H fun x H1=>∃ c,x=.bl c/\if c=true then Q (.bl true) H1 else tb σ H1 Q
def B5i (ta:TE):TE:=fun σ H Q=>ta σ H fun x H1=>∃ c,x=.bl c/\Q (.bl (!c)) H1
theorem C0s {op} {t:TE} (h:PE X a t):PE X (.BoolOp op [a] pos) t:=fun pins s σ H Q I hw=>BoolOp_one (h pins s σ H Q I hw)
theorem C0w (ha:PE X a ta) (hb:PE X (.BoolOp .And (b :: rest) pos) tb):PE X (.BoolOp .And (a :: b :: rest) pos) (B5n ta tb):=by
 intro pins s σ H Q I h;refine BoolOp_and (thn (ha pins s σ H _ I h) fun v s1 ⟨x,H1,I1,r1,q1⟩=>?_);obtain ⟨c,rfl,q1⟩:=q1;cases r1;refine wpAny_truthy_bool ?_;cases c with
 | true=>exact hb pins s1 σ H1 Q I1 q1
 | false=>exact ⟨.bl false,H1,I1,rfl,q1⟩
theorem C3x (ha:PE X a ta) (hb:PE X (.BoolOp .Or (b :: rest) pos) tb):PE X (.BoolOp .Or (a :: b :: rest) pos) (tOrV ta tb):=by
 intro pins s σ H Q I h;refine BoolOp_or (thn (ha pins s σ H _ I h) fun v s1 ⟨x,H1,I1,r1,q1⟩=>?_);obtain ⟨c,rfl,q1⟩:=q1;cases r1;refine wpAny_truthy_bool ?_;cases c with
 | false=>exact hb pins s1 σ H1 Q I1 q1
 | true=>exact ⟨.bl true,H1,I1,rfl,q1⟩
theorem C0t (ha:PE X a ta):PE X (.UnaryOp .Not a pos) (B5i ta):=by
 intro pins s σ H Q I h;refine UnaryOp_ (thn (ha pins s σ H _ I h) fun v s1 ⟨x,H1,I1,r1,q1⟩=>?_);obtain ⟨c,rfl,q1⟩:=q1;cases r1;exact not_of (wpAny_truthy_bool ⟨.bl (!c),H1,I1,rfl,q1⟩)
def tIf (t:TT) (ta tb:TE):TE:=fun σ H Q=>t σ H fun c H1=>if c=true then ta σ H1 Q else tb σ H1 Q
theorem B2e {c:Expr} (hc:PT X c tA) (ha:PE X a ta) (hb:PE X b tb):PE X (.IfExp c a b pos) (tIf tA ta tb):=by
 intro pins s σ H Q I h;refine wpAny_IfExp (thn (hc pins s σ H _ I h) fun d s1 ⟨H1,I1,q1⟩=>?_);cases d with
 | true=>exact ha pins s1 σ H1 Q I1 q1
 | false=>exact hb pins s1 σ H1 Q I1 q1
end
end L2
namespace L2
open PySem PySem.Spec PyProof.Rows
def SqL (K:PySem.W.Frag) (H:Hp) (a:Addr) (xs:List V):Prop :=
 Rd H a (.lst xs) \/
  ∃ (o:Obj) (its:Array Value) (n:Nat),K.lookup a=some o/\o.cls=.type "list"/\o.dict=none/\o.data=.seq its n/\its.size<=sizeLine/\Vals xs its.toList
def SqT (K:PySem.W.Frag) (H:Hp) (a:Addr) (xs:List V):Prop :=
 Rd H a (.tup xs) \/
  ∃ (o:Obj) (its:Array Value) (n:Nat),K.lookup a=some o/\o.cls=.type "tuple"/\o.data=.seq its n/\its.size<=sizeLine/\Vals xs its.toList
def absV:Value->Option V
 | .none=>some .non
 | .bool b=>some (.bl b)
 | .int i _=>some (.int i)
 | .str x _=>some (.str x)
 | .bytes b _=>some (.byt b)
 | .float b _=>some (.flt b)
 | .ref a=>some (.ref a)
 | .type n=>some (.ty n)
 | _=>none
theorem RelV.abs {x:V} {u:Value} (r:RelV x u):absV u=some x:=by
 cases x with
 | non=>cases r; rfl
 | bl _=>cases r; rfl
 | int _=>obtain ⟨t,rfl⟩:=r; rfl
 | str _=>obtain ⟨t,rfl⟩:=r; rfl
 | byt _=>obtain ⟨t,rfl⟩:=r; rfl
 | flt _=>obtain ⟨t,rfl⟩:=r; rfl
 | ref _=>cases r; rfl
 | ty _=>cases r; rfl
theorem RelV.inj {x y:V} {u:Value} (r:RelV x u) (q:RelV y u):x=y:=Zj (r.abs.symm.trans q.abs)
theorem Vals.inj:∀ {xs ys:List V} {us:List Value},Vals xs us->Vals ys us->xs=ys
 | _,_,_,.nil,.nil=>rfl
 | _,_,_,.cons r t,.cons r' t'=>by rw [r.inj r',Vals.inj t t']
section
variable {X:Cx} {pins:List (Addr × Obj)} {σ:St} {H:Hp} {s:Shared} {a:Addr} {xs ys:List V}
theorem SqL.of {K:PySem.W.Frag} (h:H a=some (.lst xs)):SqL K H a xs:=.inl (.inl h)
theorem SqT.of {K:PySem.W.Frag} (h:H a=some (.tup xs)):SqT K H a xs:=.inl (.inl h)
theorem Inv.list (I:Inv X pins σ H s) (h:SqL X.K H a xs):∃ its:List Value,Vals xs its/\PlainL s.heap a its.toArray/\xs.length<=sizeLine:=by
 rcases h with h | ⟨o,its,n,hk,hc,hd,hs,hz,r⟩
 ·obtain ⟨z,its,n,r,e⟩:=h.ok I.hok;exact ⟨its,r,⟨_,n,e,rfl,rfl,rfl⟩,z⟩
 ·refine ⟨its.toList,r,⟨o,n,I.kIn a o hk,hc,hd,by simpa using hs⟩,?_⟩;have e:=r.length;simp only [Array.length_toList] at e;omega
theorem Inv.tuple (I:Inv X pins σ H s) (h:SqT X.K H a xs):∃ its:List Value,Vals xs its/\IsTup s.heap a its.toArray/\xs.length<=sizeLine:=by
 rcases h with h | ⟨o,its,n,hk,hc,hs,hz,r⟩
 ·obtain ⟨z,its,r,p⟩:=h.ok I.hok;exact ⟨its,r,p,z⟩
 ·refine ⟨its.toList,r,⟨o,I.kIn a o hk,hc,n,by simpa using hs⟩,?_⟩;have e:=r.length;simp only [Array.length_toList] at e;omega
theorem Inv.list_inj (I:Inv X pins σ H s) (h:SqL X.K H a xs) (h':SqL X.K H a ys):xs=ys:=by
 obtain ⟨its,r,⟨o,n,e,_,_,d⟩,_⟩:=I.list h;obtain ⟨its',r',⟨o',n',e',_,_,d'⟩,_⟩:=I.list h';rw [e] at e'; cases e';rw [d] at d';injection d' with d1 _
 have:its=its':=by simpa using congrArg Array.toList d1
 subst this;exact r.inj r'
theorem Inv.tuple_inj (I:Inv X pins σ H s) (h:SqT X.K H a xs) (h':SqT X.K H a ys):xs=ys:=by
 obtain ⟨its,r,⟨o,e,_,n,d⟩,_⟩:=I.tuple h;obtain ⟨its',r',⟨o',e',_,n',d'⟩,_⟩:=I.tuple h';rw [e] at e'; cases e';rw [d] at d';injection d' with d1 _
 have:its=its':=by simpa using congrArg Array.toList d1
 subst this;exact r.inj r'
end
abbrev Cx.wish (X:Cx) (E:Value->Shared->Prop):Cx:={ X with xe:=E }
abbrev Cx.nox (X:Cx):Cx:=X.wish fun _ _=>False
theorem Cx.Ok.wish {X:Cx} (ok:X.Ok) (E:Value->Shared->Prop):(X.wish E).Ok :=
 ⟨ok.mod,ok.kind,ok.glob,ok.blt,ok.above,ok.inj,ok.has,ok.cab,ok.hd,ok.frames,ok.stk,ok.exf,ok.bs,ok.bsz,ok.noex,ok.exfs,ok.funs,ok.frf⟩
theorem Cx.Ok.unwish {X:Cx} {E:Value->Shared->Prop} (ok:(X.wish E).Ok):X.Ok :=
 ⟨ok.mod,ok.kind,ok.glob,ok.blt,ok.above,ok.inj,ok.has,ok.cab,ok.hd,ok.frames,ok.stk,ok.exf,ok.bs,ok.bsz,ok.noex,ok.exfs,ok.funs,ok.frf⟩
section
variable {X:Cx} {pins:List (Addr × Obj)} {σ:St} {H:Hp} {s:Shared} {E:Value->Shared->Prop}
theorem Inv.wish (I:Inv X pins σ H s) (E:Value->Shared->Prop):Inv (X.wish E) pins σ H s:=⟨I.ok.wish E,I.os,I.bare,I.base,I.loc,I.cell,I.free,I.freeC,I.pin,I.hok,I.len⟩
theorem Inv.unwish (I:Inv (X.wish E) pins σ H s):Inv X pins σ H s:=⟨I.ok.unwish,I.os,I.bare,I.base,I.loc,I.cell,I.free,I.freeC,I.pin,I.hok,I.len⟩
theorem SP.unwish {D:Ends} {f:Flow} {s':Shared} (h:SP (X.wish E) pins D f s'):SP X pins D f s':=by
 cases f with
 | next=>obtain ⟨σ',H',I,q⟩:=h; exact ⟨σ',H',I.unwish,q⟩
 | brk=>obtain ⟨σ',H',I,q⟩:=h; exact ⟨σ',H',I.unwish,q⟩
 | cont=>obtain ⟨σ',H',I,q⟩:=h; exact ⟨σ',H',I.unwish,q⟩
 | ret u=>obtain ⟨v,σ',H',I,r,q⟩:=h; exact ⟨v,σ',H',I.unwish,r,q⟩
theorem PSs.nox {st:List Stmt} {t:TS} (h:PSs X.nox st t):PSs X st t:=fun pins s σ H D I hw =>
 wpAny_mono (h pins s σ H D (I.wish _) hw) (fun _ _ q=>q.unwish) fun _ _ z=>False.elim z
end
section
variable {X:Cx} {st:Stmt} {rest:List Stmt} {t u:TS} {e:Expr} {te:TE} {pos:Pos}
def B5j:TS:=fun D σ H=>D.nx σ H
def tSeq (t u:TS):TS:=fun D σ H=>t { D with nx:=u D } σ H
theorem A4i:PSs X [] B5j:=fun _ _ σ H _ I h=>wpAny_execs_nil ⟨σ,H,I,h⟩
theorem L3 (h1:PS X st t) (h2:PSs X rest u):PSs X (st :: rest) (tSeq t u):=by
 intro pins s σ H D I h;refine wpAny_execs_cons (thn (h1 pins s σ H { D with nx:=u D } I h) fun f s1 q=>?_);cases f with
 | next =>
  obtain ⟨σ',H',I',q⟩:=q;exact h2 pins s1 σ' H' D I' q
 | ret v=>exact q
 | brk=>exact q
 | cont=>exact q
theorem V3 (h1:PS X st t):PSs X [st] t:=by
 intro pins s σ H D I h;refine wpAny_execs_cons (thn (h1 pins s σ H D I h) fun f s1 q=>?_);cases f with
 | next=>exact wpAny_execs_nil q
 | ret v=>exact q
 | brk=>exact q
 | cont=>exact q
theorem Inv.quiet {pins:List (Addr × Obj)} {σ:St} {H:Hp} {s:Shared} (I:Inv X pins σ H s):interactive X.env=false:=by simp [interactive,I.ok.kind]
def A73 (te:TE):TS:=fun D σ H=>te σ H fun _ H1=>D.nx σ H1
theorem B6k (he:PE X e te) (hs:swapsWith e none pos.line X.env=pure false:=by rfl):PS X (.Expr e pos) (A73 te):=by
 intro pins s σ H D I h;exact wpAny_Expr_any (thn (he pins s σ H _ I h) fun v s1 ⟨x,H1,I1,r1,q1⟩=>⟨σ,H1,I1,q1⟩) I.quiet hs
def tRet (te:TE):TS:=fun D σ H=>te σ H D.rt
theorem A5y (he:PE X e te):PS X (.Return (some e) pos) (tRet te):=by
 intro pins s σ H D I h;exact wpAny_Return_some (thn (he pins s σ H _ I h) fun v s1 ⟨x,H1,I1,r1,q1⟩=>⟨x,σ,H1,I1,r1,q1⟩)
def tIfS (c:TT) (t u:TS):TS:=fun D σ H=>c σ H fun b H1=>if b=true then t D σ H1 else u D σ H1
theorem B6j {c:Expr} {a b:List Stmt} {tc:TT} (hc:PT X c tc) (ha:PSs X a t) (hb:PSs X b u):PS X (.If c a b pos) (tIfS tc t u):=by
 intro pins s σ H D I h;refine wpAny_If (thn (hc pins s σ H _ I h) fun d s1 ⟨H1,I1,q1⟩=>?_);cases d with
 | true=>exact ha pins s1 σ H1 D I1 q1
 | false=>exact hb pins s1 σ H1 D I1 q1
def A72:TS:=fun _ _ _=>False
theorem B13:PS X st A72:=fun _ _ _ _ _ _ h=>h.elim
end
abbrev TG:=V->St->Hp->(St->Hp->Prop)->Prop
abbrev TGs:=List V->St->Hp->(St->Hp->Prop)->Prop
def PG (X:Cx) (target:Expr) (t:TG):Prop :=
 ∀ (pins:List (Addr × Obj)) (s:Shared) (σ:St) (H:Hp) (v:V) (u:Value) (Q:St->Hp->Prop),Inv X pins σ H s->RelV v u->t v σ H Q ->
  wpAny (model X.prog X.w) X.A (assign target X.env u) (fun _ s'=>∃ σ' H',Inv X pins σ' H' s'/\Q σ' H') X.xe s
def PGs (X:Cx) (ts:List Expr) (t:TGs):Prop :=
 ∀ (pins:List (Addr × Obj)) (s:Shared) (σ:St) (H:Hp) (vs:List V) (us:List Value) (Q:St->Hp->Prop),Inv X pins σ H s->Vals vs us->t vs σ H Q ->
  wpAny (model X.prog X.w) X.A (assignInOrder ((assignEach ts X.env).map (·.2)) us) (fun _ s'=>∃ σ' H',Inv X pins σ' H' s'/\Q σ' H') X.xe s
abbrev TSet:=V->V->V->Hp->(Hp->Prop)->Prop
def PSet (X:Cx) (t:TSet):Prop :=
 ∀ (pins:List (Addr × Obj)) (s:Shared) (σ:St) (H:Hp) (o i v:V) (ov iv u:Value) (Q:Hp->Prop),Inv X pins σ H s->RelV o ov->RelV i iv->RelV v u->t o i v H Q ->
  wpAny (model X.prog X.w) X.A (setItem ov iv u) (fun _ s'=>∃ H',Inv X pins σ H' s'/\Q H') X.xe s
section
variable {X:Cx} {pos:Pos}
def U4 (i:Nat):TG:=fun v σ H Q=>Q (σ.set i (some v)) H
theorem A84 {i:Nat} {x:Str} (hN:X.N.Nodup) (hi:X.N[i]?=some x) (hx:Loc X.env.scope x) (hf:X.fn x=true\/X.env.scope.names.lookup x=some .local:=by first | exact .inl rfl | exact .inr rfl | assumption):PG X (.Name x pos) (U4 i):=by
 intro pins s σ H v u Q I r h;exact wpAny_assign_Name (O6 I hN hi hx r (fun s' I'=>⟨_,H,I',h⟩) hf)
def gNil:TGs:=fun vs σ H Q=>vs=[]/\Q σ H
def A4v (t:TG) (u:TGs):TGs:=fun vs σ H Q=>∃ v r,vs=v :: r/\t v σ H fun σ' H'=>u r σ' H' Q
theorem B6t:PGs X [] gNil:=by
 intro pins s σ H vs us Q I r h;obtain ⟨e,h⟩:=h;subst e;cases r;exact assignInOrder_nil ⟨σ,H,I,h⟩
theorem B2c {e:Expr} {es:List Expr} {t:TG} {u:TGs} (h1:PG X e t) (h2:PGs X es u)
  (hs:(assignEach (e :: es) X.env).map (·.2)=assign e X.env :: (assignEach es X.env).map (·.2):=by rfl):PGs X (e :: es) (A4v t u):=by
 intro pins s σ H vs us Q I r h;obtain ⟨v,vr,e1,h⟩:=h;subst e1;cases r with
 | cons r rr =>
  rw [hs];refine assignInOrder_cons (thn (h1 pins s σ H _ _ _ I r h) fun _ s1 ⟨σ1,H1,I1,q1⟩=>?_);exact h2 pins s1 σ1 H1 _ _ Q I1 rr q1
def gTup (K:PySem.W.Frag) (n:Nat) (t:TGs):TG:=fun v σ H Q=>∃ a xs,v=.ref a/\SqT K H a xs/\xs.length=n/\t xs σ H Q
theorem C0o {es:List Expr} {k:Nat} {t:TGs} {n:Nat} (hc:X.calm=true) (h:PGs X es t)
  (hn:(assignEach es X.env).length=n:=by rfl) (hst:(assignEach es X.env).findIdx? (·.1)=none:=by rfl):PG X (.Tuple es k pos) (gTup X.K n t):=by
 intro pins s σ H v u Q I r hw;obtain ⟨a,xs,e1,hq,hl,hw⟩:=hw;subst e1;cases r;obtain ⟨its,rv,ht,hz⟩:=I.tuple hq;refine assign_Tuple_tuple (I.ok.hd hc) ht (by simp [hn,<- hl,rv.length]) hst fun h' hx=>?_;have I1:Inv X pins σ H { s with heap:=h' }:=I.kept (t':=s.toks) fun b o e=>hx b o (Nat.ne_of_lt (Heap.lt_size e)) e;exact h pins _ σ H xs _ Q I1 (by simpa using rv) hw
def gSub (to ti:TE) (t:TSet):TG:=fun v σ H Q=>to σ H fun o H1=>ti σ H1 fun i H2=>t o i v H2 fun H3=>Q σ H3
theorem A50 {o i:Expr} {to ti:TE} {t:TSet} (ho:PE X o to) (hi:PE X i ti) (hs:PSet X t)
  (ha:∀ v,assign (.Subscript o i pos) X.env v=(do
   let ov <- holding [v] (eval o X.env)
   let iv <- holding [v,ov] (eval i X.env)
   standAt pos
   holding [v,ov,iv] (setItem ov iv v)
   release [v,ov,iv] []):=by intro _; rfl):PG X (.Subscript o i pos) (gSub to ti t):=by
 intro pins s σ H v u Q I r h;rw [ha];refine wpAny_bind (wpAny_holding (thn (ho pins s σ H _ I h) fun ov s1 ⟨x,H1,I1,r1,q1⟩=>?_));refine wpAny_bind (wpAny_holding (thn (hi pins s1 σ H1 _ I1 q1) fun iv s2 ⟨y,H2,I2,r2,q2⟩=>?_));refine wpAny_bind (wpAny_standAt (wpAny_bind (wpAny_holding (thn (hs pins s2 σ H2 x y v ov iv u _ I2 r1 r2 r q2) fun _ s3 ⟨H3,I3,q3⟩=>?_))));exact wpAny_release ⟨σ,H3,I3,q3⟩
def tAsg (te:TE) (g:TG):TS:=fun D σ H=>te σ H fun x H1=>g x σ H1 D.nx
theorem A5z {tg e:Expr} {te:TE} {g:TG} (he:PE X e te) (hg:PG X tg g) (hs:swapsWithSole [tg] e pos.line X.env=pure false:=by rfl) (hw:swappedStores [tg] e X.env=pure none:=by rfl)
  (h1:(assignEach [tg] X.env).map (·.2)=[assign tg X.env]:=by rfl):PS X (.Assign [tg] e pos) (tAsg te g):=by
 intro pins s σ H D I h;refine wpAny_Assign_stores (thn (he pins s σ H _ I h) fun v s1 ⟨x,H1,I1,r1,q1⟩=>?_) hs hw;rw [h1];exact thn (hg pins s1 σ H1 x v _ I1 r1 q1) fun _ s2 q=>q
theorem A09 {i:Nat} {x:Str} {e:Expr} {te:TE} {pos':Pos} (hN:X.N.Nodup) (hi:X.N[i]?=some x) (hx:Loc X.env.scope x) (he:PE X e te) (hs:swapsWith e (some (.Name x pos')) pos.line X.env=pure false:=by rfl) (hf:X.fn x=true\/X.env.scope.names.lookup x=some .local:=by first | exact .inl rfl | exact .inr rfl | assumption) :
  PS X (.Assign [.Name x pos'] e pos) (tAsg te (U4 i)):=by
 intro pins s σ H D I h;refine wpAny_Assign_Name (thn (he pins s σ H _ I h) fun v s1 ⟨y,H1,I1,r1,q1⟩=>?_) hs;exact O6 I1 hN hi hx r1 (fun s2 I2=>⟨_,H1,I2,q1⟩) hf
def tPar (i j:Nat) (ta:TA):TS:=fun D σ H=>ta σ H fun vs H1=>∃ v w,vs=[v,w]/\D.nx ((σ.set i (some v)).set j (some w)) H1
theorem C0l {i j:Nat} {x y:Str} {a b:Expr} {ta:TA} {px py pt:Pos} {kt k2 pt2} (hc:X.calm=true) (hN:X.N.Nodup) (hi:X.N[i]?=some x) (hj:X.N[j]?=some y) (hij:i≠j)
  (hx:X.env.scope.names.lookup x=some .local) (hy:X.env.scope.names.lookup y=some .local) (ha:PA X [a,b] ta)
  (hw:swappedStores [.Tuple [.Name x px,.Name y py] kt pt] (.Tuple [a,b] k2 pt2) X.env=pure (some [x,y]))
  (hs:swapsWithSole [.Tuple [.Name x px,.Name y py] kt pt] (.Tuple [a,b] k2 pt2) pos.line X.env=pure false:=by rfl) :
  PS X (.Assign [.Tuple [.Name x px,.Name y py] kt pt] (.Tuple [a,b] k2 pt2) pos) (tPar i j ta):=by
 intro pins s σ H D I h;rw [exec_Assign_arm];refine wpAny_bind (wpAny_standAt ?_);rw [hs];refine wpAny_bind (wpAny_pure ?_);rw [if_neg (by decide)];refine wpAny_bind (Tuple_ (thn (ha _ pins s σ H _ I h) fun us s1 ⟨vs,H1,I1,r1,q1⟩=>?_));obtain ⟨v,w,e1,q1⟩:=q1;subst e1;obtain ⟨u1,u2,rfl,rv,rw'⟩:∃ u1 u2,us=[u1,u2]/\RelV v u1/\RelV w u2:=by
  cases r1 with
  | cons p q =>
   cases q with
   | cons p' q' =>
    cases q';exact ⟨_,_,rfl,p,p'⟩
 refine wpAny_newObj_type ?_ (by show 2<=sizeLine; decide);have I2:Inv X pins σ H1 { s1 with heap:=s1.heap.push { cls:=.type "tuple",data:=.seq [u1,u2].toArray } }:=I1.kept (t':=s1.toks) fun b o e=>Heap.get?_push_of_some _ e;rw [hw];refine wpAny_bind (wpAny_pure ?_);show wpAny (model X.prog X.w) X.A (do rule "assign.swapped-stores"; let items <- unpackItems (.ref s1.heap.objs.size) 2 none; assignInOrder [fun v=>bindName X.env y v,fun v=>bindName X.env x v] items.reverse; pure Flow.next) _ _ _;refine wpAny_bind (wpAny_rule (wpAny_bind (unpackItems_tuple (items:=#[u1,u2]) (I.ok.hd hc) (IsTup.new s1.heap _) fun h' hx'=>?_)));have I3:=I2.kept (h':=h') (t':=s1.toks) fun b o e=>hx' b o (Nat.ne_of_lt (Heap.lt_size e)) e;show wpAny _ _ (assignInOrder [fun v=>bindName X.env y v,fun v=>bindName X.env x v] [u2,u1] >>= fun _=>pure Flow.next) _ _ _;refine wpAny_bind (assignInOrder_cons (wpAny_bindName (O6 I3 hN hj (.inl hy) rw' (fun s2 I4=>?_) (.inr hy))));refine assignInOrder_cons (wpAny_bindName (O6 I4 hN hi (.inl hx) rv (fun s3 I5=>assignInOrder_nil (wpAny_pure ?_)) (.inr hx)));rw [List.set_comm _ _ (Ne.symm hij)] at I5;exact ⟨_,H1,I5,q1⟩
end
section
variable {X:Cx} {pos:Pos}
def A71 (c:TT) (tb:TS):TS:=fun D σ H=>∃ W:Nat->St->Hp->Prop,(∃ m,W m σ H)/\∀ m σ H,W m σ H ->
 c σ H fun b H1=>if b=true then ∃ N:St->Hp->Prop,(∀ σ' H',N σ' H'->∃ m',m' < m/\W m' σ' H')/\tb { D with nx:=N,ct:=N,bk:=D.nx } σ H1 else D.nx σ H1
theorem B10 {c:Expr} {body:List Stmt} {tc:TT} {tb:TS} (hp:PassesOwn (model X.prog X.w) X.A X.env X.xe) (hc:PT X c tc) (hb:PSs X body tb):PS X (.While c body [] pos) (A71 tc tb):=by
 intro pins s σ H D I h;obtain ⟨W,⟨m0,w0⟩,turn⟩:=h;refine wpAny_While (codeAny_whileLoop (fun n s'=>∃ σ' H',Inv X pins σ' H' s'/\W n σ' H') ?_ m0 ⟨σ,H,I,w0⟩);rintro n s1 ⟨σ1,H1,I1,w1⟩;refine wpAny_passesOwn hp (thn (hc pins s1 σ1 H1 _ I1 (turn n σ1 H1 w1)) fun b s2 ⟨H2,I2,q2⟩=>?_);cases b with
 | true =>
  obtain ⟨N,hN,q2⟩:=q2;rw [if_pos rfl];refine wpAny_passesOwn hp (thn (hb pins s2 σ1 H2 _ I2 q2) fun f s3 q3=>?_);cases f with
  | next =>
   obtain ⟨σ3,H3,I3,n3⟩:=q3;obtain ⟨m',hm,w3⟩:=hN σ3 H3 n3;exact ⟨m',hm,σ3,H3,I3,w3⟩
  | cont =>
   obtain ⟨σ3,H3,I3,n3⟩:=q3;obtain ⟨m',hm,w3⟩:=hN σ3 H3 n3;exact ⟨m',hm,σ3,H3,I3,w3⟩
  | brk=>exact q3
  | ret v=>exact q3
 | false =>
  rw [if_neg Bool.false_ne_true];exact wpAny_execs_nil ⟨σ1,H2,I2,q2⟩
end
structure It where
 go:Nat->Hp->Prop
 yld:Nat->Hp->V->Hp->Prop
 stop:Nat->Hp->Prop
def FpOk (X:Cx) (pins:List (Addr × Obj)) (H:Hp) (b:Addr):Prop :=
 H b=none/\b≠X.env.locals/\b ∉ X.fs/\(b ∈ X.ex\/X.s₀.heap.objs.size<=b)/\(∀ x c,X.env.cells.lookup x=some c->c≠b)/\∀ p ∈ X.pn++pins,p.1≠b
theorem Inv.fpOk {X:Cx} {pins:List (Addr × Obj)} {σ:St} {H H':Hp} {s:Shared} {b:Addr} (I:Inv X pins σ H s) (hb:s.heap.objs.size<=b) (hn:H' b=none):FpOk X pins H' b:=by
 refine ⟨hn,Nat.ne_of_gt (Nat.lt_of_lt_of_le I.lt hb),I.nofs hb,.inr (Zx I.sz hb),fun x c e z=>?_,fun p hp z=>?_⟩
 ·obtain ⟨v,q⟩:=I.cell x c e;exact absurd (Nat.lt_of_lt_of_le q.lt (by rw [z]; exact hb)) (Nat.lt_irrefl _)
 ·exact absurd (Nat.lt_of_lt_of_le (Heap.lt_size (I.pin p hp).1) (by rw [z]; exact hb)) (Nat.lt_irrefl _)
structure Turn (P:Program) (w:World) (K:PySem.W.Frag) (tg:Expr) (J:It) (fp:List Addr) (it:Addr) (tn:Nat->Heap->Prop):Prop where
  mem:it ∈ fp
  obj:∀ i h,tn i h->∀ b ∈ fp,∃ o,h.get? b=some o/\∀ v,o.data≠.cell v
  keep:∀ i h h',tn i h->(∀ b ∈ fp,∀ o,h.get? b=some o->h'.get? b=some o)->tn i h'
  item:∀ (X:Cx),X.prog=P->X.w=w->X.K=K->X.calm=true->∀ (i:Nat) (pins:List (Addr × Obj)) (s:Shared) (σ:St) (H:Hp) (E:Value->Shared->Prop),Inv X pins σ H s->(∀ b ∈ fp,FpOk X pins H b)->tn i s.heap->J.go i H ->
    wpAny (model P w) X.A (pyNext (.ref it)) (fun r s1=>∃ u,r=some u /\
      wpAny (model P w) X.A (letOwnedTupleGo tg (.ref it) u) (fun _ s2=>∃ x H',Inv X pins σ H' s2/\RelV x u/\J.yld i H x H'/\tn (i + 1) s2.heap/\∀ b ∈ fp,H' b=none) E s1) E s
  done:∀ (X:Cx),X.prog=P->X.w=w->X.K=K->X.calm=true->∀ (i:Nat) (pins:List (Addr × Obj)) (s:Shared) (σ:St) (H:Hp) (E:Value->Shared->Prop),Inv X pins σ H s->(∀ b ∈ fp,FpOk X pins H b)->tn i s.heap->J.stop i H ->
    wpAny (model P w) X.A (pyNext (.ref it)) (fun r s1=>r=none/\Inv X pins σ H s1) E s
  self:∀ (A:Around) (i:Nat) (s:Shared) (Q:Value->Shared->Prop) (E:Value->Shared->Prop),tn i s.heap->Q (.ref it) s->wpAny (model P w) A (pyIter (.ref it)) Q E s
abbrev TI:=St->Hp->(It->Hp->Prop)->Prop
def PIE (X:Cx) (pins:List (Addr × Obj)) (σ:St) (tg:Expr) (R:It->Hp->Prop) (itv:Value) (s2:Shared):Prop :=
 ∃ (it:Addr) (fp:List Addr) (tn:Nat->Heap->Prop) (J:It) (H':Hp),itv=.ref it/\Inv X pins σ H' s2/\Turn X.prog X.w X.K tg J fp it tn/\tn 0 s2.heap/\(∀ b ∈ fp,FpOk X pins H' b)/\R J H'
def PI (X:Cx) (tg iter:Expr) (wi:TI):Prop :=
 ∀ (pins:List (Addr × Obj)) (s:Shared) (σ:St) (H:Hp) (R:It->Hp->Prop),Inv X pins σ H s->wi σ H R ->
  wpAny (model X.prog X.w) X.A (eval iter X.env) (fun v s1=>wpAny (model X.prog X.w) X.A (pyIter v) (PIE X pins σ tg R) X.xe s1) X.xe s
theorem B8w {M:Model} {A:Around} {E:Value->Shared->Prop} {s:Shared} {tg:Expr} {it:Addr} {u:Value} {o:Obj} {n:String} {vs:Array Value} {Q:Unit->Shared->Prop} (ho:s.heap.get? it=some o) (hc:o.cls=.type n) (hd:o.data=.fields vs)
    (hn:["enumerate","zip","dict_itemiterator","dict_reverseitemiterator","odict_iterator","itertools.zip_longest","itertools.pairwise"].contains n=false) (hQ:Q () s):wpAny M A (letOwnedTupleGo tg (.ref it) u) Q E s:=by
  unfold letOwnedTupleGo;cases tg <;> first
    | exact wpAny_pure hQ
    | (cases u <;> first
        | exact wpAny_pure hQ
        | (refine wpAny_bind (wpAny_load ho ?_)
           rw [hc,hd];show wpAny M A (if (["enumerate","zip","dict_itemiterator","dict_reverseitemiterator","odict_iterator","itertools.zip_longest","itertools.pairwise"].contains n && vs[0]? == some (rawInt _))=true then _ else _) Q E s;rw [if_neg (by intro h; rw [hn,Bool.false_and] at h; cases h)];exact wpAny_pure hQ))
def Itl (K:PySem.W.Frag) (a:Addr):It :=
 ⟨fun i H=>∃ xs x,SqL K H a xs/\xs[i]?=some x,fun i H x H'=>H'=H/\∀ xs,SqL K H a xs->xs[i]?=some x,fun i H=>∃ xs,SqL K H a xs/\xs.length<=i⟩
def Itt (K:PySem.W.Frag) (a:Addr):It :=
 ⟨fun i H=>∃ xs x,SqT K H a xs/\xs[i]?=some x,fun i H x H'=>H'=H/\∀ xs,SqT K H a xs->xs[i]?=some x,fun i H=>∃ xs,SqT K H a xs/\xs.length<=i⟩
def Itr (lo:Int) (n:Nat):It:=⟨fun i _=>i < n,fun i H x H'=>H'=H/\x=.int (lo + i),fun i _=>n<=i⟩
theorem A7x {P:Program} {w:World} {K:PySem.W.Frag} {tg:Expr} (a it:Addr):Turn P w K tg (Itl K a) [it] it (fun i h=>h.IsListIter it a i) where
 mem:=by simp
 obj:=fun i h st b hb=>by
  have e:b=it:=by simpa using hb
  subst e;obtain ⟨o,e,c,d⟩:=st;exact ⟨o,e,fun v z=>by rw [d] at z; cases z⟩
 keep:=fun i h h' st k=>st.at fun o e=>k it (by simp) o e
 item:=by
  intro X hP hw hK hc i pins s σ H E I hf st hg;subst hP hw hK;obtain ⟨xs,x,hq,hx⟩:=hg;obtain ⟨its,rv,p,hz⟩:=I.list hq;obtain ⟨u,hu,ru⟩:=rv.get hx;obtain ⟨f0,f1,f2,f3,f4,f5⟩:=hf it (by simp);refine wpAny_pyNext_list_item st p.isList (x:=u) (by simpa using hu) fun h' st' sb=>?_;have I1:Inv X pins σ H { s with heap:=h' }:=I.turned (t':=s.toks) (fun b o hb e=>(sb.2 b hb).trans e) f0 f1 f3 f4 f5;obtain ⟨o,e,c,d⟩:=id st';exact ⟨u,rfl,B8w (s:={ s with heap:=h' }) e c d (by decide) ⟨x,H,I1,ru,⟨rfl,fun ys hy=>by rw [I.list_inj hy hq]; exact hx⟩,st',fun b hb=>(hf b hb).1⟩⟩
 done:=by
  intro X hP hw hK hc i pins s σ H E I hf st hg;subst hP hw hK;obtain ⟨xs,hq,hx⟩:=hg;obtain ⟨its,rv,p,hz⟩:=I.list hq;obtain ⟨f0,f1,f2,f3,f4,f5⟩:=hf it (by simp);have hl:=rv.length;exact wpAny_pyNext_list_end (I.ok.hd hc) st p.isList (by simp; omega) fun h' eb=>⟨rfl,I.turned (t':=s.toks) (fun b o hb e=>eb b o hb e) f0 f1 f3 f4 f5⟩
 self:=fun _ _ _ _ _ st h=>wpAny_pyIter_listiter st h
theorem A6w {P:Program} {w:World} {K:PySem.W.Frag} {tg:Expr} (a it:Addr):Turn P w K tg (Itt K a) [it] it (fun i h=>h.IsTupleIter it a i) where
 mem:=by simp
 obj:=fun i h st b hb=>by
  have e:b=it:=by simpa using hb
  subst e;obtain ⟨o,e,c,d⟩:=st;exact ⟨o,e,fun v z=>by rw [d] at z; cases z⟩
 keep:=fun i h h' st k=>st.at fun o e=>k it (by simp) o e
 item:=by
  intro X hP hw hK hc i pins s σ H E I hf st hg;subst hP hw hK;obtain ⟨xs,x,hq,hx⟩:=hg;obtain ⟨its,rv,p,hz⟩:=I.tuple hq;obtain ⟨u,hu,ru⟩:=rv.get hx;obtain ⟨f0,f1,f2,f3,f4,f5⟩:=hf it (by simp);refine wpAny_pyNext_tuple_item st (show s.heap.IsTuple a its.toArray from p) (x:=u) (by simpa using hu) fun h' st' sb=>?_;have I1:Inv X pins σ H { s with heap:=h' }:=I.turned (t':=s.toks) (fun b o hb e=>(sb.2 b hb).trans e) f0 f1 f3 f4 f5;obtain ⟨o,e,c,d⟩:=id st';exact ⟨u,rfl,B8w (s:={ s with heap:=h' }) e c d (by decide) ⟨x,H,I1,ru,⟨rfl,fun ys hy=>by rw [I.tuple_inj hy hq]; exact hx⟩,st',fun b hb=>(hf b hb).1⟩⟩
 done:=by
  intro X hP hw hK hc i pins s σ H E I hf st hg;subst hP hw hK;obtain ⟨xs,hq,hx⟩:=hg;obtain ⟨its,rv,p,hz⟩:=I.tuple hq;obtain ⟨f0,f1,f2,f3,f4,f5⟩:=hf it (by simp);have hl:=rv.length;exact wpAny_pyNext_tuple_end (I.ok.hd hc) st (show s.heap.IsTuple a its.toArray from p) (by simp; omega) fun h' eb=>⟨rfl,I.turned (t':=s.toks) (fun b o hb e=>eb b o hb e) f0 f1 f3 f4 f5⟩
 self:=fun _ _ _ _ _ st h=>wpAny_pyIter_tupleiter st h
theorem A6x {P:Program} {w:World} {K:PySem.W.Frag} {tg:Expr} (it:Addr) (lo:Int) (n:Nat):Turn P w K tg (Itr lo n) [it] it (fun i h=>IsRangeIter h it (lo + (i:Nat) * 1) ((n:Int) - (i:Nat)) 1) where
 mem:=by simp
 obj:=fun i h st b hb=>by
  have e:b=it:=by simpa using hb
  subst e;exact ⟨_,st,fun v z=>by
   have z':Data.fields _=Data.cell v:=z;cases z'⟩
 keep:=fun i h h' st k=>k it (by simp) _ st
 item:=by
  intro X hP hw hK hc i pins s σ H E I hf st hg;subst hP hw hK;obtain ⟨f0,f1,f2,f3,f4,f5⟩:=hf it (by simp);have W:=Walks.range (prog:=X.prog) (w:=X.w) (I.ok.hd hc) it lo 1 n;refine W.item i s _ _ hg st fun v h' tk hv st' kk=>?_;obtain ⟨t,rfl⟩:=hv;have I1:Inv X pins σ H { s with heap:=h',toks:=tk }:=I.turned (fun b o hb e=>kk b o (by simpa using hb) e) f0 f1 f3 f4 f5;refine ⟨_,rfl,B8w (s:={ s with heap:=h',toks:=tk }) (n:="range_iterator") st' rfl rfl (by decide) ⟨.int (lo + i),H,I1,⟨t,?_⟩,⟨rfl,rfl⟩,st',fun b hb=>(hf b hb).1⟩⟩;rw [Int.mul_one]
 done:=by
  intro X hP hw hK hc i pins s σ H E I hf st hg;subst hP hw hK;obtain ⟨f0,f1,f2,f3,f4,f5⟩:=hf it (by simp);exact wpAny_pyNext_range_end (I.ok.hd hc) st (by have:n<=i:=hg; omega) fun h' eb=>⟨rfl,I.turned (t':=s.toks) (fun b o hb e=>eb b o hb e) f0 f1 f3 f4 f5⟩
 self:=fun _ _ _ _ _ st h=>wpAny_pyIter_rangeiter st h
end L2
namespace L2
open PySem PySem.Spec PyProof.Rows
section
variable {X:Cx} {tg:Expr}
theorem A5u {pins:List (Addr × Obj)} {σ:St} {H:Hp} {s:Shared} {R:It->Hp->Prop} {E:Value->Shared->Prop} {lo hi:Int} {t u v:Tok} {tk:Nat} (I:Inv X pins σ H s) (h1:-(2 ^ 62)<=lo) (h2:lo < 2 ^ 62) (h3:-(2 ^ 62)<=hi) (h4:hi < 2 ^ 62)
  (q:R (Itr lo (hi - lo).toNat) H):wpAny (model X.prog X.w) X.A (pyIter (.ref s.heap.objs.size)) (PIE X pins σ tg R) E { s with heap:=s.heap.push { cls:=.type "range",data:=.fields #[.int lo t,.int hi u,.int 1 v] },toks:=tk }:=by
 refine wpAny_pyIter_range (IsRange.new ..) (small_one h1 h2 h3 h4) ?_;have I1:Inv X pins σ H { s with heap:=s.heap.push { cls:=.type "range",data:=.fields #[.int lo t,.int hi u,.int 1 v] },toks:=tk }:=I.kept fun b o e=>Heap.get?_push_of_some _ e;refine ⟨(s.heap.push { cls:=.type "range",data:=.fields #[.int lo t,.int hi u,.int 1 v] }).objs.size,[(s.heap.push { cls:=.type "range",data:=.fields #[.int lo t,.int hi u,.int 1 v] }).objs.size],_,_,H,rfl,
  I1.kept (t':=tk) fun b o e=>Heap.get?_push_of_some _ e,A6x _ lo (hi - lo).toNat,?_,fun b hb=>?_,q⟩
 ·have e1:lo + ((0:Nat):Int) * 1=lo:=by simp
  have e2:(((hi - lo).toNat:Nat):Int) - ((0:Nat):Int)=Builtin.Range.rangeSize lo hi 1:=by rw [rangeSize_one]; split <;> omega
  show IsRangeIter _ _ (lo + ((0:Nat):Int) * 1) ((((hi - lo).toNat:Nat):Int) - ((0:Nat):Int)) 1;rw [e1,e2];exact Heap.get?_push_size _ rfl
 ·have e:b=(s.heap.push { cls:=.type "range",data:=.fields #[.int lo t,.int hi u,.int 1 v] }).objs.size:=by simpa using hb
  subst e;exact I1.fpOk (Zv _) (I1.hok.fresh (Zv _))
def B8t (ta:TA):TI:=fun σ H R=>ta σ H fun vs H1=>∃ j:Int,vs=[.int j]/\-(2 ^ 62)<=j/\j < 2 ^ 62/\R (Itr 0 j.toNat) H1
def B8s (ta:TA):TI:=fun σ H R=>ta σ H fun vs H1=>∃ i j:Int,vs=[.int i,.int j]/\(-(2 ^ 62)<=i/\i < 2 ^ 62/\-(2 ^ 62)<=j/\j < 2 ^ 62)/\R (Itr i (j - i).toNat) H1
theorem A3a {a:Expr} {ta:TA} {p pos:Pos} (hg:Gl X "range") (hm:X.mg "range"=none) (ha:PA X [a] ta) (hs:starEach [a] X.env=[(false,eval a X.env)]:=by rfl):PI X tg (.Call (.Name "range" p) [a] [] pos) (B8t ta):=by
 intro pins s σ H R I h;refine Call_ (A0f I hg hm boot_range (PyProof.Rows.callWith_type1 (thn (ha pos pins s σ H _ I h) fun us s1 ⟨vs,H1,I1,r1,q1⟩=>?_) hs rfl));obtain ⟨j,e,q1,q2,q⟩:=q1;subst e;cases r1 with
 | cons r rr =>
  cases rr;obtain ⟨t,rfl⟩:=r;exact call_range_1 (A5u I1 (by omega) (by omega) q1 q2 (by simpa using q))
theorem A83 {a b:Expr} {ta:TA} {p pos:Pos} (hg:Gl X "range") (hm:X.mg "range"=none) (ha:PA X [a,b] ta) (hs:starEach [a,b] X.env=[(false,eval a X.env),(false,eval b X.env)]:=by rfl) (hs2:starEach [b] X.env=[(false,eval b X.env)]:=by rfl) :
  PI X tg (.Call (.Name "range" p) [a,b] [] pos) (B8s ta):=by
 intro pins s σ H R I h;refine Call_ (A0f I hg hm boot_range (PyProof.Rows.callWith_type1 (thn (ha pos pins s σ H _ I h) fun us s1 ⟨vs,H1,I1,r1,q1⟩=>?_) (by rw [hs,hs2]) (by rw [hs2]; rfl)));obtain ⟨i,j,e,⟨q1,q2,q3,q4⟩,q⟩:=q1;subst e;cases r1 with
 | cons r rr =>
  cases rr with
  | cons r' rr =>
   cases rr;obtain ⟨t,rfl⟩:=r;obtain ⟨t',rfl⟩:=r';exact call_range_2 (A5u I1 q1 q2 q3 q4 q)
def tFor (wi:TI) (g:TG) (tb:TS):TS:=fun D σ H=>wi σ H fun J H1=>∃ W:Nat->Nat->St->Hp->Prop,(∃ m,W 0 m σ H1)/\∀ i m σ H,W i m σ H ->
 (J.stop i H/\D.nx σ H)\/(J.go i H/\∃ N:St->Hp->Prop,(∀ σ' H',N σ' H'->∃ m',m' < m/\W (i + 1) m' σ' H')/\∀ x H',J.yld i H x H'->g x σ H' fun σ2 H2=>tb { D with nx:=N,ct:=N,bk:=D.nx } σ2 H2)
def A29 (fp:List Addr) (h:Heap):List (Addr × Obj):=fp.filterMap fun b=>(h.get? b).map fun o=>(b,o)
theorem R3 {fp:List Addr} {h:Heap} {b:Addr} {o:Obj} (hb:b ∈ fp) (e:h.get? b=some o):(b,o) ∈ A29 fp h:=List.mem_filterMap.mpr ⟨b,hb,by rw [e]; rfl⟩
theorem A9q {fp:List Addr} {h:Heap} {p:Addr × Obj} (hp:p ∈ A29 fp h):p.1 ∈ fp/\h.get? p.1=some p.2:=by
 obtain ⟨b,hb,e⟩:=List.mem_filterMap.mp hp;cases q:h.get? b with
 | none=>rw [q] at e; cases e
 | some o =>
  rw [q] at e;have e':(b,o)=p:=Zj e;subst e';exact ⟨hb,q⟩
theorem Inv.pinned {pins:List (Addr × Obj)} {σ:St} {H:Hp} {s:Shared} {fp:List Addr} (I:Inv X pins σ H s) (hf:∀ b ∈ fp,FpOk X pins H b) (ho:∀ b ∈ fp,∃ o,s.heap.get? b=some o/\∀ v,o.data≠.cell v):Inv X (pins++A29 fp s.heap) σ H s :=
 I.pins_of fun p hp=>(Za hp).elim (fun z=>I.pin p (Zw _ z)) fun z=>by
  obtain ⟨hb,e⟩:=A9q z;obtain ⟨f0,f1,f2,_⟩:=hf p.1 hb;obtain ⟨o,e',d⟩:=ho p.1 hb;rw [e] at e'; cases e';exact ⟨e,f0,f1,f2,d⟩
theorem Inv.unpinned {pins pl:List (Addr × Obj)} {σ:St} {H:Hp} {s:Shared} (I:Inv X (pins++pl) σ H s):Inv X pins σ H s:=I.pins_of fun p hp=>I.pin p (Zw _ (Zt _ hp))
theorem B32 {iter:Expr} {body:List Stmt} {wi:TI} {g:TG} {tb:TS} {pos:Pos} (hp:PassesOwn (model X.prog X.w) X.A X.env X.xe) (hc:X.calm=true) (hi:PI X tg iter wi) (hg:PG X tg g) (hb:PSs X body tb)
  (hs:∀ x,foldedSetIterable iter X.env x=pure x:=by intro _; rfl):PS X (.For tg iter body [] pos) (tFor wi g tb):=by
 intro pins s σ H D I h;refine wpAny_For (thn (hi pins s σ H _ I h) fun v s1 h1=>thn h1 fun itv s2 h2=>?_) hs;obtain ⟨it,fp,tn,J,H2,e,I2,T,st2,f2,W,⟨m0,w0⟩,turn⟩:=h2;subst e;have stat:∀ {H':Hp},(∀ b ∈ fp,H' b=none)->∀ b ∈ fp,FpOk X pins H' b:=fun hn b hb=>⟨hn b hb,(f2 b hb).2⟩;refine codeAny_forLoop_any (fun n s'=>∃ i σ' H',Inv X pins σ' H' s'/\tn i s'.heap/\(∀ b ∈ fp,H' b=none)/\W i n σ' H') ?_ m0 ⟨0,σ,H2,I2,st2,fun b hb=>(f2 b hb).1,w0⟩;rintro n s3 ⟨i,σ3,H3,I3,st3,fr3,w3⟩;rcases turn i n σ3 H3 w3 with ⟨stop,qn⟩ | ⟨go,N,hN,step⟩
 ·refine wpAny_passesOwn hp (thn (T.done X rfl rfl rfl hc i pins s3 σ3 H3 X.xe I3 (stat fr3) st3 stop) fun r s4 ⟨hr,I4⟩=>?_);subst hr;exact wpAny_execs_nil ⟨σ3,H3,I4,qn⟩
 ·refine wpAny_passesOwn hp (thn (T.item X rfl rfl rfl hc i pins s3 σ3 H3 X.xe I3 (stat fr3) st3 go) fun r s4 ⟨u,hr,h4⟩=>?_);subst hr;refine wpAny_passesOwn hp (thn h4 fun _ s5 ⟨x,H5,I5,r5,y5,st5,fr5⟩=>?_);have I5':=I5.pinned (stat fr5) (T.obj _ _ st5);refine wpAny_passesOwn hp (thn (hg _ s5 σ3 H5 x u _ I5' r5 (step x H5 y5)) fun _ s6 ⟨σ6,H6,I6,q6⟩=>?_);refine wpAny_passesOwn hp (thn (hb _ s6 σ6 H6 _ I6 q6) fun f s7 q7=>?_);have again:∀ {σ7:St} {H7:Hp},Inv X (pins++A29 fp s5.heap) σ7 H7 s7->N σ7 H7->∃ m,m < n/\∃ i σ' H',Inv X pins σ' H' s7/\tn i s7.heap/\(∀ b ∈ fp,H' b=none)/\W i m σ' H':=fun {σ7 H7} I7 n7=>by
   obtain ⟨m',hm,w7⟩:=hN σ7 H7 n7;refine ⟨m',hm,i + 1,σ7,H7,I7.unpinned,T.keep _ _ _ st5 fun b hb o e=>(I7.pin (b,o) (Zw _ (Zw _ (R3 hb e)))).1,fun b hb=>?_,w7⟩;obtain ⟨o,e,d⟩:=T.obj _ _ st5 b hb;exact (I7.pin (b,o) (Zw _ (Zw _ (R3 hb e)))).2.1
  cases f with
  | next=>obtain ⟨σ7,H7,I7,n7⟩:=q7; exact again I7 n7
  | cont=>obtain ⟨σ7,H7,I7,n7⟩:=q7; exact again I7 n7
  | brk=>obtain ⟨σ7,H7,I7,q7⟩:=q7; exact ⟨σ7,H7,I7.unpinned,q7⟩
  | ret v=>obtain ⟨x7,σ7,H7,I7,r7,q7⟩:=q7; exact ⟨x7,σ7,H7,I7.unpinned,r7,q7⟩
end
theorem B0m {lo:Int} {n:Nat} {g:TG} {tb:TS} {D:Ends} {σ:St} {H:Hp} (Pv:Nat->St->Hp->Prop) (h0:Pv 0 σ H)
  (hs:∀ i σ H,i < n->Pv i σ H->g (.int (lo + i)) σ H fun σ2 H2=>tb { D with nx:=Pv (i + 1),ct:=Pv (i + 1),bk:=D.nx } σ2 H2) (hd:∀ σ H,Pv n σ H->D.nx σ H) :
  ∃ W:Nat->Nat->St->Hp->Prop,(∃ m,W 0 m σ H)/\∀ i m σ H,W i m σ H ->
   ((Itr lo n).stop i H/\D.nx σ H)\/((Itr lo n).go i H/\∃ N:St->Hp->Prop,(∀ σ' H',N σ' H'->∃ m',m' < m/\W (i + 1) m' σ' H')/\∀ x H',(Itr lo n).yld i H x H'->g x σ H' fun σ2 H2=>tb { D with nx:=N,ct:=N,bk:=D.nx } σ2 H2):=by
 refine ⟨fun i m σ H=>m=n - i/\i<=n/\Pv i σ H,⟨n,by simp,Nat.zero_le _,h0⟩,?_⟩;rintro i m σ H ⟨rfl,hi,p⟩;by_cases hlt:i < n
 ·refine .inr ⟨hlt,Pv (i + 1),fun σ' H' p'=>⟨n - (i + 1),by omega,rfl,hlt,p'⟩,fun x H' y=>?_⟩;obtain ⟨e,y⟩:=y;subst e y;exact hs i σ _ hlt p
 ·have e:i=n:=by omega
  subst e;exact .inl ⟨Zv _,hd σ H p⟩
end L2
namespace L2
open PySem PySem.Spec PyProof.Rows
abbrev R2:=V->V->Hp->VK->Prop
def OpR (X:Cx) (f:Value->Value->Sem Value) (r:R2):Prop :=
 ∀ (pins:List (Addr × Obj)) (s:Shared) (σ:St) (H:Hp) (x y:V) (v u:Value) (Q:VK),Inv X pins σ H s->RelV x v->RelV y u->r x y H Q ->
  wpAny (model X.prog X.w) X.A (f v u) (EP X pins σ Q) X.xe s
def UnR (X:Cx) (f:Value->Sem Value) (r:V->Hp->VK->Prop):Prop :=
 ∀ (pins:List (Addr × Obj)) (s:Shared) (σ:St) (H:Hp) (x:V) (v:Value) (Q:VK),Inv X pins σ H s->RelV x v->r x H Q ->
  wpAny (model X.prog X.w) X.A (f v) (EP X pins σ Q) X.xe s
def CallR (X:Cx) (f:Value) (r:List V->Hp->VK->Prop):Prop :=
 ∀ (pins:List (Addr × Obj)) (s:Shared) (σ:St) (H:Hp) (xs:List V) (us:List Value) (Q:VK),Inv X pins σ H s->Vals xs us->r xs H Q ->
  wpAny (model X.prog X.w) X.A (call f us) (EP X pins σ Q) X.xe s
def tOp (r:R2) (ta tb:TE):TE:=fun σ H Q=>ta σ H fun x H1=>tb σ H1 fun y H2=>r x y H2 Q
def tUn (r:V->Hp->VK->Prop) (ta:TE):TE:=fun σ H Q=>ta σ H fun x H1=>r x H1 Q
def rI (C:Int->Int->Prop) (g:Int->Int->V):R2:=fun x y H Q=>∃ i j,x=.int i/\y=.int j/\C i j/\Q (g i j) H
def rI0 (g:Int->Int->V):R2:=fun x y H Q=>∃ i j,x=.int i/\y=.int j/\Q (g i j) H
def rU (g:Int->V):V->Hp->VK->Prop:=fun x H Q=>∃ i,x=.int i/\Q (g i) H
section
variable {X:Cx} {a b c:Expr} {ta tb tc:TE} {pos:Pos}
theorem binT (ha:PE X a ta) (hb:PE X b tb) {pins:List (Addr × Obj)} {s:Shared} {σ:St} {H:Hp} {R:V->V->Hp->Prop} (I:Inv X pins σ H s)
  (h:ta σ H fun x H1=>tb σ H1 fun y H2=>R x y H2) {Q:Value->Shared->Prop} {f:Value->Value->Sem Value}
  (hf:∀ v u s2 x y H2,Inv X pins σ H2 s2->RelV x v->RelV y u->R x y H2->wpAny (model X.prog X.w) X.A (f v u) Q X.xe s2) :
  wpAny (model X.prog X.w) X.A (eval a X.env) (fun v s₁=>wpAny (model X.prog X.w) X.A (eval b X.env) (fun u s₂=>wpAny (model X.prog X.w) X.A (f v u) Q X.xe s₂) X.xe s₁) X.xe s:=by
 refine thn (ha pins s σ H _ I h) fun v s1 ⟨x,H1,I1,r1,q1⟩=>?_;refine thn (hb pins s1 σ H1 _ I1 q1) fun u s2 ⟨y,H2,I2,r2,q2⟩=>?_;exact hf v u s2 x y H2 I2 r1 r2 q2
theorem N1 {op:Operator} {r:R2} (ho:OpR X (binaryOp op) r) (ha:PE X a ta) (hb:PE X b tb):PE X (.BinOp a op b pos) (tOp r ta tb):=by
 intro pins s σ H Q I h;exact wpAny_BinOp (binT ha hb I h fun v u s2 x y H2 I2 rx ry q=>ho pins s2 σ H2 x y v u Q I2 rx ry q)
theorem C3w {op:UnaryOp} {r:V->Hp->VK->Prop} (ho:UnR X (unaryOp op) r) (ha:PE X a ta):PE X (.UnaryOp op a pos) (tUn r ta):=by
 intro pins s σ H Q I h;exact UnaryOp_ (thn (ha pins s σ H _ I h) fun v s1 ⟨x,H1,I1,r1,q1⟩=>ho pins s1 σ H1 x v Q I1 r1 q1)
theorem opI {f:Value->Value->Sem Value} {C:Int->Int->Prop} {g:Int->Int->Int}
  (rule:∀ (i j:Int) (t u:Tok) (s:Shared) (Q:Value->Shared->Prop) (E:Value->Shared->Prop),C i j->Q (.int (g i j) s.toks) { s with toks:=s.toks + 1 }->wpAny (model X.prog X.w) X.A (f (.int i t) (.int j u)) Q E s) :
  OpR X f (rI C fun i j=>.int (g i j)):=by
 intro pins s σ H x y v u Q I rx ry h;obtain ⟨i,j,rfl,rfl,hc,q⟩:=h;obtain ⟨t,rfl⟩:=rx;obtain ⟨t',rfl⟩:=ry;exact rule i j t t' s _ _ hc ⟨.int (g i j),H,I.tok _,⟨_,rfl⟩,q⟩
theorem opI0 {f:Value->Value->Sem Value} {g:Int->Int->Int}
  (rule:∀ (i j:Int) (t u:Tok) (s:Shared) (Q:Value->Shared->Prop) (E:Value->Shared->Prop),Q (.int (g i j) s.toks) { s with toks:=s.toks + 1 }->wpAny (model X.prog X.w) X.A (f (.int i t) (.int j u)) Q E s) :
  OpR X f (rI0 fun i j=>.int (g i j)):=by
 intro pins s σ H x y v u Q I rx ry h;obtain ⟨i,j,rfl,rfl,q⟩:=h;obtain ⟨t,rfl⟩:=rx;obtain ⟨t',rfl⟩:=ry;exact rule i j t t' s _ _ ⟨.int (g i j),H,I.tok _,⟨_,rfl⟩,q⟩
theorem opB0 {f:Value->Value->Sem Value} {g:Int->Int->Bool}
  (rule:∀ (i j:Int) (t u:Tok) (s:Shared) (Q:Value->Shared->Prop) (E:Value->Shared->Prop),Q (.bool (g i j)) s->wpAny (model X.prog X.w) X.A (f (.int i t) (.int j u)) Q E s) :
  OpR X f (rI0 fun i j=>.bl (g i j)):=by
 intro pins s σ H x y v u Q I rx ry h;obtain ⟨i,j,rfl,rfl,q⟩:=h;obtain ⟨t,rfl⟩:=rx;obtain ⟨t',rfl⟩:=ry;exact rule i j t t' s _ _ ⟨.bl (g i j),H,I,rfl,q⟩
def CPow (i j:Int):Prop:=0<=j/\j<=1000000/\i.natAbs < 2 ^ 64
theorem G3:OpR X (binaryOp .Add) (rI0 fun i j=>.int (i + j)):=opI0 fun _ _ _ _ _ _ _ q=>add_int q
theorem U1:OpR X (binaryOp .Sub) (rI0 fun i j=>.int (i - j)):=opI0 fun _ _ _ _ _ _ _ q=>sub_int q
theorem Q3:OpR X (binaryOp .Mod) (rI (fun _ j=>0 < j) fun i j=>.int (i % j)):=opI fun i j _ _ _ _ _ hc q=>by
 have h1:(0:Int) < j:=hc;exact mod_int' (by omega) (by rw [Int.fmod_eq_emod_of_nonneg i (by omega)]; exact q)
theorem A53:OpR X (binaryOp .Pow) (rI CPow fun i j=>.int (i ^ j.toNat)):=opI fun _ _ _ _ _ _ _ hc q=>pow_int_small hc.1 hc.2.1 hc.2.2 q
theorem unI {f:Value->Sem Value} {g:Int->Int}
  (rule:∀ (i:Int) (t:Tok) (s:Shared) (Q:Value->Shared->Prop) (E:Value->Shared->Prop),Q (.int (g i) s.toks) { s with toks:=s.toks + 1 }->wpAny (model X.prog X.w) X.A (f (.int i t)) Q E s) :
  UnR X f (rU fun i=>.int (g i)):=by
 intro pins s σ H x v Q I rx h;obtain ⟨i,rfl,q⟩:=h;obtain ⟨t,rfl⟩:=rx;exact rule i t s _ _ ⟨.int (g i),H,I.tok _,⟨_,rfl⟩,q⟩
theorem A03:UnR X (unaryOp .USub) (rU fun i=>.int (-i)):=unI fun _ _ _ _ _ q=>neg_int q
end
section
variable {X:Cx} {a b c:Expr} {ta tb tc:TE} {pos:Pos}
theorem B0p {pins:List (Addr × Obj)} {σ:St} {H:Hp} {s:Shared} {Q:VK} {k k':Bool} (I:Inv X pins σ H s) (q:Q (.bl k) H) (e:k=k'):EP X pins σ Q (.bool k') s:=by
 subst e;exact ⟨.bl k,H,I,rfl,q⟩
theorem A9c:OpR X (compareOp .Lt) (rI0 fun i j=>.bl (decide (i < j))):=opB0 fun _ _ _ _ _ _ _ q=>lt_int q
theorem C33:OpR X (compareOp .LtE) (rI0 fun i j=>.bl (decide (i<=j))):=opB0 fun _ _ _ _ _ _ _ q=>le_int q
theorem Z6:OpR X (compareOp .Gt) (rI0 fun i j=>.bl (decide (j < i))):=opB0 fun _ _ _ _ _ _ _ q=>gt_int q
theorem C15:OpR X (compareOp .GtE) (rI0 fun i j=>.bl (decide (j<=i))):=opB0 fun _ _ _ _ _ _ _ q=>ge_int q
theorem C13:OpR X (compareOp .Is) (fun x y H Q=>y=.non/\Q (.bl (decide (x=.non))) H):=by
 intro pins s σ H x y v u Q I rx ry h;obtain ⟨rfl,q⟩:=h;cases ry;refine is_none_gen (B0p I q ?_);cases x <;> first
  | (cases rx; rfl)
  | (obtain ⟨t,rfl⟩:=rx; rfl)
theorem B7r:OpR X (compareOp .IsNot) (fun x y H Q=>y=.non/\Q (.bl (!decide (x=.non))) H):=by
 intro pins s σ H x y v u Q I rx ry h;obtain ⟨rfl,q⟩:=h;cases ry;refine isnot_none_gen (B0p I q ?_);cases x <;> first
  | (cases rx; rfl)
  | (obtain ⟨t,rfl⟩:=rx; rfl)
theorem C1 (b:Expr) {op:CmpOp} (h:op≠.In:=by decide) (h2:op≠.NotIn:=by decide):behindInMarks op b=false:=by
 have e1:(op == CmpOp.In)=false:=by cases op <;> first | rfl | exact absurd rfl h
 have e2:(op == CmpOp.NotIn)=false:=by cases op <;> first | rfl | exact absurd rfl h2
 cases b <;> simp [behindInMarks,e1,e2]
theorem A13 {op:CmpOp} {r:R2} (ho:OpR X (compareOp op) r) (ha:PE X a ta) (hb:PE X b tb) (hm:behindInMarks op b=false):PE X (.Compare a [op] [b] pos) (tOp r ta tb):=by
 intro pins s σ H Q I h;exact wpAny_Compare1 (binT ha hb I h fun v u s2 x y H2 I2 rx ry q=>ho pins s2 σ H2 x y v u Q I2 rx ry q) hm
def B5g (t:TE):TT:=fun σ H Q=>t σ H fun x H'=>∃ k,x=.bl k/\Q k H'
theorem A8l {op:CmpOp} {r:R2} (ho:OpR X (compareOp op) r) (ha:PE X a ta) (hb:PE X b tb) (hm:behindInMarks op b=false):PT X (.Compare a [op] [b] pos) (B5g (tOp r ta tb)):=by
 intro pins s σ H Q I h;refine wpAny_isTrue_Compare1 (thn (ha pins s σ H _ I h) fun v s1 ⟨x,H1,I1,r1,q1⟩=>thn (hb pins s1 σ H1 _ I1 q1) fun u s2 ⟨y,H2,I2,r2,q2⟩ =>
  thn (ho pins s2 σ H2 x y v u _ I2 r1 r2 q2) fun c s3 ⟨z,H3,I3,r3,k,e,q3⟩=>?_) hm
 subst e;cases r3;exact wpAny_truthy_bool ⟨H3,I3,q3⟩
def A75 (r r':R2) (ta tb tc:TE):TE:=fun σ H Q=>ta σ H fun x H1=>tb σ H1 fun y H2=>r x y H2 fun z H3=>∃ k,z=.bl k /\
 (if k=true then tc σ H3 fun w' H4=>r' y w' H4 Q else Q (.bl false) H3)
theorem B2g {op op':CmpOp} {r r':R2} (ho:OpR X (compareOp op) r) (ho':OpR X (compareOp op') r') (ha:PE X a ta) (hb:PE X b tb) (hc:PE X c tc)
  (hm:lastMarks [op,op'] [b,c]=false:=by with_unfolding_all rfl):PE X (.Compare a [op,op'] [b,c] pos) (A75 r r' ta tb tc):=by
 intro pins s σ H Q I h;refine Compare_chain (thn (ha pins s σ H _ I h) fun v s1 ⟨x,H1,I1,r1,q1⟩=>chain_link (thn (hb pins s1 σ H1 _ I1 q1) fun u s2 ⟨y,H2,I2,r2,q2⟩ =>
  thn (ho pins s2 σ H2 x y v u _ I2 r1 r2 q2) fun d s3 ⟨z,H3,I3,r3,k,e,q3⟩=>?_)) hm
 subst e;cases r3;refine wpAny_truthy_bool ?_;cases k with
 | false=>exact ite_ff ⟨.bl false,H3,I3,rfl,q3⟩
 | true=>exact ite_tt (chain_last (thn (hc pins s3 σ H3 _ I3 q3) fun w' s4 ⟨z',H4,I4,r4,q4⟩=>ho' pins s4 σ H4 y z' u w' Q I4 r2 r4 q4))
theorem A1d:(sizeLine:Nat) < 2 ^ 63:=by rw [sizeLine_eq]; decide
theorem A6v {x:V} {us:List Value} (r:Vals [x] us):∃ u,us=[u]/\RelV x u:=by
 cases r with
 | cons r1 r2=>cases r2; exact ⟨_,rfl,r1⟩
theorem B9p {x y:V} {us:List Value} (r:Vals [x,y] us):∃ u w',us=[u,w']/\RelV x u/\RelV y w':=by
 cases r with
 | cons r1 r2 =>
  cases r2 with
  | cons r3 r4=>cases r4; exact ⟨_,_,rfl,r1,r3⟩
theorem B3g:CallR X (.builtin "abs") (fun xs H Q=>∃ i,xs=[.int i]/\Q (.int (if i < 0 then -i else i)) H):=by
 intro pins s σ H xs us Q I r h;obtain ⟨i,rfl,q⟩:=h;obtain ⟨u,rfl,t,rfl⟩:=A6v r;exact call_abs_int fun u tk=>⟨.int (if i < 0 then -i else i),H,I.tok _,⟨_,rfl⟩,q⟩
theorem B05 (hc:X.calm=true):CallR X (.builtin "max") (fun xs H Q=>∃ i j,xs=[.int i,.int j]/\Q (.int (if j > i then j else i)) H):=by
 intro pins s σ H xs us Q I r h;obtain ⟨i,j,rfl,q⟩:=h;obtain ⟨u,w',rfl,⟨t,rfl⟩,⟨t',rfl⟩⟩:=B9p r;refine max_two_ints (I.ok.hd hc) fun h' tk k=>⟨_,H,I.kept k,?_,q⟩;by_cases hj:j > i
 ·rw [if_pos hj,if_pos hj]; exact ⟨_,rfl⟩
 ·rw [if_neg hj,if_neg hj]; exact ⟨_,rfl⟩
theorem B03 (hc:X.calm=true):CallR X (.builtin "min") (fun xs H Q=>∃ i j,xs=[.int i,.int j]/\Q (.int (if j < i then j else i)) H):=by
 intro pins s σ H xs us Q I r h;obtain ⟨i,j,rfl,q⟩:=h;obtain ⟨u,w',rfl,⟨t,rfl⟩,⟨t',rfl⟩⟩:=B9p r;refine min_two_ints (I.ok.hd hc) fun h' tk k=>⟨_,H,I.kept k,?_,q⟩;by_cases hj:j < i
 ·rw [if_pos hj,if_pos hj]; exact ⟨_,rfl⟩
 ·rw [if_neg hj,if_neg hj]; exact ⟨_,rfl⟩
theorem A3z:CallR X (.type "int") (fun xs H Q=>(∃ i,xs=[.int i]/\Q (.int i) H)\/∃ k,xs=[.bl k]/\Q (.int (if k then 1 else 0)) H):=by
 intro pins s σ H xs us Q I r h;rcases h with ⟨i,rfl,q⟩ | ⟨k,rfl,q⟩
 ·obtain ⟨u,rfl,t,rfl⟩:=A6v r;exact call_int_int ⟨.int i,H,I,⟨_,rfl⟩,q⟩
 ·obtain ⟨u,rfl,r1⟩:=A6v r;cases r1;exact call_int_bool ⟨.int (if k then 1 else 0),H,I.tok _,⟨_,rfl⟩,q⟩
end
end L2
namespace L2
open PySem PySem.Spec PyProof.Rows
section
variable {prog:Program} {w:World} {A:Around} {E:Value->Shared->Prop} {s:Shared} {K:PySem.W.Frag} {x dx C f:Addr} {mA:Str->Option Value} {name:Str} {v:Value}
end
theorem RelO.some_of {v:V} {o:Option Value} (r:RelO (some v) o):∃ u,o=some u/\RelV v u:=by
 cases o with
 | none=>exact (show False from r).elim
 | some u=>exact ⟨u,rfl,r⟩
theorem RelO.none_of {o:Option Value} (r:RelO none o):o=none:=by
 cases o with
 | none=>rfl
 | some u=>exact (show False from r).elim
section
variable {P:Program} {w:World} {H H':Hp} {h h':Heap} {a C dx:Addr} {fs fs':List (Str × V)}
end
structure Cls (K:PySem.W.Frag) (C:Addr):Prop where
 pg:PySem.W.plainGet K C Str.empty=true
 hd:PySem.W.hasDictIn K C=true
 po:PySem.W.plainOver K C=true
 sa:PySem.W.findIn K (.ref C) "__setattr__"=some (some (.builtin "object.__setattr__"))
theorem Cls.get {K:PySem.W.Frag} {C:Addr} (c:Cls K C) (f:Str):PySem.W.plainGet K C f=true:=c.pg
section
variable {X:Cx} {pins:List (Addr × Obj)} {σ:St} {H:Hp} {s:Shared} {a C dx:Addr} {fs:List (Str × V)} {f:Str} {v:V} {A:Around} {E:Value->Shared->Prop}
end
section
variable {X:Cx} {o e value:Expr} {f:Str} {pos pos' tpos:Pos} {ta tv:TE}
end
section
variable {X:Cx} {pins:List (Addr × Obj)} {σ:St} {H:Hp} {s:Shared} {A:Around} {E:Value->Shared->Prop} {Q:Value->Shared->Prop} {c:Value} {b:Bool}
end
end L2
namespace L2
open PySem PySem.Spec PyProof.Rows
structure Room (k:Nat) (A:Around):Prop where
 hd:A.handled=none
 gd:A.guards=some []
 dp:A.depth + 3 * k + 5 < recursionLimit
 un:A.units + 16 * k + 200 < cLine
theorem Room.mono {j k:Nat} {A:Around} (r:Room k A) (h:j<=k):Room j A:=⟨r.hd,r.gd,by have:=r.dp; omega,by have:=r.un; omega⟩
theorem Room.mo {j k:Nat} {A:Around} (r:Room k A) (h:j<=k:=by first | decide | omega):Room j A:=r.mono h
theorem Room.deeper {k:Nat} {A:Around} (r:Room (k + 1) A) (env:Env):Room k (A.deeper env) :=
 ⟨r.hd,r.gd,by have:=r.dp; show A.depth + 1 + 3 * k + 5 < _; omega,by have:=r.un; show A.units + 3 + 16 * k + 200 < _; omega⟩
theorem Room.depth {k:Nat} {A:Around} (r:Room k A):A.depth < recursionLimit:=by have:=r.dp; omega
theorem Room.units {k:Nat} {A:Around} (r:Room k A):A.units + 64 < cLine:=by have:=r.un; omega
def tNil:TA:=fun _ H Q=>Q [] H
def O1 (ta:TE) (tr:TA):TA:=fun σ H Q=>ta σ H fun x H1=>tr σ H1 fun xs H2=>Q (x :: xs) H2
section
variable {X:Cx} {e:Expr} {es:List Expr} {te:TE} {t:TA} {pos:Pos}
theorem A1b:PA X [] tNil:=fun _ _ _ _ H Q I h=>Calls.spliced_nil ⟨[],H,I,.nil,h⟩
theorem R8 (ha:PE X e te) (hr:PA X es t) (hs:starEach (e :: es) X.env=(false,eval e X.env) :: starEach es X.env:=by rfl):PA X (e :: es) (O1 te t):=by
 intro pos pins s σ H Q I h;rw [hs];show wpAny _ _ (spliced ((false,eval e X.env) :: backTo pos (starEach es X.env))) _ _ s;refine Calls.spliced_cons (thn (ha pins s σ H _ I h) fun u s1 ⟨x,H1,I1,r1,q1⟩=>?_);exact thn (hr pos pins s1 σ H1 _ I1 q1) fun us s2 ⟨xs,H2,I2,r2,q2⟩=>⟨x :: xs,H2,I2,.cons r1 r2,q2⟩
def tTup (t:TA):TE:=fun σ H Q=>t σ H fun xs H1=>xs.length<=sizeLine/\∀ p,H1 p=none->Q (.ref p) (upd H1 p (.tup xs))
def tLst (t:TA):TE:=fun σ H Q=>t σ H fun xs H1=>xs.length<=sizeLine/\∀ p,H1 p=none->Q (.ref p) (upd H1 p (.lst xs))
theorem C0q {x1} (h:PA X es t):PE X (.Tuple es x1 pos) (tTup t):=by
 intro pins s σ H Q I hq;refine wpAny_Tuple_spliced (thn (h pos pins s σ H _ I hq) fun us s1 ⟨xs,H1,I1,r,z,q⟩=>⟨by rw [<- r.length]; exact z,?_⟩);have hf:H1 s1.heap.objs.size=none:=I1.hok.fresh (Zv _);refine ⟨.ref s1.heap.objs.size,upd H1 s1.heap.objs.size (.tup xs),I1.laid (t':=s1.toks) (fun b u e=>Heap.get?_push_of_some _ e) (Zv _) ?_,rfl,q _ hf⟩;exact ⟨z,us,r,⟨_,Heap.get?_push_size _ rfl,rfl,_,rfl⟩⟩
theorem A85 (h:PA X es t):PE X (.List es pos) (tLst t):=by
 intro pins s σ H Q I hq;refine wpAny_List_spliced (thn (h pos pins s σ H _ I hq) fun us s1 ⟨xs,H1,I1,r,z,q⟩=>⟨by rw [<- r.length]; exact z,?_⟩);have hf:H1 s1.heap.objs.size=none:=I1.hok.fresh (Zv _);refine ⟨.ref s1.heap.objs.size,upd H1 s1.heap.objs.size (.lst xs),I1.laid (t':=s1.toks) (fun b u e=>Heap.get?_push_of_some _ e) (Zv _) ?_,rfl,q _ hf⟩;exact ⟨z,us,0,r,Heap.get?_push_size _ rfl⟩
end
abbrev Sp:=List V->Hp->VK->XK->Prop
abbrev CXT:=List Env->Hp->Shared->XK->Value->Shared->Prop
structure Env0 (P:Program) (w:World) (K:PySem.W.Frag) (mg:Str->Option Value) (base:Heap) (A:Around) (outer:List Env) (s:Shared) (H:Hp):Prop where
 frames:A.frames=some outer
 mod:Mod K mg base
 bs:∀ b o,base.get? b=some o->s.heap.get? b=some o/\H b=none
 bsz:base.objs.size<=s.heap.objs.size
 funs:s.heap.FunFrames base outer
 frf:∀ b ∈ frs outer,H b=none
 hok:HOk P w H s.heap
 bare:AllBare s.gens
def CE (outer:List Env) (P:Program) (w:World) (H:Hp) (s:Shared) (Q:VK) (u:Value) (s':Shared):Prop :=
 ∃ v H',s'.os=s.os/\AllBare s'.gens/\Un (frs outer) [] H H' s.heap s'.heap/\HOk P w H' s'.heap/\RelV v u/\Q v H'
def CR (CX:CXT) (outer:List Env) (P:Program) (w:World) (H:Hp) (s:Shared) (Q:VK) (E:XK) (r:Result) (s':Shared):Prop :=
 match r with
 | .ok (.ret u)=>CE outer P w H s Q u s'
 | .ok _=>False
 | .error e=>CX outer H s E e s'
structure FnOk (P:Program) (w:World) (K:PySem.W.Frag) (mg:Str->Option Value) (base:Heap) (CX:CXT) (k:Nat) (f:Addr) (fd:FuncData) (ps:List Str) (sp:Sp):Prop where
 len:∀ vs H Q E,sp vs H Q E->vs.length=ps.length
 run:∀ (A:Around) (outer:List Env) (s:Shared) (H:Hp) (args:Args) (us:List Value) (vs:List V) (Q:VK) (E:XK),Room k A->Env0 P w K mg base A outer s H->BindsTo s fd args (ps.zip us)->Vals vs us->sp vs H Q E ->
  codeAny (model P w) A (.call (.ref f) args) (CR CX outer P w H s Q E) s
theorem FnOk.imp {P:Program} {w:World} {K:PySem.W.Frag} {mg:Str->Option Value} {base:Heap} {CX:CXT} {k:Nat} {f:Addr} {fd:FuncData} {ps:List Str} {sp sp':Sp} (F:FnOk P w K mg base CX k f fd ps sp)
  (h:∀ vs H Q E,sp' vs H Q E->sp vs H Q E):FnOk P w K mg base CX k f fd ps sp' :=
 ⟨fun vs H Q E q=>F.len vs H Q E (h _ _ _ _ q),fun A outer s H args us vs Q E hr he hb hv hs=>F.run A outer s H args us vs Q E hr he hb hv (h _ _ _ _ hs)⟩
section
variable {X:Cx} {pins:List (Addr × Obj)} {σ:St} {H:Hp} {s s':Shared}
theorem Inv.env0 (I:Inv X pins σ H s):Env0 X.prog X.w X.K X.mg X.base X.A X.stack s H :=
 ⟨I.ok.frames,I.ok.mod,I.bs,Zx I.ok.bsz I.sz,I.stack,I.stkFree,I.hok,I.bare⟩
theorem Inv.after {Q:VK} {u:Value} (I:Inv X pins σ H s) (h:CE X.stack X.prog X.w H s Q u s'):EP X pins σ Q u s':=by
 obtain ⟨v,H',os,bare,un,hok,r,q⟩:=h;obtain ⟨hh,g,d,t,os'⟩:=s';obtain rfl:os'=s.os:=os;exact ⟨v,H',I.call (h':=hh) (g':=g) (d':=d) (t':=t) (ch:=[]) un hok bare (fun b z=>absurd z (by simp)),r,q⟩
end
def A4b (sp:Sp) (dvs:List V) (E:XK) (t:TA):TE:=fun σ H Q=>t σ H fun vs H1=>sp (vs++dvs) H1 Q E
def Binds (K:PySem.W.Frag) (fd:FuncData) (ps:List Str) (ds:List Value):Prop :=
 ∀ (s:Shared) (us:List Value),K.In s.heap->(us++ds).length=ps.length->BindsTo s fd ⟨us,[]⟩ (ps.zip (us++ds))
theorem Binds.all {K:PySem.W.Frag} {fd:FuncData} {ps:List Str} (h:∀ us:List Value,us.length=ps.length->bindArgs fd ⟨us,[]⟩=pure (ps.zip us)):Binds K fd ps []:=fun s us _ hl=>by
 rw [List.append_nil] at hl ⊢;exact .of_eq (h us hl)
def A6t (CX:CXT) (X:Cx) (E:XK):Prop:=∀ (pins:List (Addr × Obj)) (σ:St) (H:Hp) (s:Shared) (e:Value) (s':Shared),Inv X pins σ H s->CX X.stack H s E e s'->X.xe e s'
section
variable {X:Cx} {CX:CXT} {k:Nat} {f C:Addr} {fd:FuncData} {ps:List Str} {sp:Sp} {dvs:List V} {ds:List Value} {E:XK} {x m:Str} {p pos apos:Pos} {e o:Expr} {es:List Expr} {ta:TE} {t:TA}
theorem B94 {pins:List (Addr × Obj)} {σ:St} {H:Hp} {s:Shared} {Q:VK} {us:List Value} {vs:List V} (F:FnOk X.prog X.w X.K X.mg X.base CX k f fd ps sp) (hr:Room k X.A) (hb:Binds X.K fd ps ds) (hd:Vals dvs ds) (hx:A6t CX X E)
  (I:Inv X pins σ H s) (r:Vals vs us) (h:sp (vs++dvs) H Q E):wpAny (model X.prog X.w) X.A (call (.ref f) us) (EP X pins σ Q) X.xe s:=by
 have r2:Vals (vs++dvs) (us++ds):=r.append hd;have hl:(us++ds).length=ps.length:=by rw [<- r2.length]; exact F.len _ _ _ _ h
 refine wpAny_call (codeAny_mono (F.run X.A X.stack s H ⟨us,[]⟩ (us++ds) (vs++dvs) Q E hr I.env0 (hb s us I.kIn hl) r2 h) fun r s' hq=>?_);cases r with
 | error e=>exact hx pins σ H s e s' I hq
 | ok fl =>
  cases fl with
  | ret u=>exact I.after hq
  | next=>exact False.elim hq
  | brk=>exact False.elim hq
  | cont=>exact False.elim hq
theorem B6z (F:FnOk X.prog X.w X.K X.mg X.base CX k f fd ps sp) (hr:Room k X.A) (hg:Gl X x) (hm:X.mg x=some (.ref f)) (hk:PySem.W.keepIn X.K (.ref f)=true) (hb:Binds X.K fd ps ds) (hd:Vals dvs ds) (hx:A6t CX X E)
  (ha:PA X (e :: es) t) (hdb:(x == ("__debug__":Str))=false:=by decide) (he:starEach (e :: es) X.env=(false,eval e X.env) :: starEach es X.env:=by rfl) (hpl:(backTo pos (starEach es X.env)).any (·.1)=false:=by rfl) :
  PE X (.Call (.Name x p) (e :: es) [] pos) (A4b sp dvs E t):=by
 intro pins s σ H Q I h;refine wpAny_Call_Name_kw (A91 I hg hm ?_ hdb);refine PySem.W.callWith_K (h₀:=X.base) I.ok.mod.kin hk (thn (ha pos pins s σ H _ I h) fun us s1 ⟨vs,H1,I1,r,q⟩=>⟨I1.kIn,?_⟩) he hpl;exact B94 F hr hb hd hx I1 r q
end
section
variable {X:Cx} {CX:CXT} {k:Nat} {f C:Addr} {fd:FuncData} {ps ks:List Str} {sp:Sp} {E:XK} {x m:Str} {p pos apos kpos:Pos} {e o:Expr} {es:List Expr} {kws:List Keyword} {te ta:TE} {t tk:TA} {nm:Option Str}
variable {g:List Value->List Value->List Value} {gV:List V->List V->List V}
end
structure FnScope (N P:List Str) (sc:Scope):Prop where
 kind:sc.kind=.function
 co:sc.isCoroutine=false
 gen:sc.isGenerator=false
 nd:N.Nodup
 pre:N.take P.length=P
 par:∀ x ∈ P,sc.names.lookup x=some .local\/sc.names.lookup x=some .cell
 nofree:∀ y ∈ sc.names,y.2≠.free
theorem A33 {kindOf:Str->Option NameKind} {x:Str}:∀ {binds:List (Str × Value)} {m:Str->Option Value},(∀ v,(x,v) ∉ binds)->bindL kindOf binds m x=m x
 | [],_,_=>rfl
 | (n,v) :: r,m,h=>by
  unfold bindL;rw [A33 fun w hw=>h w (Zr _ hw)];split
  ·have:x≠n:=by rintro rfl; exact h v Zy
   simp [this]
  ·rfl
theorem A35 {kindOf:Str->Option NameKind} {x:Str}:∀ {binds:List (Str × Value)} {m:Str->Option Value},(∀ v,(x,v) ∉ binds)->bindC kindOf binds m x=m x
 | [],_,_=>rfl
 | (n,v) :: r,m,h=>by
  unfold bindC;rw [A35 fun w hw=>h w (Zr _ hw)];split
  ·rfl
  ·have:x≠n:=by rintro rfl; exact h v Zy
   simp [this]
theorem A34 {kindOf:Str->Option NameKind} {x:Str} {v:Value}:∀ {P:List Str} {vs:List Value} {i:Nat} {m:Str->Option Value},P.Nodup->P[i]?=some x->vs[i]?=some v->kindOf x=some .local ->
  bindL kindOf (P.zip vs) m x=some v
 | [],_,_,_,_,h,_,_=>by simp at h
 | _ :: _,[],_,_,_,_,h,_=>by simp at h
 | p :: P,w :: vs,0,m,nd,h1,h2,hk=>by
  simp at h1 h2; subst h1; subst h2;show bindL kindOf ((p,w) :: P.zip vs) m p=_;unfold bindL;rw [A33 fun v hv=>(List.nodup_cons.mp nd).1 (List.of_mem_zip hv).1,if_pos hk];simp
 | p :: P,w :: vs,i + 1,m,nd,h1,h2,hk=>by
  show bindL kindOf ((p,w) :: P.zip vs) m x=_;unfold bindL;exact A34 (i:=i) (List.nodup_cons.mp nd).2 (by simpa using h1) (by simpa using h2) hk
theorem A36 {kindOf:Str->Option NameKind} {x:Str} {v:Value}:∀ {P:List Str} {vs:List Value} {i:Nat} {m:Str->Option Value},P.Nodup->P[i]?=some x->vs[i]?=some v->kindOf x≠some .local ->
  bindC kindOf (P.zip vs) m x=some v
 | [],_,_,_,_,h,_,_=>by simp at h
 | _ :: _,[],_,_,_,_,h,_=>by simp at h
 | p :: P,w :: vs,0,m,nd,h1,h2,hk=>by
  simp at h1 h2; subst h1; subst h2;show bindC kindOf ((p,w) :: P.zip vs) m p=_;unfold bindC;rw [A35 fun v hv=>(List.nodup_cons.mp nd).1 (List.of_mem_zip hv).1,if_neg hk];simp
 | p :: P,w :: vs,i + 1,m,nd,h1,h2,hk=>by
  show bindC kindOf ((p,w) :: P.zip vs) m x=_;unfold bindC;exact A36 (i:=i) (List.nodup_cons.mp nd).2 (by simpa using h1) (by simpa using h2) hk
def start (N:List Str) (vs:List V):St:=vs.map some++List.replicate (N.length - vs.length) none
def cxOf (CX:CXT) (P:Program) (w:World) (K:PySem.W.Frag) (mg:Str->Option Value) (base:Heap) (N:List Str) (qual:Str) (scope:Scope) (f:Addr) (cd:Value) (A:Around) (outer:List Env) (s:Shared) (H:Hp) (E:XK):Cx where
 prog:=P
 w:=w
 K:=K
 mg:=mg
 base:=base
 A:=A.deeper (envOfC qual scope s.heap.objs.size f cd)
 N:=N
 s₀:=s
 H₀:=H
 env:=envOfC qual scope s.heap.objs.size f cd
 outer:=outer
 stack:=envOfC qual scope s.heap.objs.size f cd :: outer
 ex:=[]
 calm:=true
 fn:=fun _=>true
 pn:=[]
 xe:=fun e s'=>wpAny (model P w) (A.deeper (envOfC qual scope s.heap.objs.size f cd)) (leaving (envOfC qual scope s.heap.objs.size f cd) e) (fun _ s''=>CX outer H s E e s'') (fun e' s''=>CX outer H s E e' s'') s'
theorem A6q {sc:Scope} {n:Nat} {x:Str} (h:sc.names.lookup x=some .cell):∃ c,(cellsFrom n sc.names []).lookup x=some c:=by
 have q:=PySem.W.cellsFrom_some sc.names n [] (.inl h);exact Option.isSome_iff_exists.mp q
theorem B0f {CX:CXT} {P:Program} {w:World} {K:PySem.W.Frag} {mg:Str->Option Value} {base:Heap} {N ps:List Str} {qual:Str} {scope:Scope} {f:Addr} {cd:Value} {A:Around} {outer:List Env} {s s1:Shared} {H:Hp} {E:XK} {us:List Value} {vs:List V}
  (S:FnScope N ps scope) (hd:A.handled=none) (e0:Env0 P w K mg base A outer s H) (hl:vs.length=ps.length) (r:Vals vs us)
  (x:InCallC s s.heap.objs.size (bindL (envOfC qual scope s.heap.objs.size f cd).kindOf (ps.zip us) fun _=>none) (cellsFrom (s.heap.objs.size + 1) scope.names []) (bindC (envOfC qual scope s.heap.objs.size f cd).kindOf (ps.zip us) fun _=>none) s1) :
  Inv (cxOf CX P w K mg base N qual scope f cd A outer s H E) [] (start N vs) H s1:=by
 have hpl:ps.length<=N.length:=by have:=congrArg List.length S.pre; rw [List.length_take] at this; omega
 obtain ⟨h1,tk,rfl,hk⟩:=x.done;have noA:∀ b:Addr,b ∉ (cxOf CX P w K mg base N qual scope f cd A outer s H E).ex:=fun b z=>absurd (show b ∈ ([]:List Addr) from z) (by simp);refine ⟨⟨e0.mod,S.kind,rfl,rfl,Zv _,fun y z c h1 h2=>?_,fun y hy=>?_,fun y c _ h=>?_,fun _=>hd,Around.frames_deeper e0.frames,.inr ⟨rfl,rfl⟩,fun b z=>absurd z (noA b),e0.bs,e0.bsz,fun b _ _=>noA b,fun b z=>absurd z (noA b),e0.funs,e0.frf⟩,
  rfl,e0.bare,Un.kept hk,⟨_,x.toInCall.ns,fun i y v h1 h2 h3=>?_⟩,fun y c h=>⟨_,x.cell y c h⟩,e0.hok.fresh (Zv _),fun y c h=>?_,fun p hp=>absurd (show p ∈ ([]:List (Addr × Obj)) from hp) (by simp),e0.hok.kept hk,?_⟩
 ·exact name_of_addr x.apart (PySem.mem_of_lookup h1) (PySem.mem_of_lookup h2)
 ·have hy:scope.names.lookup y=some .cell\/scope.names.lookup y=some .free:=hy;rcases hy with hy | hy
  ·exact A6q hy
  ·exact absurd rfl (S.nofree _ (PySem.mem_of_lookup hy))
 ·exact Nat.le_of_lt (x.above y c (PySem.mem_of_lookup h))
 ·have hi:i < vs.length:=by
   unfold start at h2;by_cases hi:i < vs.length
   ·exact hi
   ·rw [List.getElem?_append_right (by simpa using hi)] at h2;rw [List.getElem?_replicate] at h2;split at h2 <;> cases h2
  have ha:vs[i]?=some v:=by
   unfold start at h2;rw [List.getElem?_append_left (by simpa using hi),Zh] at h2;cases e:vs[i]? with
   | none=>rw [e] at h2; cases h2
   | some a=>rw [e] at h2; cases h2; rfl
  obtain ⟨u,hu,rv⟩:=r.get ha;have hp:ps[i]?=some y:=by
   rw [<- S.pre,List.getElem?_take_of_lt (by omega)]; exact h1
  have ndP:ps.Nodup:=by rw [<- S.pre]; exact S.nd.sublist (List.take_sublist _ _)
  refine ⟨u,rv,?_⟩;rcases S.par y (Zm hp) with k | k
  ·exact .inl ⟨k,A34 ndP hp hu k⟩
  ·obtain ⟨c,e⟩:=A6q (n:=s.heap.objs.size + 1) k;refine .inr ⟨.inl k,c,e,?_⟩;have q:=x.cell y c e;rw [A36 ndP hp hu (by show scope.names.lookup y≠_; rw [k]; decide)] at q;exact q
 ·exact e0.hok.fresh (Nat.le_of_lt (x.above y c (PySem.mem_of_lookup h)))
 ·unfold start;show _=N.length;rw [Ze,Zl,List.length_replicate];omega
theorem C4d {CX:CXT} {P:Program} {w:World} {K:PySem.W.Frag} {mg:Str->Option Value} {base:Heap} {k:Nat} {f:Addr} {name qual:Str} {params:Arguments} {body:List Stmt} {scope:Scope} {dV kV doc pm cdv ct oc:Value} {an od:Option Addr}
  {osl:Array (Option Value)} {N ps:List Str} {sp:Sp} (lk:K.lookup f=some ⟨oc,od,.func (PySem.W.fnOf name qual params body scope dV kV doc pm an cdv ct),osl⟩) (hcd:PySem.W.codeIn K cdv qual=true) (S:FnScope N ps scope)
  (len:∀ vs H Q E,sp vs H Q E->vs.length=ps.length)
  (hbody:∀ (A:Around) (outer:List Env) (s:Shared) (H:Hp) (vs:List V) (Q:VK) (E:XK),Room k (A.deeper (envOfC qual scope s.heap.objs.size f cdv))->sp vs H Q E ->
   ∃ t,PSs (cxOf CX P w K mg base N qual scope f cdv A outer s H E) body t/\t { nx:=fun _ H'=>Q .non H',rt:=Q } (start N vs) H) :
  FnOk P w K mg base CX (k + 1) f (PySem.W.fnOf name qual params body scope dV kV doc pm an cdv ct) ps sp:=by
 refine ⟨len,fun A outer s H args us vs Q E hr e0 hb r hsp=>?_⟩;have hl:=len _ _ _ _ hsp;have KX:K.In s.heap:=e0.mod.kin.keeps fun b o e=>(e0.bs b o e).1;have lim:s.heap.NoLimit:=e0.mod.nolimit.keeps fun b o e=>(e0.bs b o e).1;have hkind:∀ y ∈ ps.zip us,scope.names.lookup y.1=some .local\/(scope.names.lookup y.1=some .cell/\((cellsFrom (s.heap.objs.size + 1) scope.names []).lookup y.1).isSome=true):=fun ⟨n,v⟩ hy=>by
  rcases S.par n (List.of_mem_zip hy).1 with q | q
  ·exact .inl q
  ·exact .inr ⟨q,PySem.W.cellsFrom_some _ _ _ (.inl q)⟩
 refine codeAny_call_function hr.depth (KX _ _ lk) rfl S.co S.gen rfl (PySem.W.codeRec_of KX hcd) (hb _ _ _ _ ?_);refine wpAny_newFunctionEnv_cells S.kind hkind fun env he s1 x=>?_;subst he;refine ⟨lim.keeps x.toInCall.keep,codeAny_func ?_⟩;obtain ⟨t,ht,hq⟩:=hbody A outer s H vs Q E (hr.deeper _) hsp;have I:Inv (cxOf CX P w K mg base N qual scope f cdv A outer s H E) [] (start N vs) H s1:=B0f S hr.hd e0 hl r x;refine wpAny_mono (ht [] s1 (start N vs) H _ I hq) (fun fl s' hs=>?_) fun e s' hs=>hs;have fin:∀ {σ':St} {H':Hp} {v:V} {u:Value},Inv (cxOf CX P w K mg base N qual scope f cdv A outer s H E) [] σ' H' s'->RelV v u->Q v H'->CE outer P w H s Q u s' :=
  fun {σ' H' v u} J rv q=>⟨v,H',J.os,J.bare,J.base,J.hok,rv,q⟩
 cases fl with
 | ret u =>
  obtain ⟨v,σ',H',J,rv,q⟩:=hs;exact fin J rv q
 | next =>
  obtain ⟨σ',H',J,q⟩:=hs;exact fin (v:=V.non) (u:=Value.none) J rfl q
 | brk =>
  obtain ⟨_,_,_,q⟩:=hs;exact False.elim q
 | cont =>
  obtain ⟨_,_,_,q⟩:=hs;exact False.elim q
end L2
namespace L2
open PySem PySem.Spec PyProof.Rows
section
variable {X:Cx} {x:Str} {p pos:Pos} {e:Expr} {es:List Expr} {t:TA} {id T:String} {r:List V->Hp->VK->Prop}
def tCB (r:List V->Hp->VK->Prop) (t:TA):TE:=fun σ H Q=>t σ H fun vs H1=>r vs H1 Q
theorem A51 (hc:CallR X (.builtin id) r) (hg:Gl X x) (hm:X.mg x=none) (hv:bootBuiltins x=some (.builtin id)) (ha:PA X (e :: es) t) (hn:x≠"__name__":=by decide) (hdb:(x == ("__debug__":Str))=false:=by decide)
  (he:starEach (e :: es) X.env=(false,eval e X.env) :: starEach es X.env:=by rfl) (hpl:(backTo pos (starEach es X.env)).any (·.1)=false:=by rfl):PE X (.Call (.Name x p) (e :: es) [] pos) (tCB r t):=by
 intro pins s σ H Q I h;refine wpAny_Call_Name_kw (A0f I hg hm hv ?_ hn hdb);exact PyProof.Rows.callWith_builtin1 (thn (ha pos pins s σ H _ I h) fun us s1 ⟨vs,H1,I1,r1,q1⟩=>hc pins s1 σ H1 vs us Q I1 r1 q1) he hpl
theorem A3b (hc:CallR X (.type T) r) (hg:Gl X x) (hm:X.mg x=none) (hv:bootBuiltins x=some (.type T)) (ha:PA X (e :: es) t) (hn:x≠"__name__":=by decide) (hdb:(x == ("__debug__":Str))=false:=by decide)
  (he:starEach (e :: es) X.env=(false,eval e X.env) :: starEach es X.env:=by rfl) (hpl:(backTo pos (starEach es X.env)).any (·.1)=false:=by rfl):PE X (.Call (.Name x p) (e :: es) [] pos) (tCB r t):=by
 intro pins s σ H Q I h;refine wpAny_Call_Name_kw (A0f I hg hm hv ?_ hn hdb);exact PyProof.Rows.callWith_type1 (thn (ha pos pins s σ H _ I h) fun us s1 ⟨vs,H1,I1,r1,q1⟩=>hc pins s1 σ H1 vs us Q I1 r1 q1) he hpl
end
end L2
namespace HT
open PySem PyProof.Rows
section
open PySem.SeqAt
open PySem.AutoSeq1 (wpAny_loadPart')
open PySem.MeetsSeq PySem.MeetsSeq2 PySem.MeetsSeq3
end
section
variable {prog:Program} {w:World} {A:Around} {E:Value->Shared->Prop} {s:Shared}
def sIx (n d:Nat):Option Int->Nat
 | none=>d
 | some v=>if v < 0 then (v + (n:Int)).toNat else min v.toNat n
theorem sIx_none (n d:Nat):sIx n d none=d:=rfl
theorem sIx_nat (n d k:Nat):sIx n d (some (k:Int))=min k n:=by
 show (if (k:Int) < 0 then ((k:Int) + (n:Int)).toNat else min (k:Int).toNat n)=min k n;rw [if_neg (by omega),Int.toNat_natCast]
theorem B93 (n d:Nat) (hd:d<=n) (o:Option Int):sIx n d o<=n:=by
 cases o with
 | none=>exact hd
 | some v =>
  show (if v < 0 then (v + (n:Int)).toNat else min v.toNat n)<=n;by_cases hv:v < 0
  ·rw [if_pos hv]; omega
  ·rw [if_neg hv]; exact Nat.min_le_right _ _
theorem B00 (v:Int) (n d:Nat):(if v < 0 then max (v + (n:Int)) 0 else min v (n:Int))=((sIx n d (some v):Nat):Int):=by
 show (if v < 0 then max (v + (n:Int)) 0 else min v (n:Int))=(((if v < 0 then (v + (n:Int)).toNat else min v.toNat n):Nat):Int);by_cases hv:v < 0
 ·simp only [if_pos hv]; omega
 ·simp only [if_neg hv]; omega
theorem A7s (lo hi:Option Int) (n:Nat):Builtin.Slice.sliceAdjust lo hi 1 (n:Int)=(((sIx n 0 lo:Nat):Int),((sIx n n hi:Nat):Int)):=by
 have h1:¬ ((1:Int) < 0):=by omega
 unfold Builtin.Slice.sliceAdjust;simp only [h1,if_false];refine Prod.ext ?_ ?_
 ·cases lo with
  | none=>rfl
  | some v=>exact B00 v n 0
 ·cases hi with
  | none=>rfl
  | some v=>exact B00 v n n
theorem A7a (i j:Nat):Builtin.Slice.slicePlaces (i:Int) (j:Int) 1=j - i:=by
 unfold Builtin.Slice.slicePlaces;have h1:(1:Int) > 0:=by omega
 simp only [h1,if_true,Int.ediv_one];split <;> omega
theorem A06 {v:Value} {o:Option Int} {Q:Option Int->Shared->Prop} (p:IsPart v o) (h:Q o s):wpAny (model prog w) A (Builtin.Slice.slicePartIndex v) Q E s:=by
 cases p with
 | none=>exact slicePart_none h
 | int i t=>exact slicePart_int h
theorem W6 {sl:Addr} {vl vu:Value} {lo hi:Option Int} {n:Nat} {Q:Int × Int × Nat->Shared->Prop} (hs:s.heap.IsSliceOf sl vl vu .none) (pl:IsPart vl lo) (pu:IsPart vu hi)
  (h:Q (((sIx n 0 lo:Nat):Int),1,sIx n n hi - sIx n 0 lo) s):wpAny (model prog w) A (Builtin.Slice.sliceApplied (.ref sl) (pure (n:Int))) Q E s:=by
 obtain ⟨os,hos,hcs,hds⟩:=id hs;unfold Builtin.Slice.sliceApplied Builtin.Slice.sliceFields;refine wpAny_bind (wpAny_bind (wpAny_field hos hds (x:=vl) rfl (wpAny_bind (wpAny_field hos hds (x:=vu) rfl (wpAny_bind (wpAny_field hos hds (x:=.none) rfl (wpAny_pure ?_)))))));refine wpAny_bind (slicePart_none ?_);show wpAny _ _ (if ((1:Int) == 0)=true then _ else _) _ _ s;rw [if_neg (by decide)];refine wpAny_bind (A06 pl (wpAny_bind (A06 pu (wpAny_bind (wpAny_pure ?_)))));show wpAny _ _ (match Builtin.Slice.sliceAdjust lo hi 1 (n:Int) with | (lo,hi)=>pure (lo,(1:Int),Builtin.Slice.slicePlaces lo hi 1)) _ _ s;rw [A7s lo hi n];show wpAny _ _ (pure (((sIx n 0 lo:Nat):Int),(1:Int),Builtin.Slice.slicePlaces ((sIx n 0 lo:Nat):Int) ((sIx n n hi:Nat):Int) 1)) _ _ s;rw [A7a];exact wpAny_pure h
theorem B2a (xs:Array Value) (i k:Nat):((List.range k).filterMap fun (m:Nat)=>xs[((i:Int) + (m:Int) * 1).toNat]?).toArray=((xs.toList.drop i).take k).toArray:=by
 have e:(fun (m:Nat)=>xs[((i:Int) + (m:Int) * 1).toNat]?)=fun m=>xs[i + m]?:=by
  funext m
  have:((i:Int) + (m:Int) * 1).toNat=i + m:=by omega
  rw [this]
 rw [e];have:=pick_run xs i k;rw [List.filterMap_map] at this;have e2:((fun x=>xs[x]?) ∘ fun x=>i + x)=fun m=>xs[i + m]?:=rfl;rw [e2] at this;rw [this]
theorem getItem_tuple_cut {t sl:Addr} {items:Array Value} {vl vu:Value} {lo hi:Option Int} {Q:Value->Shared->Prop} (ht:IsTup s.heap t items) (hs:s.heap.IsSliceOf sl vl vu .none) (pl:IsPart vl lo) (pu:IsPart vu hi)
  (hw:¬ (sIx items.size 0 lo=0/\sIx items.size items.size hi=items.size))
  (h:Q (.ref s.heap.objs.size) { s with heap:=s.heap.push { cls:=.type "tuple",data:=.seq ((items.toList.drop (sIx items.size 0 lo)).take (sIx items.size items.size hi - sIx items.size 0 lo)).toArray } })
  (hsz:items.size<=sizeLine):wpAny (model prog w) A (getItem (.ref t) (.ref sl)) Q E s:=by
 have htake:sizeOk (.seq ((items.toList.drop (sIx items.size 0 lo)).take (sIx items.size items.size hi - sIx items.size 0 lo)).toArray):=by
  show ((items.toList.drop (sIx items.size 0 lo)).take (sIx items.size items.size hi - sIx items.size 0 lo)).toArray.size<=sizeLine;rw [List.size_toArray,List.length_take,List.length_drop,Array.length_toList];omega
 have hj:sIx items.size items.size hi<=items.size:=B93 _ _ (Zv _) hi;obtain ⟨os,hos,hcs,hds⟩:=id hs;have hTs:s.TypeIs (.ref sl) "slice":=⟨os,hos,hcs⟩;unfold getItem;try with_reducible refine wpAny_holding ?_
 first | refine wpAny_bind (wpAny_pure ?_) | skip
 refine wpAny_bind (wpAny_sequenceKey ht.typeIs (by decide) ?_);refine wpAny_bind (wpAny_callSpecial?_slot (name:=Str.ofString "__getitem__") ht.typeIs PyProof.Rows.slot_tuple_getitem
  (wpAny_call_entry PyProof.Rows.slot_tuple_getitem ht.typeIs entry_tuple_getitem ?_ (args_tuple_getitem _ _)))
 show wpAny _ _ (Builtin.Tuple.tupleItemsOf (.ref t) >>= _) _ _ s;refine wpAny_bind (tupleItemsOf_ ht ?_);refine wpAny_bind (wpAny_typeOf hTs ?_);rw [if_pos (by decide)];refine wpAny_bind (W6 hs pl pu ?_);have hno:¬ ((((sIx items.size 0 lo:Nat):Int) == 0 && (1:Int) == 1 && (sIx items.size items.size hi - sIx items.size 0 lo) == items.size)=true):=by
  intro q;rw [Bool.and_eq_true,Bool.and_eq_true] at q;have q1:((sIx items.size 0 lo:Nat):Int)=0:=eq_of_beq q.1.1;have q2:sIx items.size items.size hi - sIx items.size 0 lo=items.size:=eq_of_beq q.2;exact hw ⟨by omega,by omega⟩
 show wpAny _ _ (if (((sIx items.size 0 lo:Nat):Int) == 0 && (1:Int) == 1 && (sIx items.size items.size hi - sIx items.size 0 lo) == items.size)=true then _ else _) _ _ s;rw [if_neg hno,B2a];first
  | exact wpAny_bind (m:=Builtin.Tuple.tupleExact _) (wpAny_newObj_type (wpAny_pure ⟨_,rfl,wpAny_pure h⟩) htake)
  | exact wpAny_bind (m:=Builtin.Tuple.tupleExact _) (wpAny_newObj_type (wpAny_bind (wpAny_pure (wpAny_pure ⟨_,rfl,wpAny_pure h⟩))) htake)
  | exact wpAny_bind (wpAny_bind (m:=Builtin.Tuple.tupleExact _) (wpAny_newObj_type (wpAny_pure (wpAny_pure ⟨_,rfl,wpAny_pure h⟩)) htake))
  | exact wpAny_bind (wpAny_bind (m:=Builtin.Tuple.tupleExact _) (wpAny_newObj_type (wpAny_pure ⟨_,rfl,wpAny_pure h⟩) htake))
end
end HT
namespace L2
open PySem PySem.Spec PyProof.Rows
abbrev TO:=St->Hp->(Option Int->Hp->Prop)->Prop
def PO (X:Cx) (e:Option Expr) (t:TO):Prop :=
 ∀ (pins:List (Addr × Obj)) (s:Shared) (σ:St) (H:Hp) (Q:Option Int->Hp->Prop),Inv X pins σ H s->t σ H Q ->
  wpAny (model X.prog X.w) X.A (evalPart e X.env) (fun u s'=>∃ o H',Inv X pins σ H' s'/\IsPart u o/\Q o H') X.xe s
def A4a:TO:=fun _ H Q=>Q none H
def B5h (t:TE):TO:=fun σ H Q=>t σ H fun x H1=>∃ i,x=.int i/\Q (some i) H1
section
variable {X:Cx} {e:Expr} {te:TE} {lo hi:Option Expr} {tl th:TO} {pos p2:Pos}
theorem B6p:PO X none A4a:=by
 intro pins s σ H Q I h;rw [evalPart_none];exact wpAny_pure ⟨none,H,I,.none,h⟩
theorem B6o (h:PE X e te):PO X (some e) (B5h te):=by
 intro pins s σ H Q I hw;rw [evalPart_some];refine thn (h pins s σ H _ I hw) fun u s1 ⟨x,H1,I1,r1,q1⟩=>?_;obtain ⟨i,rfl,q⟩:=q1;obtain ⟨t,rfl⟩:=r1;exact ⟨some i,H1,I1,.int i t,q⟩
def SlR (X:Cx) (r:V->Option Int->Option Int->Hp->VK->Prop):Prop :=
 ∀ (pins:List (Addr × Obj)) (s:Shared) (σ:St) (H:Hp) (x:V) (v vl vu:Value) (lo hi:Option Int) (sl:Addr) (Q:VK),Inv X pins σ H s->RelV x v->s.heap.IsSliceOf sl vl vu .none->IsPart vl lo->IsPart vu hi->r x lo hi H Q ->
  ∃ T id,typeLookup (.type T) "__getitem__"=pure (some (.builtin id))/\s.TypeIs v T/\wpAny (model X.prog X.w) X.A (getItem v (.ref sl)) (EP X pins σ Q) X.xe s
theorem SlR.or {r r':V->Option Int->Option Int->Hp->VK->Prop} (h:SlR X r) (h':SlR X r'):SlR X (fun x lo hi H Q=>r x lo hi H Q\/r' x lo hi H Q):=by
 intro pins s σ H x v vl vu lo hi sl Q I rx hs pl pu q;rcases q with q | q
 ·exact h pins s σ H x v vl vu lo hi sl Q I rx hs pl pu q
 ·exact h' pins s σ H x v vl vu lo hi sl Q I rx hs pl pu q
def tSl (r:V->Option Int->Option Int->Hp->VK->Prop) (te:TE) (tl th:TO):TE:=fun σ H Q=>te σ H fun x H1=>tl σ H1 fun l H2=>th σ H2 fun u H3=>r x l u H3 Q
theorem B2d {r:V->Option Int->Option Int->Hp->VK->Prop} (hr:SlR X r) (he:PE X e te) (hl:PO X lo tl) (hu:PO X hi th):PE X (.Subscript e (.Slice lo hi none p2) pos) (tSl r te tl th):=by
 intro pins s σ H Q I h;refine Subscript_ (thn (he pins s σ H _ I h) fun v s1 ⟨x,H1,I1,r1,q1⟩=>?_);refine wpAny_Slice (thn (hl pins s1 σ H1 _ I1 q1) fun vl s2 ⟨l,H2,I2,pl,q2⟩=>thn (hu pins s2 σ H2 _ I2 q2) fun vu s3 ⟨u,H3,I3,pu,q3⟩=>?_);rw [evalPart_none];refine wpAny_pure ?_;have I4:Inv X pins σ H3 { s3 with heap:=s3.heap.push { cls:=.type "slice",data:=.fields #[vl,vu,.none] } }:=I3.kept (t':=s3.toks) fun b ob q=>Heap.get?_push_of_some _ q;obtain ⟨T,id,hT,ht,hg⟩:=hr pins { s3 with heap:=s3.heap.push { cls:=.type "slice",data:=.fields #[vl,vu,.none] } } σ H3 x v vl vu l u s3.heap.objs.size Q I4 r1 (Heap.IsSliceOf.new ..) pl pu q3;show wpAny (model X.prog X.w) X.A (subscriptTail e (.Slice lo hi none p2) v (.ref s3.heap.objs.size)) (EP X pins σ Q) X.xe { s3 with heap:=s3.heap.push { cls:=.type "slice",data:=.fields #[vl,vu,.none] } };exact tail_any (ops:=[.ref s3.heap.objs.size,v]) ht hT hg (by with_unfolding_all rfl)
def cutV (xs:List V) (lo hi:Option Int):List V:=(xs.drop (HT.sIx xs.length 0 lo)).take (HT.sIx xs.length xs.length hi - HT.sIx xs.length 0 lo)
theorem A0i (xs:List V) (lo hi:Option Int):(cutV xs lo hi).length<=xs.length:=by
 unfold cutV;rw [List.length_take,List.length_drop];omega
def rSlT (K:PySem.W.Frag):V->Option Int->Option Int->Hp->VK->Prop:=fun x lo hi H Q=>∃ a xs,x=.ref a/\SqT K H a xs /\
 ¬ (HT.sIx xs.length 0 lo=0/\HT.sIx xs.length xs.length hi=xs.length)/\∀ p,H p=none->Q (.ref p) (upd H p (.tup (cutV xs lo hi)))
theorem B9y:SlR X (rSlT X.K):=by
 intro pins s σ H x v vl vu lo hi sl Q I rx hs pl pu h;obtain ⟨a,xs,rfl,hx,hw,q⟩:=h;cases rx;obtain ⟨its,r,ht,hz⟩:=I.tuple hx;have hlen:its.toArray.size=xs.length:=by rw [List.size_toArray]; exact r.length.symm
 refine ⟨"tuple",_,PyProof.Rows.slot_tuple_getitem.lookup,ht.typeIs,?_⟩;refine HT.getItem_tuple_cut ht hs pl pu (by rw [hlen]; exact hw) ?_ (by rw [hlen]; exact hz);rw [hlen];refine ⟨.ref s.heap.objs.size,_,I.laid (t':=s.toks) (o:=.tup (cutV xs lo hi)) (fun b ob q=>Heap.get?_push_of_some _ q) (Zv _) ?_,rfl,q _ (I.hok.fresh (Zv _))⟩;exact ⟨Zx (A0i xs lo hi) hz,_,(r.drop (HT.sIx xs.length 0 lo)).take (HT.sIx xs.length xs.length hi - HT.sIx xs.length 0 lo),IsTup.new _ _⟩
theorem Vals.nil_iff {xs:List V} {us:List Value} (r:Vals xs us):us=[] ↔ xs=[]:=by
 cases r with
 | nil=>simp
 | cons _ _=>simp
end
end L2
namespace L2
open PySem PySem.Spec PyProof.Rows
def ixN (n:Nat) (i:Int):Option Nat:=if 0<=i then (if i < n then some i.toNat else none) else if -(n:Int)<=i then some (i + n).toNat else none
def atI {α:Type} (xs:List α) (i:Int):Option α:=(ixN xs.length i).bind fun j=>xs[j]?
theorem B0c {n:Nat} {i:Int} {j:Nat} (h:ixN n i=some j):seqIndex? i n=some j/\j < n/\-(n:Int)<=i/\i < n:=by
 unfold ixN at h;by_cases h0:0<=i
 ·rw [if_pos h0] at h;by_cases h1:i < n
  ·rw [if_pos h1] at h;have e:i.toNat=j:=Zj h;exact ⟨by rw [seqIndex_of h0 h1,e],by omega,by omega,h1⟩
  ·rw [if_neg h1] at h; cases h
 ·rw [if_neg h0] at h;by_cases h1:-(n:Int)<=i
  ·rw [if_pos h1] at h;have e:(i + n).toNat=j:=Zj h;exact ⟨by rw [seqIndex_neg (by omega) h1,e],by omega,h1,by omega⟩
  ·rw [if_neg h1] at h; cases h
theorem A5b {α:Type} {xs:List α} {i:Int} {v:α} (h:atI xs i=some v):∃ j,seqIndex? i xs.length=some j/\xs[j]?=some v/\j < xs.length/\-(xs.length:Int)<=i/\i < xs.length:=by
 unfold atI at h;cases e:ixN xs.length i with
 | none=>rw [e] at h; cases h
 | some j =>
  rw [e] at h;obtain ⟨h1,h2,h3,h4⟩:=B0c e;exact ⟨j,h1,h,h2,h3,h4⟩
theorem M0 {α:Type} {xs:List α} {j:Nat} {v:α} (h:xs[j]?=some v):atI xs (j:Int)=some v:=by
 have hj:j < xs.length:=(Zs h).1;have e:ixN xs.length (j:Int)=some j:=by
  unfold ixN;rw [if_pos (by omega),if_pos (by omega)]; simp
 unfold atI; rw [e]; exact h
def A5d (b:Expr):Prop:=∀ o i,subscripted b false o i=operate [o,i] (getItem o i)
def IxR (X:Cx) (r:R2):Prop :=
 ∀ (value slice:Expr) (pins:List (Addr × Obj)) (s:Shared) (σ:St) (H:Hp) (x y:V) (v u:Value) (Q:VK),Inv X pins σ H s->RelV x v->RelV y u->r x y H Q ->
  subscripted slice false v u=operate [v,u] (getItem v u)->wpAny (model X.prog X.w) X.A (subscriptTail value slice v u) (EP X pins σ Q) X.xe s
def MtR (X:Cx) (id:String) (r:V->List V->Hp->VK->Prop):Prop :=
 ∀ (pins:List (Addr × Obj)) (s:Shared) (σ:St) (H:Hp) (x:V) (xs:List V) (v:Value) (us:List Value) (Q:VK),Inv X pins σ H s->RelV x v->Vals xs us->r x xs H Q ->
  wpAny (model X.prog X.w) X.A (call (.builtin id) (v :: us)) (EP X pins σ Q) X.xe s
section
variable {X:Cx} {a b:Expr} {ta tb:TE} {pos:Pos}
theorem IxR.or {r r':R2} (h:IxR X r) (h':IxR X r'):IxR X (fun x y H Q=>r x y H Q\/r' x y H Q):=by
 intro value slice pins s σ H x y v u Q I rx ry q hs;rcases q with q | q
 ·exact h value slice pins s σ H x y v u Q I rx ry q hs
 ·exact h' value slice pins s σ H x y v u Q I rx ry q hs
theorem A12 {r:R2} (hr:IxR X r) (ha:PE X a ta) (hb:PE X b tb) (hs:A5d b):PE X (.Subscript a b pos) (tOp r ta tb):=by
 intro pins s σ H Q I h;exact Subscript_ (binT ha hb I h fun v u s2 x y H2 I2 rx ry q=>hr a b pins s2 σ H2 x y v u Q I2 rx ry q (hs _ _))
def rIxL (K:PySem.W.Frag):R2:=fun x y H Q=>∃ p xs i v,x=.ref p/\y=.int i/\SqL K H p xs/\atI xs i=some v/\Q v H
def rIxT (K:PySem.W.Frag):R2:=fun x y H Q=>∃ p xs i v,x=.ref p/\y=.int i/\SqT K H p xs/\atI xs i=some v/\Q v H
def rIxS:R2:=fun x y H Q=>∃ z i c,x=.str z/\y=.int i/\z.length<=sizeLine/\atI z.cps.toList i=some c/\Q (.str ⟨#[c]⟩) H
theorem ix_list:IxR X (rIxL X.K):=by
 intro value slice pins s σ H x y v u Q I rx ry h hs;obtain ⟨p,xs,i,z,rfl,rfl,hq,he,q⟩:=h;cases rx;obtain ⟨t,rfl⟩:=ry;obtain ⟨its,r,pl,hz⟩:=I.list hq;obtain ⟨j,h1,h2,h3,h4,h5⟩:=A5b he;obtain ⟨w,ew,rw'⟩:=r.get h2;have hl:=r.length;have hn:=A1d;have fin:EP X pins σ Q w s:=⟨z,H,I,rw',q⟩;by_cases h0:0<=i
 ·have hj:i.toNat=j:=by
   rw [seqIndex_of h0 h5] at h1;exact Zj h1
  exact item_listR pl.isList h0 (by omega) (by rw [hj]; simpa using ew) fin hs
 ·have hj:(i + (its.toArray.size:Int)).toNat=j:=by
   rw [seqIndex_neg (by omega) h4] at h1;rw [List.size_toArray,<- hl];exact Zj h1
  exact subscriptTail_builtinR (x:=w) pl.isList.typeIs slot_list_getitem.lookup
   (wpAny_getItem_list_neg (Q:=fun r s'=>r=w/\EP X pins σ Q r s') pl.isList (by omega) (by rw [List.size_toArray] <;> omega) (by omega) (by rw [hj]; simpa using ew) ⟨rfl,fin⟩) hs
theorem ix_tup:IxR X (rIxT X.K):=by
 intro value slice pins s σ H x y v u Q I rx ry h hs;obtain ⟨p,xs,i,z,rfl,rfl,hq,he,q⟩:=h;cases rx;obtain ⟨t,rfl⟩:=ry;obtain ⟨its,r,pl,hz⟩:=I.tuple hq;obtain ⟨j,h1,h2,h3,h4,h5⟩:=A5b he;obtain ⟨w,ew,rw'⟩:=r.get h2;have hl:=r.length;have hn:=A1d;have fin:EP X pins σ Q w s:=⟨z,H,I,rw',q⟩;exact subscriptTail_builtinR (x:=w) pl.typeIs slot_tuple_getitem.lookup
  (getItem_tuple (j:=j) (Q:=fun r s'=>r=w/\EP X pins σ Q r s') pl (by omega) (by omega) (by rw [List.size_toArray,<- hl]; exact h1) (by simpa using ew) ⟨rfl,fin⟩) hs
theorem C25:IxR X rIxS:=by
 intro value slice pins s σ H x y v u Q I rx ry h hs;obtain ⟨z,i,c,rfl,rfl,hz,he,q⟩:=h;obtain ⟨t,rfl⟩:=rx;obtain ⟨t',rfl⟩:=ry;obtain ⟨j,h1,h2,h3,h4,h5⟩:=A5b he;have hl:z.cps.toList.length=z.length:=by simp [Str.length]
 rw [hl] at h1 h4 h5;have hn:=A1d;exact tail_any (typeIs_str s z t) slot_str_getitem.lookup (getItem_str (c:=c) (by
  have e1:decide (i < -(2 ^ 63:Int))=false:=Zd (by omega);have e2:decide (i ≥ 2 ^ 63)=false:=Zd (by omega);rw [e1,e2,Bool.or_false]) (by rw [h1]; simpa using h2) ⟨.str ⟨#[c]⟩,H,I.tok _,⟨_,rfl⟩,q⟩) hs
def rIx (K:PySem.W.Frag):R2:=fun x y H Q=>rIxL K x y H Q\/rIxT K x y H Q\/rIxS x y H Q
theorem C26:IxR X (rIx X.K):=ix_list.or (ix_tup.or C25)
theorem A7k (its:List Value) (n j:Nat) (u:Value):Obj.mapSeq (·.setIfInBounds j u) { cls:=.type "list",data:=.seq its.toArray n }={ cls:=.type "list",data:=.seq (its.set j u).toArray n }:=by
 simp [Obj.mapSeq]
theorem Inv.lst {pins:List (Addr × Obj)} {σ:St} {H:Hp} {s:Shared} {p:Addr} {xs:List V} (I:Inv X pins σ H s) (h:H p=some (.lst xs)) :
  ∃ (its:List Value) (n:Nat),Vals xs its/\s.heap.get? p=some { cls:=.type "list",data:=.seq its.toArray n }/\xs.length<=sizeLine:=by
 obtain ⟨z,its,n,r,e⟩:=I.hok p _ h;exact ⟨its,n,r,e,z⟩
theorem Inv.lstUpd {pins:List (Addr × Obj)} {σ:St} {H:Hp} {s:Shared} {p:Addr} {xs ys:List V} {its its':List Value} {n n':Nat} {f:Obj->Obj} (I:Inv X pins σ H s) (h:H p=some (.lst xs))
  (ho:s.heap.get? p=some { cls:=.type "list",data:=.seq its.toArray n }) (hf:f { cls:=.type "list",data:=.seq its.toArray n }={ cls:=.type "list",data:=.seq its'.toArray n' }) (r:Vals ys its') (hz:ys.length<=sizeLine) (t:Nat) :
  Inv X pins σ (upd H p (.lst ys)) { s with heap:=s.heap.update p f,toks:=t }:=by
 have e:(s.heap.update p f).get? p=some { cls:=.type "list",data:=.seq its'.toArray n' }:=by
  rw [Heap.get?_update_self f ho (by rw [hf] <;> rfl),hf]
 refine I.write (x:=p) (e:=p) (by rw [h]; trivial) (.inl rfl) (fun b u hb q=>(Heap.get?_update_other _ _ (Ne.symm hb)).trans q) ⟨_,e⟩ ?_;exact ⟨hz,its',n',r,e⟩
def B58:V->V->V->Hp->(Hp->Prop)->Prop:=fun o i v H Q=>∃ p xs k j,o=.ref p/\i=.int k/\H p=some (.lst xs)/\ixN xs.length k=some j/\Q (upd H p (.lst (xs.set j v)))
theorem E8:PSet X B58:=by
 intro pins s σ H o i v ov iv u Q I ro ri rv h;obtain ⟨p,xs,k,j,rfl,rfl,hp,hj,q⟩:=h;cases ro;obtain ⟨t,rfl⟩:=ri;obtain ⟨its,n,r,ho,hz⟩:=I.lst hp;obtain ⟨h1,h2,h3,h4⟩:=B0c hj;have hl:=r.length;have hn:=A1d;have I':Inv X pins σ (upd H p (.lst (xs.set j v))) { s with heap:=s.heap.update p (Obj.mapSeq (·.setIfInBounds j u)) } :=
  I.lstUpd hp ho (A7k its n j u) (r.set rv j) (by rw [List.length_set]; exact hz) s.toks
 by_cases h0:0<=k
 ·have hk:k.toNat=j:=by
   rw [seqIndex_of h0 h4] at h1;exact Zj h1
  exact PySem.W.ki_setAt ho h0 (by omega) (by rw [List.size_toArray,<- hl]; exact h4) (by rw [hk]; exact ⟨_,I',q⟩)
 ·have hk:(k + (its.toArray.size:Int)).toNat=j:=by
   rw [seqIndex_neg (by omega) h3] at h1;rw [List.size_toArray,<- hl];exact Zj h1
  exact PySem.W.ki_setBack ho (by omega) (by rw [List.size_toArray,<- hl]; exact h3) (by omega) (by rw [hk]; exact ⟨_,I',q⟩)
theorem A2w (lo hi:Option Int) (n:Nat):(sliceBounds lo hi none n).1=((HT.sIx n 0 lo:Nat):Int)/\(sliceBounds lo hi none n).2.1=((HT.sIx n n hi:Nat):Int)/\(sliceBounds lo hi none n).2.2=1:=by
 refine ⟨?_,?_,rfl⟩
 ·cases lo with
  | none=>simp [sliceBounds,HT.sIx]
  | some i =>
   simp only [sliceBounds,HT.sIx,Option.getD_none,show (1:Int) > 0 by decide,if_true];by_cases h:i < 0
   ·simp only [h,if_true] <;> omega
   ·simp only [h,if_false] <;> omega
 ·cases hi with
  | none=>simp [sliceBounds,HT.sIx]
  | some i =>
   simp only [sliceBounds,HT.sIx,Option.getD_none,show (1:Int) > 0 by decide,if_true];by_cases h:i < 0
   ·simp only [h,if_true] <;> omega
   ·simp only [h,if_false] <;> omega
theorem A1t (its:List Value) (lo hi:Option Int):slicePick its.toArray lo hi none=((its.drop (HT.sIx its.length 0 lo)).take (HT.sIx its.length its.length hi - HT.sIx its.length 0 lo)).toArray:=by
 obtain ⟨h1,h2,h3⟩:=A2w lo hi its.toArray.size;unfold slicePick;rw [h1,h2,h3];simp only [sliceRange_one,pick_run,List.size_toArray] <;> rfl
def rSlL (K:PySem.W.Frag):V->Option Int->Option Int->Hp->VK->Prop:=fun x lo hi H Q=>∃ a xs,x=.ref a/\SqL K H a xs/\∀ p,H p=none->Q (.ref p) (upd H p (.lst (cutV xs lo hi)))
theorem B5w:SlR X (rSlL X.K):=by
 intro pins s σ H x v vl vu lo hi sl Q I rx hs pl pu h;obtain ⟨a,xs,rfl,hx,q⟩:=h;cases rx;obtain ⟨its,r,ht,hz⟩:=I.list hx;have hlen:=r.length;refine ⟨"list",_,slot_list_getitem.lookup,ht.isList.typeIs,?_⟩;refine wpAny_getItem_list_slice ht.isList hs pl pu .none (by simp) ?_ (by rw [List.size_toArray] <;> omega)
 rw [A1t,<- hlen];refine ⟨.ref s.heap.objs.size,_,I.laid (t':=s.toks) (o:=.lst (cutV xs lo hi)) (fun b ob q=>Heap.get?_push_of_some _ q) (Zv _) ?_,rfl,q _ (I.hok.fresh (Zv _))⟩;exact ⟨Zx (A0i xs lo hi) hz,_,0,(r.drop (HT.sIx xs.length 0 lo)).take (HT.sIx xs.length xs.length hi - HT.sIx xs.length 0 lo),Heap.get?_push_size _ rfl⟩
theorem call_len_seq:CallR X (.builtin "len") (fun xs H Q=>∃ p ys,xs=[.ref p]/\(SqL X.K H p ys\/SqT X.K H p ys)/\Q (.int ys.length) H):=by
 intro pins s σ H xs us Q I r h;obtain ⟨p,ys,rfl,hq,q⟩:=h;obtain ⟨u,rfl,rx⟩:=A6v r;cases rx;have hn:=A1d;rcases hq with hq | hq
 ·obtain ⟨its,r',pl,hz⟩:=I.list hq;have hlen:=r'.length;exact Calls.call_len_list pl.isList (by simp only [List.size_toArray] <;> omega) ⟨.int ys.length,H,I.tok _,⟨s.toks + 1,by rw [List.size_toArray,hlen]⟩,q⟩
 ·obtain ⟨its,r',pl,hz⟩:=I.tuple hq;have hlen:=r'.length;exact len_tuple pl (by simp only [List.size_toArray] <;> omega) ⟨.int ys.length,H,I.tok _,⟨s.toks + 1,by rw [List.size_toArray,hlen]⟩,q⟩
theorem A3y:CallR X (.builtin "len") (fun xs H Q=>∃ z,xs=[.str z]/\z.length<=sizeLine/\Q (.int z.length) H):=by
 intro pins s σ H xs us Q I r h;obtain ⟨z,rfl,hz,q⟩:=h;obtain ⟨u,rfl,t,rfl⟩:=A6v r;have hn:=A1d;exact len_str (by omega) ⟨.int z.length,H,I.tok _,⟨_,rfl⟩,q⟩
theorem CallR.or {f:Value} {r r':List V->Hp->VK->Prop} (h:CallR X f r) (h':CallR X f r'):CallR X f (fun xs H Q=>r xs H Q\/r' xs H Q):=by
 intro pins s σ H xs us Q I rs q;rcases q with q | q
 ·exact h pins s σ H xs us Q I rs q
 ·exact h' pins s σ H xs us Q I rs q
theorem A3x:CallR X (.type "list") (fun xs H Q=>∃ p ys,xs=[.ref p]/\(SqL X.K H p ys\/SqT X.K H p ys)/\∀ l,H l=none->Q (.ref l) (upd H l (.lst ys))):=by
 intro pins s σ H xs us Q I r h;obtain ⟨p,ys,rfl,hq,q⟩:=h;obtain ⟨u,rfl,rx⟩:=A6v r;cases rx;have fin:∀ (its:List Value),Vals ys its->ys.length<=sizeLine->∀ (h':Heap) (c':Nat),(∀ b o',s.heap.get? b=some o'->h'.get? b=some o') ->
   h'.get? s.heap.objs.size=some { cls:=.type "list",dict:=none,data:=.seq its.toArray c',slots:=#[] }->EP X pins σ Q (.ref s.heap.objs.size) { s with heap:=h' }:=fun its r' hz h' c' kp e =>
  ⟨.ref s.heap.objs.size,_,I.laid (t':=s.toks) kp (Zv _) (show ObjOk X.prog X.w _ h' _ (.lst ys) from ⟨hz,its,c',r',e⟩),rfl,q _ (I.hok.fresh (Zv _))⟩
 rcases hq with hq | hq
 ·obtain ⟨its,r',pl,hz⟩:=I.list hq;have hlen:=r'.length;obtain ⟨o,ho,hc,n,hd⟩:=pl.isList;exact call_list_seq p (.inl rfl) ho hc hd (fun h' c' kp e=>fin its r' hz h' c' kp e) (by simp only [List.size_toArray] <;> omega)
 ·obtain ⟨its,r',pl,hz⟩:=I.tuple hq;have hlen:=r'.length;obtain ⟨o,ho,hc,n,hd⟩:=pl;exact call_list_seq p (.inr rfl) ho hc hd (fun h' c' kp e=>fin its r' hz h' c' kp e) (by simp only [List.size_toArray] <;> omega)
def tyV (K:PySem.W.Frag) (T:String) (x:V) (H:Hp):Prop:=match x with
 | .str _=>T="str"
 | .int _=>T="int"
 | .ref p=>(T="list"/\∃ xs,SqL K H p xs)\/(T="tuple"/\∃ o,K.lookup p=some o/\o.cls=.type "tuple"/\o.dict=none) \/
   (T="dict"/\((∃ kvs,H p=some (.dK kvs))\/∃ kvs,H p=some (.dT kvs)))\/(T="set"/\∃ S n,H p=some (.set S n))
 | _=>False
theorem B9r {pins:List (Addr × Obj)} {σ:St} {H:Hp} {s:Shared} {T:String} {x:V} {v:Value} (I:Inv X pins σ H s) (r:RelV x v) (ty:tyV X.K T x H) :
  s.TypeIs v T/\∀ a,v=.ref a->∃ ob,s.heap.get? a=some ob/\ob.dict=none:=by
 cases x with
 | str z =>
  obtain ⟨t,rfl⟩:=r;cases (show T="str" from ty);exact ⟨typeIs_str s z t,fun _ e=>nomatch e⟩
 | int i =>
  obtain ⟨t,rfl⟩:=r;cases (show T="int" from ty);exact ⟨typeIs_int s i t,fun _ e=>nomatch e⟩
 | ref p =>
  cases r;rcases ty with ⟨rfl,xs,hq⟩ | ⟨rfl,o,hk,hc,hd⟩ | ⟨rfl,hk⟩ | ⟨rfl,S,n,hk⟩
  ·obtain ⟨its,_,pl,_⟩:=I.list hq;refine ⟨pl.isList.typeIs,fun a e=>?_⟩;cases e;obtain ⟨o,n,e,c,hd,_⟩:=pl;exact ⟨o,e,hd⟩
  ·refine ⟨⟨o,I.kIn p o hk,hc⟩,fun a e=>?_⟩;cases e;exact ⟨o,I.kIn _ o hk,hd⟩
  ·have z:∃ o,s.heap.get? p=some o/\o.ExactDict:=by
    rcases hk with ⟨kvs,hk⟩ | ⟨kvs,hk⟩
    ·obtain ⟨_,_,_,_,o,_,_,e,ex,_⟩:=I.hok p _ hk;exact ⟨o,e,ex⟩
    ·obtain ⟨_,_,_,_,o,_,_,e,ex,_⟩:=I.hok p _ hk;exact ⟨o,e,ex⟩
   obtain ⟨o,e,ex⟩:=z;refine ⟨⟨o,e,ex.1⟩,fun a e2=>?_⟩;cases e2;exact ⟨o,e,ex.2.1⟩
  ·obtain ⟨o,_,_,_,e,ex,_⟩:=I.hok p _ hk;refine ⟨⟨o,e,ex.1⟩,fun a e2=>?_⟩;cases e2;exact ⟨o,e,ex.2.1⟩
 | _=>exact False.elim ty
def tBM (K:PySem.W.Frag) (T:String) (r:V->List V->Hp->VK->Prop) (to:TE) (t:TA):TE:=fun σ H Q=>to σ H fun x H1=>tyV K T x H1/\t σ H1 fun xs H2=>r x xs H2 Q
variable {o e:Expr} {es:List Expr} {to:TE} {t:TA} {name:Str} {apos cpos:Pos} {T id:String} {r:V->List V->Hp->VK->Prop}
theorem C3y (pa:PlainAttrs T) (slot:Slot T name id) (hty:typeOf (.builtin id)=pure (.type "method_descriptor")) (hm:MtR X id r) (ho:PE X o to) (ha:PA X (e :: es) t)
  (hbase:attributeBase o name X.env (eval o X.env)=eval o X.env:=by rfl)
  (hfew:((backTo cpos (starEach (e :: es) X.env)).all (fun x=>!x.1) && (backToKw cpos (keywordEach [] X.env)).all (fun x=>x.1.isSome)
   && decide ((e :: es).length + ([]:List Keyword).length + (if ([]:List Keyword).isEmpty then 0 else 1) < 30))=true:=by rfl)
  (hline:(apos.endLine == cpos.line)=true:=by rfl) (hs:starEach (e :: es) X.env=(false,eval e X.env) :: starEach es X.env:=by rfl) (hplain:(backTo cpos (starEach es X.env)).any (·.1)=false:=by rfl) :
  PE X (.Call (.Attribute o name apos) (e :: es) [] cpos) (tBM X.K T r to t):=by
 intro pins s σ H Q I h;refine wpAny_Call_method_late hbase hfew hline rfl (thn (ho pins s σ H _ I h) fun v s1 ⟨x,H1,I1,r1,ty,q1⟩=>?_);obtain ⟨h1,h2⟩:=B9r I1 r1 ty;refine ⟨T,id,pa,slot,hty,h1,h2,?_⟩;have hA:=ha cpos pins s1 σ H1 _ I1 q1;rw [hs] at hA ⊢;refine Calls.callWith_builtin (by show (false || (backTo cpos (starEach es X.env)).any (·.1))=false; rw [hplain] <;> rfl) (Calls.evalArgs_plain ?_)
 exact thn hA fun us s2 ⟨vs,H2,I2,r2,q2⟩=>hm pins s2 σ H2 x vs v us Q I2 r1 r2 q2
end
end L2
namespace L2
open PySem PySem.Spec PyProof.Rows
def MtM (X:Cx) (id:String) (r:V->List V->Hp->VK->Prop):Prop :=
 ∀ (pins:List (Addr × Obj)) (s:Shared) (σ:St) (H:Hp) (x:V) (xs:List V) (v:Value) (us:List Value) (Q:VK),Inv X pins σ H s->RelV x v->Vals xs us->r x xs H Q ->
  wpAny (model X.prog X.w) X.A (call (.builtin id) (v :: us)) (EP X pins σ Q) X.xe s
theorem Vals.one:∀ {x:V} {us:List Value},Vals [x] us->∃ u,us=[u]/\RelV x u
 | _,_,.cons r .nil=>⟨_,rfl,r⟩
theorem Vals.two:∀ {x y:V} {us:List Value},Vals [x,y] us->∃ u v,us=[u,v]/\RelV x u/\RelV y v
 | _,_,_,.cons r (.cons q .nil)=>⟨_,_,rfl,r,q⟩
theorem Vals.zero:∀ {us:List Value},Vals [] us->us=[]
 | _,.nil=>rfl
theorem Vals.dropLast {xs:List V} {us:List Value} (h:Vals xs us):Vals xs.dropLast us.dropLast:=by
 induction h with
 | nil=>exact .nil
 | cons r t ih =>
  cases t with
  | nil=>exact .nil
  | cons q t'=>exact .cons r ih
theorem Vals.eraseIdx:∀ {xs:List V} {us:List Value} (i:Nat),Vals xs us->Vals (xs.eraseIdx i) (us.eraseIdx i)
 | _,_,_,.nil=>.nil
 | _,_,0,.cons _ t=>t
 | _,_,i + 1,.cons r t=>.cons r (Vals.eraseIdx i t)
theorem Vals.reverse {xs:List V} {us:List Value} (h:Vals xs us):Vals xs.reverse us.reverse:=by
 induction h with
 | nil=>exact .nil
 | cons r t ih=>rw [List.reverse_cons,List.reverse_cons]; exact Vals.append ih (.cons r .nil)
theorem Vals.rep {xs:List V} {us:List Value} (h:Vals xs us):∀ k:Nat,Vals (List.replicate k xs).flatten (List.replicate k us).flatten
 | 0=>.nil
 | k + 1=>by
  rw [List.replicate_succ,List.replicate_succ,List.flatten_cons,List.flatten_cons];exact Vals.append h (Vals.rep h k)
section
variable {X:Cx} {pins:List (Addr × Obj)} {σ:St} {H:Hp} {s:Shared} {l b:Addr} {xs ys zs:List V}
theorem Inv.lset {its its':List Value} {n:Nat} {f:Array Value->Array Value} {t':Nat} (I:Inv X pins σ H s) (hH:H l=some (.lst xs))
  (e:s.heap.get? l=some { cls:=.type "list",data:=.seq its.toArray n }) (hf:f its.toArray=its'.toArray) (hv:Vals ys its') (hz:ys.length<=sizeLine) :
  Inv X pins σ (upd H l (.lst ys)) { s with heap:=s.heap.update l (Obj.mapSeq f),toks:=t' }:=by
 have q:=PySem.IsL.update e f;rw [hf] at q;refine I.write (x:=l) (e:=l) (by rw [hH]; exact trivial) (.inl rfl) (fun b' u hb hu=>(Heap.get?_update_other s.heap (Obj.mapSeq f) (Ne.symm hb)).trans hu) ⟨_,q⟩ ?_;exact ⟨hz,its',_,hv,q⟩
theorem Inv.lnew {its:List Value} {t':Nat} (I:Inv X pins σ H s) (hv:Vals ys its) (hz:ys.length<=sizeLine) :
  Inv X pins σ (upd H s.heap.objs.size (.lst ys)) { s with heap:=s.heap.push { cls:=.type "list",data:=.seq its.toArray },toks:=t' } :=
 I.laid (fun _ _ q=>Heap.get?_push_of_some _ q) (Zv _) ⟨hz,its,0,hv,Heap.get?_push_size _ rfl⟩
theorem Inv.fresh (I:Inv X pins σ H s):H s.heap.objs.size=none:=I.hok.fresh (Zv _)
theorem Inv.lstM (I:Inv X pins σ H s) (hH:H l=some (.lst xs)):xs.length<=sizeLine/\∃ (its:List Value) (n:Nat),Vals xs its/\xs.length=its.length/\s.heap.get? l=some { cls:=.type "list",data:=.seq its.toArray n }:=by
 obtain ⟨z,its,n,r,e⟩:=I.hok l _ hH;exact ⟨z,its,n,r,r.length,e⟩
end
section
variable {X:Cx}
def A8h:V->List V->Hp->VK->Prop:=fun x vs H Q=>∃ l xs y,x=.ref l/\vs=[y]/\H l=some (.lst xs)/\xs.length < sizeLine/\Q .non (upd H l (.lst (xs++[y])))
theorem E5:MtM X "list.append" A8h:=by
 intro pins s σ H x vs v us Q I rx rv h;obtain ⟨l,xs,y,rfl,rfl,hH,hz,q⟩:=h;cases rx;obtain ⟨u,rfl,ru⟩:=rv.one;obtain ⟨z,its,n,r,hl,e⟩:=I.lstM hH;refine call_meets F.slot_list_append ⟨_,e,rfl⟩ F.entry_list_append (F.args_list_append_2 _ _) (PySem.list_append l its.toArray n u (by rw [List.size_toArray]; omega)) ⟨e,?_⟩;refine ⟨.non,_,I.lset (its':=its++[u]) hH e (by simp) (r.append (.cons ru .nil)) ?_,rfl,q⟩;rw [Ze,List.length_singleton];omega
end
section
variable {prog:Program} {w:World} {A:Around} {E:Value->Shared->Prop} {s:Shared}
end
section
variable {X:Cx}
end
end L2
namespace Att
open PySem PySem.W PySem.Calls PyProof.Rows
theorem A0g {P:Params} {h:Heap}:∀ (ns:List Int) (vs:List Value),WellAll P h vs (ns.map WData.int)->IntsAre vs ns:=by
 intro ns;induction ns with
 | nil =>
  intro vs w;rw [List.map_nil] at w;cases w;exact .nil
 | cons n ns ih =>
  intro vs w;rw [List.map_cons] at w;cases w with
  | cons a b =>
   cases a;exact .cons _ _ (ih _ b)
theorem A8c {l:OpenLaw} {n:Nat} (hn:l.most=some n) {P:Params} {h:Heap} {args:List WData} {vals:List Value}
  (hpre:l.row.toRowW.claim.pre args=true) (hwl:WellAll P h vals args) :
  ∃ a vs ns,vals=[Value.ref a]/\args=[WData.list (ns.map WData.int)]/\h.get? a=some { cls:=.type "list",data:=.seq vs.toArray }/\IntsAre vs ns/\ns.length<=n:=by
 have hsh:WShape.hasAll [] args [.list .int]=true:=(pre_splitW hpre).1;have hc:l.pre.holds [] { args:=args }=true:=(pre_splitW hpre).2;obtain ⟨d,r,rfl,h1,h2⟩:=hasAllW_cons hsh;obtain rfl:=hasAllW_nil h2;obtain ⟨xs,rfl,h3⟩:=hasW_list h1;obtain ⟨ns,rfl⟩:=items_int h3;have hlen:ns.length<=n:=by
  unfold OpenLaw.pre at hc;have h4:(WTm.not (.lt (.lit (.int (n:Int))) (.len (.arg 0)))).holds [] { args:=[.list (ns.map .int)] }=true:=by
   have h4:=(holds_andW hc).1;rw [hn] at h4;exact h4
  have h5:=condW_of h4 (w_not (w_lt w_lit (w_len_list (w_arg rfl))));rw [Zl] at h5;refine Nat.le_of_not_lt fun q=>?_;have q':(n:Int) < ((ns.length:Nat):Int):=by omega
  first
   | (rw [Zk q'] at h5; exact absurd h5 (by decide))
   | (simp at h5; omega)
 cases hwl with
 | cons w1 w2 =>
  cases w2;cases w1 with
  | list ho hall=>exact ⟨_,_,ns,rfl,rfl,ho,A0g ns _ hall,hlen⟩
theorem A82 (l:OpenLaw) (args:List WData):l.row.toRowW.claim.post args (.bool true) args=true :=
 postW_of (r:=l.row.toRowW) (X:=(true == true))
  (show WShape.has [] (.bool true) .bool=true by first | rfl | decide | simp [WShape.has,WShape.arms,WShape.armsAll])
  (show (WTm.eq .res (.lit (.bool true))).value [] { args:=args,res:=some (.bool true),after:=args }=some (.bool (true == true)) from w_eq_bool (w_res rfl) w_lit) rfl
theorem attach_call {l:OpenLaw} {n:Nat} {q:Program} {loose:List Str} {XP:(Str->Option Value)->Heap->Prop} {YP:World->Heap->Prop} {d:DefRec}
  (hn:l.most=some n) (hdf:d.params.defaults=[])
  (call:∀ (w:World) (s₀ s₁:Shared) (mg mb:Str->Option Value) (fa:Addr) (o:Obj) (pm cd doc:Value) (a:Addr) (vs:List Value) (ns:List Int),
   Ground q loose [] XP w s₀ mg mb s₁.heap->YP w s₁.heap ->
   s₁.heap.get? fa=some o->o.data=.func (docDef d.name d.params d.body d.scope pm cd doc)->s₁.heap.CodeRec cd d.name->mg d.name=some (.ref fa) ->
   s₁.heap.get? a=some { cls:=.type "list",data:=.seq vs.toArray }->IntsAre vs ns->ns.length<=n->s₁.gens=#[] ->
   codeAny (model l.prog w) callerA (.call (.ref fa) ⟨[.ref a],[]⟩) (fun r s'=>r=.ok (.ret (.bool true))/\OldK s₁.heap s'.heap/\s'.os=s₁.os/\AllBare s'.gens) s₁) :
  WalkO q loose XP YP l.row.toRowW d [] (fun f vs=>PySem.call f vs):=by
 intro w s₀ s₁ mg mb G Y fa o pm cd doc dV kV ho hd hcd hD hmg hg args vals as hpre hlay hrd hwl hlo;obtain rfl:dV=.none:=Dflts.none hD hdf;obtain rfl:kV=.none:=Dflts.noKw hD;obtain ⟨a,vs,ns,rfl,rfl,hobj,hints,hlen⟩:=A8c hn hpre hwl;refine enter_call (codeAny_mono (call w s₀ s₁ mg mb fa o pm cd doc a vs ns G Y ho (fd_plain hd) hcd hmg hobj hints hlen hg) fun r s' hq=>?_);obtain ⟨rfl,h2,h3,h4⟩:=hq;exact ⟨.inl ⟨.bool true,.bool true,[],rfl,fun _=>rfl,.bool true,A82 l _,fun _=>⟨List.Pairwise.nil,fun _ hm=>(nomatch hm)⟩⟩,h2,h3,h4⟩
section
variable {prog:Program} {w:World} {A:Around} {E:Value->Shared->Prop} {s:Shared} {K:Frag}
end
end Att
namespace L2
open PySem PySem.Spec PyProof.Rows
theorem A2r:∀ {vs:List Value} {ns:List Int},IntsAre vs ns->Vals (ns.map V.int) vs
 | _,_,.nil=>.nil
 | _,_,.cons n t h=>.cons ⟨t,rfl⟩ (A2r h)
def Only (H:Hp):Prop:=∀ b,H b=none\/∃ o xs,H b=some (.frz o (.lst xs))
theorem B21 {P:Program} {w:World} {K:PySem.W.Frag} {mg mb:Str->Option Value} {CX:CXT} {k:Nat} {fa a:Addr} {fd:FuncData} {x:Str} {sp:Sp} {s₁:Shared} {vs:List Value} {ns:List Int}
  (KX:K.In s₁.heap) (hns:s₁.heap.Ns mainGlobals mg) (hb:s₁.heap.Ns builtinsNs mb) (hbb:∀ x:Str,x≠"__name__"->mb x=bootBuiltins x) (hlim:s₁.heap.NoLimit) (hg:s₁.gens=#[])
  (ha:s₁.heap.get? a=some { cls:=.type "list",data:=.seq vs.toArray }) (hi:IntsAre vs ns) (hl:ns.length<=sizeLine) (hr:Room k callerA)
  (F:∀ base:Heap,K.In base->base.Ns mainGlobals mg->FnOk P w K mg base CX k fa fd [x] sp) (hbind:∀ (s:Shared) (u:Value),BindsTo s fd ⟨[u],[]⟩ [(x,u)])
  (hsp:∀ H:Hp,Only H->SqL K H a (ns.map V.int)->sp [.ref a] H (fun v _=>v=.bl true) fun _ _ _=>False)
  (hCX:∀ H e s',CX [] H s₁ (fun _ _ _=>False) e s'->False) :
  codeAny (model P w) callerA (.call (.ref fa) ⟨[.ref a],[]⟩) (fun r s'=>r=.ok (.ret (.bool true))/\OldK s₁.heap s'.heap/\s'.os=s₁.os/\AllBare s'.gens) s₁:=by
 have rv:=A2r hi;have lenV:=hi.length;have core:∀ H:Hp,Only H->SqL K H a (ns.map V.int)->HOk P w H s₁.heap->(∀ b,H b≠none->b=a)->(H a≠none->K.lookup a=none) ->
   codeAny (model P w) callerA (.call (.ref fa) ⟨[.ref a],[]⟩) (fun r s'=>r=.ok (.ret (.bool true))/\OldK s₁.heap s'.heap/\s'.os=s₁.os/\AllBare s'.gens) s₁:=by
  intro H hO hS hok hA hK;have base_of:∀ {b:Addr} {o:Obj},s₁.heap.get? b=some o->H b=none->(hidT s₁.heap H).get? b=some o:=fun e n=>B28 e n;have noA:∀ {b:Addr} {o:Obj} {es:Array DictEntry} {ep:Nat},s₁.heap.get? b=some o->o.data=.dict es ep->H b=none:=fun {b o es ep} e d=>by
   cases q:H b with
   | none=>rfl
   | some u =>
    have e':b=a:=hA b (by rw [q]; simp);subst e';rw [ha] at e; cases e;have d':Data.seq vs.toArray _=Data.dict es ep:=d;cases d'
  have nsK:∀ {b:Addr} {m:Str->Option Value},s₁.heap.Ns b m->(hidT s₁.heap H).Ns b m:=fun {b m} ⟨o,es,ep,e,d,r⟩=>⟨o,es,ep,base_of e (noA e d),d,r⟩;have hKb:K.In (hidT s₁.heap H):=fun b o e=>base_of (KX b o e) (by
   cases q:H b with
   | none=>rfl
   | some u =>
    have e':b=a:=hA b (by rw [q]; simp);subst e';rw [hK (by rw [q]; simp)] at e; cases e)
  have hM:Mod K mg (hidT s₁.heap H):=⟨hKb,nsK hns,⟨mb,nsK hb,hbb⟩,let ⟨mc,h1,h2⟩:=hlim; ⟨mc,nsK h1,h2⟩⟩;have e0:Env0 P w K mg (hidT s₁.heap H) callerA [] s₁ H:=⟨rfl,hM,fun b o e=>B7u e,Nat.le_of_eq (B0i _ _),trivial,fun b hb=>absurd (show b ∈ ([]:List Addr) from hb) (by simp),hok,.of_eq hg⟩;refine codeAny_mono ((F _ hKb (nsK hns)).run callerA [] s₁ H ⟨[.ref a],[]⟩ [.ref a] [.ref a] _ _ hr e0 (hbind s₁ (.ref a)) (.cons rfl .nil) (hsp H hO hS)) fun r s' h=>?_;cases r with
  | error e=>exact (hCX H e s' h).elim
  | ok fl =>
   cases fl with
   | next=>exact False.elim h
   | brk=>exact False.elim h
   | cont=>exact False.elim h
   | ret u =>
    obtain ⟨v,H',os,bare,un,hok',r',q⟩:=h;have q':v=.bl true:=q;subst q';obtain rfl:u=Value.bool true:=r';refine ⟨rfl,OldK.of_keep fun b o e=>?_,os,bare⟩;cases q:H b with
    | none=>exact un.keep b o e q (by intro z; exact absurd (show b ∈ ([]:List Addr) from z) (by simp)) (by simp)
    | some u =>
     rcases hO b with z | ⟨ob,xs,z⟩
     ·rw [q] at z; cases z
     ·have z2:=un.frzs b ob _ z;obtain ⟨e1,_⟩:=hok b _ z;obtain ⟨e2,_⟩:=hok' b _ z2;rw [e] at e1; cases e1;exact e2
 cases hk:K.lookup a with
 | some o =>
  have e:=KX a o hk;rw [ha] at e;cases e;refine core (fun _=>none) (fun _=>.inl rfl) (.inr ⟨_,vs.toArray,_,hk,rfl,rfl,rfl,by rw [List.size_toArray,lenV]; exact hl,by simpa using rv⟩) (fun b u z=>by have z':(none:Option HO)=some u:=z; cases z') (fun b z=>absurd rfl z) fun z=>absurd rfl z
 | none =>
  refine core (fun b=>if b=a then some (.frz { cls:=.type "list",data:=.seq vs.toArray } (.lst (ns.map V.int))) else none) (fun b=>?_) (.inl (.inr ⟨{ cls:=.type "list",data:=.seq vs.toArray },if_pos rfl⟩)) (fun b u z=>?_) (fun b z=>?_) fun _=>hk
  ·by_cases hb:b=a
   ·exact .inr ⟨_,_,if_pos hb⟩
   ·exact .inl (if_neg hb)
  ·by_cases hb:b=a
   ·have z':=(if_pos hb).symm.trans z;cases z';subst hb;exact ⟨ha,by rw [Zl]; exact hl,vs,_,rv,ha⟩
   ·have z':=(if_neg hb).symm.trans z;cases z'
  ·by_cases hb:b=a
   ·exact hb
   ·exact absurd (if_neg hb) z
end L2
namespace L2
open PySem PySem.Spec PyProof.Rows
theorem B47 {l:PySem.W.OpenLaw} {n k:Nat} {q:Program} {loose:List Str} {XP:(Str->Option Value)->Heap->Prop} {YP:World->Heap->Prop} {d:DefRec} {K:Params->PySem.W.Frag} {CX:World->CXT} {sp:World->Sp} {x:Str}
  (hn:l.most=some n) (hn2:n<=sizeLine) (hdf:d.params.defaults=[]) (hr:Room k callerA)
  (hY:∀ (w:World) (h:Heap),YP w h->(K w.params).In h)
  (F:∀ (w:World) (mg:Str->Option Value) (fa:Addr) (h:Heap),(K w.params).In h->h.Ns mainGlobals mg->mg d.name=some (.ref fa) ->
   ∃ fd:FuncData,(∀ (s:Shared) (u:Value),BindsTo s fd ⟨[u],[]⟩ [(x,u)]) /\
    ∀ base:Heap,(K w.params).In base->base.Ns mainGlobals mg->FnOk l.prog w (K w.params) mg base (CX w) k fa fd [x] (sp w))
  (hsp:∀ (w:World) (H:Hp) (a:Addr) (ns:List Int),ns.length<=n->Only H->SqL (K w.params) H a (ns.map V.int)->sp w [.ref a] H (fun v _=>v=.bl true) fun _ _ _=>False)
  (hCX:∀ (w:World) (H:Hp) (s:Shared) (e:Value) (s':Shared),CX w [] H s (fun _ _ _=>False) e s'->False) :
  PySem.W.WalkO q loose XP YP l.row.toRowW d [] (fun f vs=>PySem.call f vs):=by
 refine Att.attach_call hn hdf fun w s₀ s₁ mg mb fa o pm cd doc a vs ns G Y ho hd hcd hmg hobj hints hlen hg=>?_;have KX:=hY w _ Y;obtain ⟨fd,hb,hF⟩:=F w mg fa _ KX G.T.g hmg;exact B21 KX G.T.g G.T.b G.T.builtins G.T.nolimit hg hobj hints (Zx hlen hn2) hr hF hb (fun H hO hS=>hsp w H a ns hlen hO hS) fun H e s'=>hCX w H s₁ e s'
end L2
namespace L2
open PySem PySem.Spec PyProof.Rows
abbrev CX0:CXT:=fun _ _ _ _ _ _=>False
abbrev E0:XK:=fun _ _ _=>False
theorem C30 {X:Cx}:A6t CX0 X E0:=fun _ _ _ _ _ _ _ h=>h.elim
structure Fun (K:PySem.W.Frag) (x qual:Str) (st:Stmt) (f:Addr) (fd:FuncData):Prop where
 ex:∃ (oc:Value) (od:Option Addr) (kV doc pm:Value) (an:Option Addr) (cdv ct:Value) (osl:Array (Option Value)),
  fd=PySem.W.fnOf x qual (N5 st) (L9 st) (A8 st) .none kV doc pm an cdv ct/\K.lookup f=some ⟨oc,od,.func fd,osl⟩/\PySem.W.codeIn K cdv qual=true
 kp:PySem.W.keepIn K (.ref f)=true
section
variable {P:Program} {w:World} {K:PySem.W.Frag} {mg:Str->Option Value} {base:Heap}
theorem Fun.ok {x qual:Str} {st:Stmt} {f:Addr} {fd:FuncData} {N ps:List Str} {k:Nat} {sp:Sp} (F:Fun K x qual st f fd) (S:FnScope N ps (A8 st)) (len:∀ vs H Q E,sp vs H Q E->vs.length=ps.length)
  (hbody:∀ (cdv:Value) (A:Around) (outer:List Env) (s:Shared) (H:Hp) (vs:List V) (Q:VK) (E:XK),Room k (A.deeper (envOfC qual (A8 st) s.heap.objs.size f cdv))->sp vs H Q E ->
   ∃ t,PSs (cxOf CX0 P w K mg base N qual (A8 st) f cdv A outer s H E).nox (L9 st) t/\t { nx:=fun _ H'=>Q .non H',rt:=Q } (start N vs) H):FnOk P w K mg base CX0 (k + 1) f fd ps sp:=by
 obtain ⟨oc,od,kV,doc,pm,an,cdv,ct,osl,rfl,lk,hcd⟩:=F.ex;refine C4d lk hcd S len fun A outer s H vs Q E hr hsp=>?_;obtain ⟨t,h,q⟩:=hbody cdv A outer s H vs Q E hr hsp;exact ⟨t,h.nox,q⟩
theorem Fun.binds {x qual:Str} {st:Stmt} {f:Addr} {fd:FuncData} {ps:List Str} (F:Fun K x qual st f fd)
  (h:∀ (kV doc pm:Value) (an:Option Addr) (cdv ct:Value) (us:List Value),us.length=ps.length->bindArgs (PySem.W.fnOf x qual (N5 st) (L9 st) (A8 st) .none kV doc pm an cdv ct) ⟨us,[]⟩=pure (ps.zip us)):Binds K fd ps []:=by
 obtain ⟨oc,od,kV,doc,pm,an,cdv,ct,osl,rfl,lk,hcd⟩:=F.ex;exact .all (h kV doc pm an cdv ct)
theorem B4m {x qual:Str} {st:Stmt} {f:Addr} {oc:Value} {od an:Option Addr} {osl:Array (Option Value)} {kV doc pm cdv ct:Value} (l:K.lookup f=some ⟨oc,od,.func (PySem.W.fnOf x qual (N5 st) (L9 st) (A8 st) .none kV doc pm an cdv ct),osl⟩)
  (c:PySem.W.codeIn K cdv qual=true) (k:PySem.W.keepIn K (.ref f)=true):Fun K x qual st f (PySem.W.fnOf x qual (N5 st) (L9 st) (A8 st) .none kV doc pm an cdv ct):=⟨⟨oc,od,kV,doc,pm,an,cdv,ct,osl,rfl,l,c⟩,k⟩
end
theorem A2u {n:Nat} (h:n<=1000):n < sizeLine:=Nat.lt_of_le_of_lt h (by decide)
section
variable {X:Cx}
theorem pv (i:Nat) {x:Str} {pos:Pos} (hN:X.N[i]?=some x:=by rfl) (hv:Vis X.env.scope x:=by first | exact Or.inl rfl | exact Or.inr (Or.inl rfl) | exact Or.inr (Or.inr rfl)) (hd:(x == ("__debug__":Str))=false:=by decide)
  (hcd:(x == ("__classdict__":Str))=false:=by decide):PE X (.Name x pos) (tVar i):=C0p hN hv hd hcd
end
theorem iteF {A B:Prop} (h:B):if false=true then A else B:=by
 rw [if_neg Bool.false_ne_true];exact h
theorem iteT {A B:Prop} (h:A):if true=true then A else B:=by
 rw [if_pos rfl];exact h
theorem ite2 {c A B:Prop} [Decidable c] (h1:c->A) (h2:¬ c->B):if c then A else B:=by
 by_cases h:c
 ·rw [if_pos h];exact h1 h
 ·rw [if_neg h];exact h2 h
def Same (H H':Hp):Prop:=∀ b o,H b=some o->H' b=some o
theorem Same.refl (H:Hp):Same H H:=fun _ _ h=>h
theorem Same.trans {H H1 H2:Hp} (a:Same H H1) (b:Same H1 H2):Same H H2:=fun c o h=>b c o (a c o h)
theorem Same.seq {K:PySem.W.Frag} {H H':Hp} {a:Addr} {xs:List V} (e:Same H H') (h:SqL K H a xs):SqL K H' a xs:=by
 rcases h with (h | ⟨o,h⟩) | h
 ·exact .inl (.inl (e _ _ h))
 ·exact .inl (.inr ⟨o,e _ _ h⟩)
 ·exact .inr h
end L2
namespace My
def Sm (k:Nat) (x:Int):Prop:=x.natAbs < 2 ^ k
theorem Sm.mono {k l:Nat} {x:Int} (h:Sm k x) (e:k<=l):Sm l x:=Nat.lt_of_lt_of_le h (Zp (by decide) e)
theorem Sm.mul {k l:Nat} {x y:Int} (h:Sm k x) (g:Sm l y):Sm (k + l) (x * y):=by
 unfold Sm at *;rw [Int.natAbs_mul,Nat.pow_add];rcases Nat.eq_zero_or_pos y.natAbs with e | e
 ·rw [e,Nat.mul_zero]; exact Nat.mul_pos (Nat.two_pow_pos _) (Nat.two_pow_pos _)
 ·exact Nat.lt_of_lt_of_le (Nat.mul_lt_mul_of_pos_right h e) (Nat.mul_le_mul_left _ (Nat.le_of_lt g))
theorem Sm.add {k:Nat} {x y:Int} (h:Sm k x) (g:Sm k y):Sm (k + 1) (x + y):=by
 unfold Sm at *;rw [Nat.pow_succ];have:=Int.natAbs_add_le x y;omega
theorem Sm.neg {k:Nat} {x:Int} (h:Sm k x):Sm k (-x):=by
 unfold Sm at *;rw [Int.natAbs_neg]; exact h
theorem Sm.sub {k:Nat} {x y:Int} (h:Sm k x) (g:Sm k y):Sm (k + 1) (x - y):=by
 rw [Int.sub_eq_add_neg]; exact h.add g.neg
theorem Sm.le {k:Nat} {x y:Int} (h:Sm k x) (g:y.natAbs<=x.natAbs):Sm k y:=Nat.lt_of_le_of_lt g h
theorem Sm.log {k:Nat} {x:Int} (h:Sm k x) (hk:0 < k):x.natAbs.log2 < k:=by
 by_cases h0:x.natAbs=0
 ·rw [h0]; exact hk
 ·exact (Nat.log2_lt h0).mpr h
theorem B0k (a b:Int):Int.gcd b (a % b)=Int.gcd a b:=by
 have h:a % b=a + b * (-(a / b)):=by
  have:=Int.emod_def a b;rw [this,Int.mul_neg]; omega
 rw [h,Int.gcd_add_mul_left_right,Int.gcd_comm]
theorem B8x (a b:Int):Int.gcd (if a < 0 then -a else a) (if b < 0 then -b else b)=Int.gcd a b:=by
 unfold Int.gcd;congr 1
 ·split <;> omega
 ·split <;> omega
theorem A6f (a:Int) (h:0<=a):((Int.gcd a 0:Nat):Int)=a:=by
 rw [Int.gcd_zero_right]; omega
def sh (t b:Int):Int:=if b < 0 then -((Int.gcd t b:Nat):Int) else ((Int.gcd t b:Nat):Int)
theorem B9z {t b:Int} (h:b≠0):sh t b≠0:=by
 have:Int.gcd t b≠0:=fun e=>h (Int.gcd_eq_zero_iff.mp e).2;unfold sh; split <;> omega
theorem B90 (t b:Int):(sh t b).natAbs=Int.gcd t b:=by
 unfold sh; split <;> omega
theorem A5p (t b:Int):sh t b ∣ t:=by
 unfold sh; split
 ·exact Int.neg_dvd.mpr (Int.gcd_dvd_left ..)
 ·exact Int.gcd_dvd_left ..
theorem B1q (t b:Int):sh t b ∣ b:=by
 unfold sh; split
 ·exact Int.neg_dvd.mpr (Int.gcd_dvd_right ..)
 ·exact Int.gcd_dvd_right ..
theorem A9y {t b:Int} (h:b≠0):t.fdiv (sh t b)=(Rat.divInt t b).num:=by
 rw [Int.fdiv_eq_ediv_of_dvd (A5p t b),Rat.num_divInt,Int.gcd_comm b t];unfold sh;split
 ·rename_i h1;rw [Int.sign_eq_neg_one_of_neg h1,Int.ediv_neg,Int.neg_one_mul,Int.neg_ediv_of_dvd (Int.gcd_dvd_left ..)]
 ·rename_i h1;rw [Int.sign_eq_one_of_pos (by omega),Int.one_mul]
theorem B8g {t b:Int} (h:b≠0):b.fdiv (sh t b)=((Rat.divInt t b).den:Int):=by
 rw [Int.fdiv_eq_ediv_of_dvd (B1q t b),Rat.den_divInt,if_neg h,Int.gcd_comm b t];unfold sh;split
 ·rename_i h1;rw [Int.ediv_neg,Int.natCast_ediv];have e:(b.natAbs:Int)=-b:=by omega
  rw [e,Int.neg_ediv_of_dvd (Int.gcd_dvd_right ..)]
 ·rename_i h1;rw [Int.natCast_ediv];have e:(b.natAbs:Int)=b:=by omega
  rw [e]
theorem C2j (t b:Int):(Rat.divInt t b).num.natAbs<=t.natAbs:=by
 by_cases h:b=0
 ·subst h; simp [Rat.divInt_zero]
 ·rw [<- A9y h,Int.fdiv_eq_ediv_of_dvd (A5p t b)];have:=Int.natAbs_ediv_le_natAbs t (sh t b);exact this
theorem C3l {t b:Int} (h:b≠0):(Rat.divInt t b).den<=b.natAbs:=by
 rw [Rat.den_divInt,if_neg h];exact Nat.div_le_self _ _
def SmQ (k:Nat) (q:Rat):Prop:=Sm k q.num/\Sm k (q.den:Int)
theorem den0 (q:Rat):(q.den:Int)≠0:=by have:=q.den_nz; omega
theorem denp (q:Rat):0 < (q.den:Int):=by have:=q.den_nz; omega
theorem den2 (p q:Rat):(p.den:Int) * (q.den:Int)≠0:=Int.mul_ne_zero (den0 p) (den0 q)
theorem C0g (p q:Rat):Rat.divInt (p.num * q.den + q.num * p.den) ((p.den:Int) * q.den)=p + q:=by
 rw [<- Rat.divInt_add_divInt _ _ (den0 p) (den0 q),Rat.num_divInt_den,Rat.num_divInt_den]
theorem C0d (p q:Rat):Rat.divInt (p.num * q.den - q.num * p.den) ((p.den:Int) * q.den)=p - q:=by
 rw [<- Rat.divInt_sub_divInt _ _ (den0 p) (den0 q),Rat.num_divInt_den,Rat.num_divInt_den]
theorem C0e (p q:Rat):Rat.divInt (p.num * q.num) ((p.den:Int) * q.den)=p * q:=by
 rw [<- Rat.divInt_mul_divInt,Rat.num_divInt_den,Rat.num_divInt_den]
theorem C0f (p q:Rat):Rat.divInt (p.num * q.den) ((p.den:Int) * q.num)=p / q:=by
 rw [Rat.div_def,Rat.inv_def,<- Rat.divInt_mul_divInt,Rat.num_divInt_den]
def W:LQ->Nat
 | []=>1
 | q :: r=>q.den * W r
def S:LQ->Rat
 | []=>0
 | q :: r=>q + S r
theorem A7t (a b:LQ):S (a++b)=S a + S b:=by
 induction a with
 | nil=>simp only [List.nil_append,S,Rat.zero_add]
 | cons q r ih=>simp only [List.cons_append,S,ih,Rat.add_assoc]
end My
namespace My
def SmR (n d:Nat) (q:Rat):Prop:=Sm n q.num/\Sm d (q.den:Int)
theorem SmR.mono {n d n' d':Nat} {q:Rat} (h:SmR n d q) (h1:n<=n') (h2:d<=d'):SmR n' d' q:=⟨h.1.mono h1,h.2.mono h2⟩
theorem SmR.q {n d:Nat} {q:Rat} (h:SmR n d q) (h1:n<=3900) (h2:d<=3900):SmQ 3900 q:=⟨h.1.mono h1,h.2.mono h2⟩
theorem SmR.low {n d:Nat} {t b:Int} (h:Sm n t) (g:Sm d b) (hb:b≠0):SmR n d (Rat.divInt t b) :=
 ⟨h.le (C2j t b),g.le (by simpa using C3l hb)⟩
theorem SmR.add {a b c e:Nat} {p q:Rat} (h:SmR a b p) (g:SmR c e q):SmR (max (a + e) (c + b) + 1) (b + e) (p + q):=by
 rw [<- C0g];exact SmR.low (((h.1.mul g.2).mono (Nat.le_max_left ..)).add ((g.1.mul h.2).mono (Nat.le_max_right ..))) (h.2.mul g.2) (den2 p q)
theorem SmR.sub {a b c e:Nat} {p q:Rat} (h:SmR a b p) (g:SmR c e q):SmR (max (a + e) (c + b) + 1) (b + e) (p - q):=by
 rw [<- C0d];exact SmR.low (((h.1.mul g.2).mono (Nat.le_max_left ..)).sub ((g.1.mul h.2).mono (Nat.le_max_right ..))) (h.2.mul g.2) (den2 p q)
theorem SmR.mul {a b c e:Nat} {p q:Rat} (h:SmR a b p) (g:SmR c e q):SmR (a + c) (b + e) (p * q):=by
 rw [<- C0e];exact SmR.low (h.1.mul g.1) (h.2.mul g.2) (den2 p q)
theorem A9s {q:Rat} (h:q≠0):q.num≠0:=fun e=>h (Rat.num_eq_zero.mp e)
theorem A9r {q:Rat} (h:0 < q):0 < q.num:=by
 have:=(Rat.lt_iff 0 q).mp h;simpa using this
theorem SmR.div {a b c e:Nat} {p q:Rat} (h:SmR a b p) (g:SmR c e q) (hq:q≠0):SmR (a + e) (b + c) (p / q):=by
 rw [<- C0f];exact SmR.low (h.1.mul g.2) (h.2.mul g.1) (Int.mul_ne_zero (den0 p) (A9s hq))
theorem U0 {t b:Int} (h:0<=t) (hb:0 < b):0<=Rat.divInt t b:=(Rat.divInt_nonneg_iff_of_pos_right hb).mpr h
theorem C3t {t b:Int} (h:0 < t) (hb:0 < b):0 < Rat.divInt t b:=by
 refine Rat.lt_of_le_of_ne (U0 (by omega) hb) fun e=>?_;have h1:Rat.divInt 0 b=Rat.divInt t b:=by rw [Rat.zero_divInt]; exact e
 have:=(Rat.divInt_eq_divInt_iff (by omega) (by omega)).mp h1;have h2:t * b=0:=by simpa using this.symm
 rcases Int.mul_eq_zero.mp h2 with z | z <;> omega
theorem A6c (p q:Rat):decide (p.num * q.den < q.num * p.den)=decide (p < q):=by
 rw [Bool.eq_iff_iff,decide_eq_true_iff,decide_eq_true_iff,Rat.lt_iff]
def Dec:LR->Prop
 | []=>True
 | [_]=>True
 | c :: d :: r=>d.1 < c.1/\Dec (d :: r)
theorem Dec.tail {c:Rat × Rat} {r:LR} (h:Dec (c :: r)):Dec r:=by
 cases r with
 | nil=>trivial
 | cons d r=>exact h.2
theorem Dec.lt {c:Rat × Rat} {r:LR} (h:Dec (c :: r)):∀ d ∈ r,d.1 < c.1:=by
 induction r generalizing c with
 | nil=>intro d hd; exact absurd hd (by simp)
 | cons e r ih =>
  intro d hd;rcases List.mem_cons.mp hd with rfl | hd
  ·exact h.1
  ·have h3:=ih h.2 d hd;have h4:e.1 < c.1:=h.1;grind
theorem Dec.snoc:∀ {r:LR} {c d:Rat × Rat},Dec (r++[c])->d.1 < c.1->Dec (r++[c]++[d])
 | [],c,d,_,h=>⟨h,trivial⟩
 | [e],c,d,hd,h=>⟨hd.1,h,trivial⟩
 | e :: f :: r,c,d,hd,h=>⟨hd.1,Dec.snoc (r:=f :: r) hd.2 h⟩
theorem Dec.get:∀ {l:LR} {i j:Nat} {c d:Rat × Rat},Dec l->l[i]?=some c->l[j]?=some d->i < j->d.1 < c.1
 | [],i,j,c,d,_,h,_,_=>by simp at h
 | e :: r,0,j + 1,c,d,hd,h,g,_=>by
  have h':e=c:=by simpa using h
  subst h';exact hd.lt d (Zm (by simpa using g))
 | e :: r,i + 1,j + 1,c,d,hd,h,g,hij=>Dec.get (l:=r) hd.tail (by simpa using h) (by simpa using g) (by omega)
end My
namespace L2
open PySem PySem.Spec PyProof.Rows
section
variable {X:Cx}
theorem A1i {x:Int} (h:My.Sm 8000 x):Builtin.Int.intBits x<=2 ^ 20:=by
 have e:(2:Nat) ^ 20=1048576:=by decide
 have h2:=h.log (by decide);unfold Builtin.Int.intBits;split <;> omega
def B9k (i j:Int):Prop:=My.Sm 8000 i/\My.Sm 8000 j
def C4r (_ j:Int):Prop:=j≠0/\My.Sm 8000 j
theorem F0:OpR X (binaryOp .Mult) (rI B9k fun i j=>.int (i * j)):=opI fun _ _ _ _ _ _ _ hc q=>mul_int q (.of_bits (A1i hc.1) (A1i hc.2))
theorem J9:OpR X (binaryOp .FloorDiv) (rI C4r fun i j=>.int (i.fdiv j)):=opI fun _ _ _ _ _ _ _ hc q =>
 floordiv_int hc.1 q (.inl (PyProof.noPylong_of_log2 (Nat.lt_of_lt_of_le (hc.2.log (by decide)) (by decide))))
def kitB (T c:String):Option Bool:=if (Value.type T == Value.type c)=true then some true else if PySem.W.kitMeta c=true then (fastBuiltinMro T).map (·.contains (Value.type c)) else none
theorem B22 (K:PySem.W.Frag) {T c:String} {b:Bool} (h:kitB T c=some b):PySem.W.kitOne K (.type T) (.type c)=some b:=h
def TyV (K:PySem.W.Frag) (H:Hp) (x:V) (T:String):Prop:=match x with
 | .non=>T="NoneType"
 | .bl _=>T="bool"
 | .int _=>T="int"
 | .str _=>T="str"
 | .ref a=>(T="list"/\∃ xs,SqL K H a xs)\/(T="tuple"/\∃ xs,SqT K H a xs)\/(T="dict"/\∃ kvs,H a=some (.dK kvs))
 | _=>False
theorem A44:CallR X (.builtin "isinstance") (fun xs H Q=>∃ x c T b,xs=[x,.ty c]/\TyV X.K H x T/\kitB T c=some b/\Q (.bl b) H):=by
 intro pins s σ H xs us Q I r h;obtain ⟨x,c,T,b,rfl,ty,e,q⟩:=h;obtain ⟨u,v,rfl,ru,rv⟩:=Vals.two r;cases (show v=Value.type c from rv);have fin:∀ tk,EP X pins σ Q (.bool b) { s with toks:=tk }:=fun tk=>⟨.bl b,H,I.tok tk,rfl,q⟩;have e':=B22 X.K e;cases x with
 | non=>cases (show T=_ from ty); cases (show u=Value.none from ru); exact PySem.W.kia_one PySem.W.kitx_none I.kIn True.intro e' (fun z=>nomatch z) fin
 | bl y=>cases (show T=_ from ty); cases (show u=Value.bool y from ru); exact PySem.W.kia_one PySem.W.kitx_bool I.kIn True.intro e' (fun z=>nomatch z) fin
 | int i=>cases (show T=_ from ty); obtain ⟨t,q'⟩:=(show ∃ t,u=Value.int i t from ru); cases q'; exact PySem.W.kia_one PySem.W.kitx_int I.kIn True.intro e' (fun z=>nomatch z) fin
 | str y=>cases (show T=_ from ty); obtain ⟨t,q'⟩:=(show ∃ t,u=Value.str y t from ru); cases q'; exact PySem.W.kia_one PySem.W.kitx_str I.kIn True.intro e' (fun z=>nomatch z) fin
 | ref a =>
  cases (show u=Value.ref a from ru);rcases (show _\/_\/_ from ty) with ⟨rfl,xs,h⟩ | ⟨rfl,xs,h⟩ | ⟨rfl,kvs,h⟩
  ·obtain ⟨its,_,⟨o,n,h1,h2,_⟩,_⟩:=I.list h;exact PySem.W.kia_one PySem.W.kitx_list I.kIn ⟨o,h1,h2⟩ e' (fun z=>nomatch z) fin
  ·obtain ⟨its,_,⟨o,h1,h2,_⟩,_⟩:=I.tuple h;exact PySem.W.kia_one PySem.W.kitx_tuple I.kIn ⟨o,h1,h2⟩ e' (fun z=>nomatch z) fin
  ·obtain ⟨_,_,vs,_,p⟩:=(show ObjOk X.prog X.w H s.heap a (.dK kvs) from I.hok a _ h);obtain ⟨o,es,ep,h1,h2,_⟩:=p;exact PySem.W.kia_one PySem.W.kitx_dict I.kIn ⟨o,h1,h2.1⟩ e' (fun z=>nomatch z) fin
 | byt _=>exact (show False from ty).elim
 | flt _=>exact (show False from ty).elim
 | ty _=>exact (show False from ty).elim
end
def encV:V->PyData
 | .int i=>.int i
 | .str x=>.str x
 | _=>.none
def encK:Key->PyData
 | .inl i=>.int i
 | .inr x=>.str x
def B0s (p:Key × V):PyData × PyData:=(encK p.1,encV p.2)
def NSI (xs:List V):Prop:=∀ c i,xs≠[V.str c,V.int i]
def SqD (K:PySem.W.Frag) (H:Hp) (a:Addr) (xs:List V):Prop:=SqT K H a xs/\(H a=some (.tup xs)\/NSI xs)
theorem SqD.of {K:PySem.W.Frag} {H:Hp} {a:Addr} {xs:List V} (h:H a=some (.tup xs)):SqD K H a xs:=⟨SqT.of h,.inl h⟩
mutual
inductive Den (K:PySem.W.Frag) (H:Hp):V->PyData->Prop
 | non:Den K H .non .none
 | bl (b:Bool):Den K H (.bl b) (.bool b)
 | int (i:Int):Den K H (.int i) (.int i)
 | str (x:Str):Den K H (.str x) (.str x)
 | lst {a:Addr} {xs:List V} {ds:LP}:SqL K H a xs->DenAll K H xs ds->Den K H (.ref a) (.list ds)
 | tup {a:Addr} {xs:List V} {ds:LP}:SqD K H a xs->DenAll K H xs ds->Den K H (.ref a) (.tuple ds)
 | dct {a:Addr} {kvs:List (Key × V)}:H a=some (.dK kvs)->Den K H (.ref a) (.dict (kvs.map B0s))
inductive DenAll (K:PySem.W.Frag) (H:Hp):List V->LP->Prop
 | nil:DenAll K H [] []
 | cons {x:V} {xs:List V} {d:PyData} {ds:LP}:Den K H x d->DenAll K H xs ds->DenAll K H (x :: xs) (d :: ds)
end
section
variable {X:Cx} {pins:List (Addr × Obj)} {σ:St} {H:Hp} {s:Shared}
mutual
theorem Den.reads (I:Inv X pins σ H s):∀ {x:V} {d:PyData} {u:Value},Den X.K H x d->RelV x u->d.canLay0=true->∃ as,Reads s.heap u d as
 | _,_,u,.non,r,_=>by cases (show u=Value.none from r); exact ⟨_,.none⟩
 | _,_,u,.bl b,r,_=>by cases (show u=Value.bool b from r); exact ⟨_,.bool b⟩
 | _,_,u,.int i,r,_=>by obtain ⟨t,q⟩:=(show ∃ t,u=Value.int i t from r); cases q; exact ⟨_,.int i t⟩
 | _,_,u,.str x,r,_=>by obtain ⟨t,q⟩:=(show ∃ t,u=Value.str x t from r); cases q; exact ⟨_,.str x t⟩
 | _,_,u,.lst (a:=a) h ds,r,cl=>by
  cases (show u=Value.ref a from r);obtain ⟨its,rv,⟨o,n,h1,h2,_,h3⟩,_⟩:=I.list h;obtain ⟨as,q⟩:=DenAll.reads I ds rv cl;exact ⟨_,.list h1 h2 h3 (by simpa using q)⟩
 | _,_,u,.tup (a:=a) h ds,r,cl=>by
  cases (show u=Value.ref a from r);obtain ⟨its,rv,⟨o,h1,h2,n,h3⟩,_⟩:=I.tuple h.1;obtain ⟨as,q⟩:=DenAll.reads I ds rv cl;exact ⟨_,.tuple h1 h2 h3 (by simpa using q)⟩
 | _,_,_,.dct _,_,cl=>absurd (show false=true from cl) Bool.false_ne_true
theorem DenAll.reads (I:Inv X pins σ H s):∀ {xs:List V} {ds:LP} {us:List Value},DenAll X.K H xs ds->Vals xs us->PyData.canLayAll0 ds=true->∃ as,ReadsAll s.heap us ds as
 | _,_,_,.nil,.nil,_=>⟨_,.nil⟩
 | _,d :: ds,_,.cons h t,.cons r rs,cl=>by
  have cl':(d.canLay0 && PyData.canLayAll0 ds)=true:=cl;rw [Bool.and_eq_true] at cl';obtain ⟨as,q⟩:=Den.reads I h r cl'.1;obtain ⟨bs,q'⟩:=DenAll.reads I t rs cl'.2;exact ⟨_,.cons q q'⟩
end
end
section
variable {X:Cx}
def rEqD (K:PySem.W.Frag):R2:=fun x y H Q=>∃ dx dy,Den K H x dx/\Den K H y dy/\dx.canLay0=true/\dy.canLay0=true/\dx.depth<=60/\Q (.bl (PyData.eqv dx dy)) H
def rNeD (K:PySem.W.Frag):R2:=fun x y H Q=>∃ dx dy,Den K H x dx/\Den K H y dy/\dx.canLay0=true/\dy.canLay0=true/\dx.depth<=60/\Q (.bl (!PyData.eqv dx dy)) H
theorem C16 (hu:X.A.units + 64 < cLine):OpR X (compareOp .Eq) (rEqD X.K):=by
 intro pins s σ H x y v u Q I rx ry h;obtain ⟨dx,dy,h1,h2,c1,c2,hd,q⟩:=h;obtain ⟨as,r1⟩:=h1.reads I rx c1;obtain ⟨bs,r2⟩:=h2.reads I ry c2;exact PySem.SeqAt.compareEq_reads r1 r2 c1 c2 (by omega) ⟨.bl _,H,I,rfl,q⟩
theorem C12 (hu:X.A.units + 64 < cLine):OpR X (compareOp .NotEq) (rNeD X.K):=by
 intro pins s σ H x y v u Q I rx ry h;obtain ⟨dx,dy,h1,h2,c1,c2,hd,q⟩:=h;obtain ⟨as,r1⟩:=h1.reads I rx c1;obtain ⟨bs,r2⟩:=h2.reads I ry c2;exact PySem.SeqAt.compareNe_reads r1 r2 c1 c2 (by omega) ⟨.bl _,H,I,rfl,q⟩
end
def Kp (p:Addr) (H H':Hp):Prop:=∀ b o,b≠p->H b=some o->H' b=some o
theorem Kp.upd {p:Addr} {H:Hp} {o:HO}:Kp p H (upd H p o):=fun b u n e=>by rw [D7 n]; exact e
theorem Kp.trans {p:Addr} {H H1 H2:Hp} (a:Kp p H H1) (b:Kp p H1 H2):Kp p H H2:=fun c o n e=>b c o n (a c o n e)
theorem Kp.refl {p:Addr} {H:Hp}:Kp p H H:=fun _ _ _ e=>e
theorem Same.kp {p:Addr} {H H':Hp} (a:Same H H'):Kp p H H':=fun b o _ e=>a b o e
theorem Same.upd {p:Addr} {H:Hp} {o:HO} (h:H p=none):Same H (upd H p o):=fun b u e=>by rw [D7 (F5 e h)]; exact e
theorem SqT.same {K:PySem.W.Frag} {H H':Hp} {a:Addr} {xs:List V} (e:Same H H') (h:SqT K H a xs):SqT K H' a xs:=by
 rcases h with (h | ⟨o,h⟩) | h
 ·exact .inl (.inl (e _ _ h))
 ·exact .inl (.inr ⟨o,e _ _ h⟩)
 ·exact .inr h
theorem at0 {α:Type} {x:α} {xs:List α}:atI (x :: xs) 0=some x:=M0 (j:=0) rfl
theorem at1 {α:Type} {x y:α} {xs:List α}:atI (x :: y :: xs) 1=some y:=M0 (j:=1) rfl
theorem at2 {α:Type} {x y z:α} {xs:List α}:atI (x :: y :: z :: xs) 2=some z:=M0 (j:=2) rfl
end L2
namespace L2
open PySem PySem.Spec PyProof.Rows
theorem A3t {prog:Program} {w:World} {A:Around} {R:Result->Shared->Prop} {s:Shared} {elt target iter:Expr} {ifs:List Expr} {scope:Scope} {pos:Pos} {it acc:Value} {env:Env} (I:Nat->Shared->Prop)
    (turn:∀ n s,I n s->wpAny (model prog w) A (pyNext it) (fun r s₁=>match r with
      | none=>R (.ok .next) s₁
      | some v=>wpAny (model prog w) A (letOwnedTupleGo target it v) (fun _ s₁'=>wpAny (model prog w) A (assign target env v) (fun _ s₂ =>
          wpAny (model prog w) A (forIn ifs true fun c r=>if r=true then do let ok <- isTrue c env (eval c env); pure (ForInStep.yield ok) else pure (ForInStep.yield r)) (fun ok s₃ =>
            if ok=true then wpAny (model prog w) A (eval elt env) (fun x s₄ =>
              wpAny (model prog w) A (call (.builtin "list.append") [acc,x]) (fun _ s₅=>∃ m,m < n/\I m s₅) (fun _ _=>False) s₄) (fun _ _=>False) s₃
            else ∃ m,m < n/\I m s₃) (fun _ _=>False) s₂) (fun _ _=>False) s₁') (fun _ _=>False) s₁) (fun _ _=>False) s)
    (n:Nat) (h:I n s):codeAny (model prog w) A (.compLoop (.ListComp elt [⟨target,iter,ifs,0⟩] scope pos) 0 it acc env) R s:=by
  refine codeAny_loop rfl I (fun n s hI=>?_) n h;show wpAny _ A ((compTurn (.ListComp elt [⟨target,iter,ifs,0⟩] scope pos) 0 it acc env).onRaise (fun x=>do noteFrame x env; theTreesLotGoes x)) _ _ s;refine wpAny_noted ?_;rw [compTurn_list];refine wpAny_bind (wpAny_standAt (wpAny_bind (wpAny_mono (turn n s hI) (fun r s₁ h₁=>?_) fun _ _ h'=>h'.elim)));cases r with
  | none=>exact wpAny_pure h₁
  | some v =>
    refine wpAny_bind (wpAny_mono h₁ (fun _ s₁' h₁'=>?_) fun _ _ h'=>h'.elim);refine wpAny_bind (wpAny_mono h₁' (fun _ s₂ h₂=>wpAny_bind (wpAny_mono h₂ (fun ok s₃ h₃=>?_) fun _ _ h'=>h'.elim)) fun _ _ h'=>h'.elim);cases ok with
    | false=>exact wpAny_pure ⟨rfl,h₃⟩
    | true =>
      exact wpAny_bind (wpAny_bind (wpAny_mono h₃ (fun x s₄ h₄=>wpAny_bind (wpAny_mono h₄ (fun _ s₅ h₅=>wpAny_pure (wpAny_pure ⟨rfl,h₅⟩)) fun _ _ h'=>h'.elim)) fun _ _ h'=>h'.elim))
def PTs (X:Cx) (ifs:List Expr) (t:TT):Prop :=
 ∀ (pins:List (Addr × Obj)) (s:Shared) (σ:St) (H:Hp) (Q:Bool->Hp->Prop),Inv X pins σ H s->t σ H Q ->
  wpAny (model X.prog X.w) X.A (forIn ifs true fun c r=>if r=true then do let ok <- isTrue c X.env (eval c X.env); pure (ForInStep.yield ok) else pure (ForInStep.yield r)) (TP X pins σ Q) X.xe s
def tYes:TT:=fun _ H Q=>Q true H
theorem B6h {X:Cx}:PTs X [] tYes:=fun pins s σ H Q I h=>wpAny_tests_nil ⟨H,I,h⟩
theorem B6g {X:Cx} {c:Expr} {t:TT} (h:PT X c t):PTs X [c] t:=fun pins s σ H Q I hw=>wpAny_tests_one (h pins s σ H Q I hw)
def Cx.block (X:Cx) (scope:Scope) (cl:List (Str × Addr)) (N':List Str) (s2:Shared) (H2:Hp) (fp:List Addr):Cx where
 prog:=X.prog
 w:=X.w
 K:=X.K
 mg:=X.mg
 base:=X.base
 A:=X.A
 N:=N'
 s₀:=s2
 H₀:=H2
 env:=compEnvC scope cl s2.heap.objs.size X.env
 outer:=X.stack
 stack:=X.stack
 ex:=fp
 fn:=fun _=>false
 calm:=X.calm
 pn:=[]
 xe:=fun _ _=>False
structure CompSc (X:Cx) (scope:Scope) (cl:List (Str × Addr)) (N':List Str) (cap:List (Option Nat)):Prop where
 clos:closureFor scope X.env=pure cl
 sub:∀ x c,cl.lookup x=some c->X.env.cells.lookup x=some c
 has:∀ x,((relabel scope X.env).names.lookup x=some .cell\/(relabel scope X.env).names.lookup x=some .free)->∃ c,cl.lookup x=some c
 kind:scope.kind=.function
 cell:∀ y ∈ scope.names,y.2≠.cell
 names:∀ y ∈ scope.names,y.2=.local->scope.names.lookup y.1=some .local
 nd:N'.Nodup
 len:cap.length=N'.length
 noloc:∀ x c,cl.lookup x=some c->X.env.kindOf x≠some .local
 capt:∀ (i:Nat) (x:Str) (j:Nat),N'[i]?=some x->cap[i]?=some (some j)->X.N[j]?=some x/\((relabel scope X.env).names.lookup x=some .cell\/(relabel scope X.env).names.lookup x=some .free)/\Vis X.env.scope x/\∃ c,cl.lookup x=some c
def capσ (cap:List (Option Nat)) (σ:St):St:=cap.map fun o=>o.bind fun j=>(σ[j]?).join
section
variable {X:Cx} {pins:List (Addr × Obj)} {σ:St} {H:Hp} {s:Shared} {scope:Scope} {cl:List (Str × Addr)} {N':List Str} {cap:List (Option Nat)} {fp:List Addr}
theorem B3k (I:Inv X pins σ H s) (C:CompSc X scope cl N' cap) (hf:∀ b ∈ fp,FpOk X pins H b) (ho:∀ b ∈ fp,∃ o,s.heap.get? b=some o):(X.block scope cl N' s H fp).Ok where
 mod:=I.ok.mod
 kind:=C.kind
 glob:=I.ok.glob
 blt:=I.ok.blt
 above:=Zv _
 inj:=fun x y c h1 h2=>I.ok.inj x y c (C.sub x c h1) (C.sub y c h2)
 has:=fun x h=>C.has x h
 cab:=fun x c h _=>absurd (show false=true from h) Bool.false_ne_true
 hd:=I.ok.hd
 frames:=I.ok.frames
 stk:=.inl rfl
 exf:=fun b hb=>⟨fun z=>by
  obtain ⟨o,e⟩:=ho b hb;exact absurd (Heap.lt_size e) (by rw [z]; exact Nat.lt_irrefl _),fun x c h=>(hf b hb).2.2.2.2.1 x c (C.sub x c h)⟩
 bs:=I.bs
 bsz:=Zx I.ok.bsz I.sz
 noex:=fun b o e hb=>by
  rcases (hf b hb).2.2.2.1 with z | z
  ·exact I.ok.noex b o e z
  ·exact absurd (Nat.lt_of_lt_of_le (Heap.lt_size e) (Zx I.ok.bsz z)) (Nat.lt_irrefl _)
 exfs:=fun b hb z=>by
  rcases List.mem_cons.mp (I.stkSub b z) with e | e
  ·exact (hf b hb).2.1 e
  ·exact (hf b hb).2.2.1 e
 funs:=I.stack
 frf:=I.stkFree
theorem B1b {h1:Heap} {tk:Nat} {m:Str->Option Value} (I:Inv X pins σ H s) (C:CompSc X scope cl N' cap) (hf:∀ b ∈ fp,FpOk X pins H b) (ho:∀ b ∈ fp,∃ o,s.heap.get? b=some o)
  (hn:h1.Ns s.heap.objs.size m) (hk:∀ b o,s.heap.get? b=some o->h1.get? b=some o):Inv (X.block scope cl N' s H fp) [] (capσ cap σ) H { s with heap:=h1,toks:=tk } where
 ok:=B3k I C hf ho
 os:=rfl
 bare:=I.bare
 base:=Un.kept hk
 loc:=⟨m,hn,fun i x v h1' h2 h3=>by
  unfold capσ at h2;rw [Zh] at h2;cases e:cap[i]? with
  | none=>rw [e] at h2; cases h2
  | some o =>
   rw [e] at h2;cases o with
   | none=>cases h2
   | some j =>
    obtain ⟨q1,q2,q3,c,q4⟩:=C.capt i x j h1' e;have hv:(σ[j]?).join=some v:=Zj h2;have hσ:σ[j]?=some (some v):=by
     cases z:σ[j]? with
     | none=>rw [z] at hv; cases hv
     | some y=>rw [z] at hv; cases (show y=some v from hv); rfl
    obtain ⟨m0,hn0,hl0⟩:=I.loc;obtain ⟨u,r,l⟩:=hl0 j x v q1 hσ q3;refine ⟨u,r,.inr ⟨q2,c,q4,?_⟩⟩;rcases l with ⟨l1,_⟩ | ⟨_,c',l2,l3⟩
    ·exact absurd l1 (C.noloc x c q4)
    ·have:=C.sub x c q4;rw [l2] at this;cases this;exact l3.keeps hk⟩
 cell:=fun x c h=>by
  obtain ⟨v,z⟩:=I.cell x c (C.sub x c h);exact ⟨v,z.keeps hk⟩
 free:=I.hok.fresh (Zv _)
 freeC:=fun x c h=>I.freeC x c (C.sub x c h)
 pin:=fun p hp=>absurd (show p ∈ ([]:List (Addr × Obj)) from hp) (by simp)
 hok:=I.hok.kept hk
 len:=by unfold capσ; rw [Zl]; exact C.len
theorem B1a {H':Hp} {s':Shared} {h':Heap} {σ':St} {pl:List (Addr × Obj)} (I:Inv X pins σ H s) (J:Inv (X.block scope cl N' s H fp) pl σ' H' s') (hf:∀ b ∈ fp,FpOk X pins H b) (hs:Heap.SameBut s.heap.objs.size s'.heap h') :
  Inv X pins σ H' { s' with heap:=h' }:=by
 have ne:∀ b o,s.heap.get? b=some o->b≠s.heap.objs.size:=fun b o e=>Nat.ne_of_lt (Heap.lt_size e);have B:Un (frs X.stack) fp H H' s.heap s'.heap:=J.base;refine I.call' (s':={ s' with heap:=h' }) (ch:=fp) J.os ⟨fun b o e n h1 h2=>?_,fun b o e n h1 h2=>?_,B.free,fun b o e h2=>?_,B.tups,B.frzs,B.tbls⟩ ?_ J.bare (fun b hb=>?_)
 ·show h'.get? b=some o;rw [hs.2 b (ne b o e)]; exact B.keep b o e n h1 h2
 ·show ∃ sl,h'.get? b=_;rw [hs.2 b (ne b o e)]; exact B.slot b o e n h1 h2
 ·show ∃ o',h'.get? b=_;rw [hs.2 b (ne b o e)]; exact B.there b o e h2
 ·intro b u e;have hfree:H' s.heap.objs.size=none:=J.free;have nC:∀ c v,H' c=some v->c≠s.heap.objs.size:=fun c v q z=>by rw [z,hfree] at q; cases q
  refine (J.hok b u e).stay (fun c v hc q=>?_) (fun _ q=>q) fun _ _ q=>q;show h'.get? c=some v;have:c≠s.heap.objs.size:=by
   rcases hc with z | z
   ·rw [z]; exact nC b u e
   ·exact nC c _ z
  rw [hs.2 c this]; exact q
 ·obtain ⟨f0,f1,f2,f3,f4,f5⟩:=hf b hb;exact ⟨f3,f1,f4,f5⟩
end
def A6p (J:It) (g:TG) (tt:TT) (te:TE) (D:Addr) (Fin:Hp->Prop) (σ0:St) (H1:Hp):Prop :=
 ∃ W:Nat->Nat->St->Hp->List V->Prop,(∃ m,W 0 m σ0 (upd H1 D (.lst [])) [])/\∀ i m σ' H' ys,W i m σ' H' ys->H' D=some (.lst ys)/\ys.length < sizeLine /\
  ((J.stop i H'/\Fin H')\/(J.go i H'/\∀ x H2,J.yld i H' x H2->g x σ' H2 fun σ2 H3=>tt σ2 H3 fun b H4=>if b=true then
   te σ2 H4 fun y H5=>∃ zs,H5 D=some (.lst zs)/\zs.length < sizeLine/\∃ m',m' < m/\W (i + 1) m' σ2 (upd H5 D (.lst (zs++[y]))) (zs++[y])
   else ∃ m',m' < m/\W (i + 1) m' σ2 H4 ys))
def B5m (wi:TI) (g:TG) (tt:TT) (te:TE) (cap:List (Option Nat)):TE:=fun σ H Q=>wi σ H fun J H1=>∀ D,H1 D=none->A6p J g tt te D (fun H'=>Q (.ref D) H') (capσ cap σ) H1
section
variable {X:Cx} {scope:Scope} {cl:List (Str × Addr)} {N':List Str} {cap:List (Option Nat)} {elt tg iter:Expr} {ifs:List Expr} {wi:TI} {g:TG} {tt:TT} {te:TE} {pos:Pos}
theorem A32 {pins:List (Addr × Obj)} {σ:St} {H2:Hp} {s2:Shared} {it:Addr} {fp:List Addr} {tn:Nat->Heap->Prop} {J:It} {E:Value->Shared->Prop} {RR:Value->Addr->Result->Shared->Prop} {Fin:Addr->Hp->Prop}
  (hc:X.calm=true) (C:CompSc X scope cl N' cap) (I2:Inv X pins σ H2 s2) (T:Turn X.prog X.w X.K tg J fp it tn) (st2:tn 0 s2.heap) (f2:∀ b ∈ fp,FpOk X pins H2 b)
  (hg:∀ s3 H3 fp,PG (X.block scope cl N' s3 H3 fp) tg g) (ht:∀ s3 H3 fp,PTs (X.block scope cl N' s3 H3 fp) ifs tt) (he:∀ s3 H3 fp,PE (X.block scope cl N' s3 H3 fp) elt te)
  (go:∀ D,H2 D=none->A6p J g tt te D (Fin D) (capσ cap σ) H2)
  (out:∀ (D C:Addr) (s':Shared) (m:Str->Option Value) (H':Hp),s'.heap.Ns C m->C≠X.env.locals->H' C=none->X.s₀.heap.objs.size<=C->(∀ x c,X.env.cells.lookup x=some c->c≠C)->(∀ p ∈ X.pn++pins,p.1≠C)->Fin D H'->Inv X pins σ H' s'->RR (.ref D) C (.ok .next) s') :
  wpAny (model X.prog X.w) X.A (newList []) (fun acc s₃=>wpAny (model X.prog X.w) X.A (newFunctionEnv scope X.env.globals cl [] X.env.qual none .none (some X.env)) (fun cenv s₄ =>
   codeAny (model X.prog X.w) X.A (.compStart (.ListComp elt [⟨tg,iter,ifs,0⟩] scope pos) 0 (.ref it) acc { cenv with scope:=relabel scope X.env }) (RR acc cenv.locals) s₄) E s₃) E s2:=by
 refine wpAny_newObj_type (wpAny_newFunctionEnv C.cell (by intro y hy; simp at hy) (fun h₁ hns₁ hsb₁=>?_) C.kind);have hD:H2 s2.heap.objs.size=none:=I2.hok.fresh (Zv _);obtain ⟨W,⟨m0,w0⟩,turn⟩:=go _ hD;have I3:Inv X pins σ (upd H2 s2.heap.objs.size (.lst [])) { s2 with heap:=s2.heap.push { cls:=.type "list",dict:=none,data:=.seq ([]:List Value).toArray } } :=
  I2.laid (t':=s2.toks) (o:=.lst []) (fun b u e=>Heap.get?_push_of_some _ e) (Zv _) ⟨Nat.zero_le _,[],0,.nil,Heap.get?_push_size _ rfl⟩
 have f3:∀ b ∈ fp,FpOk X pins (upd H2 s2.heap.objs.size (.lst [])) b:=fun b hb=>by
  obtain ⟨f0,fr⟩:=f2 b hb;obtain ⟨o,e,_⟩:=T.obj _ _ st2 b hb;exact ⟨by rw [D7 (Nat.ne_of_lt (Heap.lt_size e))]; exact f0,fr⟩
 generalize hs3:({ s2 with heap:=s2.heap.push { cls:=.type "list",dict:=none,data:=.seq ([]:List Value).toArray } }:Shared)=s3 at hns₁ hsb₁ I3 ⊢;have o3:∀ b o,s2.heap.get? b=some o->s3.heap.get? b=some o:=fun b o e=>by rw [<- hs3]; exact Heap.get?_push_of_some _ e
 have hk:∀ b o,s3.heap.get? b=some o->h₁.get? b=some o:=fun b o e=>by
  rw [hsb₁.2 b (Nat.ne_of_lt (Heap.lt_size e))]; exact Heap.get?_push_of_some _ e
 have st3:tn 0 s3.heap:=T.keep _ _ _ st2 fun b _ o e=>o3 b o e;have ho:∀ b ∈ fp,∃ o,s3.heap.get? b=some o:=fun b hb=>let ⟨o,e,_⟩:=T.obj _ _ st3 b hb; ⟨o,e⟩;have I4:=B1b (tk:=s3.toks + ([]:List (Str × Value)).length) I3 C f3 ho hns₁ hk;have st4:tn 0 h₁:=T.keep _ _ _ st3 fun b _ o e=>hk b o e;have hX:∀ {H':Hp} {pl:List (Addr × Obj)},(∀ b ∈ fp,H' b=none)->(∀ p ∈ pl,p.1 ∉ fp)->∀ b ∈ fp,FpOk (X.block scope cl N' s3 (upd H2 s2.heap.objs.size (.lst [])) fp) pl H' b:=fun {H' pl} hn hp b hb=>by
  refine ⟨hn b hb,I4.ok.exf b hb |>.1,I4.ok.exfs b hb,.inl hb,(I4.ok.exf b hb).2,fun p hp' z=>?_⟩;have hp'':p ∈ pl:=by simpa [Cx.block] using hp'
  exact hp p hp'' (by rw [z]; exact hb)
 have fr3:∀ b ∈ fp,(upd H2 s2.heap.objs.size (.lst [])) b=none:=fun b hb=>(f3 b hb).1;have loop:∀ s₅:Shared,s₅={ s3 with heap:=h₁,toks:=s3.toks + ([]:List (Str × Value)).length } ->
   codeAny (model X.prog X.w) X.A (.compLoop (.ListComp elt [⟨tg,iter,ifs,0⟩] scope pos) 0 (.ref it) (.ref s2.heap.objs.size) (compEnvC scope cl s3.heap.objs.size X.env)) (RR (.ref s2.heap.objs.size) s3.heap.objs.size) s₅:=by
  rintro s₅ rfl;refine A3t (fun n s'=>∃ i σ' H' ys,Inv (X.block scope cl N' s3 (upd H2 s2.heap.objs.size (.lst [])) fp) [] σ' H' s'/\tn i s'.heap/\(∀ b ∈ fp,H' b=none)/\W i n σ' H' ys) ?_ m0 ⟨0,_,_,[],I4,st4,fr3,w0⟩;rintro n s6 ⟨i,σ6,H6,ys,I6,st6,fr6,w6⟩;obtain ⟨hl6,hz6,hgo⟩:=turn i n σ6 H6 ys w6;rcases hgo with ⟨stop,fin⟩ | ⟨go',step⟩
  ·refine wpAny_mono (T.done (X.block scope cl N' s3 (upd H2 s2.heap.objs.size (.lst [])) fp) rfl rfl rfl hc i [] s6 σ6 H6 (fun _ _=>False) I6 (hX fr6 (fun _ z=>nomatch z)) st6 stop) (fun r s7 ⟨hr,I7⟩=>?_) fun _ _ z=>z.elim;subst hr;obtain ⟨m7,hn7,_⟩:=id I7.loc;refine out _ _ s7 m7 H6 hn7 (Nat.ne_of_gt I3.lt) I7.free I3.sz (fun x c e z=>?_) (fun p hp z=>?_) fin (B1a I3 I7 f3 (.refl ..))
   ·obtain ⟨v,q⟩:=I3.cell x c e;exact absurd q.lt (by rw [z]; exact Nat.lt_irrefl _)
   ·exact absurd (Heap.lt_size (I3.pin p hp).1) (by rw [z]; exact Nat.lt_irrefl _)
  ·refine wpAny_mono (T.item (X.block scope cl N' s3 (upd H2 s2.heap.objs.size (.lst [])) fp) rfl rfl rfl hc i [] s6 σ6 H6 (fun _ _=>False) I6 (hX fr6 (fun _ z=>nomatch z)) st6 go') (fun r s7 ⟨u,hr,h7⟩=>?_) fun _ _ z=>z.elim;subst hr;refine wpAny_mono h7 (fun _ s8 ⟨x,H8,I8,r8,y8,st8,fr8⟩=>?_) fun _ _ z=>z.elim;have I8':=I8.pinned (hX fr8 (fun _ z=>nomatch z)) (T.obj _ _ st8);have again:∀ {s9:Shared} {σ9:St} {H9:Hp},Inv (X.block scope cl N' s3 (upd H2 s2.heap.objs.size (.lst [])) fp) ([]++A29 fp s8.heap) σ9 H9 s9->∀ {zs:List V},(∃ m',m' < n/\W (i + 1) m' σ9 H9 zs) ->
     ∃ m,m < n/\∃ i σ' H' ys,Inv (X.block scope cl N' s3 (upd H2 s2.heap.objs.size (.lst [])) fp) [] σ' H' s9/\tn i s9.heap/\(∀ b ∈ fp,H' b=none)/\W i m σ' H' ys:=fun {s9 σ9 H9} I9 {zs} ⟨m',hm,w9⟩=>by
    refine ⟨m',hm,i + 1,σ9,H9,zs,I9.unpinned,T.keep _ _ _ st8 fun b hb o e=>(I9.pin (b,o) (Zw _ (Zw _ (R3 hb e)))).1,fun b hb=>?_,w9⟩;obtain ⟨o,e,d⟩:=T.obj _ _ st8 b hb;exact (I9.pin (b,o) (Zw _ (Zw _ (R3 hb e)))).2.1
   refine wpAny_mono (hg _ _ _ _ s8 σ6 H8 x u _ I8' r8 (step x H8 y8)) (fun _ s9 ⟨σ9,H9,I9,q9⟩=>?_) fun _ _ z=>z.elim;refine wpAny_mono (ht _ _ _ _ s9 σ9 H9 _ I9 q9) (fun ok s10 ⟨H10,I10,q10⟩=>?_) fun _ _ z=>z.elim;cases ok with
   | false=>exact again I10 q10
   | true =>
    rw [if_pos rfl];refine wpAny_mono (he _ _ _ _ s10 σ9 H10 _ I10 q10) (fun yv s11 ⟨y,H11,I11,r11,zs,hz,hlen,q11⟩=>?_) fun _ _ z=>z.elim;refine wpAny_mono (E5 (X:=X.block scope cl N' s3 (upd H2 s2.heap.objs.size (.lst [])) fp) _ s11 σ9 H11 (.ref s2.heap.objs.size) [y] (.ref s2.heap.objs.size) [yv] (fun _ H'=>∃ m',m' < n/\W (i + 1) m' σ9 H' (zs++[y])) I11 rfl (.cons r11 .nil) ⟨_,zs,y,rfl,rfl,hz,hlen,q11⟩) (fun _ s12 ⟨_,H12,I12,_,q12⟩=>?_) fun _ _ z=>z.elim;exact again I12 q12
 exact codeAny_compStart_list (loop _ rfl) (T.self _ 0 _ _ _ st4 (loop _ rfl))
theorem B6y (hc:X.calm=true) (C:CompSc X scope cl N' cap) (hi:PI X tg iter wi) (hg:∀ s3 H3 fp,PG (X.block scope cl N' s3 H3 fp) tg g) (ht:∀ s3 H3 fp,PTs (X.block scope cl N' s3 H3 fp) ifs tt)
  (he:∀ s3 H3 fp,PE (X.block scope cl N' s3 H3 fp) elt te) (hs:∀ x,foldedSetIterable iter X.env x=pure x:=by intro _; rfl):PE X (.ListComp elt [⟨tg,iter,ifs,0⟩] scope pos) (B5m wi g tt te cap):=by
 intro pins s σ H Q I h;rw [eval_ListComp];refine wpAny_comprehension_free (use:=none) rfl hs C.clos C.kind C.names (thn (hi pins s σ H _ I h) fun v s1 h1=>thn h1 fun itv s2 h2=>?_);obtain ⟨it,fp,tn,J,H2,e,I2,T,st2,f2,go⟩:=h2;subst e;refine A32 (RR:=fun acc C=>compPost (model X.prog X.w) X.A X.xe none (EP X pins σ Q) acc C) (Fin:=fun D H'=>Q (.ref D) H') hc C I2 T st2 f2 hg ht he go ?_;intro D C' s' m H' hn n1 n2 n3 n4 n5 fin inv;exact ⟨m,hn,fun h' hs'=>⟨.ref D,H',inv.turned (t':=s'.toks) (fun b o hb e=>(hs'.2 b hb).trans e) n2 n1 (.inr n3) n4 n5,rfl,fin⟩⟩
end
end L2
namespace L2
open PySem PySem.Spec PyProof.Rows
def A3v (env:Env):List (Str × NameKind)->List (Str × Addr)->List (Str × Addr)
 | [],acc=>acc
 | (n,k) :: r,acc=>A3v env r (if (k == .free)=true then (n,(env.cells.lookup n).getD 0) :: acc else acc)
theorem A2g {env:Env}:∀ (l:List (Str × NameKind)) (acc:List (Str × Addr)),(∀ p ∈ l,p.2=.free->(env.cells.lookup p.1).isSome=true) ->
  (forIn l acc (fun x s=>match x with
   | (name,kind)=>if (kind == NameKind.free)=true then do
     let a <- cellOf env name
     pure (ForInStep.yield ((name,a) :: s))
    else pure (ForInStep.yield s)):Sem (List (Str × Addr)))=pure (A3v env l acc)
 | [],acc,_=>rfl
 | (n,k) :: r,acc,h=>by
  rw [List.forIn_cons];have hr:=fun p hp=>h p (Zr _ hp);by_cases hk:(k == NameKind.free)=true
  ·have h1:=h (n,k) Zy (by simpa using hk);obtain ⟨c,hc⟩:=Option.isSome_iff_exists.mp h1;have hc:env.cells.lookup n=some c:=hc;have e1:cellOf env n=pure c:=by unfold cellOf; rw [hc]
   simp only [hk,if_true,e1,pure_bind];rw [A2g r _ hr];show _=pure (A3v env r (if (k == .free)=true then (n,(env.cells.lookup n).getD 0) :: acc else acc));rw [if_pos hk,hc];rfl
  ·simp only [hk,Bool.false_eq_true,if_false,pure_bind];rw [A2g r _ hr];show _=pure (A3v env r (if (k == .free)=true then (n,(env.cells.lookup n).getD 0) :: acc else acc));rw [if_neg hk]
theorem A3u {env:Env}:∀ (l:List (Str × NameKind)) (acc:List (Str × Addr)) (p:Str × Addr),p ∈ A3v env l acc->p ∈ acc\/((p.1,NameKind.free) ∈ l/\p.2=(env.cells.lookup p.1).getD 0)
 | [],acc,p,h=>.inl h
 | (n,k) :: r,acc,p,h=>by
  rcases A3u r _ p h with z | ⟨z,e⟩
  ·by_cases hk:(k == NameKind.free)=true
   ·rw [if_pos hk] at z;rcases List.mem_cons.mp z with rfl | z
    ·right;have:k=.free:=by simpa using hk
     subst this;exact ⟨Zy,rfl⟩
    ·exact .inl z
   ·rw [if_neg hk] at z;exact .inl z
  ·exact .inr ⟨Zr _ z,e⟩
theorem A0j {env:Env}:∀ (l:List (Str × NameKind)) (acc:List (Str × Addr)) (x:Str),((∃ c,(x,c) ∈ acc)\/(x,NameKind.free) ∈ l)->∃ c,(x,c) ∈ A3v env l acc
 | [],acc,x,h=>by
  rcases h with h | h
  ·exact h
  ·exact absurd h (by simp)
 | (n,k) :: r,acc,x,h=>by
  refine A0j r _ x ?_;rcases h with ⟨c,h⟩ | h
  ·left;by_cases hk:(k == NameKind.free)=true
   ·rw [if_pos hk]; exact ⟨c,Zr _ h⟩
   ·rw [if_neg hk]; exact ⟨c,h⟩
  ·rcases List.mem_cons.mp h with e | h
   ·left;cases e;rw [if_pos (by rfl)];exact ⟨_,Zy⟩
   ·exact .inr h
theorem P3 {β:Type} {x:Str}:∀ {l:List (Str × β)} {c:β},(x,c) ∈ l->∃ c',l.lookup x=some c'
 | (n,d) :: r,c,h=>by
  by_cases e:x=n
  ·subst e; exact ⟨d,by simp [List.lookup_cons]⟩
  ·rcases List.mem_cons.mp h with z | z
   ·cases z; exact absurd rfl e
   ·obtain ⟨c',q⟩:=P3 z;refine ⟨c',?_⟩;rw [List.lookup_cons];have:(x == n)=false:=by simpa using e
    rw [this]; exact q
theorem R4 {scope:Scope} {env:Env} {x:Str} {k:NameKind} (hcell:∀ y ∈ scope.names,y.2≠.cell) (h:(relabel scope env).names.lookup x=some k) (hk:k=.cell\/k=.free):(x,NameKind.free) ∈ scope.names:=by
 have h1:=PySem.mem_of_lookup h;obtain ⟨⟨n,k'⟩,hm,e⟩:=List.mem_map.mp (show (x,k) ∈ scope.names.map _ from h1);dsimp only at e;split at e
 ·rename_i q;cases e;simp only [Bool.and_eq_true] at q;have:k'=.free:=by simpa using q.1.1
  subst this;exact hm
 ·cases e;rcases hk with rfl | rfl
  ·exact absurd rfl (hcell _ hm)
  ·exact hm
theorem Q0 {env:Env} {x:Str}:∀ {l:List (Str × NameKind)},l.lookup x=some .free ->
  (l.map fun (n,k)=>if (k == NameKind.free && env.scope.kind == .function && env.kindOf n == some .cell) then (n,NameKind.cell) else (n,k)).lookup x=some .cell \/
  (l.map fun (n,k)=>if (k == NameKind.free && env.scope.kind == .function && env.kindOf n == some .cell) then (n,NameKind.cell) else (n,k)).lookup x=some .free
 | [],h=>by simp at h
 | (n,k) :: r,h=>by
  rw [List.lookup_cons] at h;rw [List.map_cons];dsimp only;by_cases e:(x == n)=true
  ·rw [e] at h;have hk:k=.free:=by simpa using h
   subst hk;by_cases q:(NameKind.free == NameKind.free && env.scope.kind == .function && env.kindOf n == some .cell)=true
   ·left; rw [if_pos q,List.lookup_cons,e]
   ·right; rw [if_neg q,List.lookup_cons,e]
  ·have e':(x == n)=false:=by simpa using e
   rw [e'] at h;have:=Q0 (env:=env) h;by_cases q:(k == NameKind.free && env.scope.kind == .function && env.kindOf n == some .cell)=true
   ·rw [if_pos q,List.lookup_cons,e']; exact this
   ·rw [if_neg q,List.lookup_cons,e']; exact this
theorem A2y {scope:Scope} {env:Env} {x:Str} (h:scope.names.lookup x=some .free):(relabel scope env).names.lookup x=some .cell\/(relabel scope env).names.lookup x=some .free:=Q0 h
theorem C5 {X:Cx} {scope:Scope} (N':List Str) (cap:List (Option Nat))
  (h1:scope.names.all (fun p=>!(p.2 == .free) || ((X.env.cells.lookup p.1).isSome && !(X.env.kindOf p.1 == some .local)))=true:=by exact rfl)
  (hk:scope.kind=.function:=by exact rfl) (h2:scope.names.all (fun p=>!(p.2 == .cell))=true:=by exact rfl) (h3:scope.names.all (fun p=>!(p.2 == .local) || scope.names.lookup p.1 == some .local)=true:=by exact rfl)
  (nd:N'.Nodup:=by decide +kernel) (len:cap.length=N'.length:=by exact rfl)
  (h4:(N'.zip cap).all (fun q=>match q.2 with | none=>true | some j=>(X.N[j]? == some q.1) && (scope.names.lookup q.1 == some .free) && (X.env.scope.names.lookup q.1 == some .cell || X.env.scope.names.lookup q.1 == some .free))=true:=by exact rfl) :
  CompSc X scope (A3v X.env scope.names []) N' cap:=by
 have hfree:∀ p ∈ scope.names,p.2=.free->(X.env.cells.lookup p.1).isSome=true/\X.env.kindOf p.1≠some .local:=fun p hp e=>by
  have:=List.all_eq_true.mp h1 p hp;rw [e] at this;have this:((X.env.cells.lookup p.1).isSome && !(X.env.kindOf p.1 == some .local))=true:=this;rw [Bool.and_eq_true] at this;refine ⟨this.1,fun z=>?_⟩;rw [z] at this;exact absurd this.2 (by decide)
 have hcell:∀ y ∈ scope.names,y.2≠.cell:=fun y hy e=>by
  have:=List.all_eq_true.mp h2 y hy;rw [e] at this;exact absurd this (by decide)
 have memsub:∀ x c,(A3v X.env scope.names []).lookup x=some c->(x,NameKind.free) ∈ scope.names/\X.env.cells.lookup x=some c:=fun x c h=>by
  rcases A3u _ _ _ (PySem.mem_of_lookup h) with z | ⟨z,e⟩
  ·exact absurd z (by simp)
  ·refine ⟨z,?_⟩;obtain ⟨c',hc'⟩:=Option.isSome_iff_exists.mp (hfree _ z rfl).1;have hc':X.env.cells.lookup x=some c':=hc';have e:c=(X.env.cells.lookup x).getD 0:=e;rw [hc'] at e ⊢;exact congrArg some e.symm
 refine ⟨?_,fun x c h=>(memsub x c h).2,fun x h=>?_,hk,hcell,fun y hy e=>?_,nd,len,fun x c h=>(hfree _ (memsub x c h).1 rfl).2,fun i x j hi hc=>?_⟩
 ·unfold closureFor;show (forIn scope.names [] _ >>= fun r=>pure r)=_;rw [A2g scope.names [] fun p hp e=>(hfree p hp e).1];rfl
 ·have hm:(x,NameKind.free) ∈ scope.names:=by
   rcases h with h | h
   ·exact R4 hcell h (.inl rfl)
   ·exact R4 hcell h (.inr rfl)
  obtain ⟨c,hc⟩:=A0j (env:=X.env) scope.names [] x (.inr hm);exact P3 hc
 ·have:=List.all_eq_true.mp h3 y hy;rw [e] at this;simpa using this
 ·have hz:(x,some j) ∈ N'.zip cap:=by
   refine List.mem_iff_getElem?.mpr ⟨i,?_⟩;rw [List.getElem?_zip_eq_some];exact ⟨hi,hc⟩
  have:=List.all_eq_true.mp h4 _ hz;simp only [Bool.and_eq_true,Bool.or_eq_true,beq_iff_eq] at this;obtain ⟨⟨q1,q2⟩,q3⟩:=this;refine ⟨q1,A2y q2,?_,?_⟩
  ·rcases q3 with q | q
   ·exact .inr (.inl q)
   ·exact .inr (.inr q)
  ·obtain ⟨c,hc⟩:=A0j (env:=X.env) scope.names [] x (.inr (PySem.mem_of_lookup q2));exact P3 hc
def X2 (wi:TI) (g:TG) (tt:TT) (te:TE) (cap:List (Option Nat)) (i:Nat):TS:=fun D σ H=>wi σ H fun J H1=>∀ l,H1 l=none->A6p J g tt te l (fun H'=>D.nx (σ.set i (some (.ref l))) H') (capσ cap σ) H1
section
variable {X:Cx} {scope:Scope} {cl:List (Str × Addr)} {N':List Str} {cap:List (Option Nat)} {elt tg iter:Expr} {ifs:List Expr} {wi:TI} {g:TG} {tt:TT} {te:TE} {pos spos py:Pos} {y:Str} {i:Nat}
theorem A64 (hc:X.calm=true) (hN:X.N.Nodup) (hi:X.N[i]?=some y) (hy:X.env.scope.names.lookup y=some .local) (C:CompSc X scope cl N' cap) (hit:PI X tg iter wi) (hg:∀ s3 H3 fp,PG (X.block scope cl N' s3 H3 fp) tg g)
  (ht:∀ s3 H3 fp,PTs (X.block scope cl N' s3 H3 fp) ifs tt) (he:∀ s3 H3 fp,PE (X.block scope cl N' s3 H3 fp) elt te)
  (hsw:swapsWith (.ListComp elt [⟨tg,iter,ifs,0⟩] scope pos) (some (.Name y py)) spos.line X.env=pure true) (hs:∀ x,foldedSetIterable iter X.env x=pure x:=by intro _; rfl) :
  PS X (.Assign [.Name y py] (.ListComp elt [⟨tg,iter,ifs,0⟩] scope pos) spos) (X2 wi g tt te cap i):=by
 intro pins s σ H D I h;rw [exec_Assign_Name_used _ _ _ _ hsw];refine wpAny_bind (wpAny_standAt (wpAny_bind ?_));show wpAny _ X.A (do let _ <- comprehension (.ListComp elt [⟨tg,iter,ifs,0⟩] scope pos) scope X.env _ (newList []) false (eval iter X.env) (some (assign (.Name y py) X.env))) _ _ s;refine wpAny_bind (wpAny_mono (wpAny_comprehension_free (use:=some (assign (.Name y py) X.env)) (Q:=fun _ s'=>SP X pins D .next s') rfl hs C.clos C.kind C.names
  (thn (hit pins s σ H _ I h) fun v s1 h1=>thn h1 fun itv s2 h2=>?_)) (fun _ s' hq=>wpAny_pure (wpAny_pure hq)) fun _ _ e=>e)
 obtain ⟨it,fp,tn,J,H2,e,I2,T,st2,f2,go⟩:=h2;subst e;refine A32 (RR:=fun acc C=>compPost (model X.prog X.w) X.A X.xe (some (assign (.Name y py) X.env)) (fun _ s'=>SP X pins D .next s') acc C) (Fin:=fun l H'=>D.nx (σ.set i (some (.ref l))) H') hc C I2 T st2 f2 hg ht he go ?_;intro l C' s' m H' hn n1 n2 n3 n4 n5 fin inv;show wpAny _ X.A (assign (.Name y py) X.env (.ref l)) _ _ _;refine wpAny_assign_Name (A2t (v:=.ref l) inv hN hi (.inl hy) rfl (fun s'' I'' ⟨a,sb,ha⟩=>?_) (.inr hy));have na:C'≠a:=by
  rcases ha with e | e
  ·rw [e]; exact n1
  ·exact (n4 _ _ e).symm
 exact ⟨m,hn.sameBut sb na,fun h' hs'=>⟨_,H',I''.turned (t':=s''.toks) (fun b o hb e=>(hs'.2 b hb).trans e) n2 n1 (.inr n3) n4 n5,fin⟩⟩
end
section
variable {X:Cx} {K:PySem.W.Frag}
theorem B23 (h:X.K=K):IxR X (rIxL K):=by subst h; exact ix_list
theorem B6u {pos:Pos} {es:List Expr} {k:Nat} {t:TGs} {n:Nat} (h:X.K=K) (hc:X.calm=true) (hg:PGs X es t)
  (hn:(assignEach es X.env).length=n:=by rfl) (hst:(assignEach es X.env).findIdx? (·.1)=none:=by rfl):PG X (.Tuple es k pos) (gTup K n t):=by subst h; exact C0o hc hg hn hst
end
end L2
namespace Prf
open PySem L2 My
abbrev Hpp:=L2.Hp
structure StAt (H:Hpp) (p:Addr):Prop where
 ex:∃ (c m:Int) (f:Bool),H p=some (.lst [.int c,.int m,.bl f])/\0<=m/\m < 2147483648
theorem StAt.same {H H':Hpp} {p:Addr} (h:StAt H p) (e:Same H H'):StAt H' p:=by
 obtain ⟨c,m,f,h,r⟩:=h.ex; exact ⟨c,m,f,e _ _ h,r⟩
theorem StAt.kp {H H':Hpp} {p l:Addr} (h:StAt H p) (n:p≠l) (e:Kp l H H'):StAt H' p:=by
 obtain ⟨c,m,f,h,r⟩:=h.ex; exact ⟨c,m,f,e _ _ n h,r⟩
def A79:Sp:=fun vs H Q _=>∃ (p:Addr) (n:Int),vs=[.ref p,.int n]/\StAt H p/\0 < n/\Sm 4000 n/\∀ d H',0<=d->d < n->StAt H' p->Kp p H H'->Q (.int d) H'
def B5t (K:PySem.W.Frag):Sp:=fun vs H Q _=>∃ (a:Addr) (ns:List Int),vs=[.ref a]/\SqL K H a (ns.map V.int)/\ns.length<=63/\∀ H',Q (.bl true) H'
theorem sm32 {m:Int} (h0:0<=m) (h1:m < 2147483648):Sm 8000 m:=Sm.mono (k:=32) (by unfold Sm; omega) (by decide)
theorem A05 {m:Int} (n:Nat) (h:m.natAbs < 2 ^ 64:=by decide):Sm 8000 m:=Sm.mono (k:=64) h (by decide)
theorem A2v {k:Nat} {t b:Int} (h:Sm k b) (hb:b≠0):Sm k ((Int.gcd t b:Nat):Int):=by
 have h1:Int.gcd t b ∣ b.natAbs:=Nat.gcd_dvd_right _ _;have h2:=Nat.le_of_dvd (by omega) h1;exact h.le (by simpa using h2)
theorem B9w {k:Nat} {t b:Int} (h:Sm k b) (hb:b≠0):Sm k (sh t b):=by
 have h1:Int.gcd t b ∣ b.natAbs:=Nat.gcd_dvd_right _ _;have h2:=Nat.le_of_dvd (by omega) h1;exact h.le (by rw [B90]; exact h2)
end Prf
namespace Prf
open PySem L2 My
theorem A6n (n:Nat) (h:(n:Int)<=1000000:=by decide):CPow 10 (n:Int):=⟨by omega,h,by decide⟩
theorem sm4 (n:Int) (h:n.natAbs < 2 ^ 64:=by decide):Sm 4000 n:=Sm.mono (k:=64) h (by decide)
theorem B9x (b:Bool):Sm 8000 (if b=true then (1:Int) else 0):=by cases b <;> exact A05 0
theorem C2w:kitB "tuple" "tuple"=some true:=by decide +kernel
theorem C20:kitB "int" "bool"=some false:=by decide +kernel
end Prf
namespace Prf
open PySem L2 My
inductive R2L {α:Type} (P:Addr->α->Prop):List V->List α->Prop
 | nil:R2L P [] []
 | cons {a:Addr} {q:α} {rs:List V} {qs:List α}:P a q->R2L P rs qs->R2L P (.ref a :: rs) (q :: qs)
section
variable {α:Type} {P P':Addr->α->Prop}
theorem R2L.get:∀ {rs qs} {i:Nat} {x:V},R2L P rs qs->rs[i]?=some x->∃ a q,x=.ref a/\qs[i]?=some q/\P a q
 | _,_,_,_,.nil,e=>by simp at e
 | _,_,0,_,.cons h _,e=>by simp at e; subst e; exact ⟨_,_,rfl,rfl,h⟩
 | _,_,i + 1,x,.cons _ t,e=>by
  obtain ⟨a,q,h1,h2,h3⟩:=R2L.get (i:=i) (x:=x) t (by simpa using e);exact ⟨a,q,h1,by simpa using h2,h3⟩
end
structure OfOk (cs:LR) (a b c d:Nat):Prop where
 ne:1<=cs.length
 le:cs.length<=5
 dec:Dec cs
 sm:∀ x ∈ cs,SmR a b x.1/\SmR c d x.2
def dq (q:Rat):PyData:=.tuple [.int q.num,.int q.den]
def dcn (c:Rat × Rat):PyData:=.tuple [dq c.1,dq c.2]
theorem M1 {k:Nat} {z:Int} {B:Nat} (h0:-(B:Int)<=z) (h1:z<=B) (hB:B < 2 ^ k):Sm k z:=by
 unfold Sm; omega
end Prf
set_option maxHeartbeats 4000000
namespace L2
open PySem
theorem SqD.same {K:PySem.W.Frag} {F F':Hp} {a:Addr} {xs:List V} (e:Same F F') (h:SqD K F a xs):SqD K F' a xs:=⟨SqT.same e h.1,h.2.imp (e _ _) id⟩
mutual
theorem Den.same {K:PySem.W.Frag} {F F':Hp} (e:Same F F'):∀ {v:V} {x:PyData},Den K F v x->Den K F' v x
 | _,_,.non=>.non
 | _,_,.bl b=>.bl b
 | _,_,.int i=>.int i
 | _,_,.str x=>.str x
 | _,_,.lst h t=>.lst (e.seq h) (DenAll.same e t)
 | _,_,.tup h t=>.tup (SqD.same e h) (DenAll.same e t)
 | _,_,.dct h=>.dct (e _ _ h)
theorem DenAll.same {K:PySem.W.Frag} {F F':Hp} (e:Same F F'):∀ {vs:List V} {xs:LP},DenAll K F vs xs->DenAll K F' vs xs
 | _,_,.nil=>.nil
 | _,_,.cons h t=>.cons (Den.same e h) (DenAll.same e t)
end
section
variable {K:PySem.W.Frag} {F:Hp}
theorem Den.intE {v:V} {i:Int} (h:Den K F v (.int i)):v=.int i:=by cases h; rfl
theorem Den.blE {v:V} {b:Bool} (h:Den K F v (.bool b)):v=.bl b:=by cases h; rfl
theorem Den.strE {v:V} {s:Str} (h:Den K F v (.str s)):v=.str s:=by cases h; rfl
theorem Den.nonE {v:V} (h:Den K F v .none):v=.non:=by cases h; rfl
theorem Den.tupE {v:V} {xs:LP} (h:Den K F v (.tuple xs)):∃ a vs,v=.ref a/\SqT K F a vs/\DenAll K F vs xs:=by cases h with | tup h t=>exact ⟨_,_,rfl,h.1,t⟩
theorem Den.pairE {v:V} {c:Str} {i:Int} (h:Den K F v (.tuple [.str c,.int i])):∃ a,v=.ref a/\F a=some (.tup [.str c,.int i]):=by
 cases h with
 | tup h t =>
  cases t with
  | cons h1 t=>cases t with
   | cons h2 t =>
    cases t; cases h1; cases h2;exact ⟨_,rfl,h.2.resolve_right fun z=>z _ _ rfl⟩
theorem Den.lstE {v:V} {xs:LP} (h:Den K F v (.list xs)):∃ a vs,v=.ref a/\SqL K F a vs/\DenAll K F vs xs:=by cases h; exact ⟨_,_,rfl,‹_›,‹_›⟩
theorem DenAll.len:∀ {vs:List V} {xs:LP},DenAll K F vs xs->vs.length=xs.length
 | _,_,.nil=>rfl
 | _,_,.cons _ t=>congrArg (· + 1) (DenAll.len t)
theorem DenAll.get:∀ {vs:List V} {xs:LP} {i:Nat} {v:V},DenAll K F vs xs->vs[i]?=some v->∃ x,xs[i]?=some x/\Den K F v x
 | _,_,_,_,.nil,e=>by simp at e
 | _,_,0,_,.cons h _,e=>by simp at e; subst e; exact ⟨_,rfl,h⟩
 | _,_,i + 1,v,.cons _ t,e=>by
  obtain ⟨x,h1,h2⟩:=DenAll.get (i:=i) (v:=v) t (by simpa using e);exact ⟨x,by simpa using h1,h2⟩
theorem DenAll.at:∀ {vs:List V} {xs:LP} {i:Nat} {x:PyData},DenAll K F vs xs->xs[i]?=some x->∃ v,vs[i]?=some v/\Den K F v x
 | _,_,_,_,.nil,e=>by simp at e
 | _,_,0,_,.cons h _,e=>by simp at e; subst e; exact ⟨_,rfl,h⟩
 | _,_,i + 1,x,.cons _ t,e=>by
  obtain ⟨v,h1,h2⟩:=DenAll.at (i:=i) (x:=x) t (by simpa using e);exact ⟨v,by simpa using h1,h2⟩
theorem DenAll.app:∀ {vs us:List V} {xs ys:LP},DenAll K F vs xs->DenAll K F us ys->DenAll K F (vs++us) (xs++ys)
 | _,_,_,_,.nil,h=>h
 | _,_,_,_,.cons h t,h'=>.cons h (DenAll.app t h')
theorem DenAll.drop:∀ {vs:List V} {xs:LP} (n:Nat),DenAll K F vs xs->DenAll K F (vs.drop n) (xs.drop n)
 | _,_,0,h=>by simpa using h
 | _,_,_ + 1,.nil=>by simpa using DenAll.nil
 | _,_,n + 1,.cons _ t=>by simpa using DenAll.drop n t
theorem DenAll.take:∀ {vs:List V} {xs:LP} (n:Nat),DenAll K F vs xs->DenAll K F (vs.take n) (xs.take n)
 | _,_,0,_=>by simpa using DenAll.nil
 | _,_,_ + 1,.nil=>by simpa using DenAll.nil
 | _,_,n + 1,.cons h t=>by simpa using DenAll.cons h (DenAll.take n t)
theorem DenAll.dropLast {vs:List V} {xs:LP} (h:DenAll K F vs xs):DenAll K F vs.dropLast xs.dropLast:=by
 rw [List.dropLast_eq_take,List.dropLast_eq_take,h.len]; exact h.take _
theorem DenAll.atIE {vs:List V} {xs:LP} {i:Int} {x:PyData} (h:DenAll K F vs xs) (e:L2.atI xs i=some x):∃ v,L2.atI vs i=some v/\Den K F v x:=by
 unfold L2.atI at *;rw [h.len];cases q:ixN xs.length i with
 | none=>rw [q] at e; cases e
 | some j=>rw [q] at e; exact DenAll.at h e
end
end L2
namespace Pu
open PySem L2 My Prf
abbrev Frag:=PySem.W.Frag
inductive OT where
 | leaf (x:PyData) | nd (b:Bool) (a:Addr) (k:OT) | nil | cons (h t:OT)
def OT.fp:OT->List Addr
 | .leaf _=>[]
 | .nd _ a k=>a :: k.fp
 | .nil=>[]
 | .cons h t=>h.fp++t.fp
def OT.dat:OT->LP
 | .leaf x=>[x]
 | .nd true _ k=>[.list k.dat]
 | .nd false _ k=>[.tuple k.dat]
 | .nil=>[]
 | .cons h t=>h.dat++t.dat
def OT.put (a:Addr) (n:OT):OT->OT
 | .leaf x=>.leaf x
 | .nd b a' k=>.nd b a' (if a'=a then n else OT.put a n k)
 | .nil=>.nil
 | .cons h t=>.cons (OT.put a n h) (OT.put a n t)
inductive SV where
 | d (x:PyData) | own (xs:LP) | bor (xs:LP) | st | tr (t:OT) | bt (t:OT) | al (a:Addr) | dk (ks:List (Str × Int))
def SV.foot (v:V):SV->Addr->Prop
 | .own _,a=>v=.ref a
 | .dk _,a=>v=.ref a
 | .tr t,a=>a ∈ t.fp
 | _,_=>False
def SV.isRes:SV->Bool
 | .bor _=>false
 | .bt _=>false
 | .al _=>false
 | _=>true
abbrev PEnv:=List (Option SV)
structure Wd where
 M:Addr->Prop
 H:Hpp
 F:Hpp
structure Wd.Ok (w:Wd):Prop where
 sub:Same w.F w.H
 st:∀ p,w.M p->StAt w.H p
 nf:∀ p,w.M p->w.F p=none
structure Lw (w w':Wd):Prop where
 f:Same w.F w'.F
 h:∀ b o,w.H b=some o->¬ w.M b->w'.H b=some o
 m:∀ b,w.M b->w'.M b
 mn:∀ b,w'.M b->w.M b\/w.H b=none
 dom:∀ b,w'.H b=none->w.H b=none
structure Le (w w':Wd):Prop extends Lw w w' where
 n:∀ a o,w'.F a=some o->w.F a=some o\/w.H a=none
theorem Lw.refl (w:Wd):Lw w w:=⟨Same.refl _,fun _ _ h _=>h,fun _ h=>h,fun _ h=>.inl h,fun _ h=>h⟩
theorem Le.refl (w:Wd):Le w w:=⟨Lw.refl w,fun _ _ h=>.inl h⟩
theorem Lw.nm {w w':Wd} (a:Lw w w') {b:Addr} (h:w.H b≠none) (n:¬ w.M b):¬ w'.M b:=fun z=>(a.mn b z).elim n h
theorem Lw.trans {w w1 w2:Wd} (a:Lw w w1) (b:Lw w1 w2):Lw w w2 :=
 ⟨a.f.trans b.f,fun c o h n=>b.h c o (a.h c o h n) (a.nm (by rw [h]; simp) n),fun c h=>b.m c (a.m c h),
  fun c h=>(b.mn c h).elim (a.mn c) fun z=>.inr (a.dom c z),fun c h=>a.dom c (b.dom c h)⟩
theorem Le.trans {w w1 w2:Wd} (a:Le w w1) (b:Le w1 w2):Le w w2 :=
 ⟨a.toLw.trans b.toLw,fun c o h=>(b.n c o h).elim (a.n c o) fun z=>.inr (a.dom c z)⟩
theorem Le.fnone {w w':Wd} (a:Le w w') {l:Addr} (h:w.F l=none) (h':w.H l≠none):w'.F l=none:=by
 cases q:w'.F l with
 | none=>rfl
 | some o =>
  rcases a.n l o q with z | z
  ·rw [h] at z; cases z
  ·exact absurd z h'
structure Ct where
 K:Frag
 w0:Wd
 Z:Addr->Prop
def VV (K:Frag) (w:Wd) (v:V) (x:PyData):Prop:=Den K w.F v x\/∃ l vs xs,v=.ref l/\x=.list xs/\w.H l=some (.lst vs)/\¬ w.M l/\DenAll K w.F vs xs
def ho:Bool->List V->HO
 | true,vs=>.lst vs
 | false,vs=>.tup vs
def Tre (K:Frag) (w:Wd):OT->List V->Prop
 | .leaf x,vs=>∃ v,vs=[v]/\Den K w.F v x
 | .nd b a k,vs=>vs=[.ref a]/\∃ us,w.H a=some (ho b us)/\Tre K w k us
 | .nil,vs=>vs=[]
 | .cons h t,vs=>∃ v r,vs=v :: r/\Tre K w h [v]/\Tre K w t r
theorem Tre.mono {K:Frag} {w w':Wd} (a:Lw w w'):∀ {t:OT} {vs:List V},Tre K w t vs->(∀ a ∈ t.fp,¬ w.M a)->Tre K w' t vs
 | .leaf _,_,⟨v,e,h⟩,_=>⟨v,e,Den.same a.f h⟩
 | .nd _ p _,_,⟨e,us,h,k⟩,n=>⟨e,us,a.h _ _ h (n p (by simp [OT.fp])),Tre.mono a k fun q hq=>n q (by simp [OT.fp,hq])⟩
 | .nil,_,e,_=>e
 | .cons _ _,_,⟨v,r,e,h,t⟩,n=>⟨v,r,e,Tre.mono a h fun q hq=>n q (by simp [OT.fp,hq]),Tre.mono a t fun q hq=>n q (by simp [OT.fp,hq])⟩
theorem Tre.sameF {K:Frag} {M:Addr->Prop} {H F F':Hpp} (e:Same F F'):∀ {t:OT} {vs:List V},Tre K ⟨M,H,F⟩ t vs->Tre K ⟨M,H,F'⟩ t vs
 | .leaf _,_,⟨v,q,h⟩=>⟨v,q,Den.same e h⟩
 | .nd _ _ _,_,⟨q,us,h,k⟩=>⟨q,us,h,Tre.sameF e k⟩
 | .nil,_,q=>q
 | .cons _ _,_,⟨v,r,q,h,t⟩=>⟨v,r,q,Tre.sameF e h,Tre.sameF e t⟩
def VR (c:Ct) (w:Wd) (v:V):SV->Prop
 | .d x=>Den c.K w.F v x
 | .own xs=>∃ l vs,v=.ref l/\w.H l=some (.lst vs)/\w.F l=none/\¬ w.M l/\c.w0.H l=none/\DenAll c.K w.F vs xs
 | .bor xs=>Den c.K w.F v (.list xs)\/∃ l vs,v=.ref l/\c.w0.H l=some (.lst vs)/\¬ c.w0.M l/\DenAll c.K w.F vs xs
 | .st=>∃ p,v=.ref p/\w.M p
 | .tr t=>Tre c.K w t [v]/\(∀ a ∈ t.fp,w.H a≠none/\w.F a=none/\¬ w.M a/\c.w0.H a=none)/\t.fp.Nodup
 | .bt t=>Tre c.K ⟨c.w0.M,c.w0.H,w.F⟩ t [v]/\∀ a ∈ t.fp,¬ c.w0.M a
 | .al a=>v=.ref a
 | .dk ks=>∃ l,v=.ref l/\w.H l=some (.dT (ks.map fun k=>([Sum.inr k.1,Sum.inl k.2],V.bl true)))/\w.F l=none/\¬ w.M l/\c.w0.H l=none
theorem B1j {H:Hpp} {p b:Addr} {o:HO} (h:upd H p o b=none):H b=none:=by
 unfold upd at h; split at h
 ·cases h
 ·exact h
theorem VR.foot {c:Ct} {w:Wd} {v:V} {a:Addr}:∀ {s:SV},VR c w v s->s.foot v a->w.H a≠none/\w.F a=none/\¬ w.M a/\c.w0.H a=none
 | .own _,⟨l,vs,e,h1,h2,h3,h4,_⟩,f=>by
  have:V.ref l=.ref a:=e.symm.trans f;cases this;exact ⟨by rw [h1]; simp,h2,h3,h4⟩
 | .dk _,⟨l,e,h1,h2,h3,h4⟩,f=>by
  have:V.ref l=.ref a:=e.symm.trans f;cases this;exact ⟨by rw [h1]; simp,h2,h3,h4⟩
 | .tr _,h,f=>h.2.1 a f
theorem VV.mono {K:Frag} {w w':Wd} {v:V} {x:PyData} (a:Lw w w') (h:VV K w v x):VV K w' v x:=by
 rcases h with h | ⟨l,vs,xs,e,e',h1,h2,h3⟩
 ·exact .inl (Den.same a.f h)
 ·exact .inr ⟨l,vs,xs,e,e',a.h _ _ h1 h2,a.nm (by rw [h1]; simp) h2,DenAll.same a.f h3⟩
theorem VV.den {K:Frag} {w:Wd} {v:V} {x:PyData} (o:w.Ok) (h:VV K w v x):Den K w.H v x:=by
 rcases h with h | ⟨l,vs,xs,e,e',h1,h2,h3⟩
 ·exact Den.same o.sub h
 ·rw [e,e']; exact .lst (SqL.of h1) (DenAll.same o.sub h3)
theorem VR.mono {c:Ct} {w w':Wd} {v:V} (a:Le w w'):∀ {s:SV},VR c w v s->VR c w' v s
 | .d _,h=>Den.same a.f h
 | .own xs,⟨l,vs,e,h1,h2,h3,h4,h5⟩=>⟨l,vs,e,a.h _ _ h1 h3,a.fnone h2 (by rw [h1]; simp),a.nm (by rw [h1]; simp) h3,h4,DenAll.same a.f h5⟩
 | .bor xs,.inl h=>.inl (Den.same a.f h)
 | .bor xs,.inr ⟨l,vs,e,h1,h2,h3⟩=>.inr ⟨l,vs,e,h1,h2,DenAll.same a.f h3⟩
 | .st,⟨p,e,h⟩=>⟨p,e,a.m p h⟩
 | .bt t,⟨h,o⟩=>⟨h.sameF a.f,o⟩
 | .al _,h=>h
 | .dk _,⟨l,e,h1,h2,h3,h4⟩=>⟨l,e,a.h _ _ h1 h3,a.fnone h2 (by rw [h1]; simp),a.nm (by rw [h1]; simp) h3,h4⟩
 | .tr t,⟨h,o,d⟩=>⟨h.mono a.toLw fun q hq=>(o q hq).2.2.1,fun q hq=>let ⟨h1,h2,h3,h4⟩:=o q hq; ⟨fun z=>h1 (a.dom q z),a.fnone h2 h1,a.nm h1 h3,h4⟩,d⟩
theorem Tre.writ {K:Frag} {w:Wd} {l:Addr} {wo:HO}:∀ {t:OT} {vs:List V},Tre K w t vs->l ∉ t.fp->Tre K ⟨w.M,upd w.H l wo,w.F⟩ t vs
 | .leaf _,_,h,_=>h
 | .nd _ p _,_,⟨e,ys,h,k⟩,n=>⟨e,ys,by show upd w.H l _ p=_; rw [D7 (fun z=>n (by simp [OT.fp,z]))]; exact h,Tre.writ k fun q=>n (by simp [OT.fp,q])⟩
 | .nil,_,e,_=>e
 | .cons _ _,_,⟨v,r,e,h,t⟩,n=>⟨v,r,e,Tre.writ h fun q=>n (by simp [OT.fp,q]),Tre.writ t fun q=>n (by simp [OT.fp,q])⟩
theorem VR.writ {c:Ct} {w:Wd} {v:V} {l:Addr} {wo:HO} (hl:w.H l≠none):∀ {s:SV},VR c w v s->¬ s.foot v l->VR c ⟨w.M,upd w.H l wo,w.F⟩ v s
 | .d _,h,_=>h
 | .own _,⟨l',vs,e,k1,k2,k3,k4,k5⟩,n=>⟨l',vs,e,by show upd w.H l _ l'=_; rw [D7 (fun z=>n (by rw [<- z]; exact e))]; exact k1,k2,k3,k4,k5⟩
 | .bor _,h,_=>h
 | .st,h,_=>h
 | .bt _,h,_=>h
 | .al _,h,_=>h
 | .dk _,⟨l',e,k1,k2,k3,k4⟩,n=>⟨l',e,by show upd w.H l _ l'=_; rw [D7 (fun z=>n (by rw [<- z]; exact e))]; exact k1,k2,k3,k4⟩
 | .tr _,⟨h,o,d⟩,n=>⟨h.writ n,fun a ha=>⟨fun z=>(o a ha).1 (B1j z),(o a ha).2⟩,d⟩
structure EnvOk (c:Ct) (w:Wd) (env:PEnv) (σ:St):Prop where
 wok:w.Ok
 le0:Le c.w0 w
 len:env.length=σ.length
 at':∀ (i:Nat) s,env[i]?=some (some s)->∃ v,σ[i]?=some (some v)/\VR c w v s
 own:∀ (i j:Nat) s t v u a,env[i]?=some (some s)->env[j]?=some (some t)->σ[i]?=some (some v)->σ[j]?=some (some u)->s.foot v a->t.foot u a->i=j
 zf:∀ a,c.Z a->w.F a=none/\w.H a≠none/\¬ w.M a
 zo:∀ a (j:Nat) t u,c.Z a->env[j]?=some (some t)->σ[j]?=some (some u)->¬ t.foot u a
def New (c:Ct) (env:PEnv) (σ:St) (v:V) (s:SV):Prop:=∀ a,s.foot v a->(∀ (j:Nat) t u,env[j]?=some (some t)->σ[j]?=some (some u)->¬ t.foot u a)/\¬ c.Z a
theorem EnvOk.look {c:Ct} {w:Wd} {env:PEnv} {σ:St} (E:EnvOk c w env σ) {j:Nat} {t:SV} {u:V} (h:env[j]?=some (some t)) (hu:σ[j]?=some (some u)):VR c w u t:=by
 obtain ⟨v,h1,h2⟩:=E.at' j t h;rw [hu] at h1; cases h1; exact h2
theorem EnvOk.fresh {c:Ct} {w:Wd} {env:PEnv} {σ:St} (E:EnvOk c w env σ) {p:Addr} (hp:w.H p=none):(∀ (j:Nat) t u,env[j]?=some (some t)->σ[j]?=some (some u)->¬ t.foot u p)/\¬ c.Z p :=
 ⟨fun _ _ _ h hu f=>((E.look h hu).foot f).1 hp,fun z=>(E.zf p z).2.1 hp⟩
theorem Lw.hsome {w w':Wd} (a:Lw w w') {l:Addr} (h:w.H l≠none):w'.H l≠none:=fun z=>h (a.dom l z)
theorem EnvOk.mono {c:Ct} {w w':Wd} {env:PEnv} {σ:St} (E:EnvOk c w env σ) (ok:w'.Ok) (a:Le w w'):EnvOk c w' env σ :=
 ⟨ok,E.le0.trans a,E.len,fun i s e=>let ⟨v,h1,h2⟩:=E.at' i s e; ⟨v,h1,h2.mono a⟩,E.own,fun b z=>let ⟨h1,h2,h3⟩:=E.zf b z; ⟨a.fnone h1 h2,a.hsome h2,a.nm h2 h3⟩,E.zo⟩
structure Res (c:Ct) (w:Wd) (env:PEnv) (σ:St) (w':Wd) (v:V) (s:SV):Prop where
 ev:EnvOk c w' env σ
 lw:Lw w w'
 val:VR c w' v s
 new:New c env σ v s
 res:s.isRes=true
theorem Res.data {c:Ct} {w:Wd} {env:PEnv} {σ:St} {v:V} {x:PyData} (E:EnvOk c w env σ) (h:Den c.K w.F v x):Res c w env σ w v (.d x) :=
 ⟨E,Lw.refl w,h,fun _ e=>(nomatch e),rfl⟩
def Wd.tup (w:Wd) (p:Addr) (o:HO):Wd:=⟨w.M,upd w.H p o,upd w.F p o⟩
def Wd.lay (w:Wd) (p:Addr) (o:HO):Wd:=⟨w.M,upd w.H p o,w.F⟩
theorem Wd.Ok.fnone {w:Wd} (o:w.Ok) {p:Addr} (h:w.H p=none):w.F p=none:=by
 cases q:w.F p with
 | none=>rfl
 | some u=>have:=o.sub p u q; rw [h] at this; cases this
theorem Wd.Ok.mne {w:Wd} (o:w.Ok) {p q:Addr} (h:w.H p=none) (hq:w.M q):q≠p:=by
 obtain ⟨c,m,f,e,_⟩:=(o.st q hq).ex;exact F5 e h
theorem R5 {H:Hpp} {p b:Addr} {o:HO} (h:upd H p o b=none):H b=none:=by
 unfold upd at h; split at h
 ·cases h
 ·exact h
theorem Wd.tup_ok {w:Wd} {p:Addr} {o:HO} (ok:w.Ok) (h:w.H p=none):(w.tup p o).Ok :=
 ⟨fun b u e=>by
  show upd w.H p o b=some u;have e':upd w.F p o b=some u:=e;unfold upd at e' ⊢;split at e'
  ·rename_i z; rw [if_pos z]; exact e'
  ·rename_i z; rw [if_neg z]; exact ok.sub b u e',
  fun q hq=>(ok.st q hq).same (Same.upd h),fun q hq=>by
  show upd w.F p o q=none;rw [D7 (ok.mne h hq)]; exact ok.nf q hq⟩
theorem Wd.lay_ok {w:Wd} {p:Addr} {o:HO} (ok:w.Ok) (h:w.H p=none):(w.lay p o).Ok :=
 ⟨ok.sub.trans (Same.upd h),fun q hq=>(ok.st q hq).same (Same.upd h),ok.nf⟩
theorem Wd.tup_le {w:Wd} {p:Addr} {o:HO} (ok:w.Ok) (h:w.H p=none):Le w (w.tup p o) :=
 ⟨⟨Same.upd (ok.fnone h),fun b u e _=>Same.upd h b u e,fun _ z=>z,fun _ z=>.inl z,fun b z=>R5 z⟩,fun a u e=>by
  have e':upd w.F p o a=some u:=e;unfold upd at e';split at e'
  ·rename_i z; rw [z]; exact .inr h
  ·exact .inl e'⟩
theorem Wd.lay_le {w:Wd} {p:Addr} {o:HO} (h:w.H p=none):Le w (w.lay p o) :=
 ⟨⟨Same.refl _,fun b u e _=>Same.upd h b u e,fun _ z=>z,fun _ z=>.inl z,fun b z=>R5 z⟩,fun a u e=>.inl e⟩
theorem Res.tup {c:Ct} {w:Wd} {env:PEnv} {σ:St} {p:Addr} {vs:List V} {xs:LP} (E:EnvOk c w env σ) (h:w.H p=none) (hd:DenAll c.K w.F vs xs):Res c w env σ (w.tup p (.tup vs)) (.ref p) (.d (.tuple xs)) :=
 ⟨E.mono (Wd.tup_ok E.wok h) (Wd.tup_le E.wok h),(Wd.tup_le E.wok h).toLw,.tup (SqD.of D5) (DenAll.same (Wd.tup_le E.wok h).f hd),fun _ e=>(nomatch e),rfl⟩
theorem Res.lst {c:Ct} {w:Wd} {env:PEnv} {σ:St} {p:Addr} {vs:List V} {xs:LP} (E:EnvOk c w env σ) (h:w.H p=none) (hd:DenAll c.K w.F vs xs):Res c w env σ (w.lay p (.lst vs)) (.ref p) (.own xs) :=
 ⟨E.mono (Wd.lay_ok E.wok h) (Wd.lay_le h),(Wd.lay_le h).toLw,⟨p,vs,rfl,D5,E.wok.fnone h,fun z=>E.wok.mne h z rfl,E.le0.dom p h,hd⟩,
  fun a f=>(by
  have:V.ref p=.ref a:=f;cases this;exact E.fresh h),rfl⟩
theorem Res.frz {c:Ct} {w w1:Wd} {env:PEnv} {σ:St} {v:V} {xs:LP} (R:Res c w env σ w1 v (.own xs)):∃ w',w'.H=w1.H/\EnvOk c w' env σ/\Lw w w'/\Den c.K w'.F v (.list xs):=by
 obtain ⟨E,lw,⟨l,vs,e,h1,h2,h3,h4,h5⟩,new,_⟩:=R;subst e;obtain ⟨n1,n2⟩:=new l rfl;have up:Same w1.F (upd w1.F l (.lst vs)):=Same.upd h2;have lw':Lw w1 ⟨w1.M,w1.H,upd w1.F l (.lst vs)⟩:=⟨up,fun _ _ h _=>h,fun _ h=>h,fun _ h=>.inl h,fun _ h=>h⟩;refine ⟨⟨w1.M,w1.H,upd w1.F l (.lst vs)⟩,rfl,⟨⟨fun b u q=>?_,E.wok.st,fun p hp=>?_⟩,⟨E.le0.toLw.trans lw',fun a u q=>?_⟩,E.len,fun i s q=>?_,E.own,fun a za=>?_,E.zo⟩,lw.trans lw',.lst (SqL.of D5) (DenAll.same up h5)⟩
 ·have q':upd w1.F l (.lst vs) b=some u:=q;unfold upd at q';split at q'
  ·rename_i z; rw [z]; exact h1.trans q'
  ·exact E.wok.sub b u q'
 ·show upd w1.F l (.lst vs) p=none;rw [D7 (fun z=>h3 (by rw [<- z]; exact hp))]; exact E.wok.nf p hp
 ·have q':upd w1.F l (.lst vs) a=some u:=q;unfold upd at q';split at q'
  ·rename_i z; rw [z]; exact .inr h4
  ·exact E.le0.n a u q'
 ·obtain ⟨v,g1,g2⟩:=E.at' i s q;refine ⟨v,g1,?_⟩;cases s with
  | d x=>exact Den.same up g2
  | own ys =>
   obtain ⟨l',us,e',k1,k2,k3,k4,k5⟩:=g2;subst e';refine ⟨l',us,rfl,k1,?_,k3,k4,DenAll.same up k5⟩;show upd w1.F l (.lst vs) l'=none;rw [D7 (fun z=>n1 i _ _ q g1 (by subst z; rfl))]; exact k2
  | bor ys =>
   rcases g2 with g | ⟨l',us,e',k1,k2,k3⟩
   ·exact .inl (Den.same up g)
   ·exact .inr ⟨l',us,e',k1,k2,DenAll.same up k3⟩
  | st=>exact g2
  | bt t=>exact ⟨g2.1.sameF up,g2.2⟩
  | al a=>exact g2
  | dk ks =>
   obtain ⟨l',e',k1,k2,k3,k4⟩:=g2;subst e';refine ⟨l',rfl,k1,?_,k3,k4⟩;show upd w1.F l (.lst vs) l'=none;rw [D7 (fun z=>n1 i _ _ q g1 (by subst z; rfl))]; exact k2
  | tr t =>
   obtain ⟨k1,k2,k3⟩:=g2;refine ⟨k1.mono lw' fun p hp=>(k2 p hp).2.2.1,fun p hp=>⟨(k2 p hp).1,?_,(k2 p hp).2.2⟩,k3⟩;show upd w1.F l (.lst vs) p=none;rw [D7 (fun z=>n1 i _ _ q g1 (by subst z; exact hp))]; exact (k2 p hp).2.1
 ·obtain ⟨z1,z2,z3⟩:=E.zf a za;refine ⟨?_,z2,z3⟩;show upd w1.F l (.lst vs) a=none;rw [D7 (fun z=>n2 (by subst z; exact za))]; exact z1
theorem EnvOk.set {c:Ct} {w:Wd} {env:PEnv} {σ:St} {v:V} {s:SV} {i:Nat} (E:EnvOk c w env σ) (h:VR c w v s) (new:New c env σ v s) :
  EnvOk c w (env.set i (some s)) (σ.set i (some v)):=by
 have hl:=E.len;have hd:∀ {j:Nat} {t:SV} {u:V},(env.set i (some s))[j]?=some (some t)->(σ.set i (some v))[j]?=some (some u)->(i=j/\t=s/\u=v)\/(i≠j/\env[j]?=some (some t)/\σ[j]?=some (some u)):=by
  intro j t u q q';rw [List.getElem?_set] at q q';by_cases e:i=j
  ·subst e;rw [if_pos rfl] at q q';split at q
   ·rename_i z;rw [if_pos (by omega)] at q';cases q; cases q'; exact .inl ⟨rfl,rfl,rfl⟩
   ·cases q
  ·rw [if_neg e] at q q';exact .inr ⟨e,q,q'⟩
 refine ⟨E.wok,E.le0,by simpa using hl,fun j t q=>?_,fun j k s1 t1 v1 u1 a q1 q2 q3 q4 f1 f2=>?_,E.zf,fun a j t u za q q'=>?_⟩
 ·rw [List.getElem?_set] at q ⊢;by_cases e:i=j
  ·subst e;rw [if_pos rfl] at q ⊢;split at q
   ·rename_i z;rw [if_pos (by omega)];cases q;exact ⟨v,rfl,h⟩
   ·cases q
  ·rw [if_neg e] at q ⊢;exact E.at' j t q
 ·rcases hd q1 q3 with ⟨e1,rfl,rfl⟩ | ⟨e1,p1,p3⟩
  ·rcases hd q2 q4 with ⟨e2,rfl,rfl⟩ | ⟨e2,q2,q4⟩
   ·exact e1.symm.trans e2
   ·exact absurd f2 ((new a f1).1 k _ _ q2 q4)
  ·rcases hd q2 q4 with ⟨e2,rfl,rfl⟩ | ⟨e2,p2,p4⟩
   ·exact absurd f1 ((new a f2).1 j _ _ p1 p3)
   ·exact E.own j k _ _ _ _ a p1 p2 p3 p4 f1 f2
 ·rcases hd q q' with ⟨_,rfl,rfl⟩ | ⟨_,q,q'⟩
  ·exact fun f=>(new a f).2 za
  ·exact E.zo a j t u za q q'
end Pu
namespace Pu
open PySem L2 My Prf
abbrev PX:=PEnv->(SV->PEnv->Prop)->Prop
abbrev PDt:=PEnv->(PyData->PEnv->Prop)->Prop
abbrev PTt:=PEnv->(Bool->PEnv->Prop)->Prop
abbrev PAr:=PEnv->(LP->PEnv->Prop)->Prop
abbrev PAs:=PEnv->(List SV->PEnv->Prop)->Prop
theorem Res.pre {c:Ct} {w w1 w2:Wd} {env:PEnv} {σ:St} {v:V} {s:SV} (a:Lw w w1) (R:Res c w1 env σ w2 v s):Res c w env σ w2 v s:=⟨R.ev,a.trans R.lw,R.val,R.new,R.res⟩
class RE (K:Frag) (te:TE) (pe:outParam PX):Prop where
 ok:∀ (c:Ct) (w:Wd) (env:PEnv) (σ:St) (Qp:SV->PEnv->Prop) (Q:VK),c.K=K->EnvOk c w env σ->pe env Qp->(∀ v s env' w',Res c w env' σ w' v s->Qp s env'->Q v w'.H)->te σ w.H Q
class RD (K:Frag) (te:TE) (pd:outParam PDt):Prop where
 ok:∀ (c:Ct) (w:Wd) (env:PEnv) (σ:St) (Qp:PyData->PEnv->Prop) (Q:VK),c.K=K->EnvOk c w env σ->pd env Qp->(∀ v x env' w',EnvOk c w' env' σ->Lw w w'->Den K w'.F v x->Qp x env'->Q v w'.H)->te σ w.H Q
class RW (K:Frag) (te:TE) (pd:outParam PDt):Prop where
 ok:∀ (c:Ct) (w:Wd) (env:PEnv) (σ:St) (Qp:PyData->PEnv->Prop) (Q:VK),c.K=K->EnvOk c w env σ->pd env Qp->(∀ v x env' w',EnvOk c w' env' σ->Lw w w'->VV K w' v x->Qp x env'->Q v w'.H)->te σ w.H Q
def SV.asD (s:SV) (k:PyData->Prop):Prop:=match s with
 | .d x=>k x
 | .own xs=>k (.list xs)
 | _=>False
def pdat (pe:PX) (env:PEnv) (Q:PyData->PEnv->Prop):Prop:=pe env fun s e=>s.asD fun x=>Q x e
instance B56 {K:Frag} {te:TE} {pe:PX} [h:RE K te pe]:RD K te (pdat pe) where
 ok:=by
  rintro c w env σ Qp Q rfl E p k;refine h.ok c w env σ _ Q rfl E p fun v s env' w' R q=>?_;cases s with
  | d x=>exact k v x env' w' R.ev R.lw R.val q
  | own xs =>
   obtain ⟨w2,e,E2,l2,d2⟩:=R.frz;rw [<- e];exact k v _ env' w2 E2 l2 d2 q
  | bor xs=>exact (show False from q).elim
  | st=>exact (show False from q).elim
  | tr t=>exact (show False from q).elim
  | bt t=>exact (show False from q).elim
  | al t=>exact (show False from q).elim
  | dk t=>exact (show False from q).elim
instance (priority:=low) rw_of {K:Frag} {te:TE} {pd:PDt} [h:RD K te pd]:RW K te pd where
 ok:=fun c w env σ Qp Q e E p k=>h.ok c w env σ Qp Q e E p fun v x env' w' E' l d q=>k v x env' w' E' l (.inl d) q
def pVar (i:Nat) (env:PEnv) (Q:SV->PEnv->Prop):Prop:=match env[i]? with
 | some (some (.d x))=>Q (.d x) env
 | some (some (.own xs))=>Q (.d (.list xs)) (env.set i (some (.d (.list xs))))
 | some (some .st)=>Q .st env
 | _=>False
def B64 (i:Nat) (env:PEnv) (Q:PyData->PEnv->Prop):Prop:=match env[i]? with
 | some (some (.d x))=>Q x env
 | some (some (.own xs))=>Q (.list xs) env
 | some (some (.bor xs))=>Q (.list xs) env
 | _=>False
theorem EnvOk.frz {c:Ct} {w:Wd} {env:PEnv} {σ:St} {i:Nat} {xs:LP} (E:EnvOk c w env σ) (h:env[i]?=some (some (.own xs))) :
  ∃ w' v,w'.H=w.H/\σ[i]?=some (some v)/\EnvOk c w' (env.set i (some (.d (.list xs)))) σ/\Lw w w'/\Den c.K w'.F v (.list xs):=by
 obtain ⟨v,hv,hV⟩:=E.at' i _ h;have hV':=hV;obtain ⟨l,vs,e,h1,h2,h3,h4,h5⟩:=hV';have up:∀ {j:Nat} {t:SV},(env.set i none)[j]?=some (some t)->i≠j/\env[j]?=some (some t):=by
  intro j t q;rw [List.getElem?_set] at q;split at q
  ·split at q <;> cases q
  ·rename_i z; exact ⟨z,q⟩
 have E':EnvOk c w (env.set i none) σ:=⟨E.wok,E.le0,by simpa using E.len,fun j s q=>E.at' j s (up q).2,fun j k s t v u a q1 q2=>E.own j k s t v u a (up q1).2 (up q2).2,E.zf,fun a j t u za q=>E.zo a j t u za (up q).2⟩;have R:Res c w (env.set i none) σ w v (.own xs):=⟨E',Lw.refl w,hV,fun a f=>⟨fun j t u q z g=>(up q).1 (E.own i j _ _ _ _ a h (up q).2 hv z f g),fun za=>E.zo a i _ _ za h hv f⟩,rfl⟩;obtain ⟨w',e',E2,l2,d2⟩:=R.frz;refine ⟨w',v,e',hv,?_,l2,d2⟩;have E3:=E2.set (i:=i) (v:=v) (s:=.d (.list xs)) d2 (fun _ z=>nomatch z);rw [List.set_set] at E3;have hi:i < σ.length:=(Zs hv).1
 rwa [show σ.set i (some v)=σ by
  refine List.ext_getElem? fun j=>?_;rw [List.getElem?_set];split
  ·rename_i z; subst z; simp [hv]
  ·rfl] at E3
instance re_var {K:Frag} {i:Nat}:RE K (tVar i) (pVar i) where
 ok:=by
  rintro c w env σ Qp Q rfl E p k;unfold pVar at p;split at p
  ·rename_i x e;obtain ⟨v,h1,h2⟩:=E.at' i _ e;exact ⟨v,h1,k v _ env w (Res.data E h2) p⟩
  ·rename_i xs e;obtain ⟨w',v,e',hv,E',l,d⟩:=E.frz e;refine ⟨v,hv,?_⟩;rw [<- e'];exact k v (.d (.list xs)) _ w' ⟨E',l,d,fun _ z=>(nomatch z),rfl⟩ p
  ·rename_i e;obtain ⟨v,h1,h2⟩:=E.at' i _ e;exact ⟨v,h1,k v _ env w ⟨E,Lw.refl w,h2,fun _ z=>(nomatch z),rfl⟩ p⟩
  ·exact p.elim
theorem VR.vv {c:Ct} {w:Wd} {v:V} {xs:LP} (l:Le c.w0 w) (h:VR c w v (.bor xs)):VV c.K w v (.list xs):=by
 rcases h with h | ⟨l',vs,e,h1,h2,h3⟩
 ·exact .inl h
 ·exact .inr ⟨l',vs,xs,e,rfl,l.h _ _ h1 h2,l.nm (by rw [h1]; simp) h2,h3⟩
instance rw_var {K:Frag} {i:Nat}:RW K (tVar i) (B64 i) where
 ok:=by
  rintro c w env σ Qp Q rfl E p k;unfold B64 at p;split at p
  ·rename_i x e;obtain ⟨v,h1,h2⟩:=E.at' i _ e;exact ⟨v,h1,k v _ env w E (Lw.refl w) (.inl h2) p⟩
  ·rename_i xs e;obtain ⟨v,h1,l,vs,e',g1,g2,g3,g4,g5⟩:=E.at' i _ e;exact ⟨v,h1,k v _ env w E (Lw.refl w) (.inr ⟨l,vs,xs,e',rfl,g1,g3,g5⟩) p⟩
  ·rename_i xs e;obtain ⟨v,h1,h2⟩:=E.at' i _ e;exact ⟨v,h1,k v _ env w E (Lw.refl w) (h2.vv E.le0) p⟩
  ·exact p.elim
def pC (x:PyData) (env:PEnv) (Q:SV->PEnv->Prop):Prop:=Q (.d x) env
theorem T2 {K:Frag} {v:V} {x:PyData} (h:∀ F,Den K F v x):RE K (tC v) (pC x) where
 ok:=by
  rintro c w env σ Qp Q rfl E p k;exact k _ _ env w (Res.data E (h _)) p
instance re_int {K:Frag} {i:Int}:RE K (tC (.int i)) (pC (.int i)):=T2 fun _=>.int i
instance re_bl {K:Frag} {b:Bool}:RE K (tC (.bl b)) (pC (.bool b)):=T2 fun _=>.bl b
instance re_non {K:Frag}:RE K (tC .non) (pC .none):=T2 fun _=>.non
instance re_str {K:Frag} {x:Str}:RE K (tC (.str x)) (pC (.str x)):=T2 fun _=>.str x
class GD (K:Frag) (a:Addr) (x:outParam PyData):Prop where
 ok:∀ F,Den K F (.ref a) x
instance re_glob {K:Frag} {a:Addr} {x:PyData} [h:GD K a x]:RE K (tC (.ref a)) (pC x):=T2 h.ok
class RO (K:Frag) (r:R2) (pr:outParam (PyData->PyData->(SV->Prop)->Prop)):Prop where
 ok:∀ (c:Ct) (w:Wd) (env:PEnv) (σ:St) (x y:V) (dx dy:PyData) (Qp:SV->Prop) (Q:VK),c.K=K->EnvOk c w env σ->VV K w x dx->VV K w y dy->pr dx dy Qp->(∀ v s w',Res c w env σ w' v s->Qp s->Q v w'.H)->r x y w.H Q
def pOp (pr:PyData->PyData->(SV->Prop)->Prop) (pa pb:PDt) (env:PEnv) (Q:SV->PEnv->Prop):Prop:=pa env fun x e1=>pb e1 fun y e2=>pr x y fun s=>Q s e2
instance re_op {K:Frag} {r:R2} {ta tb:TE} {pr:PyData->PyData->(SV->Prop)->Prop} {pa pb:PDt} [h:RO K r pr] [ha:RW K ta pa] [hb:RW K tb pb]:RE K (tOp r ta tb) (pOp pr pa pb) where
 ok:=by
  rintro c w env σ Qp Q rfl E p k;refine ha.ok c w env σ _ _ rfl E p fun x dx e1 w1 E1 l1 v1 q1=>?_;refine hb.ok c w1 e1 σ _ _ rfl E1 q1 fun y dy e2 w2 E2 l2 v2 q2=>?_;exact h.ok c w2 e2 σ x y dx dy _ _ rfl E2 (v1.mono l2) v2 q2 fun v s w' R q=>k v s e2 w' (R.pre (l1.trans l2)) q
class SG (g:Int->Int->V) (gd:outParam (Int->Int->PyData)):Prop where
 ok:∀ i j K F,Den K F (g i j) (gd i j)
instance sg_int {f:Int->Int->Int}:SG (fun i j=>.int (f i j)) (fun i j=>.int (f i j)):=⟨fun _ _ _ _=>.int _⟩
instance sg_bl {f:Int->Int->Bool}:SG (fun i j=>.bl (f i j)) (fun i j=>.bool (f i j)):=⟨fun _ _ _ _=>.bl _⟩
def pI (C:Int->Int->Prop) (gd:Int->Int->PyData) (x y:PyData) (Q:SV->Prop):Prop:=match x,y with
 | .int i,.int j=>C i j/\Q (.d (gd i j))
 | _,_=>False
def pI0 (gd:Int->Int->PyData) (x y:PyData) (Q:SV->Prop):Prop:=match x,y with
 | .int i,.int j=>Q (.d (gd i j))
 | _,_=>False
theorem VV.intE {K:Frag} {w:Wd} {v:V} {i:Int} (h:VV K w v (.int i)):v=.int i:=by
 rcases h with h | ⟨l,vs,xs,e,e',_⟩
 ·exact h.intE
 ·cases e'
theorem VV.blE {K:Frag} {w:Wd} {v:V} {b:Bool} (h:VV K w v (.bool b)):v=.bl b:=by
 rcases h with h | ⟨l,vs,xs,e,e',_⟩
 ·exact h.blE
 ·cases e'
instance ro_I {K:Frag} {C:Int->Int->Prop} {g:Int->Int->V} {gd:Int->Int->PyData} [s:SG g gd]:RO K (rI C g) (pI C gd) where
 ok:=by
  rintro c w env σ x y dx dy Qp Q rfl E vx vy p k;unfold pI at p;split at p
  ·rename_i i j;exact ⟨i,j,vx.intE,vy.intE,p.1,k _ _ w (Res.data E (s.ok i j _ _)) p.2⟩
  ·exact p.elim
instance ro_I0 {K:Frag} {g:Int->Int->V} {gd:Int->Int->PyData} [s:SG g gd]:RO K (rI0 g) (pI0 gd) where
 ok:=by
  rintro c w env σ x y dx dy Qp Q rfl E vx vy p k;unfold pI0 at p;split at p
  ·rename_i i j;exact ⟨i,j,vx.intE,vy.intE,k _ _ w (Res.data E (s.ok i j _ _)) p⟩
  ·exact p.elim
def pEqD (x y:PyData) (Q:SV->Prop):Prop:=x.canLay0=true/\y.canLay0=true/\x.depth<=60/\Q (.d (.bool (PyData.eqv x y)))
def pNeD (x y:PyData) (Q:SV->Prop):Prop:=x.canLay0=true/\y.canLay0=true/\x.depth<=60/\Q (.d (.bool (!PyData.eqv x y)))
def isNo:PyData->Bool
 | .none=>true
 | _=>false
def rIsN:R2:=fun x y H Q=>y=.non/\Q (.bl (decide (x=.non))) H
def B99:R2:=fun x y H Q=>y=.non/\Q (.bl (!decide (x=.non))) H
theorem R9 {X:Cx}:OpR X (compareOp .Is) rIsN:=C13
theorem O9 {X:Cx}:OpR X (compareOp .IsNot) B99:=B7r
theorem Den.no {K:Frag} {F:Hpp} {v:V} {x:PyData} (h:Den K F v x):decide (v=.non)=isNo x:=by cases h <;> rfl
theorem VV.no {K:Frag} {w:Wd} {v:V} {x:PyData} (h:VV K w v x):decide (v=.non)=isNo x:=by
 rcases h with h | ⟨l,vs,xs,e,e',_⟩
 ·exact Den.no h
 ·subst e; subst e'; rfl
def pIsN (x y:PyData) (Q:SV->Prop):Prop:=y=.none/\Q (.d (.bool (isNo x)))
def C09 (x y:PyData) (Q:SV->Prop):Prop:=y=.none/\Q (.d (.bool (!isNo x)))
theorem VV.nonE {K:Frag} {w:Wd} {v:V} (h:VV K w v .none):v=.non:=by
 rcases h with h | ⟨l,vs,xs,e,e',_⟩
 ·exact h.nonE
 ·cases e'
instance ro_isN {K:Frag}:RO K rIsN pIsN where
 ok:=by
  rintro c w env σ x y dx dy Qp Q rfl E vx vy ⟨rfl,p⟩ k;refine ⟨vy.nonE,k _ _ w (Res.data E ?_) p⟩;rw [vx.no]; exact .bl _
instance ro_notN {K:Frag}:RO K B99 C09 where
 ok:=by
  rintro c w env σ x y dx dy Qp Q rfl E vx vy ⟨rfl,p⟩ k;refine ⟨vy.nonE,k _ _ w (Res.data E ?_) p⟩;rw [vx.no]; exact .bl _
def pGet (xs:LP) (i:Int) (Q:SV->Prop):Prop:=match atI xs i with
 | some z=>Q (.d z)
 | none=>False
def pIx (x y:PyData) (Q:SV->Prop):Prop:=match x,y with
 | .list xs,.int i=>pGet xs i Q
 | .tuple xs,.int i=>pGet xs i Q
 | _,_=>False
theorem VV.lst {K:Frag} {w:Wd} {v:V} {xs:LP} (o:w.Ok) (h:VV K w v (.list xs)):∃ a vs,v=.ref a/\SqL K w.H a vs/\DenAll K w.F vs xs:=by
 rcases h with h | ⟨l,vs,ys,e,e',h1,h2,h3⟩
 ·obtain ⟨a,vs,e,h1,h2⟩:=h.lstE;exact ⟨a,vs,e,o.sub.seq h1,h2⟩
 ·cases e'; exact ⟨l,vs,e,SqL.of h1,h3⟩
theorem VV.tup {K:Frag} {w:Wd} {v:V} {xs:LP} (o:w.Ok) (h:VV K w v (.tuple xs)):∃ a vs,v=.ref a/\SqT K w.H a vs/\DenAll K w.F vs xs:=by
 rcases h with h | ⟨l,vs,ys,e,e',h1,h2,h3⟩
 ·obtain ⟨a,vs,e,h1,h2⟩:=h.tupE;exact ⟨a,vs,e,SqT.same o.sub h1,h2⟩
 ·cases e'
instance ro_ix {K:Frag}:RO K (rIx K) pIx where
 ok:=by
  rintro c w env σ x y dx dy Qp Q rfl E vx vy p k;unfold pIx at p;split at p
  ·rename_i xs i;unfold pGet at p;split at p
   ·rename_i z hz;obtain ⟨a,vs,e,h1,h2⟩:=vx.lst E.wok;obtain ⟨v,g1,g2⟩:=h2.atIE hz;exact .inl ⟨a,vs,i,v,e,vy.intE,h1,g1,k _ _ w (Res.data E g2) p⟩
   ·exact p.elim
  ·rename_i xs i;unfold pGet at p;split at p
   ·rename_i z hz;obtain ⟨a,vs,e,h1,h2⟩:=vx.tup E.wok;obtain ⟨v,g1,g2⟩:=h2.atIE hz;exact .inr (.inl ⟨a,vs,i,v,e,vy.intE,h1,g1,k _ _ w (Res.data E g2) p⟩)
   ·exact p.elim
  ·exact p.elim
theorem B8p {X:Cx} {K:Frag} (h:X.K=K):IxR X (rIx K):=by subst h; exact C26
def pU (gd:Int->PyData) (x:PyData) (Q:SV->Prop):Prop:=match x with
 | .int i=>Q (.d (gd i))
 | _=>False
def pUn (f:PyData->(SV->Prop)->Prop) (pa:PDt) (env:PEnv) (Q:SV->PEnv->Prop):Prop:=pa env fun x e=>f x fun s=>Q s e
instance re_neg {K:Frag} {ta:TE} {pa:PDt} {f:Int->Int} [ha:RW K ta pa]:RE K (tUn (rU fun i=>.int (f i)) ta) (pUn (pU fun i=>.int (f i)) pa) where
 ok:=by
  rintro c w env σ Qp Q rfl E p k;refine ha.ok c w env σ _ _ rfl E p fun x dx e1 w1 E1 l1 v1 q1=>?_;unfold pU at q1;split at q1
  ·rename_i i;exact ⟨i,v1.intE,k _ _ e1 w1 ((Res.data E1 (.int _)).pre l1) q1⟩
  ·exact q1.elim
inductive VVs (K:Frag) (w:Wd):List V->LP->Prop
 | nil:VVs K w [] []
 | cons {v:V} {x:PyData} {vs:List V} {xs:LP}:VV K w v x->VVs K w vs xs->VVs K w (v :: vs) (x :: xs)
class RAv (K:Frag) (ta:TA) (pa:outParam PAr):Prop where
 ok:∀ (c:Ct) (w:Wd) (env:PEnv) (σ:St) (Qp:LP->PEnv->Prop) (Q:List V->Hpp->Prop),c.K=K->EnvOk c w env σ->pa env Qp->(∀ vs xs env' w',EnvOk c w' env' σ->Lw w w'->VVs K w' vs xs->Qp xs env'->Q vs w'.H)->ta σ w.H Q
class RAd (K:Frag) (ta:TA) (pa:outParam PAr):Prop where
 ok:∀ (c:Ct) (w:Wd) (env:PEnv) (σ:St) (Qp:LP->PEnv->Prop) (Q:List V->Hpp->Prop),c.K=K->EnvOk c w env σ->pa env Qp->(∀ vs xs env' w',EnvOk c w' env' σ->Lw w w'->DenAll K w'.F vs xs->Qp xs env'->Q vs w'.H)->ta σ w.H Q
def pNil (env:PEnv) (Q:LP->PEnv->Prop):Prop:=Q [] env
def B7o (pa:PDt) (pr:PAr) (env:PEnv) (Q:LP->PEnv->Prop):Prop:=pa env fun x e1=>pr e1 fun xs e2=>Q (x :: xs) e2
instance rav_nil {K:Frag}:RAv K tNil pNil:=⟨fun c w env σ Qp Q _ E p k=>k [] [] env w E (Lw.refl w) .nil p⟩
instance rad_nil {K:Frag}:RAd K tNil pNil:=⟨fun c w env σ Qp Q _ E p k=>k [] [] env w E (Lw.refl w) .nil p⟩
instance rav_cons {K:Frag} {ta:TE} {tr:TA} {pa:PDt} {pr:PAr} [ha:RW K ta pa] [hr:RAv K tr pr]:RAv K (O1 ta tr) (B7o pa pr) where
 ok:=by
  rintro c w env σ Qp Q rfl E p k;refine ha.ok c w env σ _ _ rfl E p fun x dx e1 w1 E1 l1 v1 q1=>?_;refine hr.ok c w1 e1 σ _ _ rfl E1 q1 fun vs xs e2 w2 E2 l2 v2 q2=>?_;exact k _ _ e2 w2 E2 (l1.trans l2) (.cons (v1.mono l2) v2) q2
instance rad_cons {K:Frag} {ta:TE} {tr:TA} {pa:PDt} {pr:PAr} [ha:RD K ta pa] [hr:RAd K tr pr]:RAd K (O1 ta tr) (B7o pa pr) where
 ok:=by
  rintro c w env σ Qp Q rfl E p k;refine ha.ok c w env σ _ _ rfl E p fun x dx e1 w1 E1 l1 v1 q1=>?_;refine hr.ok c w1 e1 σ _ _ rfl E1 q1 fun vs xs e2 w2 E2 l2 v2 q2=>?_;exact k _ _ e2 w2 E2 (l1.trans l2) (.cons (Den.same l2.f v1) v2) q2
def pTup (pa:PAr) (env:PEnv) (Q:SV->PEnv->Prop):Prop:=pa env fun xs e=>xs.length<=1000/\Q (.d (.tuple xs)) e
def pLst (pa:PAr) (env:PEnv) (Q:SV->PEnv->Prop):Prop:=pa env fun xs e=>xs.length<=1000/\Q (.own xs) e
instance re_tup {K:Frag} {ta:TA} {pa:PAr} [ha:RAd K ta pa]:RE K (tTup ta) (pTup pa) where
 ok:=by
  rintro c w env σ Qp Q rfl E p k;refine ha.ok c w env σ _ _ rfl E p fun vs xs e1 w1 E1 l1 v1 q1=>⟨?_,fun p hp=>?_⟩
  ·rw [v1.len]; exact Nat.le_of_lt (A2u q1.1)
  ·exact k _ _ e1 _ ((Res.tup E1 hp v1).pre l1) q1.2
instance re_lst {K:Frag} {ta:TA} {pa:PAr} [ha:RAd K ta pa]:RE K (tLst ta) (pLst pa) where
 ok:=by
  rintro c w env σ Qp Q rfl E p k;refine ha.ok c w env σ _ _ rfl E p fun vs xs e1 w1 E1 l1 v1 q1=>⟨?_,fun p hp=>?_⟩
  ·rw [v1.len]; exact Nat.le_of_lt (A2u q1.1)
  ·exact k _ _ e1 _ ((Res.lst E1 hp v1).pre l1) q1.2
class RB (K:Frag) (r:List V->Hpp->VK->Prop) (pr:outParam (LP->(SV->Prop)->Prop)):Prop where
 ok:∀ (c:Ct) (w:Wd) (env:PEnv) (σ:St) (vs:List V) (xs:LP) (Qp:SV->Prop) (Q:VK),c.K=K->EnvOk c w env σ->VVs K w vs xs->pr xs Qp->(∀ v s w',Res c w env σ w' v s->Qp s->Q v w'.H)->r vs w.H Q
def pCB (pr:LP->(SV->Prop)->Prop) (pa:PAr) (env:PEnv) (Q:SV->PEnv->Prop):Prop:=pa env fun xs e=>pr xs fun s=>Q s e
instance re_cb {K:Frag} {r:List V->Hpp->VK->Prop} {ta:TA} {pr:LP->(SV->Prop)->Prop} {pa:PAr} [h:RB K r pr] [ha:RAv K ta pa]:RE K (tCB r ta) (pCB pr pa) where
 ok:=by
  rintro c w env σ Qp Q rfl E p k;refine ha.ok c w env σ _ _ rfl E p fun vs xs e1 w1 E1 l1 v1 q1=>?_;exact h.ok c w1 e1 σ vs xs _ _ rfl E1 v1 q1 fun v s w' R q=>k v s e1 w' (R.pre l1) q
def rAbs:List V->Hpp->VK->Prop:=fun xs H Q=>∃ i,xs=[.int i]/\Q (.int (if i < 0 then -i else i)) H
def rMax:List V->Hpp->VK->Prop:=fun xs H Q=>∃ i j,xs=[.int i,.int j]/\Q (.int (if j > i then j else i)) H
def rMin:List V->Hpp->VK->Prop:=fun xs H Q=>∃ i j,xs=[.int i,.int j]/\Q (.int (if j < i then j else i)) H
def rInt:List V->Hpp->VK->Prop:=fun xs H Q=>(∃ i,xs=[.int i]/\Q (.int i) H)\/∃ k,xs=[.bl k]/\Q (.int (if k then 1 else 0)) H
def B3y (K:Frag):List V->Hpp->VK->Prop:=fun xs H Q=>∃ p ys,xs=[.ref p]/\(SqL K H p ys\/SqT K H p ys)/\∀ l,H l=none->Q (.ref l) (upd H l (.lst ys))
def rIsi (K:Frag):List V->Hpp->VK->Prop:=fun xs H Q=>∃ x c T b,xs=[x,.ty c]/\TyV K H x T/\kitB T c=some b/\Q (.bl b) H
section
variable {X:Cx}
theorem A30:CallR X (.builtin "abs") rAbs:=B3g
theorem B04 (hc:X.calm=true):CallR X (.builtin "max") rMax:=B05 hc
theorem B02 (hc:X.calm=true):CallR X (.builtin "min") rMin:=B03 hc
theorem B06:CallR X (.type "int") rInt:=A3z
theorem A3w {K:Frag} (h:X.K=K):CallR X (.type "list") (B3y K):=by subst h; exact A3x
theorem Q6 {K:Frag} (h:X.K=K):CallR X (.builtin "isinstance") (rIsi K):=by subst h; exact A44
end
def pLen (xs:LP) (Q:SV->Prop):Prop:=match xs with
 | [.list ys]=>Q (.d (.int ys.length))
 | [.tuple ys]=>Q (.d (.int ys.length))
 | _=>False
def pAbs (xs:LP) (Q:SV->Prop):Prop:=match xs with
 | [.int i]=>Q (.d (.int (if i < 0 then -i else i)))
 | _=>False
def pMax (xs:LP) (Q:SV->Prop):Prop:=match xs with
 | [.int i,.int j]=>Q (.d (.int (if j > i then j else i)))
 | _=>False
def pMin (xs:LP) (Q:SV->Prop):Prop:=match xs with
 | [.int i,.int j]=>Q (.d (.int (if j < i then j else i)))
 | _=>False
def pInt (xs:LP) (Q:SV->Prop):Prop:=match xs with
 | [.int i]=>Q (.d (.int i))
 | [.bool k]=>Q (.d (.int (if k then 1 else 0)))
 | _=>False
def A87 (xs:LP) (Q:SV->Prop):Prop:=match xs with
 | [.list ys]=>Q (.own ys)
 | [.tuple ys]=>Q (.own ys)
 | _=>False
instance rb_abs {K:Frag}:RB K rAbs pAbs where
 ok:=by
  rintro c w env σ vs xs Qp Q rfl E vv p k;unfold pAbs at p;split at p
  ·cases vv with | cons h t=>cases t; exact ⟨_,by rw [h.intE],k _ _ w (Res.data E (.int _)) p⟩
  ·exact p.elim
instance rb_max {K:Frag}:RB K rMax pMax where
 ok:=by
  rintro c w env σ vs xs Qp Q rfl E vv p k;unfold pMax at p;split at p
  ·cases vv with | cons h t=>cases t with | cons h' t=>cases t; exact ⟨_,_,by rw [h.intE,h'.intE],k _ _ w (Res.data E (.int _)) p⟩
  ·exact p.elim
instance rb_min {K:Frag}:RB K rMin pMin where
 ok:=by
  rintro c w env σ vs xs Qp Q rfl E vv p k;unfold pMin at p;split at p
  ·cases vv with | cons h t=>cases t with | cons h' t=>cases t; exact ⟨_,_,by rw [h.intE,h'.intE],k _ _ w (Res.data E (.int _)) p⟩
  ·exact p.elim
instance rb_int {K:Frag}:RB K rInt pInt where
 ok:=by
  rintro c w env σ vs xs Qp Q rfl E vv p k;unfold pInt at p;split at p
  ·cases vv with | cons h t=>cases t; exact .inl ⟨_,by rw [h.intE],k _ _ w (Res.data E (.int _)) p⟩
  ·cases vv with | cons h t=>cases t; exact .inr ⟨_,by rw [h.blE],k _ _ w (Res.data E (.int _)) p⟩
  ·exact p.elim
instance rb_lst {K:Frag}:RB K (B3y K) A87 where
 ok:=by
  rintro c w env σ vs xs Qp Q rfl E vv p k;unfold A87 at p;split at p
  ·cases vv with | cons h t=>cases t; obtain ⟨a,us,e,h1,h2⟩:=h.lst E.wok; exact ⟨a,us,by rw [e],.inl h1,fun l hl=>k _ _ _ (Res.lst E hl h2) p⟩
  ·cases vv with | cons h t=>cases t; obtain ⟨a,us,e,h1,h2⟩:=h.tup E.wok; exact ⟨a,us,by rw [e],.inr h1,fun l hl=>k _ _ _ (Res.lst E hl h2) p⟩
  ·exact p.elim
def tyD:PyData->String
 | .none=>"NoneType"
 | .bool _=>"bool"
 | .int _=>"int"
 | .str _=>"str"
 | .list _=>"list"
 | .tuple _=>"tuple"
 | .dict _=>"dict"
theorem Den.ty {K:Frag} {H:Hpp} {v:V} {x:PyData} (h:Den K H v x):TyV K H v (tyD x):=by
 cases h with
 | non=>rfl
 | bl=>rfl
 | int=>rfl
 | str=>rfl
 | lst h _=>exact .inl ⟨rfl,_,h⟩
 | tup h _=>exact .inr (.inl ⟨rfl,_,h.1⟩)
 | dct h=>exact .inr (.inr ⟨rfl,_,h⟩)
def pIsi (c:String) (pa:PDt) (env:PEnv) (Q:SV->PEnv->Prop):Prop:=pa env fun x e=>match kitB (tyD x) c with
 | some b=>Q (.d (.bool b)) e
 | none=>False
instance (priority:=high) re_isi {K:Frag} {ta:TE} {pa:PDt} {c:String} [ha:RW K ta pa]:RE K (tCB (rIsi K) (O1 ta (O1 (tC (.ty c)) tNil))) (pIsi c pa) where
 ok:=by
  rintro ct w env σ Qp Q rfl E p k;refine ha.ok ct w env σ _ _ rfl E p fun x dx e1 w1 E1 l1 v1 q1=>?_;split at q1
  ·rename_i b hb;exact ⟨x,c,_,b,rfl,Den.ty (v1.den E1.wok),hb,k _ _ e1 w1 ((Res.data E1 (.bl _)).pre l1) q1⟩
  ·exact q1.elim
end Pu
namespace Pu
open PySem L2 My Prf
class RT (K:Frag) (tt:TT) (pt:outParam PTt):Prop where
 ok:∀ (c:Ct) (w:Wd) (env:PEnv) (σ:St) (Qp:Bool->PEnv->Prop) (Q:Bool->Hpp->Prop),c.K=K->EnvOk c w env σ->pt env Qp->(∀ b env' w',EnvOk c w' env' σ->Lw w w'->Qp b env'->Q b w'.H)->tt σ w.H Q
def asB (x:PyData) (k:Bool->Prop):Prop:=match x with
 | .bool b=>k b
 | _=>False
def B67 (pa:PDt) (env:PEnv) (Q:Bool->PEnv->Prop):Prop:=pa env fun x e=>asB x fun b=>Q b e
instance rt_test {K:Frag} {ta:TE} {pa:PDt} [ha:RW K ta pa]:RT K (B5g ta) (B67 pa) where
 ok:=by
  rintro c w env σ Qp Q rfl E p k;refine ha.ok c w env σ _ _ rfl E p fun x dx e1 w1 E1 l1 v1 q1=>?_;unfold asB at q1;split at q1
  ·exact ⟨_,v1.blE,k _ e1 w1 E1 l1 q1⟩
  ·exact q1.elim
instance rt_B {K:Frag} {ta:TE} {pa:PDt} [ha:RW K ta pa]:RT K (tB ta) (B67 pa) where
 ok:=by
  rintro c w env σ Qp Q rfl E p k;refine ha.ok c w env σ _ _ rfl E p fun x dx e1 w1 E1 l1 v1 q1=>?_;unfold asB at q1;split at q1
  ·exact ⟨_,v1.blE,k _ e1 w1 E1 l1 q1⟩
  ·exact q1.elim
def pYes (env:PEnv) (Q:Bool->PEnv->Prop):Prop:=Q true env
instance rt_yes {K:Frag}:RT K tYes pYes:=⟨fun c w env σ Qp Q _ E p k=>k true env w E (Lw.refl w) p⟩
def pNot (pa:PTt) (env:PEnv) (Q:Bool->PEnv->Prop):Prop:=pa env fun b e=>Q (!b) e
def pAnd (pa pb:PTt) (env:PEnv) (Q:Bool->PEnv->Prop):Prop:=pa env fun b e=>if b=true then pb e Q else Q false e
def pOr (pa pb:PTt) (env:PEnv) (Q:Bool->PEnv->Prop):Prop:=pa env fun b e=>if b=true then Q true e else pb e Q
instance rt_not {K:Frag} {ta:TT} {pa:PTt} [ha:RT K ta pa]:RT K (tNot ta) (pNot pa) where
 ok:=by
  rintro c w env σ Qp Q rfl E p k;exact ha.ok c w env σ _ _ rfl E p fun b e1 w1 E1 l1 q1=>k _ e1 w1 E1 l1 q1
instance rt_and {K:Frag} {ta tb:TT} {pa pb:PTt} [ha:RT K ta pa] [hb:RT K tb pb]:RT K (tAnd ta tb) (pAnd pa pb) where
 ok:=by
  rintro c w env σ Qp Q rfl E p k;refine ha.ok c w env σ _ _ rfl E p fun b e1 w1 E1 l1 q1=>?_;cases b with
  | true=>exact hb.ok c w1 e1 σ _ _ rfl E1 q1 fun b e2 w2 E2 l2 q2=>k _ e2 w2 E2 (l1.trans l2) q2
  | false=>exact k _ e1 w1 E1 l1 q1
instance rt_or {K:Frag} {ta tb:TT} {pa pb:PTt} [ha:RT K ta pa] [hb:RT K tb pb]:RT K (tOr ta tb) (pOr pa pb) where
 ok:=by
  rintro c w env σ Qp Q rfl E p k;refine ha.ok c w env σ _ _ rfl E p fun b e1 w1 E1 l1 q1=>?_;cases b with
  | false=>exact hb.ok c w1 e1 σ _ _ rfl E1 q1 fun b e2 w2 E2 l2 q2=>k _ e2 w2 E2 (l1.trans l2) q2
  | true=>exact k _ e1 w1 E1 l1 q1
def C08 (pa:PDt) (env:PEnv) (Q:SV->PEnv->Prop):Prop:=pa env fun x e=>asB x fun b=>Q (.d (.bool (!b))) e
def C1y (pa:PDt) (pb:PX) (env:PEnv) (Q:SV->PEnv->Prop):Prop:=pa env fun x e=>asB x fun b=>if b=true then pb e Q else Q (.d (.bool false)) e
def pOrV (pa:PDt) (pb:PX) (env:PEnv) (Q:SV->PEnv->Prop):Prop:=pa env fun x e=>asB x fun b=>if b=true then Q (.d (.bool true)) e else pb e Q
instance re_notV {K:Frag} {ta:TE} {pa:PDt} [ha:RW K ta pa]:RE K (B5i ta) (C08 pa) where
 ok:=by
  rintro c w env σ Qp Q rfl E p k;refine ha.ok c w env σ _ _ rfl E p fun x dx e1 w1 E1 l1 v1 q1=>?_;unfold asB at q1;split at q1
  ·exact ⟨_,v1.blE,k _ _ e1 w1 ((Res.data E1 (.bl _)).pre l1) q1⟩
  ·exact q1.elim
instance re_andV {K:Frag} {ta tb:TE} {pa:PDt} {pb:PX} [ha:RW K ta pa] [hb:RE K tb pb]:RE K (B5n ta tb) (C1y pa pb) where
 ok:=by
  rintro c w env σ Qp Q rfl E p k;refine ha.ok c w env σ _ _ rfl E p fun x dx e1 w1 E1 l1 v1 q1=>?_;unfold asB at q1;split at q1
  ·rename_i b;refine ⟨_,v1.blE,?_⟩;cases b with
   | true=>exact hb.ok c w1 e1 σ _ _ rfl E1 q1 fun v s e2 w2 R q2=>k _ _ e2 w2 (R.pre l1) q2
   | false=>exact k _ _ e1 w1 ((Res.data E1 (.bl _)).pre l1) q1
  ·exact q1.elim
instance re_orV {K:Frag} {ta tb:TE} {pa:PDt} {pb:PX} [ha:RW K ta pa] [hb:RE K tb pb]:RE K (tOrV ta tb) (pOrV pa pb) where
 ok:=by
  rintro c w env σ Qp Q rfl E p k;refine ha.ok c w env σ _ _ rfl E p fun x dx e1 w1 E1 l1 v1 q1=>?_;unfold asB at q1;split at q1
  ·rename_i b;refine ⟨_,v1.blE,?_⟩;cases b with
   | false=>exact hb.ok c w1 e1 σ _ _ rfl E1 q1 fun v s e2 w2 R q2=>k _ _ e2 w2 (R.pre l1) q2
   | true=>exact k _ _ e1 w1 ((Res.data E1 (.bl _)).pre l1) q1
  ·exact q1.elim
def pIfE (pt:PTt) (pa pb:PX) (env:PEnv) (Q:SV->PEnv->Prop):Prop:=pt env fun b e=>if b=true then pa e Q else pb e Q
instance re_if {K:Frag} {tt:TT} {ta tb:TE} {pt:PTt} {pa pb:PX} [ht:RT K tt pt] [ha:RE K ta pa] [hb:RE K tb pb]:RE K (tIf tt ta tb) (pIfE pt pa pb) where
 ok:=by
  rintro c w env σ Qp Q rfl E p k;refine ht.ok c w env σ _ _ rfl E p fun b e1 w1 E1 l1 q1=>?_;cases b with
  | true=>exact ha.ok c w1 e1 σ _ _ rfl E1 q1 fun v s e2 w2 R q2=>k _ _ e2 w2 (R.pre l1) q2
  | false=>exact hb.ok c w1 e1 σ _ _ rfl E1 q1 fun v s e2 w2 R q2=>k _ _ e2 w2 (R.pre l1) q2
inductive Md where
 | dat | vw | st | bt
def TV (K:Frag) (w:Wd) (v:V) (t:OT):Prop:=Tre K w t [v]/\∀ a ∈ t.fp,¬ w.M a
theorem TV.mono {K:Frag} {w w':Wd} {v:V} {t:OT} (a:Lw w w') (h:TV K w v t) (hs:∀ a ∈ t.fp,w.H a≠none):TV K w' v t :=
 ⟨h.1.mono a h.2,fun b hb=>a.nm (hs b hb) (h.2 b hb)⟩
theorem Tre.has {K:Frag} {w:Wd}:∀ {t:OT} {vs:List V},Tre K w t vs->∀ a ∈ t.fp,w.H a≠none
 | .leaf _,_,_,_,z=>nomatch z
 | .nd _ p _,_,⟨_,_,h,k⟩,a,z=>(List.mem_cons.mp z).elim (fun e=>by rw [e,h]; simp) (Tre.has k a)
 | .nil,_,_,_,z=>nomatch z
 | .cons _ _,_,⟨_,_,_,h,t⟩,a,z=>(Za z).elim (Tre.has h a) (Tre.has t a)
inductive Args (K:Frag) (w:Wd):List Md->List V->List SV->Prop
 | nil:Args K w [] [] []
 | dat {v:V} {x:PyData} {md:List Md} {vs:List V} {as:List SV}:Den K w.F v x->Args K w md vs as->Args K w (.dat :: md) (v :: vs) (.d x :: as)
 | vw {v:V} {xs:LP} {md:List Md} {vs:List V} {as:List SV}:VV K w v (.list xs)->Args K w md vs as->Args K w (.vw :: md) (v :: vs) (.bor xs :: as)
 | bt {v:V} {t:OT} {md:List Md} {vs:List V} {as:List SV}:TV K w v t->Args K w md vs as->Args K w (.bt :: md) (v :: vs) (.bt t :: as)
 | st {v:V} {md:List Md} {vs:List V} {as:List SV}:(∃ p,v=.ref p/\w.M p)->Args K w md vs as->Args K w (.st :: md) (v :: vs) (.st :: as)
theorem Args.len {K:Frag} {w:Wd}:∀ {md vs as},Args K w md vs as->vs.length=md.length
 | _,_,_,.nil=>rfl
 | _,_,_,.dat _ t=>congrArg (· + 1) (Args.len t)
 | _,_,_,.vw _ t=>congrArg (· + 1) (Args.len t)
 | _,_,_,.st _ t=>congrArg (· + 1) (Args.len t)
 | _,_,_,.bt _ t=>congrArg (· + 1) (Args.len t)
abbrev PSp:=List SV->(SV->Prop)->Prop
def noZ:Addr->Prop:=fun _=>False
def spOf (K:Frag) (md:List Md) (psp:PSp):Sp:=fun vs H Q _=>∃ (w:Wd) (as:List SV) (Qp:SV->Prop),w.H=H/\w.Ok/\Args K w md vs as/\psp as Qp /\
 ∀ v s w',w'.Ok->Le w w'->VR ⟨K,w,noZ⟩ w' v s->s.isRes=true->Qp s->Q v w'.H
theorem spOf.len {K:Frag} {md:List Md} {psp:PSp} {n:Nat} (h:md.length=n):∀ vs H Q E,spOf K md psp vs H Q E->vs.length=n:=by
 rintro vs H Q E ⟨w,as,Qp,_,_,a,_⟩;exact a.len.trans h
class RAm (K:Frag) (md:List Md) (ta:TA) (pa:outParam PAs):Prop where
 ok:∀ (c:Ct) (w:Wd) (env:PEnv) (σ:St) (Qp:List SV->PEnv->Prop) (Q:List V->Hpp->Prop),c.K=K->EnvOk c w env σ->pa env Qp->(∀ vs as env' w',EnvOk c w' env' σ->Lw w w'->Args K w' md vs as->Qp as env'->Q vs w'.H)->ta σ w.H Q
def C1a (env:PEnv) (Q:List SV->PEnv->Prop):Prop:=Q [] env
def B39 (pa:PDt) (pr:PAs) (env:PEnv) (Q:List SV->PEnv->Prop):Prop:=pa env fun x e1=>pr e1 fun as e2=>Q (.d x :: as) e2
def asL (x:PyData) (k:LP->Prop):Prop:=match x with
 | .list xs=>k xs
 | _=>False
def B38 (pa:PDt) (pr:PAs) (env:PEnv) (Q:List SV->PEnv->Prop):Prop:=pa env fun x e1=>asL x fun xs=>pr e1 fun as e2=>Q (.bor xs :: as) e2
def isSt (o:Option (Option SV)) (k:Prop):Prop:=match o with
 | some (some .st)=>k
 | _=>False
def A9b (i:Nat) (pr:PAs) (env:PEnv) (Q:List SV->PEnv->Prop):Prop:=isSt env[i]? (pr env fun as e2=>Q (.st :: as) e2)
instance ram_nil {K:Frag}:RAm K [] tNil C1a:=⟨fun c w env σ Qp Q _ E p k=>k [] [] env w E (Lw.refl w) .nil p⟩
instance ram_dat {K:Frag} {md:List Md} {ta:TE} {tr:TA} {pa:PDt} {pr:PAs} [ha:RD K ta pa] [hr:RAm K md tr pr]:RAm K (.dat :: md) (O1 ta tr) (B39 pa pr) where
 ok:=by
  rintro c w env σ Qp Q rfl E p k;refine ha.ok c w env σ _ _ rfl E p fun x dx e1 w1 E1 l1 v1 q1=>?_;refine hr.ok c w1 e1 σ _ _ rfl E1 q1 fun vs xs e2 w2 E2 l2 v2 q2=>?_;exact k _ _ e2 w2 E2 (l1.trans l2) (.dat (Den.same l2.f v1) v2) q2
instance ram_vw {K:Frag} {md:List Md} {ta:TE} {tr:TA} {pa:PDt} {pr:PAs} [ha:RW K ta pa] [hr:RAm K md tr pr]:RAm K (.vw :: md) (O1 ta tr) (B38 pa pr) where
 ok:=by
  rintro c w env σ Qp Q rfl E p k;refine ha.ok c w env σ _ _ rfl E p fun x dx e1 w1 E1 l1 v1 q1=>?_;unfold asL at q1;split at q1
  ·refine hr.ok c w1 e1 σ _ _ rfl E1 q1 fun vs xs e2 w2 E2 l2 v2 q2=>?_;exact k _ _ e2 w2 E2 (l1.trans l2) (.vw (v1.mono l2) v2) q2
  ·exact q1.elim
instance ram_st {K:Frag} {md:List Md} {i:Nat} {tr:TA} {pr:PAs} [hr:RAm K md tr pr]:RAm K (.st :: md) (O1 (tVar i) tr) (A9b i pr) where
 ok:=by
  rintro c w env σ Qp Q rfl E p k;unfold A9b isSt at p;split at p
  ·rename_i e;obtain ⟨v,h1,h2⟩:=E.at' i _ e;refine ⟨v,h1,?_⟩;refine hr.ok c w env σ _ _ rfl E p fun vs xs e2 w2 E2 l2 v2 q2=>?_;obtain ⟨q,e',hm⟩:=h2;exact k _ _ e2 w2 E2 l2 (.st ⟨q,e',l2.m _ hm⟩ v2) q2
  ·exact p.elim
def C1w (psp:PSp) (pa:PAs) (env:PEnv) (Q:SV->PEnv->Prop):Prop:=pa env fun as e=>psp as fun s=>Q s e
theorem Res.called {c:Ct} {w w':Wd} {env:PEnv} {σ:St} {v:V} {s:SV} (E:EnvOk c w env σ) (ok:w'.Ok) (l:Le w w') (h:VR ⟨c.K,w,noZ⟩ w' v s) (r:s.isRes=true):Res c w env σ w' v s:=by
 refine ⟨E.mono ok l,l.toLw,?_,fun a f=>E.fresh (h.foot f).2.2.2,r⟩;cases s with
 | d x=>exact h
 | own xs=>obtain ⟨a,vs,e,h1,h2,h3,h4,h5⟩:=h; exact ⟨a,vs,e,h1,h2,h3,E.le0.dom _ h4,h5⟩
 | bor xs=>cases r
 | bt t=>cases r
 | al t=>cases r
 | dk ks=>obtain ⟨l',e,h1,h2,h3,h4⟩:=h; exact ⟨l',e,h1,h2,h3,E.le0.dom _ h4⟩
 | st=>exact h
 | tr t=>exact ⟨h.1,fun a f=>⟨(h.2.1 a f).1,(h.2.1 a f).2.1,(h.2.1 a f).2.2.1,E.le0.dom _ (h.2.1 a f).2.2.2⟩,h.2.2⟩
instance re_call {K:Frag} {md:List Md} {psp:PSp} {E0':XK} {ta:TA} {pa:PAs} [ha:RAm K md ta pa]:RE K (A4b (spOf K md psp) [] E0' ta) (C1w psp pa) where
 ok:=by
  rintro c w env σ Qp Q rfl E p k;refine ha.ok c w env σ _ _ rfl E p fun vs as e1 w1 E1 l1 a1 q1=>?_;rw [List.append_nil];exact ⟨w1,as,_,rfl,E1.wok,a1,q1,fun v s w' ok l h r q=>k v s e1 w' ((Res.called E1 ok l h r).pre l1) q⟩
structure PEnds where
 nx:PEnv->Prop
 rt:SV->PEnv->Prop
 bk:PEnv->Prop
 ct:PEnv->Prop
abbrev PSt:=PEnds->PEnv->Prop
structure EndsOk (c:Ct) (w:Wd) (Dp:PEnds) (D:Ends):Prop where
 nx:∀ env σ w',EnvOk c w' env σ->Same w.F w'.F->Dp.nx env->D.nx σ w'.H
 rt:∀ v s env σ w',EnvOk c w' env σ->VR c w' v s->s.isRes=true->Dp.rt s env->D.rt v w'.H
 bk:∀ env σ w',EnvOk c w' env σ->Same w.F w'.F->Dp.bk env->D.bk σ w'.H
 ct:∀ env σ w',EnvOk c w' env σ->Same w.F w'.F->Dp.ct env->D.ct σ w'.H
theorem EndsOk.on {c:Ct} {w w1:Wd} {Dp:PEnds} {D:Ends} (h:EndsOk c w Dp D) (s:Same w.F w1.F):EndsOk c w1 Dp D :=
 ⟨fun e σ w' E s'=>h.nx e σ w' E (s.trans s'),h.rt,fun e σ w' E s'=>h.bk e σ w' E (s.trans s'),fun e σ w' E s'=>h.ct e σ w' E (s.trans s')⟩
class RS (K:Frag) (ts:TS) (ps:outParam PSt):Prop where
 ok:∀ (c:Ct) (w:Wd) (env:PEnv) (σ:St) (Dp:PEnds) (D:Ends),c.K=K->EnvOk c w env σ->EndsOk c w Dp D->ps Dp env->ts D σ w.H
def C1b (D:PEnds) (env:PEnv):Prop:=D.nx env
def B37 (_:PEnds) (_:PEnv):Prop:=False
def pSeq (p q:PSt) (D:PEnds) (env:PEnv):Prop:=p { D with nx:=q D } env
instance rs_next {K:Frag}:RS K B5j C1b:=⟨fun c w env σ Dp D _ E h p=>h.nx env σ w E (Same.refl _) p⟩
instance rs_never {K:Frag}:RS K A72 B37:=⟨fun c w env σ Dp D _ E h p=>p.elim⟩
instance rs_seq {K:Frag} {t u:TS} {p q:PSt} [ht:RS K t p] [hu:RS K u q]:RS K (tSeq t u) (pSeq p q) where
 ok:=by
  rintro c w env σ Dp D rfl E h pr;refine ht.ok c w env σ { Dp with nx:=q Dp } _ rfl E ⟨fun e1 σ1 w1 E1 s1 n1=>?_,h.rt,h.bk,h.ct⟩ pr;exact hu.ok c w1 e1 σ1 Dp D rfl E1 (h.on s1) n1
def C1s (pe:PX) (D:PEnds) (env:PEnv):Prop:=pe env fun _ e=>D.nx e
instance (priority:=low) rs_drop {K:Frag} {te:TE} {pe:PX} [he:RE K te pe]:RS K (A73 te) (C1s pe) where
 ok:=by
  rintro c w env σ Dp D rfl E h p;exact he.ok c w env σ _ _ rfl E p fun v s e1 w1 R q=>h.nx e1 σ w1 R.ev R.lw.f q
def pRet (pe:PX) (D:PEnds) (env:PEnv):Prop:=pe env fun s e=>D.rt s e
instance (priority:=low) rs_ret {K:Frag} {te:TE} {pe:PX} [he:RE K te pe]:RS K (tRet te) (pRet pe) where
 ok:=by
  rintro c w env σ Dp D rfl E h p;exact he.ok c w env σ _ _ rfl E p fun v s e1 w1 R q=>h.rt v s e1 σ w1 R.ev R.val R.res q
def B7b (i:Nat) (D:PEnds) (env:PEnv):Prop:=match env[i]? with
 | some (some (.bor _))=>False
 | some (some (.bt _))=>False
 | some (some (.al _))=>False
 | some (some s)=>D.rt s env
 | _=>False
instance rs_retV {K:Frag} {i:Nat}:RS K (tRet (tVar i)) (B7b i) where
 ok:=by
  rintro c w env σ Dp D rfl E h p;unfold B7b at p;split at p
  ·exact p.elim
  ·exact p.elim
  ·exact p.elim
  ·rename_i s hn hn2 hn3 e;obtain ⟨v,h1,h2⟩:=E.at' i _ e;refine ⟨v,h1,h.rt v s env σ w E h2 ?_ p⟩;cases s with
   | bor xs=>exact absurd rfl (hn xs)
   | bt t=>exact absurd rfl (hn2 t)
   | al t=>exact absurd rfl (hn3 t)
   | _=>rfl
  ·exact p.elim
def pIf (pt:PTt) (p q:PSt) (D:PEnds) (env:PEnv):Prop:=pt env fun b e=>if b=true then p D e else q D e
instance rs_if {K:Frag} {tt:TT} {t u:TS} {pt:PTt} {p q:PSt} [hc:RT K tt pt] [ht:RS K t p] [hu:RS K u q]:RS K (tIfS tt t u) (pIf pt p q) where
 ok:=by
  rintro c w env σ Dp D rfl E h pr;refine hc.ok c w env σ _ _ rfl E pr fun b e1 w1 E1 l1 q1=>?_;cases b with
  | true=>exact ht.ok c w1 e1 σ Dp D rfl E1 (h.on l1.f) q1
  | false=>exact hu.ok c w1 e1 σ Dp D rfl E1 (h.on l1.f) q1
def pAsg (pe:PX) (i:Nat) (D:PEnds) (env:PEnv):Prop:=pe env fun s e=>D.nx (e.set i (some s))
instance rs_asg {K:Frag} {te:TE} {pe:PX} {i:Nat} [he:RE K te pe]:RS K (tAsg te (U4 i)) (pAsg pe i) where
 ok:=by
  rintro c w env σ Dp D rfl E h p;exact he.ok c w env σ _ _ rfl E p fun v s e1 w1 R q=>h.nx _ _ w1 (R.ev.set R.val R.new) R.lw.f q
class RG (K:Frag) (g:TG) (pg:outParam (PyData->PEnv->(PEnv->Prop)->Prop)):Prop where
 ok:∀ (c:Ct) (w:Wd) (env:PEnv) (σ:St) (v:V) (x:PyData) (Qp:PEnv->Prop) (Q:St->Hpp->Prop),c.K=K->EnvOk c w env σ->Den K w.F v x->pg x env Qp->(∀ env' σ',EnvOk c w env' σ'->Qp env'->Q σ' w.H)->g v σ w.H Q
class RGs (K:Frag) (g:TGs) (pg:outParam (LP->PEnv->(PEnv->Prop)->Prop)):Prop where
 ok:∀ (c:Ct) (w:Wd) (env:PEnv) (σ:St) (vs:List V) (xs:LP) (Qp:PEnv->Prop) (Q:St->Hpp->Prop),c.K=K->EnvOk c w env σ->DenAll K w.F vs xs->pg xs env Qp->(∀ env' σ',EnvOk c w env' σ'->Qp env'->Q σ' w.H)->g vs σ w.H Q
def B6d (i:Nat) (x:PyData) (env:PEnv) (Q:PEnv->Prop):Prop:=Q (env.set i (some (.d x)))
instance rg_name {K:Frag} {i:Nat}:RG K (U4 i) (B6d i) where
 ok:=by
  rintro c w env σ v x Qp Q rfl E d p k;exact k _ _ (E.set (s:=.d x) d (fun _ z=>nomatch z)) p
def qNil (xs:LP) (env:PEnv) (Q:PEnv->Prop):Prop:=match xs with
 | []=>Q env
 | _=>False
def B6e (pg:PyData->PEnv->(PEnv->Prop)->Prop) (pr:LP->PEnv->(PEnv->Prop)->Prop) (xs:LP) (env:PEnv) (Q:PEnv->Prop):Prop:=match xs with
 | x :: r=>pg x env fun e=>pr r e Q
 | []=>False
def qTup (n:Nat) (pr:LP->PEnv->(PEnv->Prop)->Prop) (x:PyData) (env:PEnv) (Q:PEnv->Prop):Prop:=match x with
 | .tuple xs=>xs.length=n/\pr xs env Q
 | _=>False
instance rgs_nil {K:Frag}:RGs K gNil qNil where
 ok:=by
  rintro c w env σ vs xs Qp Q rfl E d p k;unfold qNil at p;split at p
  ·cases d; exact ⟨rfl,k env σ E p⟩
  ·exact p.elim
instance rgs_cons {K:Frag} {g:TG} {gs:TGs} {pg:PyData->PEnv->(PEnv->Prop)->Prop} {pr:LP->PEnv->(PEnv->Prop)->Prop} [hg:RG K g pg] [hr:RGs K gs pr]:RGs K (A4v g gs) (B6e pg pr) where
 ok:=by
  rintro c w env σ vs xs Qp Q rfl E d p k;unfold B6e at p;split at p
  ·cases d with
   | cons h t =>
    refine ⟨_,_,rfl,hg.ok c w env σ _ _ _ _ rfl E h p fun e1 σ1 E1 q1=>?_⟩;exact hr.ok c w e1 σ1 _ _ _ _ rfl E1 t q1 k
  ·exact p.elim
instance rg_tup {K:Frag} {n:Nat} {gs:TGs} {pr:LP->PEnv->(PEnv->Prop)->Prop} [hr:RGs K gs pr]:RG K (gTup K n gs) (qTup n pr) where
 ok:=by
  rintro c w env σ v x Qp Q rfl E d p k;unfold qTup at p;split at p
  ·obtain ⟨a,vs,e,h1,h2⟩:=d.tupE;exact ⟨a,vs,e,SqT.same E.wok.sub h1,h2.len.trans p.1,hr.ok c w env σ _ _ _ _ rfl E h2 p.2 k⟩
  ·exact p.elim
def C1x (pd:PDt) (n:Nat) (pr:LP->PEnv->(PEnv->Prop)->Prop) (D:PEnds) (env:PEnv):Prop:=pd env fun x e=>qTup n pr x e D.nx
instance rs_asgT {K:Frag} {te:TE} {pd:PDt} {n:Nat} {gs:TGs} {pr:LP->PEnv->(PEnv->Prop)->Prop} [he:RD K te pd] [hr:RGs K gs pr]:RS K (tAsg te (gTup K n gs)) (C1x pd n pr) where
 ok:=by
  rintro c w env σ Dp D rfl E h p;refine he.ok c w env σ _ _ rfl E p fun v x e1 w1 E1 l1 d1 q1=>?_;exact rg_tup.ok c w1 e1 σ v x _ _ rfl E1 d1 q1 fun e2 σ2 E2 q2=>h.nx e2 σ2 w1 E2 l1.f q2
def pPar (i j:Nat) (pa:PAr) (D:PEnds) (env:PEnv):Prop:=pa env fun xs e=>match xs with
 | [x,y]=>D.nx ((e.set i (some (.d x))).set j (some (.d y)))
 | _=>False
instance rs_par {K:Frag} {ta:TA} {pa:PAr} {i j:Nat} [ha:RAd K ta pa]:RS K (tPar i j ta) (pPar i j pa) where
 ok:=by
  rintro c w env σ Dp D rfl E h p;refine ha.ok c w env σ _ _ rfl E p fun vs xs e1 w1 E1 l1 d1 q1=>?_;split at q1
  ·cases d1 with
   | cons a t=>cases t with
    | cons b t =>
     cases t;exact ⟨_,_,rfl,h.nx _ _ w1 ((E1.set (s:=.d _) a (fun _ z=>nomatch z)).set (s:=.d _) b (fun _ z=>nomatch z)) l1.f q1⟩
  ·exact q1.elim
def A2o (o:Option (Option SV)) (k:LP->Prop):Prop:=match o with
 | some (some (.own xs))=>k xs
 | _=>False
theorem EnvOk.writeAt {c:Ct} {w:Wd} {env:PEnv} {σ:St} {i:Nat} {s s':SV} {l:Addr} {wo:HO} {v:V} (E:EnvOk c w env σ) (e:env[i]?=some (some s)) (hσ:σ[i]?=some (some v)) (hf:s.foot v l) (hf':∀ a,s'.foot v a->s.foot v a)
  (hd:VR c ⟨w.M,upd w.H l wo,w.F⟩ v s'):EnvOk c ⟨w.M,upd w.H l wo,w.F⟩ (env.set i (some s')) σ:=by
 obtain ⟨h1,h2,h3,h4⟩:=(E.look e hσ).foot hf;have ne:∀ b,w.M b->b≠l:=fun b hb z=>h3 (z ▸ hb);have hd':∀ {j:Nat} {t:SV},(env.set i (some s'))[j]?=some (some t)->(i=j/\t=s')\/(i≠j/\env[j]?=some (some t)):=by
  intro j t q;rw [List.getElem?_set] at q;split at q
  ·rename_i z;split at q
   ·cases q; exact .inl ⟨z,rfl⟩
   ·cases q
  ·rename_i z; exact .inr ⟨z,q⟩
 have ft:∀ {j:Nat} {t:SV} {u:V} {a:Addr},(env.set i (some s'))[j]?=some (some t)->σ[j]?=some (some u)->t.foot u a->∃ t',env[j]?=some (some t')/\t'.foot u a:=by
  intro j t u a q qu f;rcases hd' q with ⟨rfl,rfl⟩ | ⟨_,q⟩
  ·rw [hσ] at qu; cases qu; exact ⟨s,e,hf' a f⟩
  ·exact ⟨t,q,f⟩
 refine ⟨⟨fun b o q=>?_,fun p hp=>(E.wok.st p hp).kp (ne p hp) Kp.upd,E.wok.nf⟩,⟨⟨E.le0.f,fun b o q n=>?_,E.le0.m,E.le0.mn,fun b q=>E.le0.dom b (R5 q)⟩,E.le0.n⟩,by simpa using E.len,fun j t q=>?_,fun j k s1 t1 v1 u1 a q1 q2 q3 q4 f1 f2=>?_,fun a za=>?_,fun a j t u za q q' f=>?_⟩
 ·show upd w.H l wo b=some o;rw [D7 (fun z=>by rw [z,h2] at q; cases q)]; exact E.wok.sub b o q
 ·show upd w.H l wo b=some o;rw [D7 (fun z=>by rw [z,h4] at q; cases q)]; exact E.le0.h b o q n
 ·rcases hd' q with ⟨rfl,rfl⟩ | ⟨z,q⟩
  ·exact ⟨v,hσ,hd⟩
  ·obtain ⟨u,g1,g2⟩:=E.at' j t q;exact ⟨u,g1,g2.writ h1 fun f=>z (E.own i j _ _ _ _ l e q hσ g1 hf f)⟩
 ·obtain ⟨_,p1,g1⟩:=ft q1 q3 f1;obtain ⟨_,p2,g2⟩:=ft q2 q4 f2;exact E.own j k _ _ _ _ a p1 p2 q3 q4 g1 g2
 ·obtain ⟨z1,z2,z3⟩:=E.zf a za;exact ⟨z1,fun q=>z2 (R5 q),z3⟩
 ·obtain ⟨_,p,g⟩:=ft q q' f;exact E.zo a j _ _ za p q' g
theorem EnvOk.write {c:Ct} {w:Wd} {env:PEnv} {σ:St} {i:Nat} {xs ys:LP} {l:Addr} {vs us:List V} (E:EnvOk c w env σ) (e:env[i]?=some (some (.own xs))) (hσ:σ[i]?=some (some (.ref l))) (h1:w.H l=some (.lst vs)) (h2:w.F l=none) (h3:¬ w.M l) (h4:c.w0.H l=none)
  (hd:DenAll c.K w.F us ys):EnvOk c ⟨w.M,upd w.H l (.lst us),w.F⟩ (env.set i (some (.own ys))) σ :=
 E.writeAt e hσ rfl (fun _ f=>f) ⟨l,us,rfl,D5,h2,h3,h4,hd⟩
def pApp (i:Nat) (pd:PDt) (D:PEnds) (env:PEnv):Prop:=A2o env[i]? fun _=>pd env fun x e=>A2o e[i]? fun xs=>xs.length < 1000000/\D.nx (e.set i (some (.own (xs++[x]))))
theorem A5n {n:Nat} (h:n < 1000000):n < sizeLine:=Nat.lt_of_lt_of_le h (by decide)
instance rs_app {K:Frag} {i:Nat} {te:TE} {pd:PDt} [he:RD K te pd]:RS K (A73 (tBM K "list" A8h (tVar i) (O1 te tNil))) (pApp i pd) where
 ok:=by
  rintro c w env σ Dp D rfl E h p;unfold pApp A2o at p;split at p
  ·rename_i xs0 e0;obtain ⟨v,g0,l,vs,ev,h1,h2,h3,h4,h5⟩:=E.at' i _ e0;subst ev;refine ⟨_,g0,.inl ⟨rfl,_,SqL.of h1⟩,?_⟩;refine he.ok c w env σ _ _ rfl E p fun y x e1 w1 E1 l1 d1 q1=>?_;split at q1
   ·rename_i xs e;obtain ⟨v',g0',l',vs',ev',k1,k2,k3,k4,k5⟩:=E1.at' i _ e;rw [g0] at g0'; cases g0'; cases ev';refine ⟨l,vs',y,rfl,rfl,k1,by rw [k5.len]; exact A5n q1.1,?_⟩;exact h.nx _ σ ⟨w1.M,upd w1.H l (.lst (vs'++[y])),w1.F⟩ (E1.write e g0 k1 k2 k3 k4 (k5.app (.cons d1 .nil))) l1.f q1.2
   ·exact q1.elim
  ·exact p.elim
end Pu
namespace L2
open PySem PySem.Spec PyProof.Rows
section
variable {X:Cx} {tg:Expr}
def iSq (K:PySem.W.Frag) (tl:TE):TI:=fun σ H R=>tl σ H fun x H1=>(∃ a,x=.ref a/\(∃ xs,SqL K H1 a xs)/\R (Itl K a) H1)\/∃ a,x=.ref a/\(∃ xs,SqT K H1 a xs)/\R (Itt K a) H1
theorem C3v {l:Expr} {tl:TE} (hl:PE X l tl):PI X tg l (iSq X.K tl):=by
 intro pins s σ H R I h;refine thn (hl pins s σ H _ I h) fun v s1 ⟨x,H1,I1,r1,q1⟩=>?_;rcases q1 with ⟨a,e,⟨xs,hq⟩,q⟩ | ⟨a,e,⟨xs,hq⟩,q⟩
 ·subst e;cases r1;obtain ⟨its,rv,p,hz⟩:=I1.list hq;refine wpAny_pyIter_list p.isList ?_;refine ⟨s1.heap.objs.size,[s1.heap.objs.size],_,_,H1,rfl,I1.kept (t':=s1.toks) fun b o e=>Heap.get?_push_of_some _ e,A7x a _,⟨_,Heap.get?_push_size _ rfl,rfl,rfl⟩,fun b hb=>?_,q⟩;have e:b=s1.heap.objs.size:=by simpa using hb
  subst e;exact I1.fpOk (Zv _) (I1.hok.fresh (Zv _))
 ·subst e;cases r1;obtain ⟨its,rv,p,hz⟩:=I1.tuple hq;refine wpAny_pyIter_tuple (show s1.heap.IsTuple a its.toArray from p) ?_;refine ⟨s1.heap.objs.size,[s1.heap.objs.size],_,_,H1,rfl,I1.kept (t':=s1.toks) fun b o e=>Heap.get?_push_of_some _ e,A6w a _,⟨_,Heap.get?_push_size _ rfl,rfl,rfl⟩,fun b hb=>?_,q⟩;have e:b=s1.heap.objs.size:=by simpa using hb
  subst e;exact I1.fpOk (Zv _) (I1.hok.fresh (Zv _))
theorem C0n {K:PySem.W.Frag} {l:Expr} {tl:TE} (h:X.K=K) (hl:PE X l tl):PI X tg l (iSq K tl):=by subst h; exact C3v hl
theorem C8 {K:PySem.W.Frag} (h:X.K=K) (hu:X.A.units + 64 < cLine):OpR X (compareOp .Eq) (rEqD K):=by subst h; exact C16 hu
theorem N2 {K:PySem.W.Frag} (h:X.K=K) (hu:X.A.units + 64 < cLine):OpR X (compareOp .NotEq) (rNeD K):=by subst h; exact C12 hu
theorem X3 {K:PySem.W.Frag} (h:X.K=K):SlR X (rSlL K):=by subst h; exact B5w
end
end L2
namespace Pu
open PySem L2 My Prf
def B35 (pt:PTt) (pb:PSt) (D:PEnds) (env:PEnv):Prop:=∃ Inv:Nat->PEnv->Prop,(∃ m,Inv m env)/\∀ m e,Inv m e->pt e fun b e2=>if b=true then pb ⟨fun e3=>∃ m',m' < m/\Inv m' e3,D.rt,D.nx,fun e3=>∃ m',m' < m/\Inv m' e3⟩ e2 else D.nx e2
instance rs_while {K:Frag} {tt:TT} {tb:TS} {pt:PTt} {pb:PSt} [ht:RT K tt pt] [hb:RS K tb pb]:RS K (A71 tt tb) (B35 pt pb) where
 ok:=by
  rintro c w env σ Dp D rfl E h ⟨Inv,⟨m0,i0⟩,step⟩;refine ⟨fun m σ' H'=>∃ e w',w'.H=H'/\EnvOk c w' e σ'/\Same w.F w'.F/\Inv m e,⟨m0,env,w,rfl,E,Same.refl _,i0⟩,?_⟩;rintro m σ1 _ ⟨e1,w1,rfl,E1,s1,i1⟩;refine ht.ok c w1 e1 σ1 _ _ rfl E1 (step m e1 i1) fun b e2 w2 E2 l2 q2=>?_;cases b with
  | true =>
   refine ⟨fun σ' H'=>∃ e w',w'.H=H'/\EnvOk c w' e σ'/\Same w.F w'.F/\∃ m',m' < m/\Inv m' e,fun σ' H' ⟨e,w',e1,E',s',m',hm,i'⟩=>⟨m',hm,e,w',e1,E',s',i'⟩,?_⟩;refine hb.ok c w2 e2 σ1 ⟨fun e3=>∃ m',m' < m/\Inv m' e3,Dp.rt,Dp.nx,fun e3=>∃ m',m' < m/\Inv m' e3⟩ _ rfl E2 ⟨fun e3 σ3 w3 E3 s3 n3=>⟨e3,w3,rfl,E3,s1.trans (l2.f.trans s3),n3⟩,h.rt,fun e3 σ3 w3 E3 s3 n3=>h.nx e3 σ3 w3 E3 (s1.trans (l2.f.trans s3)) n3,fun e3 σ3 w3 E3 s3 n3=>⟨e3,w3,rfl,E3,s1.trans (l2.f.trans s3),n3⟩⟩ q2
  | false=>exact h.nx e2 σ1 w2 E2 (s1.trans l2.f) q2
def Walk (c:Ct) (w1:Wd) (J:It) (xs:LP):Prop :=
 ∀ w',w'.Ok->Le c.w0 w'->Same w1.F w'.F->(∀ i,i < xs.length->J.go i w'.H)/\J.stop xs.length w'.H/\∀ i v H',J.yld i w'.H v H'->i < xs.length->∃ w2 x,w2.H=H'/\w2.Ok/\Le w' w2/\xs[i]?=some x/\Den c.K w2.F v x
class RI (K:Frag) (wi:TI) (pi:outParam PAr):Prop where
 ok:∀ (c:Ct) (w:Wd) (env:PEnv) (σ:St) (Qp:LP->PEnv->Prop) (R:It->Hpp->Prop),c.K=K->EnvOk c w env σ->pi env Qp->(∀ J xs env' w',EnvOk c w' env' σ->Lw w w'->Walk c w' J xs->Qp xs env'->R J w'.H)->wi σ w.H R
theorem M7 {c:Ct} {w1:Wd} {a:Addr} {vs:List V} {xs:LP} (d:DenAll c.K w1.F vs xs) (h:∀ w',w'.Ok->Le c.w0 w'->Same w1.F w'.F->SqL c.K w'.H a vs):Walk c w1 (Itl c.K a) xs:=by
 intro w' ok l s;have q:=h w' ok l s;have hl:=d.len;refine ⟨fun i hi=>⟨vs,vs[i]'(by omega),q,Zg _⟩,⟨vs,q,by omega⟩,fun i v H' y hi=>?_⟩;obtain ⟨e,y⟩:=y;obtain ⟨x,g1,g2⟩:=d.get (y vs q);exact ⟨w',x,e.symm,ok,Le.refl w',g1,Den.same s g2⟩
theorem A5h {c:Ct} {w1:Wd} {a:Addr} {vs:List V} {xs:LP} (d:DenAll c.K w1.F vs xs) (h:∀ w',w'.Ok->Le c.w0 w'->Same w1.F w'.F->SqT c.K w'.H a vs):Walk c w1 (Itt c.K a) xs:=by
 intro w' ok l s;have q:=h w' ok l s;have hl:=d.len;refine ⟨fun i hi=>⟨vs,vs[i]'(by omega),q,Zg _⟩,⟨vs,q,by omega⟩,fun i v H' y hi=>?_⟩;obtain ⟨e,y⟩:=y;obtain ⟨x,g1,g2⟩:=d.get (y vs q);exact ⟨w',x,e.symm,ok,Le.refl w',g1,Den.same s g2⟩
def A2n (x:PyData) (k:LP->Prop):Prop:=match x with
 | .list xs=>k xs
 | .tuple xs=>k xs
 | _=>False
def C1l (pd:PDt) (env:PEnv) (Q:LP->PEnv->Prop):Prop:=pd env fun x e=>A2n x fun xs=>Q xs e
instance (priority:=low) ri_sq {K:Frag} {tl:TE} {pd:PDt} [hl:RD K tl pd]:RI K (iSq K tl) (C1l pd) where
 ok:=by
  rintro c w env σ Qp R rfl E p k;refine hl.ok c w env σ _ _ rfl E p fun v x e1 w1 E1 l1 d1 q1=>?_;unfold A2n at q1;split at q1
  ·obtain ⟨a,vs,e,h1,h2⟩:=d1.lstE;exact .inl ⟨a,e,⟨vs,E1.wok.sub.seq h1⟩,k _ _ e1 w1 E1 l1 (M7 h2 fun w' ok l s=>(s.trans ok.sub).seq h1) q1⟩
  ·obtain ⟨a,vs,e,h1,h2⟩:=d1.tupE;exact .inr ⟨a,e,⟨vs,SqT.same E1.wok.sub h1⟩,k _ _ e1 w1 E1 l1 (A5h h2 fun w' ok l s=>SqT.same (s.trans ok.sub) h1) q1⟩
  ·exact q1.elim
def A88 (i:Nat) (env:PEnv) (Q:LP->PEnv->Prop):Prop:=match env[i]? with
 | some (some (.d x))=>A2n x fun xs=>Q xs env
 | some (some (.own xs))=>Q xs (env.set i (some (.d (.list xs))))
 | some (some (.bor xs))=>Q xs env
 | _=>False
instance ri_var {K:Frag} {i:Nat}:RI K (iSq K (tVar i)) (A88 i) where
 ok:=by
  rintro c w env σ Qp R rfl E p k;unfold A88 at p;split at p
  ·rename_i x e;obtain ⟨v,h1,h2⟩:=E.at' i _ e;refine ⟨v,h1,?_⟩;unfold A2n at p;split at p
   ·obtain ⟨a,vs,e,g1,g2⟩:=Den.lstE h2;exact .inl ⟨a,e,⟨vs,E.wok.sub.seq g1⟩,k _ _ env w E (Lw.refl w) (M7 g2 fun w' ok l s=>(s.trans ok.sub).seq g1) p⟩
   ·obtain ⟨a,vs,e,g1,g2⟩:=Den.tupE h2;exact .inr ⟨a,e,⟨vs,SqT.same E.wok.sub g1⟩,k _ _ env w E (Lw.refl w) (A5h g2 fun w' ok l s=>SqT.same (s.trans ok.sub) g1) p⟩
   ·exact p.elim
  ·rename_i xs e;obtain ⟨w',v,e',hv,E',l,d⟩:=E.frz e;refine ⟨v,hv,?_⟩;obtain ⟨a,vs,e,g1,g2⟩:=d.lstE;have:=k _ _ _ w' E' l (M7 g2 fun w' ok l s=>(s.trans ok.sub).seq g1) p;rw [e'] at this;exact .inl ⟨a,e,⟨vs,by rw [<- e']; exact E'.wok.sub.seq g1⟩,this⟩
  ·rename_i xs e;obtain ⟨v,h1,h2⟩:=E.at' i _ e;refine ⟨v,h1,?_⟩;rcases h2 with h2 | ⟨l,vs,ev,g1,g2,g3⟩
   ·obtain ⟨a,vs,e,g1,g2⟩:=Den.lstE h2;exact .inl ⟨a,e,⟨vs,E.wok.sub.seq g1⟩,k _ _ env w E (Lw.refl w) (M7 g2 fun w' ok l s=>(s.trans ok.sub).seq g1) p⟩
   ·exact .inl ⟨l,ev,⟨vs,SqL.of (E.le0.h _ _ g1 g2)⟩,k _ _ env w E (Lw.refl w) (M7 g3 fun w' ok l' s=>SqL.of (l'.h _ _ g1 g2)) p⟩
  ·exact p.elim
def rngD (lo:Int) (n:Nat):LP:=(List.range n).map fun k:Nat=>PyData.int (lo + (k:Int))
theorem J0 (lo:Int) (n:Nat):(rngD lo n).length=n:=by simp [rngD]
theorem A5r {lo:Int} {n i:Nat} {x:PyData} (h:(rngD lo n)[i]?=some x):i < n/\x=.int (lo + (i:Int)):=by
 unfold rngD at h;rw [Zh] at h;by_cases hi:i < n
 ·rw [List.getElem?_range hi] at h; cases h; exact ⟨hi,rfl⟩
 ·rw [List.getElem?_eq_none (by simpa using hi)] at h; cases h
theorem A5i {c:Ct} {w1:Wd} {lo:Int} {n:Nat}:Walk c w1 (Itr lo n) (rngD lo n):=by
 intro w' ok l s;refine ⟨fun i hi=>by rw [J0] at hi; exact hi,by rw [J0]; exact Zv _,fun i v H' y hi=>?_⟩;obtain ⟨e,y⟩:=y;subst y;rw [J0] at hi;refine ⟨w',.int (lo + i),e.symm,ok,Le.refl w',?_,.int _⟩;unfold rngD;rw [Zh,List.getElem?_range hi]; rfl
def C04 (pa:PAr) (env:PEnv) (Q:LP->PEnv->Prop):Prop:=pa env fun xs e=>match xs with
 | [.int j]=>(-(2 ^ 62)<=j/\j < 2 ^ 62)/\Q (rngD 0 j.toNat) e
 | _=>False
def C03 (pa:PAr) (env:PEnv) (Q:LP->PEnv->Prop):Prop:=pa env fun xs e=>match xs with
 | [.int i,.int j]=>(-(2 ^ 62)<=i/\i < 2 ^ 62/\-(2 ^ 62)<=j/\j < 2 ^ 62)/\Q (rngD i (j - i).toNat) e
 | _=>False
instance ri_rng1 {K:Frag} {ta:TA} {pa:PAr} [ha:RAv K ta pa]:RI K (B8t ta) (C04 pa) where
 ok:=by
  rintro c w env σ Qp R rfl E p k;refine ha.ok c w env σ _ _ rfl E p fun vs xs e1 w1 E1 l1 v1 q1=>?_;split at q1
  ·cases v1 with | cons h t=>cases t; exact ⟨_,by rw [h.intE],q1.1.1,q1.1.2,k _ _ e1 w1 E1 l1 A5i q1.2⟩
  ·exact q1.elim
instance ri_rng2 {K:Frag} {ta:TA} {pa:PAr} [ha:RAv K ta pa]:RI K (B8s ta) (C03 pa) where
 ok:=by
  rintro c w env σ Qp R rfl E p k;refine ha.ok c w env σ _ _ rfl E p fun vs xs e1 w1 E1 l1 v1 q1=>?_;split at q1
  ·cases v1 with | cons h t=>cases t with | cons h' t=>cases t; exact ⟨_,_,by rw [h.intE,h'.intE],q1.1,k _ _ e1 w1 E1 l1 A5i q1.2⟩
  ·exact q1.elim
def A3c (xs:LP) (pg:PyData->PEnv->(PEnv->Prop)->Prop) (pb:PSt) (D:PEnds) (env:PEnv):Prop :=
 ∃ Inv:Nat->PEnv->Prop,Inv 0 env/\(∀ i x e,xs[i]?=some x->Inv i e->pg x e fun e2=>pb ⟨Inv (i + 1),D.rt,D.nx,Inv (i + 1)⟩ e2)/\∀ e,Inv xs.length e->D.nx e
def pFor (pi:PAr) (pg:PyData->PEnv->(PEnv->Prop)->Prop) (pb:PSt) (D:PEnds) (env:PEnv):Prop:=pi env fun xs e=>A3c xs pg pb D e
instance rs_for {K:Frag} {wi:TI} {g:TG} {tb:TS} {pi:PAr} {pg:PyData->PEnv->(PEnv->Prop)->Prop} {pb:PSt} [hi:RI K wi pi] [hg:RG K g pg] [hb:RS K tb pb]:RS K (tFor wi g tb) (pFor pi pg pb) where
 ok:=by
  rintro c w env σ Dp D rfl E h p;refine hi.ok c w env σ _ _ rfl E p fun J xs e1 w1 E1 l1 wk ⟨Iv,i0,step,fin⟩=>?_;refine ⟨fun i m σ' H'=>m=xs.length - i/\i<=xs.length/\∃ e w',w'.H=H'/\EnvOk c w' e σ'/\Same w1.F w'.F/\Iv i e,⟨xs.length,rfl,Nat.zero_le _,e1,w1,rfl,E1,Same.refl _,i0⟩,?_⟩;rintro i m σ2 _ ⟨rfl,hle,e2,w2,rfl,E2,s2,i2⟩;obtain ⟨go,stop,yld⟩:=wk w2 E2.wok E2.le0 s2;by_cases hlt:i < xs.length
  ·refine .inr ⟨go i hlt,fun σ' H'=>i + 1<=xs.length/\∃ e w',w'.H=H'/\EnvOk c w' e σ'/\Same w1.F w'.F/\Iv (i + 1) e,fun σ' H' ⟨q0,q⟩=>⟨xs.length - (i + 1),by omega,rfl,q0,q⟩,fun v H' y=>?_⟩;obtain ⟨w2',x,rfl,ok2,le2,hx,dx⟩:=yld i v H' y hlt;replace E2:=E2.mono ok2 le2;replace s2:=s2.trans le2.f;clear yld go stop y le2 ok2;generalize w2'=w2 at E2 s2 dx;refine hg.ok c w2 e2 σ2 v x _ _ rfl E2 dx (step i x e2 hx i2) fun e3 σ3 E3 q3=>?_;refine hb.ok c w2 e3 σ3 ⟨Iv (i + 1),Dp.rt,Dp.nx,Iv (i + 1)⟩ _ rfl E3 ⟨fun e4 σ4 w4 E4 s4 n4=>⟨hlt,e4,w4,rfl,E4,s2.trans s4,n4⟩,h.rt,fun e4 σ4 w4 E4 s4 n4=>h.nx e4 σ4 w4 E4 (l1.f.trans (s2.trans s4)) n4,fun e4 σ4 w4 E4 s4 n4=>⟨hlt,e4,w4,rfl,E4,s2.trans s4,n4⟩⟩ q3
  ·have e:i=xs.length:=by omega
   subst e;exact .inl ⟨stop,h.nx e2 σ2 w2 E2 (l1.f.trans s2) (fin e2 i2)⟩
theorem P4 {lo:Int} {n:Nat} {pg:PyData->PEnv->(PEnv->Prop)->Prop} {pb:PSt} {D:PEnds} {env:PEnv} (Inv:Nat->PEnv->Prop) (h0:Inv 0 env)
  (hs:∀ (i:Nat) e,i < n->Inv i e->pg (.int (lo + (i:Int))) e fun e2=>pb ⟨Inv (i + 1),D.rt,D.nx,Inv (i + 1)⟩ e2) (hd:∀ e,Inv n e->D.nx e):A3c (rngD lo n) pg pb D env :=
 ⟨Inv,h0,fun i x e hx hi=>by obtain ⟨h1,rfl⟩:=A5r hx; exact hs i e h1 hi,fun e h=>hd e (by rwa [J0] at h)⟩
def SV.lent:SV->Option SV
 | .own xs=>some (.bor xs)
 | .tr _=>none
 | .bt _=>none
 | .dk _=>none
 | s=>some s
def O5 (cap:List (Option Nat)) (env:PEnv):PEnv:=cap.map fun o=>o.bind fun j=>(env[j]?).join.bind SV.lent
theorem EnvOk.writeZ {c:Ct} {w:Wd} {env:PEnv} {σ:St} {l:Addr} {us:List V} (E:EnvOk c w env σ) (z:c.Z l) (h4:c.w0.H l=none):EnvOk c ⟨w.M,upd w.H l (.lst us),w.F⟩ env σ:=by
 obtain ⟨h2,h1,h3⟩:=E.zf l z;have ne:∀ b,w.M b->b≠l:=fun b hb z=>h3 (z ▸ hb);refine ⟨⟨fun b o q=>?_,fun p hp=>(E.wok.st p hp).kp (ne p hp) Kp.upd,E.wok.nf⟩,⟨⟨E.le0.f,fun b o q n=>?_,E.le0.m,E.le0.mn,fun b q=>E.le0.dom b (R5 q)⟩,E.le0.n⟩,E.len,fun j s q=>?_,E.own,fun a za=>?_,E.zo⟩
 ·show upd w.H l (.lst us) b=some o;rw [D7 (fun z=>by rw [z,h2] at q; cases q)]; exact E.wok.sub b o q
 ·show upd w.H l (.lst us) b=some o;rw [D7 (fun z=>by rw [z,h4] at q; cases q)]; exact E.le0.h b o q n
 ·obtain ⟨v,g1,g2⟩:=E.at' j s q;exact ⟨v,g1,g2.writ h1 (E.zo l j s v z q g1)⟩
 ·obtain ⟨z1,z2,z3⟩:=E.zf a za;exact ⟨z1,fun q=>z2 (R5 q),z3⟩
theorem EnvOk.cap {c:Ct} {w:Wd} {env:PEnv} {σ:St} {D:Addr} (cap:List (Option Nat)) (E:EnvOk c w env σ) (hD:w.H D=none):EnvOk ⟨c.K,w,fun a=>a=D⟩ (w.lay D (.lst [])) (O5 cap env) (capσ cap σ):=by
 have nown:∀ (i:Nat) s v a,(O5 cap env)[i]?=some (some s)->¬ s.foot v a:=fun i s0 v a q f=>by
  unfold O5 at q;rw [Zh] at q;cases hc:cap[i]? with
  | none=>rw [hc] at q; cases q
  | some o =>
   rw [hc] at q;cases o with
   | none=>cases q
   | some j =>
    have q':((env[j]?).join.bind SV.lent)=some s0:=Zj q;cases hj:(env[j]?).join with
    | none=>rw [hj] at q'; cases q'
    | some s=>rw [hj] at q'; cases s <;> cases q' <;> exact f
 refine ⟨Wd.lay_ok E.wok hD,Wd.lay_le hD,by simp [O5,capσ],fun i s q=>?_,fun i j s t v u a q _ _ _ f=>absurd f (nown i s v a q),fun a za=>?_,fun a j t u _ q _=>nown j t u a q⟩
 ·unfold O5 at q;unfold capσ;rw [Zh] at q ⊢;cases hc:cap[i]? with
  | none=>rw [hc] at q; cases q
  | some o =>
   rw [hc] at q;cases o with
   | none=>cases q
   | some j =>
    have q':((env[j]?).join.bind SV.lent)=some s:=Zj q;cases hj:env[j]? with
    | none=>rw [hj] at q'; cases q'
    | some t =>
     rw [hj] at q';cases t with
     | none=>cases q'
     | some s0 =>
      have q2:s0.lent=some s:=q';obtain ⟨v,h1,h2⟩:=E.at' j s0 hj;refine ⟨v,by simp [h1],?_⟩;cases s0 with
      | d x=>cases q2; exact h2
      | own xs=>cases q2; obtain ⟨l,vs,e,g1,g2,g3,g4,g5⟩:=h2; exact .inr ⟨l,vs,e,g1,g3,g5⟩
      | bor xs =>
       cases q2;rcases h2.vv E.le0 with g | ⟨l,vs,ys,e,e',g1,g2,g3⟩
       ·exact .inl g
       ·cases e'; exact .inr ⟨l,vs,e,g1,g2,g3⟩
      | st=>cases q2; exact h2
      | tr t=>cases q2
      | bt t=>cases q2
      | al t=>cases q2; exact h2
      | dk t=>cases q2
 ·have e:a=D:=za;subst e;exact ⟨E.wok.fnone hD,by show upd w.H a (.lst []) a≠none; rw [D5]; simp,fun z=>E.wok.mne hD z rfl⟩
theorem Walk.up {c:Ct} {w:Wd} {J:It} {xs:LP} (h:Walk c w J xs) (l:Le c.w0 w):Walk ⟨c.K,w,c.Z⟩ w J xs:=fun w' ok l' s=>h w' ok (l.trans l') s
def O8 (xs:LP) (pg:PyData->PEnv->(PEnv->Prop)->Prop) (pt:PTt) (pd:PDt) (e0:PEnv) (Fin:LP->Prop):Prop :=
 ∃ Pv:Nat->PEnv->LP->Prop,Pv 0 e0 []/\(∀ i x e ys,xs[i]?=some x->Pv i e ys->pg x e fun e2=>pt e2 fun b e3=>if b=true then pd e3 fun y e4=>Pv (i + 1) e4 (ys++[y]) else Pv (i + 1) e3 ys)/\∀ e ys,Pv xs.length e ys->Fin ys
theorem A43 {K:Frag} {g:TG} {tt:TT} {te:TE} {pg:PyData->PEnv->(PEnv->Prop)->Prop} {pt:PTt} {pd:PDt} [hg:RG K g pg] [ht:RT K tt pt] [he:RD K te pd] {c:Ct} {w:Wd} {env:PEnv} {σ:St} {J:It} {xs:LP} {cap:List (Option Nat)} {D:Addr} {Fp:LP->Prop} {Fin:Hpp->Prop}
  (hK:c.K=K) (E:EnvOk c w env σ) (wk:Walk ⟨c.K,w,c.Z⟩ w J xs) (hn:xs.length < 1000000) (p:O8 xs pg pt pd (O5 cap env) Fp) (hD:w.H D=none) (k:∀ w' ys,Res c w env σ w' (.ref D) (.own ys)->Fp ys->Fin w'.H):A6p J g tt te D Fin (capσ cap σ) w.H:=by
 subst hK;obtain ⟨Pv,p0,step,fin⟩:=p;have hw0:c.w0.H D=none:=E.le0.dom D hD;refine ⟨fun i m σ' H' vs=>m=xs.length - i/\i<=xs.length/\∃ e w' ys,w'.H=H'/\EnvOk ⟨c.K,w,fun a=>a=D⟩ w' e σ'/\w'.H D=some (.lst vs)/\vs.length<=i/\DenAll c.K w'.F vs ys/\Pv i e ys,
  ⟨xs.length,rfl,Nat.zero_le _,O5 cap env,w.lay D (.lst []),[],rfl,E.cap cap hD,D5,Zv _,.nil,p0⟩,?_⟩
 rintro i m σ1 _ vs ⟨rfl,hle,e1,w1,ys,rfl,E1,h1,hvl,d1,q1⟩;refine ⟨h1,A5n (by omega),?_⟩;obtain ⟨go,stop,yld⟩:=wk w1 E1.wok E1.le0 E1.le0.f;by_cases hlt:i < xs.length
 ·refine .inr ⟨go i hlt,fun v H' y=>?_⟩;obtain ⟨w1',x,rfl,ok1',le1,hx,dx⟩:=yld i v H' y hlt;replace h1:=le1.h _ _ h1 (E1.zf D rfl).2.2;replace E1:=E1.mono ok1' le1;replace d1:=DenAll.same le1.f d1;clear yld go stop y le1 ok1';generalize w1'=w1 at E1 h1 d1 dx;refine hg.ok ⟨c.K,w,fun a=>a=D⟩ w1 e1 σ1 v x _ _ rfl E1 dx (step i x e1 ys hx q1) fun e2 σ2 E2 q2=>?_;refine ht.ok ⟨c.K,w,fun a=>a=D⟩ w1 e2 σ2 _ _ rfl E2 q2 fun b e3 w3 E3 l3 q3=>?_;have nm:=(E2.zf D rfl).2.2;have h3:=l3.h _ _ h1 nm;cases b with
  | true =>
   refine he.ok ⟨c.K,w,fun a=>a=D⟩ w3 e3 σ2 _ _ rfl E3 q3 fun y' y e4 w4 E4 l4 d4 q4=>?_;have h4:=l4.h _ _ h3 (E3.zf D rfl).2.2;refine ⟨vs,h4,A5n (by omega),xs.length - (i + 1),by omega,rfl,hlt,e4,⟨w4.M,upd w4.H D (.lst (vs++[y'])),w4.F⟩,ys++[y],rfl,E4.writeZ rfl hD,D5,by rw [Ze]; simp; exact hvl,(DenAll.same (l3.f.trans l4.f) d1).app (.cons d4 .nil),q4⟩
  | false =>
   exact ⟨xs.length - (i + 1),by omega,rfl,hlt,e3,w3,ys,rfl,E3,h3,by omega,DenAll.same l3.f d1,q3⟩
 ·have e:i=xs.length:=by omega
  subst e;obtain ⟨z1,z2,z3⟩:=E1.zf D rfl;refine .inl ⟨stop,k w1 ys ⟨E.mono E1.wok E1.le0,E1.le0.toLw,⟨D,vs,rfl,h1,z1,z3,hw0,d1⟩,fun a f=>?_,rfl⟩ (fin e1 ys q1)⟩;have:V.ref D=.ref a:=f;cases this;exact E.fresh hD
def C1u (pi:PAr) (pg:PyData->PEnv->(PEnv->Prop)->Prop) (pt:PTt) (pd:PDt) (cap:List (Option Nat)) (env:PEnv) (Q:SV->PEnv->Prop):Prop:=pi env fun xs e=>xs.length < 1000000/\O8 xs pg pt pd (O5 cap e) fun ys=>Q (.own ys) e
instance re_comp {K:Frag} {wi:TI} {g:TG} {tt:TT} {te:TE} {cap:List (Option Nat)} {pi:PAr} {pg:PyData->PEnv->(PEnv->Prop)->Prop} {pt:PTt} {pd:PDt} [hi:RI K wi pi] [hg:RG K g pg] [ht:RT K tt pt] [he:RD K te pd]:RE K (B5m wi g tt te cap) (C1u pi pg pt pd cap) where
 ok:=by
  rintro c w env σ Qp Q rfl E p k;refine hi.ok c w env σ _ _ rfl E p fun J xs e1 w1 E1 l1 wk ⟨hn,q⟩ D hD=>?_;exact A43 (pg:=pg) (pt:=pt) (pd:=pd) rfl E1 (wk.up E1.le0) hn q hD fun w' ys R q'=>k _ _ e1 w' (R.pre l1) q'
def A52 (pi:PAr) (pg:PyData->PEnv->(PEnv->Prop)->Prop) (pt:PTt) (pd:PDt) (cap:List (Option Nat)) (i:Nat) (D:PEnds) (env:PEnv):Prop:=pi env fun xs e=>xs.length < 1000000/\O8 xs pg pt pd (O5 cap e) fun ys=>D.nx (e.set i (some (.own ys)))
instance rs_setComp {K:Frag} {wi:TI} {g:TG} {tt:TT} {te:TE} {cap:List (Option Nat)} {i:Nat} {pi:PAr} {pg:PyData->PEnv->(PEnv->Prop)->Prop} {pt:PTt} {pd:PDt} [hi:RI K wi pi] [hg:RG K g pg] [ht:RT K tt pt] [he:RD K te pd]:RS K (X2 wi g tt te cap i) (A52 pi pg pt pd cap i) where
 ok:=by
  rintro c w env σ Dp D rfl E h p;refine hi.ok c w env σ _ _ rfl E p fun J xs e1 w1 E1 l1 wk ⟨hn,q⟩ l hl=>?_;exact A43 (pg:=pg) (pt:=pt) (pd:=pd) rfl E1 (wk.up E1.le0) hn q hl fun w' ys R q'=>h.nx _ _ w' (R.ev.set R.val R.new) (l1.f.trans R.lw.f) q'
class RP (K:Frag) (to:TO) (po:outParam (PEnv->(Option Int->PEnv->Prop)->Prop)):Prop where
 ok:∀ (c:Ct) (w:Wd) (env:PEnv) (σ:St) (Qp:Option Int->PEnv->Prop) (Q:Option Int->Hpp->Prop),c.K=K->EnvOk c w env σ->po env Qp->(∀ o env' w',EnvOk c w' env' σ->Lw w w'->Qp o env'->Q o w'.H)->to σ w.H Q
def A86 (env:PEnv) (Q:Option Int->PEnv->Prop):Prop:=Q none env
def asI (x:PyData) (k:Int->Prop):Prop:=match x with
 | .int i=>k i
 | _=>False
def C05 (pa:PDt) (env:PEnv) (Q:Option Int->PEnv->Prop):Prop:=pa env fun x e=>asI x fun i=>Q (some i) e
instance rp_no {K:Frag}:RP K A4a A86:=⟨fun c w env σ Qp Q _ E p k=>k none env w E (Lw.refl w) p⟩
instance rp_part {K:Frag} {te:TE} {pa:PDt} [ha:RW K te pa]:RP K (B5h te) (C05 pa) where
 ok:=by
  rintro c w env σ Qp Q rfl E p k;refine ha.ok c w env σ _ _ rfl E p fun x dx e1 w1 E1 l1 v1 q1=>?_;unfold asI at q1;split at q1
  ·exact ⟨_,v1.intE,k _ e1 w1 E1 l1 q1⟩
  ·exact q1.elim
def cutD (xs:LP) (lo hi:Option Int):LP:=(xs.drop (HT.sIx xs.length 0 lo)).take (HT.sIx xs.length xs.length hi - HT.sIx xs.length 0 lo)
def pSlL (pa:PDt) (pl ph:PEnv->(Option Int->PEnv->Prop)->Prop) (env:PEnv) (Q:SV->PEnv->Prop):Prop:=pa env fun x e=>asL x fun xs=>pl e fun lo e1=>ph e1 fun hi e2=>Q (.own (cutD xs lo hi)) e2
instance re_sl {K:Frag} {te:TE} {tl th:TO} {pa:PDt} {pl ph:PEnv->(Option Int->PEnv->Prop)->Prop} [ha:RW K te pa] [hl:RP K tl pl] [hh:RP K th ph]:RE K (tSl (rSlL K) te tl th) (pSlL pa pl ph) where
 ok:=by
  rintro c w env σ Qp Q rfl E p k;refine ha.ok c w env σ _ _ rfl E p fun x dx e1 w1 E1 l1 v1 q1=>?_;unfold asL at q1;split at q1
  ·rename_i xs;refine hl.ok c w1 e1 σ _ _ rfl E1 q1 fun lo e2 w2 E2 l2 q2=>?_;refine hh.ok c w2 e2 σ _ _ rfl E2 q2 fun hi e3 w3 E3 l3 q3=>?_;obtain ⟨a,vs,e,g1,g2⟩:=((v1.mono l2).mono l3).lst E3.wok;refine ⟨a,vs,e,g1,fun p hp=>k _ _ e3 _ ((Res.lst E3 hp (xs:=cutD xs lo hi) ?_).pre (l1.trans (l2.trans l3))) q3⟩;unfold cutV cutD;rw [g2.len];exact (g2.drop _).take _
  ·exact q1.elim
theorem P6 {K:Frag} {w:Wd}:∀ {md:List Md} {vs:List V} {as:List SV},Args K w md vs as->as.length=vs.length/\∀ (i:Nat) s,as[i]?=some s->(∃ v,vs[i]?=some v/\VR ⟨K,w,noZ⟩ w v s)/\∀ u a,¬ s.foot u a
 | _,_,_,.nil=>⟨rfl,fun i s h=>by simp at h⟩
 | _,_,_,.dat h t=>⟨by simp [(P6 t).1],fun i s e=>match i,e with
  | 0,e=>by simp at e; subst e; exact ⟨⟨_,rfl,h⟩,fun _ _ z=>z⟩
  | i + 1,e=>by simpa using (P6 t).2 i s (by simpa using e)⟩
 | _,_,_,.vw h t=>⟨by simp [(P6 t).1],fun i s e=>match i,e with
  | 0,e=>by
   simp at e; subst e;refine ⟨⟨_,rfl,?_⟩,fun _ _ z=>z⟩;rcases h with h | ⟨l,vs,ys,e1,e2,h1,h2,h3⟩
   ·exact .inl h
   ·cases e2; exact .inr ⟨l,vs,e1,h1,h2,h3⟩
  | i + 1,e=>by simpa using (P6 t).2 i s (by simpa using e)⟩
 | _,_,_,.bt h t=>⟨by simp [(P6 t).1],fun i s e=>match i,e with
  | 0,e=>by simp at e; subst e; exact ⟨⟨_,rfl,h⟩,fun _ _ z=>z⟩
  | i + 1,e=>by simpa using (P6 t).2 i s (by simpa using e)⟩
 | _,_,_,.st h t=>⟨by simp [(P6 t).1],fun i s e=>match i,e with
  | 0,e=>by simp at e; subst e; exact ⟨⟨_,rfl,h⟩,fun _ _ z=>z⟩
  | i + 1,e=>by simpa using (P6 t).2 i s (by simpa using e)⟩
theorem D6 {K:Frag} {ts:TS} {ps:PSt} [hs:RS K ts ps] {md:List Md} {psp:PSp} {vs:List V} {H:Hpp} {Q:VK} {E:XK} {N:List Str} (h:spOf K md psp vs H Q E)
  (hb:∀ as Qp,psp as Qp->ps ⟨fun _=>Qp (.d .none),fun s _=>Qp s,fun _=>False,fun _=>False⟩ (as.map some++List.replicate (N.length - md.length) none)):ts { nx:=fun _ H'=>Q .non H',rt:=Q } (L2.start N vs) H:=by
 obtain ⟨w,as,Qp,rfl,ok,a,p,k⟩:=h;obtain ⟨hl,hat⟩:=P6 a;have look:∀ (i:Nat) s,(as.map some++List.replicate (N.length - md.length) none)[i]?=some (some s)->as[i]?=some s:=fun i s e=>by
  rw [List.getElem?_append] at e;split at e
  ·rw [Zh] at e;cases q:as[i]? with
   | none=>rw [q] at e; cases e
   | some t=>rw [q] at e; cases e; rfl
  ·rw [List.getElem?_replicate] at e;split at e <;> cases e
 refine hs.ok ⟨K,w,noZ⟩ w (as.map some++List.replicate (N.length - md.length) none) (L2.start N vs) _ _ rfl ⟨ok,Le.refl w,by simp [L2.start,hl,a.len],fun i s e=>?_,fun i j s t v u a e _ _ _ f=>absurd f ((hat i _ (look i _ e)).2 v a),fun a z=>z.elim,fun a j t u z=>z.elim⟩ ⟨fun env σ w' E' _ q=>?_,fun v s _ _ w' E' h r q=>k v s w' E'.wok E'.le0 h r q,fun _ _ _ _ _ z=>z,fun _ _ _ _ _ z=>z⟩ (hb as Qp p)
 ·obtain ⟨⟨v,h1,h2⟩,_⟩:=hat i s (look i s e);refine ⟨v,?_,h2⟩;unfold L2.start;rw [List.getElem?_append_left (by rw [Zl]; exact (Zs h1).1),Zh,h1]; rfl
 ·exact k .non (.d .none) w' E'.wok E'.le0 (show Den _ _ _ _ from .non) rfl q
def pLaw:PSp:=fun as Q=>∃ ns:List Int,as=[.bor (ns.map .int)]/\ns.length<=63/\Q (.d (.bool true))
theorem B0x {K:Frag} {F:Hpp}:∀ ns:List Int,DenAll K F (ns.map V.int) (ns.map .int)
 | []=>.nil
 | n :: r=>.cons (.int n) (B0x r)
theorem C2v {K:Frag}:∀ vs H Q E,B5t K vs H Q E->spOf K [.vw] pLaw vs H Q E:=by
 rintro vs H Q E ⟨a,ns,rfl,hS,hl,k⟩;refine ⟨⟨fun _=>False,H,fun b=>if b=a then H a else none⟩,[.bor (ns.map .int)],fun s=>s=.d (.bool true),rfl,⟨fun b o e=>?_,fun _ z=>z.elim,fun _ z=>z.elim⟩,.vw (.inl (.lst ?_ (B0x ns))) .nil,⟨ns,rfl,hl,rfl⟩,fun v s w' ok l h r e=>?_⟩
 ·dsimp only at e;split at e
  ·rename_i z; rw [z]; exact e
  ·cases e
 ·rcases hS with (h | ⟨o,h⟩) | h
  ·exact .inl (.inl (by dsimp only; rw [if_pos rfl]; exact h))
  ·exact .inl (.inr ⟨o,by dsimp only; rw [if_pos rfl]; exact h⟩)
  ·exact .inr h
 ·subst e;have:v=.bl true:=Den.blE h;subst this;exact k _
end Pu
namespace L2
open PySem PySem.Spec PyProof.Rows
end L2
namespace Pu
open PySem L2 My Prf
theorem B7k {q:Rat} {Q:SV->Prop}:pIx (dq q) (.int 0) Q=Q (.d (.int q.num)):=rfl
theorem B7j {q:Rat} {Q:SV->Prop}:pIx (dq q) (.int 1) Q=Q (.d (.int (q.den:Int))):=rfl
theorem B8n {i:Int}:(PyData.int i).canLay0=true:=rfl
theorem B83 {i:Int}:(PyData.int i).depth=0:=rfl
theorem B82 {s:Str}:(PyData.str s).depth=0:=rfl
theorem C2t {q:Rat}:(dq q).canLay0=true:=rfl
theorem C3k {q:Rat}:(dq q).depth=1:=rfl
theorem A4y {i j:Int}:PyData.eqv (.int i) (.int j)=decide (i=j):=by
 show (i == j)=_;by_cases h:i=j <;> simp [h]
theorem B57 {p q:Rat} (h1:p.num=q.num) (h2:(p.den:Int)=q.den):p=q:=Rat.ext h1 (by omega)
theorem B4s {p q:Rat}:PyData.eqv (dq p) (dq q)=decide (p=q):=by
 show (PyData.eqv (.int p.num) (.int q.num) && (PyData.eqv (.int (p.den:Int)) (.int (q.den:Int)) && true))=_;rw [A4y,A4y,Bool.and_true];by_cases h:p=q
 ·subst h; simp
 ·rw [Zd h];by_cases h1:p.num=q.num
  ·have h2:¬ (p.den:Int)=(q.den:Int):=fun z=>h (B57 h1 z);rw [Zd h2,Bool.and_false]
  ·rw [Zd h1,Bool.false_and]
theorem B8q {q:Rat}:isNo (dq q)=false:=rfl
theorem B44:PyData.tuple [.int 0,.int 1]=dq 0:=rfl
theorem C2z:kitB "int" "int"=some true:=by decide +kernel
theorem C2x:kitB "str" "str"=some true:=by decide +kernel
theorem C2y:kitB "list" "list"=some true:=by decide +kernel
theorem B0h {K:Frag} {F:Hpp}:∀ {vs:List V} {ns:List Int},DenAll K F vs (ns.map .int)->vs=ns.map V.int
 | _,[],.nil=>rfl
 | _,n :: r,.cons h t=>by rw [h.intE,B0h t]; rfl
def A8n:PSp:=fun as Q=>∃ n:Int,as=[.st,.d (.int n)]/\0 < n/\Sm 4000 n/\∀ d:Int,0<=d->d < n->Q (.d (.int d))
theorem B5f {K:Frag}:∀ vs H Q E,spOf K [.st,.dat] A8n vs H Q E->A79 vs H Q E:=by
 rintro vs H Q E ⟨w,as,Qp,rfl,ok,a,⟨n,rfl,n0,sn,q⟩,k⟩;cases a with
 | st h t=>cases t with
  | dat h' t =>
   cases t;obtain ⟨p,e,hm⟩:=h;subst e;rw [Den.intE h'];refine ⟨p,n,rfl,ok.st p hm,n0,sn,fun d H' d0 d1 S' kp=>?_⟩;have out:∀ b o,w.H b=some o->b≠p->H' b=some o:=fun b o e ne=>kp b o ne e;have pn:=ok.nf p hm;refine k (.int d) (.d (.int d)) ⟨w.M,H',w.F⟩ ⟨fun b o e=>out b o (ok.sub b o e) (fun z=>by rw [z,pn] at e; cases e),fun r hr=>?_,ok.nf⟩ ⟨⟨Same.refl _,fun b o e nb=>out b o e (fun z=>nb (z ▸ hm)),fun _ z=>z,fun _ z=>.inl z,fun b e=>?_⟩,fun _ _ z=>.inl z⟩ (Den.int d) rfl (q d d0 d1)
   ·by_cases z:r=p
    ·subst z; exact S'
    ·exact (ok.st r hr).kp z kp
   ·cases hb:w.H b with
    | none=>rfl
    | some o =>
     by_cases z:b=p
     ·subst z; obtain ⟨_,_,_,hp,_⟩:=S'.ex; rw [show H' b=none from e] at hp; cases hp
     ·have:=out b o hb z; rw [show H' b=none from e] at this; cases this
def C0m:PSp:=fun as Q=>∃ a b:Int,as=[.d (.int a),.d (.int b)]/\Q (.d (.int ((Int.gcd a b:Nat):Int)))
def B6i:PSp:=fun as Q=>∃ t b:Int,as=[.d (.int t),.d (.int b)]/\0 < b/\Sm 8000 t/\Sm 8000 b/\Q (.d (dq (Rat.divInt t b)))
def A1a (f:Rat->Rat->Rat):PSp:=fun as Q=>∃ p q:Rat,as=[.d (dq p),.d (dq q)]/\SmQ 3900 p/\SmQ 3900 q/\Q (.d (dq (f p q)))
def A8p:PSp:=fun as Q=>∃ p q:Rat,as=[.d (dq p),.d (dq q)]/\SmQ 3900 p/\SmQ 3900 q/\q≠0/\Q (.d (dq (p / q)))
def A8q:PSp:=fun as Q=>∃ p q:Rat,as=[.d (dq p),.d (dq q)]/\SmQ 3900 p/\SmQ 3900 q/\Q (.d (.bool (decide (p < q))))
def A8t:PSp:=fun as Q=>∃ (pl:Bool) (le:Int),as=[.st,.d (.bool pl),.d (.int le)]/\(le=0\/le=1)/\∀ q:Rat,0<=q->(le=1->0 < q)->SmR 41 6 q->(pl=true->SmR 3 1 q/\q.den=1)->Q (.d (dq q))
end Pu
namespace L2
open PySem PySem.Spec PyProof.Rows
section
variable {X:Cx} {tg:Expr}
def C0a (K:PySem.W.Frag):R2:=fun x y H Q=>∃ l b xs zs,x=.ref l/\y=.ref b/\SqL K H l xs/\SqL K H b zs/\xs.length + zs.length<=sizeLine/\∀ p,H p=none->Q (.ref p) (upd H p (.lst (xs++zs)))
theorem S1 {K:PySem.W.Frag} (hK:X.K=K):OpR X (binaryOp .Add) (C0a K):=by
 subst hK;intro pins s σ H x y v u Q I rx ry h;obtain ⟨l,b,xs,zs,rfl,rfl,hH,hB,hz,q⟩:=h;cases rx;cases ry;obtain ⟨its,r,hl,z⟩:=I.list hH;obtain ⟨its2,r2,hl2,z2⟩:=I.list hB;have n1:=r.length;have n2:=r2.length;obtain ⟨⟨k1,dd,da,sl⟩,m1,ho,e1,e2,e3⟩:=hl;obtain ⟨⟨k2,dd2,da2,sl2⟩,m2,ho2,e4,e5,e6⟩:=hl2;dsimp only at e1 e2 e3 e4 e5 e6;subst e1 e2 e3 e4 e5 e6;refine concat_meets ⟨_,ho,rfl⟩ ⟨_,ho2,rfl⟩ noFill_list_add seq_list_add F.slot_list_add F.entry_list_add (F.args_list_add_2 _ _) (list_addW l b its.toArray its2.toArray m1 m2 none none sl sl2 (by rw [List.size_toArray,List.size_toArray]; omega)) ⟨ho,ho2,?_⟩;rw [show its.toArray++its2.toArray=(its++its2).toArray by simp];exact ⟨.ref _,_,I.lnew (t':=s.toks) (r.append r2) (by rw [Ze]; omega),rfl,q _ I.fresh⟩
end
end L2
namespace L2
open PySem PySem.Spec PyProof.Rows
section
variable {X:Cx}
end
end L2
namespace Pu
open PySem L2 My Prf
def pCat (x y:PyData) (Q:SV->Prop):Prop:=match x,y with
 | .list xs,.list ys=>xs.length + ys.length<=1000000/\Q (.own (xs++ys))
 | _,_=>False
instance ro_cat {K:Frag}:RO K (C0a K) pCat where
 ok:=by
  rintro c w env σ x y dx dy Qp Q rfl E vx vy p k;unfold pCat at p;split at p
  ·obtain ⟨a,vs,e,h1,h2⟩:=vx.lst E.wok;obtain ⟨b,us,e',g1,g2⟩:=vy.lst E.wok;exact ⟨a,b,vs,us,e,e',h1,g1,by rw [h2.len,g2.len]; exact Zx p.1 (by decide),fun q hq=>k _ _ _ (Res.lst E hq (h2.app g2)) p.2⟩
  ·exact p.elim
def blsD:LP->Option (List Bool)
 | []=>some []
 | .bool b :: r=>(blsD r).map (b :: ·)
 | _=>none
def pAll (xs:LP) (Q:SV->Prop):Prop:=match xs with
 | [.list ys]=>∃ bs,blsD ys=some bs/\Q (.d (.bool (bs.all id)))
 | _=>False
theorem C1q {x:PyData} {xs:LP} {Q:SV->Prop}:pGet (x :: xs) 0 Q=Q (.d x):=by unfold pGet; rw [at0]
theorem C1p {x y:PyData} {xs:LP} {Q:SV->Prop}:pGet (x :: y :: xs) 1 Q=Q (.d y):=by unfold pGet; rw [at1]
theorem C32 {x y z:PyData} {xs:LP} {Q:SV->Prop}:pGet (x :: y :: z :: xs) 2 Q=Q (.d z):=by unfold pGet; rw [at2]
theorem D4 {xs:LP} {i:Int} {z:PyData} {Q:SV->Prop} (h:atI xs i=some z) (q:Q (.d z)):pGet xs i Q:=by unfold pGet; rw [h]; exact q
theorem B2z {xs:List Int} {d:Int} (h0:0<=d) (h1:d < xs.length):∃ z,z ∈ xs/\atI (xs.map PyData.int) d=some (.int z):=by
 obtain ⟨n,rfl⟩:=Zi h0;have hn:n < xs.length:=by omega
 refine ⟨xs[n],List.getElem_mem hn,M0 ?_⟩;rw [Zh,Zg hn]; rfl
theorem A9 {α:Type} {f:α->PyData} {xs:List α} {n:Nat} {a:α} {Q:SV->Prop} (h:xs[n]?=some a) (q:Q (.d (f a))):pGet (xs.map f) (n:Int) Q :=
 D4 (M0 (by rw [Zh,h]; rfl)) q
theorem Z5 {α:Type} {f:α->PyData} {xs:List α} {a:α} {Q:SV->Prop} (h:xs[xs.length - 1]?=some a) (h1:1<=xs.length) (q:Q (.d (f a))):pGet (xs.map f) (-1) Q:=by
 refine D4 (z:=f a) ?_ q;unfold L2.atI ixN;rw [if_neg (by decide),if_pos (by rw [Zl]; omega)];show (xs.map f)[((-1:Int) + ((xs.map f).length:Int)).toNat]?=_;rw [show ((-1:Int) + ((xs.map f).length:Int)).toNat=xs.length - 1 by rw [Zl]; omega,Zh,h]; rfl
theorem pIxT {xs:LP} {i:Int} {Q:SV->Prop}:pIx (.tuple xs) (.int i) Q=pGet xs i Q:=rfl
end Pu
namespace L2
open PySem PySem.Spec PyProof.Rows
structure QE (X:Cx) (e:Expr) (t:TE):Prop where
 out:PE X e  t
structure QT (X:Cx) (e:Expr) (t:TT):Prop where
 out:PT X e  t
structure QW (X:Cx) (e:Expr) (t:TT):Prop where
 out:PW X e  t
structure QA (X:Cx) (e:List Expr) (t:TA):Prop where
 out:PA X e  t
structure QSs (X:Cx) (e:List Stmt) (t:TS):Prop where
 out:PSs X e  t
structure QS (X:Cx) (e:Stmt) (t:TS):Prop where
 out:PS X e  t
structure QGs (X:Cx) (e:List Expr) (t:TGs):Prop where
 out:PGs X e  t
structure QG (X:Cx) (e:Expr) (t:TG):Prop where
 out:PG X e  t
structure QI (X:Cx) (e e2:Expr) (t:TI):Prop where
 out:PI X e e2  t
structure QTs (X:Cx) (e:List Expr) (t:TT):Prop where
 out:PTs X e  t
structure QO (X:Cx) (e:Option Expr) (t:TO):Prop where
 out:PO X e  t
section
variable {X:Cx}
theorem qpv (i: Nat) {x:Str} {pos:Pos} (hN: X.N[i]?=some x:=by rfl) (hv: Vis X.env.scope x:=by first | exact Or.inl rfl | exact Or.inr (Or.inl rfl) | exact Or.inr (Or.inr rfl)) (hd: (x == ("__debug__":Str))=false:=by decide) (hcd: (x == ("__classdict__":Str))=false:=by decide):QE X (.Name x pos) (tVar i):=⟨pv i hN hv hd hcd⟩
theorem A5 {i j pos}:QE X (.Constant (.int i) j pos) (tC (.int i)):=⟨F6 ⟩
theorem J2 {b j pos}:QE X (.Constant (.bool b) j pos) (tC (.bl b)):=⟨C3z ⟩
theorem F2 {j pos}:QE X (.Constant .none j pos) (tC .non):=⟨C0u ⟩
theorem C0 {x j pos}:QE X (.Constant (.str x) j pos) (tC (.str x)):=⟨C0r ⟩
theorem J7 {x:Str} {v:V} {u:Value} {pos:Pos} (hg: Gl X x) (hm: X.mg x=some u) (r: RelV v u) (hd: (x == ("__debug__":Str))=false:=by decide):QE X (.Name x pos) (tC v):=⟨B6v hg hm r hd⟩
theorem T9 {x:Str} {v:V} {u:Value} {pos:Pos} (hg: Gl X x) (hm: X.mg x=none) (hv: bootBuiltins x=some u) (r: RelV v u) (hn: x≠"__name__":=by decide) (hd: (x == ("__debug__":Str))=false:=by decide):QE X (.Name x pos) (tC v):=⟨B60 hg hm hv r hn hd⟩
theorem C2 {op:Operator} {r:R2} (ho: OpR X (binaryOp op) r) (ha: QE X a ta) (hb: QE X b tb):QE X (.BinOp a op b pos) (tOp r ta tb):=⟨N1 ho ha.out hb.out⟩
theorem A08 {op:UnaryOp} {r:V->Hp->VK->Prop} (ho: UnR X (unaryOp op) r) (ha: QE X a ta):QE X (.UnaryOp op a pos) (tUn r ta):=⟨C3w ho ha.out⟩
theorem A4h (ha: QE X a ta):QE X (.UnaryOp .Not a pos) (B5i ta):=⟨C0t ha.out⟩
theorem G8 {op:CmpOp} {r:R2} (ho: OpR X (compareOp op) r) (ha: QE X a ta) (hb: QE X b tb) (hm: behindInMarks op b=false):QE X (.Compare a [op] [b] pos) (tOp r ta tb):=⟨A13 ho ha.out hb.out hm⟩
theorem B1 {op:CmpOp} {r:R2} (ho: OpR X (compareOp op) r) (ha: QE X a ta) (hb: QE X b tb) (hm: behindInMarks op b=false):QT X (.Compare a [op] [b] pos) (B5g (tOp r ta tb)):=⟨A8l ho ha.out hb.out hm⟩
theorem A8j {op op':CmpOp} {r r':R2} (ho: OpR X (compareOp op) r) (ho': OpR X (compareOp op') r') (ha: QE X a ta) (hb: QE X b tb) (hc: QE X c tc) (hm: lastMarks [op,op'] [b,c]=false:=by with_unfolding_all rfl):QE X (.Compare a [op,op'] [b,c] pos) (A75 r r' ta tb tc):=⟨B2g ho ho' ha.out hb.out hc.out hm⟩
theorem L8 {rest:List Expr} (ha: QE X a ta) (hb: QE X (.BoolOp .And (b :: rest) pos) tb):QE X (.BoolOp .And (a :: b :: rest) pos) (B5n ta tb):=⟨C0w ha.out hb.out⟩
theorem C0b {rest:List Expr} (ha: QE X a ta) (hb: QE X (.BoolOp .Or (b :: rest) pos) tb):QE X (.BoolOp .Or (a :: b :: rest) pos) (tOrV ta tb):=⟨C3x ha.out hb.out⟩
theorem N0 {op} {t:TE} (h: QE X a t):QE X (.BoolOp op [a] pos) t:=⟨C0s h.out⟩
theorem V1 {rest:List Expr} (ha: QT X a tA) (hb: QW X (.BoolOp .And (b :: rest) pos) tB'):QW X (.BoolOp .And (a :: b :: rest) pos) (tAnd tA tB'):=⟨C0i ha.out hb.out⟩
theorem T4 {rest:List Expr} (ha: QT X a tA) (hb: QW X (.BoolOp .Or (b :: rest) pos) tB'):QW X (.BoolOp .Or (a :: b :: rest) pos) (tOr tA tB'):=⟨C3u ha.out hb.out⟩
theorem T5 (ha: QT X a tA):QW X (.BoolOp .And [a] pos) tA:=⟨B6f ha.out⟩
theorem Q1 (ha: QT X a tA):QW X (.BoolOp .Or [a] pos) tA:=⟨C0h ha.out⟩
theorem M9 (ha: QT X a tA):QT X (.UnaryOp .Not a pos) (tNot tA):=⟨C0j ha.out⟩
theorem F8 {e:Expr} {t:TE} (h: QE X e t) (he: ∀ whole,isTrue e X.env whole=(do let v <- whole; standAt e.pos; holding [v] (truthy v)):=by intro _; rfl):QT X e (tB t):=⟨B31 h.out he⟩
theorem Y7 {c:Expr} (hc: QT X c tA) (ha: QE X a ta) (hb: QE X b tb):QE X (.IfExp c a b pos) (tIf tA ta tb):=⟨B2e hc.out ha.out hb.out⟩
theorem J8 (hc: X.calm=true) (C: CompSc X scope cl N' cap) (hi: QI X tg iter wi) (hg: ∀ s3 H3 fp,QG (X.block scope cl N' s3 H3 fp) tg g) (ht: ∀ s3 H3 fp,QTs (X.block scope cl N' s3 H3 fp) ifs tt) (he: ∀ s3 H3 fp,QE (X.block scope cl N' s3 H3 fp) elt te) (hs: ∀ x,foldedSetIterable iter X.env x=pure x:=by intro _; rfl):QE X (.ListComp elt [⟨tg,iter,ifs,0⟩] scope pos) (B5m wi g tt te cap):=⟨B6y hc C hi.out (fun a b c=>(hg a b c).out) (fun a b c=>(ht a b c).out) (fun a b c=>(he a b c).out) hs⟩
theorem C9 (hc: X.calm=true) (hN: X.N.Nodup) (hi: X.N[i]?=some y) (hy: X.env.scope.names.lookup y=some .local) (C: CompSc X scope cl N' cap) (hit: QI X tg iter wi) (hg: ∀ s3 H3 fp,QG (X.block scope cl N' s3 H3 fp) tg g) (ht: ∀ s3 H3 fp,QTs (X.block scope cl N' s3 H3 fp) ifs tt) (he: ∀ s3 H3 fp,QE (X.block scope cl N' s3 H3 fp) elt te) (hsw: swapsWith (.ListComp elt [⟨tg,iter,ifs,0⟩] scope pos) (some (.Name y py)) spos.line X.env=pure true) (hs: ∀ x,foldedSetIterable iter X.env x=pure x:=by intro _; rfl):QS X (.Assign [.Name y py] (.ListComp elt [⟨tg,iter,ifs,0⟩] scope pos) spos) (X2 wi g tt te cap i):=⟨A64 hc hN hi hy C hit.out (fun a b c=>(hg a b c).out) (fun a b c=>(ht a b c).out) (fun a b c=>(he a b c).out) hsw hs⟩
theorem B7 {x1} (h: QA X es t):QE X (.Tuple es x1 pos) (tTup t):=⟨C0q h.out⟩
theorem D2 (h: QA X es t):QE X (.List es pos) (tLst t):=⟨A85 h.out⟩
theorem Q2 {lo hi:Option Expr} {r:V->Option Int->Option Int->Hp->VK->Prop} (hr: SlR X r) (he: QE X e te) (hl: QO X lo tl) (hu: QO X hi th):QE X (.Subscript e (.Slice lo hi none p2) pos) (tSl r te tl th):=⟨B2d hr he.out hl.out hu.out⟩
theorem T8 :QO X none A4a:=⟨B6p ⟩
theorem T7 (h: QE X e te):QO X (some e) (B5h te):=⟨B6o h.out⟩
theorem C0c {r:R2} (hr: IxR X r) (ha: QE X a ta) (hb: QE X b tb) (hs: A5d b):QE X (.Subscript a b pos) (tOp r ta tb):=⟨A12 hr ha.out hb.out hs⟩
theorem B1y (F: FnOk X.prog X.w X.K X.mg X.base CX k f fd ps sp) (hr: Room k X.A) (hg: Gl X x) (hm: X.mg x=some (.ref f)) (hk: PySem.W.keepIn X.K (.ref f)=true) (hb: Binds X.K fd ps ds) (hd: Vals dvs ds) (hx: A6t CX X E) (ha: QA X (e :: es) t) (hdb: (x == ("__debug__":Str))=false:=by decide) (he: starEach (e :: es) X.env=(false,eval e X.env) :: starEach es X.env:=by rfl) (hpl: (backTo pos (starEach es X.env)).any (·.1)=false:=by rfl):QE X (.Call (.Name x p) (e :: es) [] pos) (A4b sp dvs E t):=⟨B6z F hr hg hm hk hb hd hx ha.out hdb he hpl⟩
theorem J5 {id:String} (hc: CallR X (.builtin id) r) (hg: Gl X x) (hm: X.mg x=none) (hv: bootBuiltins x=some (.builtin id)) (ha: QA X (e :: es) t) (hn: x≠"__name__":=by decide) (hdb: (x == ("__debug__":Str))=false:=by decide) (he: starEach (e :: es) X.env=(false,eval e X.env) :: starEach es X.env:=by rfl) (hpl: (backTo pos (starEach es X.env)).any (·.1)=false:=by rfl):QE X (.Call (.Name x p) (e :: es) [] pos) (tCB r t):=⟨A51 hc hg hm hv ha.out hn hdb he hpl⟩
theorem V2 (hc: CallR X (.type T) r) (hg: Gl X x) (hm: X.mg x=none) (hv: bootBuiltins x=some (.type T)) (ha: QA X (e :: es) t) (hn: x≠"__name__":=by decide) (hdb: (x == ("__debug__":Str))=false:=by decide) (he: starEach (e :: es) X.env=(false,eval e X.env) :: starEach es X.env:=by rfl) (hpl: (backTo pos (starEach es X.env)).any (·.1)=false:=by rfl):QE X (.Call (.Name x p) (e :: es) [] pos) (tCB r t):=⟨A3b hc hg hm hv ha.out hn hdb he hpl⟩
theorem F9 {K:PySem.W.Frag} (hK:X.K=K) {id:String} (pa: PlainAttrs T) (slot: Slot T name id) (hty: typeOf (.builtin id)=pure (.type "method_descriptor")) (hm: MtR X id r) (ho: QE X o to) (ha: QA X (e :: es) t) (hbase: attributeBase o name X.env (eval o X.env)=eval o X.env:=by rfl) (hfew: ((backTo cpos (starEach (e :: es) X.env)).all (fun x=>!x.1) && (backToKw cpos (keywordEach [] X.env)).all (fun x=>x.1.isSome)
   && decide ((e :: es).length + ([]:List Keyword).length + (if ([]:List Keyword).isEmpty then 0 else 1) < 30))=true:=by rfl) (hline: (apos.endLine == cpos.line)=true:=by rfl) (hs: starEach (e :: es) X.env=(false,eval e X.env) :: starEach es X.env:=by rfl) (hplain: (backTo cpos (starEach es X.env)).any (·.1)=false:=by rfl):QE X (.Call (.Attribute o name apos) (e :: es) [] cpos) (tBM K T r to t):=by subst hK; exact ⟨C3y pa slot hty hm ho.out ha.out hbase hfew hline hs hplain⟩
theorem A3 :QA X [] tNil:=⟨A1b ⟩
theorem A0 (ha: QE X e te) (hr: QA X es t) (hs: starEach (e :: es) X.env=(false,eval e X.env) :: starEach es X.env:=by rfl):QA X (e :: es) (O1 te t):=⟨R8 ha.out hr.out hs⟩
theorem B8 :QSs X [] B5j:=⟨A4i ⟩
theorem A6 {st:Stmt} (h1: QS X st t):QSs X [st] t:=⟨V3 h1.out⟩
theorem A4 {st:Stmt} {rest:List Stmt} (h1: QS X st t) (h2: QSs X rest u):QSs X (st :: rest) (tSeq t u):=⟨L3 h1.out h2.out⟩
theorem O2 {st:Stmt}:QS X st A72:=⟨B13 ⟩
theorem B0 (he: QE X e te):QS X (.Return (some e) pos) (tRet te):=⟨A5y he.out⟩
theorem D9 (he: QE X e te) (hs: swapsWith e none pos.line X.env=pure false:=by rfl):QS X (.Expr e pos) (A73 te):=⟨B6k he.out hs⟩
theorem C3 {c:Expr} {a b:List Stmt} {tc:TT} (hc: QT X c tc) (ha: QSs X a t) (hb: QSs X b u):QS X (.If c a b pos) (tIfS tc t u):=⟨B6j hc.out ha.out hb.out⟩
theorem T6 {c:Expr} {body:List Stmt} {tc:TT} {tb:TS} (hp: PassesOwn (model X.prog X.w) X.A X.env X.xe) (hc: QT X c tc) (hb: QSs X body tb):QS X (.While c body [] pos) (A71 tc tb):=⟨B10 hp hc.out hb.out⟩
theorem D3 {iter:Expr} {body:List Stmt} {wi:TI} {g:TG} {tb:TS} {pos:Pos} (hp: PassesOwn (model X.prog X.w) X.A X.env X.xe) (hc: X.calm=true) (hi: QI X tg iter wi) (hg: QG X tg g) (hb: QSs X body tb) (hs: ∀ x,foldedSetIterable iter X.env x=pure x:=by intro _; rfl):QS X (.For tg iter body [] pos) (tFor wi g tb):=⟨B32 hp hc hi.out hg.out hb.out hs⟩
theorem O7 {i:Nat} {x:Str} {e:Expr} {te:TE} {pos':Pos} (hN: X.N.Nodup) (hi: X.N[i]?=some x) (hx: Loc X.env.scope x) (he: QE X e te) (hs: swapsWith e (some (.Name x pos')) pos.line X.env=pure false:=by rfl) (hf: X.fn x=true\/X.env.scope.names.lookup x=some .local:=by first | exact .inl rfl | exact .inr rfl | assumption):QS X (.Assign [.Name x pos'] e pos) (tAsg te (U4 i)):=⟨A09 hN hi hx he.out hs hf⟩
theorem R7 {i j:Nat} {x y:Str} {a b:Expr} {ta:TA} {px py pt:Pos} {kt k2 pt2} (hc: X.calm=true) (hN: X.N.Nodup) (hi: X.N[i]?=some x) (hj: X.N[j]?=some y) (hij: i≠j) (hx: X.env.scope.names.lookup x=some .local) (hy: X.env.scope.names.lookup y=some .local) (ha: QA X [a,b] ta) (hw: swappedStores [.Tuple [.Name x px,.Name y py] kt pt] (.Tuple [a,b] k2 pt2) X.env=pure (some [x,y])) (hs: swapsWithSole [.Tuple [.Name x px,.Name y py] kt pt] (.Tuple [a,b] k2 pt2) pos.line X.env=pure false:=by rfl):QS X (.Assign [.Tuple [.Name x px,.Name y py] kt pt] (.Tuple [a,b] k2 pt2) pos) (tPar i j ta):=⟨C0l hc hN hi hj hij hx hy ha.out hw hs⟩
theorem C4 {tg e:Expr} {te:TE} {g:TG} (he: QE X e te) (hg: QG X tg g) (hs: swapsWithSole [tg] e pos.line X.env=pure false:=by rfl) (hw: swappedStores [tg] e X.env=pure none:=by rfl) (h1: (assignEach [tg] X.env).map (·.2)=[assign tg X.env]:=by rfl):QS X (.Assign [tg] e pos) (tAsg te g):=⟨A5z he.out hg.out hs hw h1⟩
theorem X5 {i:Nat} {x:Str} (hN: X.N.Nodup) (hi: X.N[i]?=some x) (hx: Loc X.env.scope x) (hf: X.fn x=true\/X.env.scope.names.lookup x=some .local:=by first | exact .inl rfl | exact .inr rfl | assumption):QG X (.Name x pos) (U4 i):=⟨A84 hN hi hx hf⟩
theorem B2 :QGs X [] gNil:=⟨B6t ⟩
theorem A7 {e:Expr} {es:List Expr} {t:TG} {u:TGs} (h1: QG X e t) (h2: QGs X es u) (hs: (assignEach (e :: es) X.env).map (·.2)=assign e X.env :: (assignEach es X.env).map (·.2):=by rfl):QGs X (e :: es) (A4v t u):=⟨B2c h1.out h2.out hs⟩
theorem B3 {K:PySem.W.Frag} {pos:Pos} {es:List Expr} {k:Nat} {t:TGs} {n:Nat} (h: X.K=K) (hc: X.calm=true) (hg: QGs X es t) (hn: (assignEach es X.env).length=n:=by rfl) (hst: (assignEach es X.env).findIdx? (·.1)=none:=by rfl):QG X (.Tuple es k pos) (gTup K n t):=⟨B6u h hc hg.out hn hst⟩
theorem E6 {a:Expr} {ta:TA} {p pos:Pos} (hg: Gl X "range") (hm: X.mg "range"=none) (ha: QA X [a] ta) (hs: starEach [a] X.env=[(false,eval a X.env)]:=by rfl):QI X tg (.Call (.Name "range" p) [a] [] pos) (B8t ta):=⟨A3a hg hm ha.out hs⟩
theorem A60 {a b:Expr} {ta:TA} {p pos:Pos} (hg: Gl X "range") (hm: X.mg "range"=none) (ha: QA X [a,b] ta) (hs: starEach [a,b] X.env=[(false,eval a X.env),(false,eval b X.env)]:=by rfl) (hs2: starEach [b] X.env=[(false,eval b X.env)]:=by rfl):QI X tg (.Call (.Name "range" p) [a,b] [] pos) (B8s ta):=⟨A83 hg hm ha.out hs hs2⟩
theorem D1 {K:PySem.W.Frag} {l:Expr} {tl:TE} (h: X.K=K) (hl: QE X l tl):QI X tg l (iSq K tl):=⟨C0n h hl.out⟩
theorem D8 {X:Cx}:QTs X [] tYes:=⟨B6h ⟩
theorem Q9 {X:Cx} {c:Expr} {t:TT} (h: QT X c t):QTs X [c] t:=⟨B6g h.out⟩
theorem QW.pt {X:Cx} {e:Expr} {t:TT} (h:QW X e t):QT X e t:=⟨h.out.pt⟩
end
end L2
namespace Pu
open PySem L2 My Prf
theorem C3h (n:Int):PyData.tuple [.int n,.int 1]=dq (n:Rat):=by
 unfold dq; rw [Rat.num_intCast,Rat.den_intCast]; rfl
theorem A4c {k:Nat} {n:Int} (h:Sm k n):SmR k 1 (n:Rat):=⟨by rw [Rat.num_intCast]; exact h,by rw [Rat.den_intCast]; unfold Sm; decide⟩
theorem B5u {k:Nat} {q:Rat} (h:SmR k 1 q):q.den=1:=by
 have h1:(q.den:Int).natAbs < 2 ^ 1:=h.2;have h2:=q.den_nz;omega
theorem C3a {n:Int} (h:0<=n):(0:Rat)<=(n:Rat):=Rat.intCast_nonneg.mpr h
theorem C29 {n:Int} (h:0 < n):(0:Rat) < (n:Rat):=Rat.intCast_pos.mpr h
theorem A8b {z:Int} (h0:0<=z) (h1:z<=1000000000000000000):Sm 4000 z:=Sm.mono (k:=64) (M1 (B:=1000000000000000000) (by omega) (by omega) (by decide)) (by decide)
theorem B2k {c:Rat × Rat} {Q:SV->Prop}:pIx (dcn c) (.int 0) Q=Q (.d (dq c.1)):=by unfold dcn; rw [pIxT,C1q]
theorem B2j {c:Rat × Rat} {Q:SV->Prop}:pIx (dcn c) (.int 1) Q=Q (.d (dq c.2)):=by unfold dcn; rw [pIxT,C1p]
theorem N8 {lo:Int} {n:Nat} {pg:PyData->PEnv->(PEnv->Prop)->Prop} {pt:PTt} {pd:PDt} {e0:PEnv} {Fin:LP->Prop} (Pv:Nat->PEnv->LP->Prop) (h0:Pv 0 e0 [])
  (hs:∀ (i:Nat) e ys,i < n->Pv i e ys->pg (.int (lo + (i:Int))) e fun e2=>pt e2 fun b e3=>if b=true then pd e3 fun y e4=>Pv (i + 1) e4 (ys++[y]) else Pv (i + 1) e3 ys) (hd:∀ e ys,Pv n e ys->Fin ys):O8 (rngD lo n) pg pt pd e0 Fin :=
 ⟨Pv,h0,fun i x e ys hx hi=>by obtain ⟨h1,rfl⟩:=A5r hx; exact hs i e ys h1 hi,fun e ys h=>hd e ys (by rwa [J0] at h)⟩
theorem F4 {α:Type} {f:α->PyData} {xs:List α} {pg:PyData->PEnv->(PEnv->Prop)->Prop} {pt:PTt} {pd:PDt} {e0:PEnv} {Fin:LP->Prop} (Pv:Nat->PEnv->LP->Prop) (h0:Pv 0 e0 [])
  (hs:∀ (i:Nat) a e ys,xs[i]?=some a->Pv i e ys->pg (f a) e fun e2=>pt e2 fun b e3=>if b=true then pd e3 fun y e4=>Pv (i + 1) e4 (ys++[y]) else Pv (i + 1) e3 ys) (hd:∀ e ys,Pv xs.length e ys->Fin ys):O8 (xs.map f) pg pt pd e0 Fin:=by
 refine ⟨Pv,h0,fun i x e ys hx hi=>?_,fun e ys h=>hd e ys (by rwa [List.length_map] at h)⟩;rw [Zh] at hx;cases ha:xs[i]? with
 | none=>rw [ha] at hx; cases hx
 | some a=>rw [ha] at hx; cases hx; exact hs i a e ys ha hi
theorem K9 {α:Type} {f:α->PyData} {xs:List α} {pg:PyData->PEnv->(PEnv->Prop)->Prop} {pb:PSt} {D:PEnds} {env:PEnv} (Iv:Nat->PEnv->Prop) (h0:Iv 0 env)
  (hs:∀ (i:Nat) a e,xs[i]?=some a->Iv i e->pg (f a) e fun e2=>pb ⟨Iv (i + 1),D.rt,D.nx,Iv (i + 1)⟩ e2) (hd:∀ e,Iv xs.length e->D.nx e):A3c (xs.map f) pg pb D env:=by
 refine ⟨Iv,h0,fun i x e hx hi=>?_,fun e h=>hd e (by rwa [List.length_map] at h)⟩;rw [Zh] at hx;cases ha:xs[i]? with
 | none=>rw [ha] at hx; cases hx
 | some a=>rw [ha] at hx; cases hx; exact hs i a e ha hi
theorem B5c:PyData.tuple [.int 2,.int 3]=dq (Rat.divInt 2 3):=by
 unfold dq;rw [show (Rat.divInt 2 3).num=2 by decide +kernel,show (Rat.divInt 2 3).den=3 by decide +kernel]; rfl
end Pu
namespace Pu
open PySem L2 My Prf
theorem A5c {ms:LQ} {i:Nat} {m:Rat} (h:ms[i]?=some m):My.S (ms.take (i + 1))=My.S (ms.take i) + m:=by
 rw [List.take_add_one,h,A7t]; show _ + (m + 0)=_; rw [Rat.add_zero]
theorem sm_zero:SmR 1 1 (0:Rat):=⟨by unfold Sm; decide,by unfold Sm; decide⟩
theorem B8m:(PyData.list []).canLay0=true:=rfl
theorem B5b {i:Int}:tyD (.int i)="int":=rfl
theorem B5a {s:Str}:tyD (.str s)="str":=rfl
theorem B1k {xs:LP}:tyD (.list xs)="list":=rfl
theorem B49 {xs:LP}:tyD (.tuple xs)="tuple":=rfl
theorem A7r {xs:LP} {k:LP->Prop}:A2n (.list xs) k=k xs:=rfl
theorem B0d:isNo .none=true:=rfl
theorem B0e {xs:LP}:isNo (.list xs)=false:=rfl
theorem B25 {xs:LP}:isNo (.tuple xs)=false:=rfl
end Pu
namespace L2
open PySem PySem.Spec PyProof.Rows
section
variable {X:Cx} {pins:List (Addr × Obj)} {σ:St} {H:Hp} {s:Shared} {h':Heap}
theorem Inv.turnL {t':Nat} {wr:List Addr} (I:Inv X pins σ H s) (k:∀ b o,b ∉ wr->s.heap.get? b=some o->h'.get? b=some o) (hf:∀ b ∈ wr,FpOk X pins H b):Inv X pins σ H { s with heap:=h',toks:=t' }:=by
 have nw:∀ b u,H b=some u->b ∉ wr:=fun b u e z=>by have:=(hf b z).1; rw [e] at this; cases this
 refine I.call (g':=s.gens) (d':=s.drawn) (ch:=wr) ⟨fun b o e _ _ hb=>k b o hb e,fun b o e _ _ hb=>⟨o.slots,k b o hb e⟩,fun _ _ _ n _=>n,fun b o e hb=>⟨o,k b o hb e⟩,fun _ _ e=>e,fun _ _ _ e=>e,fun b ps e=>⟨#[],by rw [e]; simp⟩⟩ (fun b u e=>?_) I.bare fun b hb=>?_
 ·refine (I.hok b u e).stay (fun c v hc q=>k c v ?_ q) (fun _ q=>q) fun _ _ q=>q;rcases hc with z | z
  ·rw [z]; exact nw b u e
  ·exact nw c _ z
 ·have f:=hf b hb;exact ⟨f.2.2.2.1,f.2.1,f.2.2.2.2.1,f.2.2.2.2.2⟩
theorem Inv.laidL {t':Nat} {wr:List Addr} {T:Addr} {o:HO} (I:Inv X pins σ H s) (k:∀ b u,b ∉ wr->s.heap.get? b=some u->h'.get? b=some u) (hf:∀ b ∈ wr,FpOk X pins H b) (hp:s.heap.objs.size<=T) (new:ObjOk X.prog X.w (upd H T o) h' T o) :
  Inv X pins σ (upd H T o) { s with heap:=h',toks:=t' }:=by
 have hn:=I.hok.fresh hp;have nw:∀ b u,H b=some u->b ∉ wr:=fun b u e z=>by have:=(hf b z).1; rw [e] at this; cases this
 refine I.call (g':=s.gens) (d':=s.drawn) (ch:=wr) ⟨fun b u e _ _ hb=>k b u hb e,fun b u e _ _ hb=>⟨u.slots,k b u hb e⟩,fun b u e n _=>by rw [D7 (Nat.ne_of_lt (Nat.lt_of_lt_of_le (Heap.lt_size e) hp))]; exact n,fun b u e hb=>⟨u,k b u hb e⟩,
  fun b xs e=>by rw [D7 (F5 e hn)]; exact e,fun b u xs e=>by rw [D7 (F5 e hn)]; exact e,fun b ps e=>⟨#[],by rw [D7 (F5 e hn),e]; simp⟩⟩ (fun b u e=>?_) I.bare fun b hb=>?_
 ·by_cases hb:b=T
  ·subst hb; rw [D5] at e; cases e; exact new
  ·rw [D7 hb] at e;refine (I.hok b u e).stay (fun c v hc q=>k c v ?_ q) (fun c q=>by rw [D7 (F5 q hn)]; exact q) fun c xs q=>by rw [D7 (F5 q hn)]; exact q
   rcases hc with z | z
   ·rw [z]; exact nw b u e
   ·exact nw c _ z
 ·have f:=hf b hb;exact ⟨f.2.2.2.1,f.2.1,f.2.2.2.2.1,f.2.2.2.2.2⟩
end
def Itz (K:PySem.W.Frag) (l1 l2:Addr):It :=
 ⟨fun i H=>∃ xs ys x y,SqL K H l1 xs/\SqL K H l2 ys/\xs[i]?=some x/\ys[i]?=some y,
  fun i H v H'=>∃ T x y,v=.ref T/\H T=none/\H'=upd H T (.tup [x,y])/\(∀ xs,SqL K H l1 xs->xs[i]?=some x)/\∀ ys,SqL K H l2 ys->ys[i]?=some y,
  fun i H=>∃ xs ys,SqL K H l1 xs/\SqL K H l2 ys/\(xs.length<=i\/ys.length<=i)⟩
def Ite (K:PySem.W.Frag) (l:Addr):It :=
 ⟨fun i H=>∃ xs x,SqL K H l xs/\xs[i]?=some x,
  fun i H v H'=>∃ T x,v=.ref T/\H T=none/\H'=upd H T (.tup [.int i,x])/\∀ xs,SqL K H l xs->xs[i]?=some x,
  fun i H=>∃ xs,SqL K H l xs/\xs.length<=i⟩
theorem X1:∀ {xs:List V} {us:List Value} {i:Nat} {x:V},Vals xs us->xs[i]?=some x->∃ u,us[i]?=some u/\RelV x u
 | _,_,_,_,.nil,e=>by simp at e
 | _,_,0,_,.cons h _,e=>by simp at e; subst e; exact ⟨_,rfl,h⟩
 | _,_,i + 1,x,.cons _ t,e=>by
  obtain ⟨u,h1,h2⟩:=X1 (i:=i) (x:=x) t (by simpa using e);exact ⟨u,by simpa using h1,h2⟩
theorem B1l {P:Program} {w:World} {K:PySem.W.Frag} {es:List Expr} {kk:Nat} {tp:Pos} {z TI TO i1 i2 l1 l2:Addr} (D:ZipApart z TI TO i1 i2 l1 l2) :
    Turn P w K (.Tuple es kk tp) (Itz K l1 l2) [z,TI,TO,i1,i2] z (fun i h=>IsZip h z TI TO .none/\IsPair h TI (.ref i1) (.ref i2)/\(∃ a b,IsPair h TO a b)/\h.IsListIter i1 l1 i/\h.IsListIter i2 l2 i) where
  mem:=Zy
  obj:=fun i h st b hb=>by
    obtain ⟨hz,hTI,⟨a,c,hTO⟩,⟨o1,g1,k1,d1⟩,⟨o2,g2,k2,d2⟩⟩:=st;simp only [List.mem_cons,List.mem_nil_iff,or_false] at hb;rcases hb with rfl | rfl | rfl | rfl | rfl
    · exact ⟨_,hz,fun v q=>Data.noConfusion (show Data.fields _=Data.cell v from q)⟩
    · exact ⟨_,hTI,fun v q=>Data.noConfusion (show Data.seq _ _=Data.cell v from q)⟩
    · exact ⟨_,hTO,fun v q=>Data.noConfusion (show Data.seq _ _=Data.cell v from q)⟩
    · exact ⟨_,g1,fun v q=>by rw [d1] at q; cases q⟩
    · exact ⟨_,g2,fun v q=>by rw [d2] at q; cases q⟩
  keep:=fun i h h' st k=>by
    obtain ⟨hz,hTI,⟨a,c,hTO⟩,h1,h2⟩:=st;exact ⟨k z (by simp) _ hz,k TI (by simp) _ hTI,⟨a,c,k TO (by simp) _ hTO⟩,h1.at fun o e=>k i1 (by simp) o e,h2.at fun o e=>k i2 (by simp) o e⟩
  item:=by
    intro X hP hw hK hc i pins s σ H E I hf st hg;subst hP hw hK;obtain ⟨hz,hTI,⟨a,c,hTO⟩,h1,h2⟩:=st;obtain ⟨xs,ys,x,y,q1,q2,ex,ey⟩:=hg;obtain ⟨its1,r1,p1,_⟩:=I.list q1;obtain ⟨its2,r2,p2,_⟩:=I.list q2;obtain ⟨u1,e1,ru1⟩:=X1 r1 ex;obtain ⟨u2,e2,ru2⟩:=X1 r2 ey;refine wpAny_pyNext_zip_item D hz hTI hTO h1 h2 p1.isList p2.isList (by simpa using e1) (by simpa using e2) fun h' a1 a2 a3 a4 a5 a6 hk=>⟨_,rfl,?_⟩;refine wpAny_letOwnedTupleGo_zip a1 fun h'' b1 sb=>?_;have lt:∀ {b o},s.heap.get? b=some o->s.heap.objs.size≠b:=fun e=>Nat.ne_of_gt (Heap.lt_size e);have k2:∀ b o,b ∉ [z,TO,i1,i2]->s.heap.get? b=some o->h''.get? b=some o:=fun b o hb e=>by
      simp only [List.mem_cons,List.mem_nil_iff,or_false,not_or] at hb;exact (sb.2 b hb.1).trans (hk b o hb.1 hb.2.1 hb.2.2.1 hb.2.2.2 e)
    have I2:Inv X pins σ (upd H s.heap.objs.size (.tup [x,y])) { s with heap:=h'',toks:=s.toks }:=by
      refine I.laidL (wr:=[z,TO,i1,i2]) k2 (fun b hb=>hf b ?_) (Zv _) ⟨by show 2<=sizeLine; decide,[u1,u2],.cons ru1 (.cons ru2 .nil),?_⟩
      · simp only [List.mem_cons,List.mem_nil_iff,or_false] at hb ⊢
        rcases hb with q | q | q | q <;> simp [q]
      · exact ⟨_,(sb.2 _ (lt hz)).trans a5,rfl,_,rfl⟩
    refine ⟨.ref s.heap.objs.size,_,I2,rfl,⟨_,x,y,rfl,I.fresh,rfl,fun zs hzs=>by rw [I.list_inj hzs q1]; exact ex,fun zs hzs=>by rw [I.list_inj hzs q2]; exact ey⟩,⟨b1,(sb.2 _ D.TIz).trans (hk _ _ D.TIz D.TITO D.TIi1 D.TIi2 hTI),⟨_,_,(sb.2 _ D.TOz).trans a2⟩,a3.at fun o e=>(sb.2 _ D.i1z).trans e,a4.at fun o e=>(sb.2 _ D.i2z).trans e⟩,fun b hb=>?_⟩;have:b≠s.heap.objs.size:=by
      simp only [List.mem_cons,List.mem_nil_iff,or_false] at hb;obtain ⟨_,g1,_⟩:=h1;obtain ⟨_,g2,_⟩:=h2;rcases hb with rfl | rfl | rfl | rfl | rfl
      · exact (lt hz).symm
      · exact (lt hTI).symm
      · exact (lt hTO).symm
      · exact (lt g1).symm
      · exact (lt g2).symm
    rw [D7 this]; exact (hf b hb).1
  done:=by
    intro X hP hw hK hc i pins s σ H E I hf st hg;subst hP hw hK;obtain ⟨hz,hTI,⟨a,c,hTO⟩,h1,h2⟩:=st;obtain ⟨xs,ys,q1,q2,hl⟩:=hg;obtain ⟨its1,r1,p1,_⟩:=I.list q1;obtain ⟨its2,r2,p2,_⟩:=I.list q2;have n1:=r1.length;have n2:=r2.length;refine wpAny_pyNext_zip_end (I.ok.hd hc) D hz hTI hTO h1 h2 p1.isList p2.isList (hl.imp (fun q=>by simp; omega) fun q=>by simp; omega) fun h' hk=>⟨rfl,?_⟩;refine I.turnL (t':=s.toks) (wr:=[z,TO,i1,i2]) (fun b o hb e=>?_) (fun b hb=>hf b ?_)
    · simp only [List.mem_cons,List.mem_nil_iff,or_false,not_or] at hb
      exact hk b o hb.1 hb.2.1 hb.2.2.1 hb.2.2.2 e
    · simp only [List.mem_cons,List.mem_nil_iff,or_false] at hb ⊢
      rcases hb with q | q | q | q <;> simp [q]
  self:=fun _ _ _ _ _ st h=>wpAny_pyIter_zip st.1 h
theorem A7y {P:Program} {w:World} {K:PySem.W.Frag} {es:List Expr} {kk:Nat} {tp:Pos} {e it l:Addr} (hei:e≠it) :
    Turn P w K (.Tuple es kk tp) (Ite K l) [e,it] e (fun i h=>(∃ old,IsEnum h e it i old)/\h.IsListIter it l i) where
  mem:=Zy
  obj:=fun i h st b hb=>by
    obtain ⟨⟨old,he⟩,⟨o1,g1,k1,d1⟩⟩:=st;simp only [List.mem_cons,List.mem_nil_iff,or_false] at hb;rcases hb with rfl | rfl
    · exact ⟨_,he,fun v q=>Data.noConfusion (show Data.fields _=Data.cell v from q)⟩
    · exact ⟨_,g1,fun v q=>by rw [d1] at q; cases q⟩
  keep:=fun i h h' st k=>by
    obtain ⟨⟨old,he⟩,h1⟩:=st;exact ⟨⟨old,k e (by simp) _ he⟩,h1.at fun o q=>k it (by simp) o q⟩
  item:=by
    intro X hP hw hK hc i pins s σ H E I hf st hg;subst hP hw hK;obtain ⟨⟨old,he⟩,h1⟩:=st;obtain ⟨xs,x,q1,ex⟩:=hg;obtain ⟨its1,r1,p1,_⟩:=I.list q1;obtain ⟨u1,e1,ru1⟩:=X1 r1 ex;refine wpAny_pyNext_enum_item he h1 p1.isList (x:=u1) (by simpa using e1) hei fun h' a1 a2 a3 a4 hk=>⟨_,rfl,?_⟩;refine wpAny_letOwnedTupleGo_enum a1 fun h'' b1 sb=>?_;have lt:∀ {b o},s.heap.get? b=some o->s.heap.objs.size≠b:=fun e=>Nat.ne_of_gt (Heap.lt_size e);obtain ⟨o1,g1,_⟩:=id h1;have I2:Inv X pins σ (upd H s.heap.objs.size (.tup [.int i,x])) { s with heap:=h'',toks:=s.toks + 1 }:=by
      refine I.laidL (wr:=[e,it]) (fun b o hb q=>?_) (fun b hb=>hf b hb) (Zv _) ⟨by show 2<=sizeLine; decide,[.int i s.toks,u1],.cons ⟨_,rfl⟩ (.cons ru1 .nil),?_⟩
      · simp only [List.mem_cons,List.mem_nil_iff,or_false,not_or] at hb
        exact (sb.2 b hb.1).trans (hk b o hb.1 hb.2 q)
      · exact ⟨_,(sb.2 _ (lt he)).trans a3,rfl,_,rfl⟩
    refine ⟨.ref s.heap.objs.size,_,I2,rfl,⟨_,x,rfl,I.fresh,rfl,fun zs hzs=>by rw [I.list_inj hzs q1]; exact ex⟩,⟨⟨_,by simpa using b1⟩,a2.at fun o q=>(sb.2 _ hei.symm).trans q⟩,fun b hb=>?_⟩;have:b≠s.heap.objs.size:=by
      simp only [List.mem_cons,List.mem_nil_iff,or_false] at hb;rcases hb with rfl | rfl
      · exact (lt he).symm
      · exact (lt g1).symm
    rw [D7 this]; exact (hf b hb).1
  done:=by
    intro X hP hw hK hc i pins s σ H E I hf st hg;subst hP hw hK;obtain ⟨⟨old,he⟩,h1⟩:=st;obtain ⟨xs,q1,hl⟩:=hg;obtain ⟨its1,r1,p1,_⟩:=I.list q1;have n1:=r1.length;refine wpAny_pyNext_enum_end (I.ok.hd hc) he h1 p1.isList (by simp; omega) fun h' hk=>⟨rfl,?_⟩;refine I.turnL (t':=s.toks) (wr:=[e,it]) (fun b o hb q=>?_) (fun b hb=>hf b hb);simp only [List.mem_cons,List.mem_nil_iff,or_false,not_or] at hb;exact hk b o hb.2 q
  self:=fun _ _ _ _ _ st h=>by obtain ⟨⟨old,he⟩,_⟩:=st; exact wpAny_pyIter_enum he h
section
variable {X:Cx}
def iZip (K:PySem.W.Frag) (ta:TA):TI:=fun σ H R=>ta σ H fun vs H1=>∃ l1 l2 xs ys,vs=[.ref l1,.ref l2]/\SqL K H1 l1 xs/\SqL K H1 l2 ys/\R (Itz K l1 l2) H1
def B8u (K:PySem.W.Frag) (ta:TA):TI:=fun σ H R=>ta σ H fun vs H1=>∃ l xs,vs=[.ref l]/\SqL K H1 l xs/\R (Ite K l) H1
theorem B6s {K:PySem.W.Frag} {a b:Expr} {ta:TA} {p pos:Pos} {es:List Expr} {kk:Nat} {tp:Pos} (hK:X.K=K) (hg:Gl X "zip") (hm:X.mg "zip"=none) (ha:PA X [a,b] ta)
  (hs:starEach [a,b] X.env=[(false,eval a X.env),(false,eval b X.env)]:=by rfl) (hs2:starEach [b] X.env=[(false,eval b X.env)]:=by rfl):PI X (.Tuple es kk tp) (.Call (.Name "zip" p) [a,b] [] pos) (iZip K ta):=by
 subst hK;intro pins s σ H R I h;refine Call_ (A0f I hg hm boot_zip (PyProof.Rows.callWith_type1 (thn (ha pos pins s σ H _ I h) fun us s1 ⟨vs,H1,I1,r1,q1⟩=>?_) (hs.trans (by rw [hs2])) (by rw [hs2]; rfl)));obtain ⟨l1,l2,xs,ys,e,g1,g2,q⟩:=q1;subst e;obtain ⟨u,v,rfl,ru,rv⟩:=Vals.two r1;cases (show u=Value.ref l1 from ru);cases (show v=Value.ref l2 from rv);obtain ⟨its1,_,p1,_⟩:=I1.list g1;obtain ⟨its2,_,p2,_⟩:=I1.list g2;refine call_zip_2 p1.isList p2.isList fun h' a1 a2 a3 a4 a5 a6 hk=>wpAny_pyIter_zip a1 ?_;have lt1:(show Nat from l1) < s1.heap.objs.size:=by obtain ⟨o,_,ho,_⟩:=p1; exact Heap.lt_size ho
 have lt2:(show Nat from l2) < s1.heap.objs.size:=by obtain ⟨o,_,ho,_⟩:=p2; exact Heap.lt_size ho
 have I2:Inv X pins σ H1 { s1 with heap:=h' }:=I1.kept (t':=s1.toks) hk;have D:ZipApart (s1.heap.objs.size + 4) (s1.heap.objs.size + 2) (s1.heap.objs.size + 3) s1.heap.objs.size (s1.heap.objs.size + 1) l1 l2:=by
  generalize s1.heap.objs.size=n at lt1 lt2;have g:∀ a b:Nat,a < b->a≠b:=fun a b q=>Nat.ne_of_lt q;have g':∀ a b:Nat,b < a->a≠b:=fun a b q=>Nat.ne_of_gt q;constructor <;> first | exact g _ _ (Nat.lt_trans lt1 (by omega)) | exact g _ _ (Nat.lt_trans lt2 (by omega)) | exact g _ _ lt1 | exact g _ _ lt2 | exact g _ _ (by omega) | exact g' _ _ (by omega)
 refine ⟨_,[s1.heap.objs.size + 4,s1.heap.objs.size + 2,s1.heap.objs.size + 3,s1.heap.objs.size,s1.heap.objs.size + 1],_,_,H1,rfl,I2,B1l D,⟨a1,a2,⟨_,_,a3⟩,a4,a5⟩,fun b hb=>?_,q⟩;have hb':s1.heap.objs.size<=b:=by
  simp only [List.mem_cons,List.mem_nil_iff,or_false] at hb;rcases hb with rfl | rfl | rfl | rfl | rfl <;> omega
 exact I1.fpOk hb' (I1.hok.fresh hb')
theorem B2b {K:PySem.W.Frag} {a:Expr} {ta:TA} {p pos:Pos} {es:List Expr} {kk:Nat} {tp:Pos} (hK:X.K=K) (hg:Gl X "enumerate") (hm:X.mg "enumerate"=none) (ha:PA X [a] ta)
  (hs:starEach [a] X.env=[(false,eval a X.env)]:=by rfl):PI X (.Tuple es kk tp) (.Call (.Name "enumerate" p) [a] [] pos) (B8u K ta):=by
 subst hK;intro pins s σ H R I h;refine Call_ (A0f I hg hm boot_enumerate (PyProof.Rows.callWith_type1 (thn (ha pos pins s σ H _ I h) fun us s1 ⟨vs,H1,I1,r1,q1⟩=>?_) hs rfl));obtain ⟨l,xs,e,g1,q⟩:=q1;subst e;cases r1 with
 | cons r rr =>
  cases rr;cases r;obtain ⟨its1,_,p1,_⟩:=I1.list g1;refine call_enumerate_list p1.isList fun h' a1 a2 a3 hk=>wpAny_pyIter_enum a1 ?_;have I2:Inv X pins σ H1 { s1 with heap:=h' }:=I1.kept (t':=s1.toks) hk;refine ⟨_,[s1.heap.objs.size + 1,s1.heap.objs.size],_,_,H1,rfl,I2,A7y (Nat.succ_ne_self _),⟨⟨_,a1⟩,a2⟩,fun b hb=>?_,q⟩;have hb':s1.heap.objs.size<=b:=by
   simp only [List.mem_cons,List.mem_nil_iff,or_false] at hb;rcases hb with rfl | rfl <;> omega
  exact I1.fpOk hb' (I1.hok.fresh hb')
theorem A1v {K:PySem.W.Frag} {a b:Expr} {ta:TA} {p pos:Pos} {es:List Expr} {kk:Nat} {tp:Pos} (hK:X.K=K) (hg:Gl X "zip") (hm:X.mg "zip"=none) (ha:QA X [a,b] ta)
  (hs:starEach [a,b] X.env=[(false,eval a X.env),(false,eval b X.env)]:=by rfl) (hs2:starEach [b] X.env=[(false,eval b X.env)]:=by rfl):QI X (.Tuple es kk tp) (.Call (.Name "zip" p) [a,b] [] pos) (iZip K ta):=⟨B6s hK hg hm ha.out hs hs2⟩
theorem K3 {K:PySem.W.Frag} {a:Expr} {ta:TA} {p pos:Pos} {es:List Expr} {kk:Nat} {tp:Pos} (hK:X.K=K) (hg:Gl X "enumerate") (hm:X.mg "enumerate"=none) (ha:QA X [a] ta)
  (hs:starEach [a] X.env=[(false,eval a X.env)]:=by rfl):QI X (.Tuple es kk tp) (.Call (.Name "enumerate" p) [a] [] pos) (B8u K ta):=⟨B2b hK hg hm ha.out hs⟩
end
end L2
namespace Pu
open PySem L2 My Prf
class RL (K:Frag) (te:TE) (pl:outParam PAr):Prop where
 ok:∀ (c:Ct) (w:Wd) (env:PEnv) (σ:St) (Qp:LP->PEnv->Prop) (Q:VK),c.K=K->EnvOk c w env σ->pl env Qp->(∀ v xs env' w',EnvOk c w' env' σ->Lw w w'->VR c w' v (.bor xs)->Qp xs env'->Q v w'.H)->te σ w.H Q
def B7f (i:Nat) (env:PEnv) (Q:LP->PEnv->Prop):Prop:=match env[i]? with
 | some (some (.d x))=>asL x fun xs=>Q xs env
 | some (some (.own xs))=>Q xs (env.set i (some (.d (.list xs))))
 | some (some (.bor xs))=>Q xs env
 | _=>False
instance rl_var {K:Frag} {i:Nat}:RL K (tVar i) (B7f i) where
 ok:=by
  rintro c w env σ Qp Q rfl E p k;unfold B7f at p;split at p
  ·rename_i x e;obtain ⟨v,h1,h2⟩:=E.at' i _ e;unfold asL at p;split at p
   ·exact ⟨v,h1,k v _ env w E (Lw.refl w) (.inl h2) p⟩
   ·exact p.elim
  ·rename_i xs e;obtain ⟨w',v,e',hv,E',l,d⟩:=E.frz e;refine ⟨v,hv,?_⟩;rw [<- e'];exact k v _ _ w' E' l (.inl d) p
  ·rename_i xs e;obtain ⟨v,h1,h2⟩:=E.at' i _ e;exact ⟨v,h1,k v _ env w E (Lw.refl w) h2 p⟩
  ·exact p.elim
inductive Brs (c:Ct) (w:Wd):List V->List LP->Prop
 | nil:Brs c w [] []
 | cons {v:V} {xs:LP} {vs:List V} {xss:List LP}:VR c w v (.bor xs)->Brs c w vs xss->Brs c w (v :: vs) (xs :: xss)
theorem B3h {c:Ct} {w w':Wd} {v:V} {xs:LP} (s:Same w.F w'.F) (h:VR c w v (.bor xs)):VR c w' v (.bor xs):=by
 rcases h with h | ⟨l,vs,e,h1,h2,h3⟩
 ·exact .inl (Den.same s h)
 ·exact .inr ⟨l,vs,e,h1,h2,DenAll.same s h3⟩
class RLs (K:Frag) (ta:TA) (pa:outParam (PEnv->(List LP->PEnv->Prop)->Prop)):Prop where
 ok:∀ (c:Ct) (w:Wd) (env:PEnv) (σ:St) (Qp:List LP->PEnv->Prop) (Q:List V->Hpp->Prop),c.K=K->EnvOk c w env σ->pa env Qp->(∀ vs xss env' w',EnvOk c w' env' σ->Lw w w'->Brs c w' vs xss->Qp xss env'->Q vs w'.H)->ta σ w.H Q
def pLsN (env:PEnv) (Q:List LP->PEnv->Prop):Prop:=Q [] env
def pLsC (pl:PAr) (pr:PEnv->(List LP->PEnv->Prop)->Prop) (env:PEnv) (Q:List LP->PEnv->Prop):Prop:=pl env fun xs e1=>pr e1 fun xss e2=>Q (xs :: xss) e2
instance rls_nil {K:Frag}:RLs K tNil pLsN:=⟨fun c w env σ Qp Q _ E p k=>k [] [] env w E (Lw.refl w) .nil p⟩
instance rls_cons {K:Frag} {te:TE} {tr:TA} {pl:PAr} {pr:PEnv->(List LP->PEnv->Prop)->Prop} [hl:RL K te pl] [hr:RLs K tr pr]:RLs K (O1 te tr) (pLsC pl pr) where
 ok:=by
  rintro c w env σ Qp Q rfl E p k;refine hl.ok c w env σ _ _ rfl E p fun v xs e1 w1 E1 l1 b1 q1=>?_;refine hr.ok c w1 e1 σ _ _ rfl E1 q1 fun vs xss e2 w2 E2 l2 b2 q2=>?_;exact k _ _ e2 w2 E2 (l1.trans l2) (.cons (B3h l2.f b1) b2) q2
theorem Y2 {c:Ct} {w:Wd} {v:V} {xs:LP} (h:VR c w v (.bor xs)):∃ l vs,v=.ref l/\DenAll c.K w.F vs xs/\∀ w',w'.Ok->Le c.w0 w'->Same w.F w'.F->SqL c.K w'.H l vs:=by
 rcases h with h | ⟨l,vs,e,h1,h2,h3⟩
 ·obtain ⟨a,vs,e,g1,g2⟩:=Den.lstE h;exact ⟨a,vs,e,g2,fun w' ok _ s=>(s.trans ok.sub).seq g1⟩
 ·exact ⟨l,vs,e,h3,fun w' _ l' _=>SqL.of (l'.h _ _ h1 h2)⟩
def zipD (xs ys:LP):LP:=List.zipWith (fun x y=>.tuple [x,y]) xs ys
def A2f (xs:LP):LP:=xs.zipIdx.map fun p=>.tuple [.int (p.2:Int),p.1]
theorem A5f {xs ys:LP} {i:Nat} {x:PyData} (h:(zipD xs ys)[i]?=some x):∃ a b,xs[i]?=some a/\ys[i]?=some b/\x=.tuple [a,b]:=by
 unfold zipD at h;rw [List.getElem?_zipWith] at h;cases h1:xs[i]? with
 | none=>rw [h1] at h; cases h
 | some a=>cases h2:ys[i]? with
  | none=>rw [h1,h2] at h; cases h
  | some b=>rw [h1,h2] at h; cases h; exact ⟨a,b,rfl,rfl,rfl⟩
theorem S7 {xs ys:LP}:(zipD xs ys).length=min xs.length ys.length:=List.length_zipWith
theorem B0q {xs:LP} {i:Nat} {x:PyData} (h:(A2f xs)[i]?=some x):∃ a,xs[i]?=some a/\x=.tuple [.int (i:Int),a]:=by
 unfold A2f at h;rw [Zh,List.getElem?_zipIdx] at h;cases h1:xs[i]? with
 | none=>rw [h1] at h; cases h
 | some a=>rw [h1] at h; cases h; exact ⟨a,rfl,by simp⟩
theorem A3p {xs:LP}:(A2f xs).length=xs.length:=by unfold A2f; rw [Zl,List.length_zipIdx]
def pZip (pa:PEnv->(List LP->PEnv->Prop)->Prop) (env:PEnv) (Q:LP->PEnv->Prop):Prop:=pa env fun xss e=>match xss with
 | [xs,ys]=>Q (zipD xs ys) e
 | _=>False
def C1r (pa:PEnv->(List LP->PEnv->Prop)->Prop) (env:PEnv) (Q:LP->PEnv->Prop):Prop:=pa env fun xss e=>match xss with
 | [xs]=>Q (A2f xs) e
 | _=>False
instance ri_zip {K:Frag} {ta:TA} {pa:PEnv->(List LP->PEnv->Prop)->Prop} [ha:RLs K ta pa]:RI K (iZip K ta) (pZip pa) where
 ok:=by
  rintro c w env σ Qp R rfl E p k;refine ha.ok c w env σ _ _ rfl E p fun vs xss e1 w1 E1 l1 b1 q1=>?_;split at q1
  ·rename_i xs ys;cases b1 with | cons h t=>cases t with | cons h' t =>
    cases t;obtain ⟨a1,us1,rfl,d1,s1⟩:=Y2 h;obtain ⟨a2,us2,rfl,d2,s2⟩:=Y2 h';refine ⟨a1,a2,us1,us2,rfl,s1 w1 E1.wok E1.le0 (Same.refl _),s2 w1 E1.wok E1.le0 (Same.refl _),k _ _ e1 w1 E1 l1 ?_ q1⟩;intro w' ok l s;have g1:=s1 w' ok l s;have g2:=s2 w' ok l s;have n1:=d1.len;have n2:=d2.len;rw [S7];refine ⟨fun i hi=>⟨us1,us2,us1[i]'(by omega),us2[i]'(by omega),g1,g2,Zg _,Zg _⟩,⟨us1,us2,g1,g2,by omega⟩,fun i v H' y hi=>?_⟩;obtain ⟨T,x,y',rfl,hT,rfl,y1,y2⟩:=y;obtain ⟨dx,x1,x2⟩:=d1.get (y1 us1 g1);obtain ⟨dy,y3,y4⟩:=d2.get (y2 us2 g2);refine ⟨w'.tup T (.tup [x,y']),.tuple [dx,dy],rfl,Wd.tup_ok ok hT,Wd.tup_le ok hT,?_,?_⟩
    ·unfold zipD; rw [List.getElem?_zipWith,x1,y3]
    ·have f:=(Wd.tup_le (o:=.tup [x,y']) ok hT).f;exact .tup (SqD.of D5) (.cons (Den.same (s.trans f) x2) (.cons (Den.same (s.trans f) y4) .nil))
  ·exact q1.elim
instance ri_enum {K:Frag} {ta:TA} {pa:PEnv->(List LP->PEnv->Prop)->Prop} [ha:RLs K ta pa]:RI K (B8u K ta) (C1r pa) where
 ok:=by
  rintro c w env σ Qp R rfl E p k;refine ha.ok c w env σ _ _ rfl E p fun vs xss e1 w1 E1 l1 b1 q1=>?_;split at q1
  ·rename_i xs;cases b1 with | cons h t =>
    cases t;obtain ⟨a1,us1,rfl,d1,s1⟩:=Y2 h;refine ⟨a1,us1,rfl,s1 w1 E1.wok E1.le0 (Same.refl _),k _ _ e1 w1 E1 l1 ?_ q1⟩;intro w' ok l s;have g1:=s1 w' ok l s;have n1:=d1.len;rw [A3p];refine ⟨fun i hi=>⟨us1,us1[i]'(by omega),g1,Zg _⟩,⟨us1,g1,by omega⟩,fun i v H' y hi=>?_⟩;obtain ⟨T,x,rfl,hT,rfl,y1⟩:=y;obtain ⟨dx,x1,x2⟩:=d1.get (y1 us1 g1);refine ⟨w'.tup T (.tup [.int i,x]),.tuple [.int i,dx],rfl,Wd.tup_ok ok hT,Wd.tup_le ok hT,?_,?_⟩
    ·unfold A2f; rw [Zh,List.getElem?_zipIdx,x1]; simp
    ·have f:=(Wd.tup_le (o:=.tup [.int i,x]) ok hT).f;exact .tup (SqD.of D5) (.cons (.int _) (.cons (Den.same (s.trans f) x2) .nil))
  ·exact q1.elim
end Pu
namespace Pu
open PySem L2 My Prf
theorem A1w {n:Nat} {pr:LP->PEnv->(PEnv->Prop)->Prop} {xs:LP} {env:PEnv} {Q:PEnv->Prop}:qTup n pr (.tuple xs) env Q=(xs.length=n/\pr xs env Q):=rfl
theorem B1z {pr:LP->PEnv->(PEnv->Prop)->Prop} {c:Rat × Rat} {env:PEnv} {Q:PEnv->Prop}:qTup 2 pr (dcn c) env Q=pr [dq c.1,dq c.2] env Q:=by
 show (2=2/\_)=_; simp
theorem B84 {α:Type} {f:α->PyData} {xs:List α} (lo hi:Option Int):∃ ys:List α,cutD (xs.map f) lo hi=ys.map f/\(∀ y ∈ ys,y ∈ xs)/\ys.length<=xs.length:=by
 refine ⟨(xs.drop (HT.sIx (xs.map f).length 0 lo)).take (HT.sIx (xs.map f).length (xs.map f).length hi - HT.sIx (xs.map f).length 0 lo),?_,fun y hy=>List.mem_of_mem_drop (List.mem_of_mem_take hy),?_⟩
 ·unfold cutD; rw [List.map_take,List.map_drop]
 ·rw [List.length_take,List.length_drop]; omega
end Pu
namespace L2
open PySem PySem.Spec PyProof.Rows
section
variable {prog:Program} {w:World} {A:Around} {E:Value->Shared->Prop} {s:Shared}
end
end L2
namespace L2
open PySem PySem.Spec PyProof.Rows
section
variable {prog:Program} {w:World} {A:Around} {E:Value->Shared->Prop} {s:Shared}
end
section
variable {X:Cx}
end
end L2
namespace Pu
open PySem L2 My Prf
end Pu
namespace Pu
open PySem L2 My Prf
theorem B80 {s:Str}:PyData.eqv (.str s) (.str s)=true:=by show (s == s)=true; simp
end Pu
namespace Pu
open PySem L2 My Prf
def E7:LP->OT
 | []=>.nil
 | x :: r=>.cons (.leaf x) (E7 r)
def OT.len:OT->Nat
 | .cons _ t=>t.len + 1
 | .nil=>0
 | _=>1
def OT.kid:OT->Nat->Option OT
 | .cons h _,0=>some h
 | .cons _ t,n + 1=>t.kid n
 | _,_=>none
theorem A0e:∀ xs,(E7 xs).fp=[]
 | []=>rfl
 | _ :: r=>by show []++(E7 r).fp=[]; rw [A0e r]; rfl
theorem V8:∀ xs,(E7 xs).dat=xs
 | []=>rfl
 | x :: r=>by show [x]++(E7 r).dat=x :: r; rw [V8 r]; rfl
theorem U7 {K:Frag} {w:Wd}:∀ {vs:List V} {xs:LP},DenAll K w.F vs xs->Tre K w (E7 xs) vs
 | _,_,.nil=>rfl
 | _,_,.cons h t=>⟨_,_,rfl,⟨_,rfl,h⟩,U7 t⟩
theorem R6 {K:Frag} {w:Wd}:∀ {xs:LP} {vs:List V},Tre K w (E7 xs) vs->DenAll K w.F vs xs
 | [],_,e=>by cases (show _=[] from e); exact .nil
 | _ :: _,_,⟨_,_,rfl,⟨_,e,h⟩,t⟩=>by cases e; exact .cons h (R6 t)
theorem Tre.len {K:Frag} {w:Wd}:∀ {t:OT} {vs:List V},Tre K w t vs->vs.length=t.len
 | .leaf _,_,⟨_,e,_⟩=>by rw [e]; rfl
 | .nd _ _ _,_,⟨e,_⟩=>by rw [e]; rfl
 | .nil,_,e=>by rw [show _=[] from e]; rfl
 | .cons _ _,_,⟨_,_,e,_,t⟩=>by rw [e]; show _ + 1=_ + 1; rw [t.len]
theorem Tre.kid {K:Frag} {w:Wd}:∀ {t:OT} {vs:List V} {n:Nat} {u:OT},Tre K w t vs->t.kid n=some u->∃ v,vs[n]?=some v/\Tre K w u [v]
 | .cons _ _,_,0,_,⟨v,_,e,h,_⟩,q=>by cases q; rw [e]; exact ⟨v,rfl,h⟩
 | .cons _ _,_,n + 1,_,⟨_,_,e,_,t⟩,q=>by rw [e]; exact t.kid (n:=n) q
theorem B4i:∀ {t:OT} {n:Nat} {u:OT} {a:Addr},t.kid n=some u->a ∈ u.fp->a ∈ t.fp
 | .cons _ _,0,_,_,q,h=>by cases q; simp [OT.fp,h]
 | .cons _ _,n + 1,_,_,q,h=>by simp [OT.fp,B4i (n:=n) q h]
noncomputable def hm (w:Wd):Hpp:=fun a=>open Classical in if w.M a then none else w.H a
theorem A0h {w:Wd} {a:Addr} {o:HO} (h:w.H a=some o) (n:¬ w.M a):hm w a=some o:=by unfold hm; rw [if_neg n]; exact h
theorem B4k {w:Wd} {a:Addr} {o:HO} (h:hm w a=some o):w.H a=some o/\¬ w.M a:=by
 unfold hm at h; split at h
 ·cases h
 ·exact ⟨h,‹_›⟩
theorem hm_F {w:Wd} (ok:w.Ok):Same w.F (hm w):=fun a o h=>A0h (ok.sub a o h) fun z=>by rw [ok.nf a z] at h; cases h
theorem C3d {w w':Wd} (l:Lw w w'):Same (hm w) (hm w'):=fun a o h=>by
 obtain ⟨h1,h2⟩:=B4k h;exact A0h (l.h _ _ h1 h2) (l.nm (by rw [h1]; simp) h2)
theorem Tre.den {K:Frag} {w:Wd} (ok:w.Ok):∀ {t:OT} {vs:List V},Tre K w t vs->(∀ a ∈ t.fp,¬ w.M a)->DenAll K (hm w) vs t.dat
 | .leaf _,_,⟨_,e,h⟩,_=>by rw [e]; exact .cons (Den.same (hm_F ok) h) .nil
 | .nd true a _,_,⟨e,_,h,k⟩,n=>by rw [e]; exact .cons (.lst (SqL.of (A0h h (n a (by simp [OT.fp])))) (Tre.den ok k fun q hq=>n q (by simp [OT.fp,hq]))) .nil
 | .nd false a _,_,⟨e,_,h,k⟩,n=>by rw [e]; exact .cons (.tup (SqD.of (A0h h (n a (by simp [OT.fp])))) (Tre.den ok k fun q hq=>n q (by simp [OT.fp,hq]))) .nil
 | .nil,_,e,_=>by rw [show _=[] from e]; exact .nil
 | .cons _ _,_,⟨v,r,e,h,t⟩,n=>by
  rw [e];exact (Tre.den ok h fun q hq=>n q (by simp [OT.fp,hq])).app (vs:=[v]) (us:=r) (Tre.den ok t fun q hq=>n q (by simp [OT.fp,hq]))
def VH (K:Frag) (w:Wd) (v:V) (x:PyData):Prop:=Den K (hm w) v x
theorem VR.vh {c:Ct} {w:Wd} {v:V} {t:OT} {x:PyData} (ok:w.Ok) (h:VR c w v (.tr t)) (e:t.dat=[x]):VH c.K w v x:=by
 have:=h.1.den ok fun a ha=>(h.2.1 a ha).2.2.1;rw [e] at this;cases this with | cons a _=>exact a
theorem VV.vh {K:Frag} {w:Wd} {v:V} {x:PyData} (ok:w.Ok) (h:VV K w v x):VH K w v x:=by
 rcases h with h | ⟨l,vs,xs,rfl,rfl,h1,h2,h3⟩
 ·exact Den.same (hm_F ok) h
 ·exact .lst (SqL.of (A0h h1 h2)) (DenAll.same (hm_F ok) h3)
class RH (K:Frag) (te:TE) (pd:outParam PDt):Prop where
 ok:∀ (c:Ct) (w:Wd) (env:PEnv) (σ:St) (Qp:PyData->PEnv->Prop) (Q:VK),c.K=K->EnvOk c w env σ->pd env Qp->(∀ v x env' w',EnvOk c w' env' σ->Lw w w'->VH K w' v x->Qp x env'->Q v w'.H)->te σ w.H Q
def B66 (i:Nat) (env:PEnv) (Q:PyData->PEnv->Prop):Prop:=match env[i]? with
 | some (some (.d x))=>Q x env
 | some (some (.own xs))=>Q (.list xs) env
 | some (some (.bor xs))=>Q (.list xs) env
 | some (some (.tr t))=>∃ x,t.dat=[x]/\Q x env
 | _=>False
instance rh_var {K:Frag} {i:Nat}:RH K (tVar i) (B66 i) where
 ok:=by
  rintro c w env σ Qp Q rfl E p k;unfold B66 at p;split at p
  ·rename_i x e;obtain ⟨v,h1,h2⟩:=E.at' i _ e;exact ⟨v,h1,k v _ env w E (Lw.refl w) (Den.same (hm_F E.wok) h2) p⟩
  ·rename_i xs e;obtain ⟨v,h1,l,vs,e',g1,g2,g3,g4,g5⟩:=E.at' i _ e;exact ⟨v,h1,k v _ env w E (Lw.refl w) (VV.vh E.wok (.inr ⟨l,vs,xs,e',rfl,g1,g3,g5⟩)) p⟩
  ·rename_i xs e;obtain ⟨v,h1,h2⟩:=E.at' i _ e;exact ⟨v,h1,k v _ env w E (Lw.refl w) ((h2.vv E.le0).vh E.wok) p⟩
  ·rename_i t e;obtain ⟨x,e1,q⟩:=p;obtain ⟨v,h1,h2⟩:=E.at' i _ e;exact ⟨v,h1,k v _ env w E (Lw.refl w) (h2.vh E.wok e1) q⟩
  ·exact p.elim
def SV.ot (s:SV) (k:OT->Prop):Prop:=match s with
 | .d x=>k (.leaf x)
 | .own xs=>∀ a,k (.nd true a (E7 xs))
 | .tr t=>k t
 | _=>False
def Ct.with (c:Ct) (t:OT):Ct:=⟨c.K,c.w0,fun a=>c.Z a\/a ∈ t.fp⟩
end Pu
namespace L2
open PySem PySem.Spec PyProof.Rows
section
variable {X:Cx} {e:Expr}
end
end L2
namespace Pu
open PySem L2 My Prf
def SV.asH (s:SV) (k:PyData->Prop):Prop:=match s with
 | .d x=>k x
 | .own xs=>k (.list xs)
 | .tr t=>∃ x,t.dat=[x]/\k x
 | _=>False
def C0x (pe:PX) (env:PEnv) (Q:PyData->PEnv->Prop):Prop:=pe env fun s e=>s.asH fun x=>Q x e
instance (priority:=200) rh_re {K:Frag} {te:TE} {pe:PX} [h:RE K te pe]:RH K te (C0x pe) where
 ok:=by
  rintro c w env σ Qp Q rfl E p k;refine h.ok c w env σ _ Q rfl E p fun v s env' w' R q=>?_;have E':=R.ev;cases s with
  | d x=>exact k v x env' w' E' R.lw (Den.same (hm_F E'.wok) R.val) q
  | own xs =>
   obtain ⟨l,vs,e',g1,g2,g3,g4,g5⟩:=R.val;exact k v _ env' w' E' R.lw (VV.vh E'.wok (.inr ⟨l,vs,xs,e',rfl,g1,g3,g5⟩)) q
  | tr t =>
   obtain ⟨x,e,q⟩:=q;exact k v x env' w' E' R.lw (VR.vh E'.wok R.val e) q
  | bor xs=>exact (show False from q).elim
  | bt t=>exact (show False from q).elim
  | al t=>exact (show False from q).elim
  | dk t=>exact (show False from q).elim
  | st=>exact (show False from q).elim
theorem VR.btv {c:Ct} {w:Wd} {v:V} {t:OT} (l:Le c.w0 w) (h:VR c w v (.bt t)):TV c.K w v t:=by
 have lw:Lw ⟨c.w0.M,c.w0.H,w.F⟩ w:=⟨Same.refl _,l.h,l.m,l.mn,l.dom⟩;exact ⟨h.1.mono lw h.2,fun a ha=>l.nm (h.1.has a ha) (h.2 a ha)⟩
class RTr (K:Frag) (te:TE) (pb:outParam (PEnv->(OT->PEnv->Prop)->Prop)):Prop where
 ok:∀ (c:Ct) (w:Wd) (env:PEnv) (σ:St) (Qp:OT->PEnv->Prop) (Q:VK),c.K=K->EnvOk c w env σ->pb env Qp->(∀ v t env' w',EnvOk c w' env' σ->Lw w w'->TV K w' v t->Qp t env'->Q v w'.H)->te σ w.H Q
def pTrV (i:Nat) (env:PEnv) (Q:OT->PEnv->Prop):Prop:=match env[i]? with
 | some (some (.d x))=>Q (.leaf x) env
 | some (some (.tr t))=>Q t env
 | some (some (.bt t))=>Q t env
 | _=>False
instance rtr_var {K:Frag} {i:Nat}:RTr K (tVar i) (pTrV i) where
 ok:=by
  rintro c w env σ Qp Q rfl E p k;unfold pTrV at p;split at p
  ·rename_i x e;obtain ⟨v,h1,h2⟩:=E.at' i _ e;exact ⟨v,h1,k v (.leaf x) env w E (Lw.refl w) ⟨⟨v,rfl,h2⟩,fun a z=>nomatch z⟩ p⟩
  ·rename_i t e;obtain ⟨v,h1,h2⟩:=E.at' i _ e;exact ⟨v,h1,k v _ env w E (Lw.refl w) ⟨h2.1,fun a ha=>(h2.2.1 a ha).2.2.1⟩ p⟩
  ·rename_i t e;obtain ⟨v,h1,h2⟩:=E.at' i _ e;exact ⟨v,h1,k v _ env w E (Lw.refl w) (h2.btv E.le0) p⟩
  ·exact p.elim
def B4a (pb:PEnv->(OT->PEnv->Prop)->Prop) (pr:PAs) (env:PEnv) (Q:List SV->PEnv->Prop):Prop:=pb env fun t e1=>pr e1 fun as e2=>Q (.bt t :: as) e2
instance ram_bt {K:Frag} {md:List Md} {ta:TE} {tr:TA} {pb:PEnv->(OT->PEnv->Prop)->Prop} {pr:PAs} [ha:RTr K ta pb] [hr:RAm K md tr pr]:RAm K (.bt :: md) (O1 ta tr) (B4a pb pr) where
 ok:=by
  rintro c w env σ Qp Q rfl E p k;refine ha.ok c w env σ _ _ rfl E p fun x t e1 w1 E1 l1 v1 q1=>?_;refine hr.ok c w1 e1 σ _ _ rfl E1 q1 fun vs xs e2 w2 E2 l2 v2 q2=>?_;exact k _ _ e2 w2 E2 (l1.trans l2) (.bt (v1.mono l2 v1.1.has) v2) q2
def OT.lvs:OT->Option LP
 | .nil=>some []
 | .cons (.leaf x) t=>t.lvs.map (x :: ·)
 | _=>none
theorem A1e:∀ {t:OT} {xs:LP},t.lvs=some xs->t=E7 xs
 | .nil,_,h=>by cases h; rfl
 | .cons (.leaf x) t,xs,h=>by
  have h':t.lvs.map (x :: ·)=some xs:=h;cases q:t.lvs with
  | none=>rw [q] at h'; cases h'
  | some ys=>rw [q] at h'; cases h'; rw [A1e q]; rfl
def OT.sv:OT->SV
 | .leaf (.list xs)=>.bor xs
 | .leaf x=>.d x
 | .nd true a k=>match k.lvs with
  | some xs=>.bor xs
  | none=>.bt (.nd true a k)
 | t=>.bt t
theorem VR.sv {c:Ct} {w:Wd} {v:V} {u:OT} (h:VR c w v (.bt u)):VR c w v u.sv:=by
 unfold OT.sv;split
 ·obtain ⟨⟨v',e,h⟩,_⟩:=h;cases e; exact .inl h
 ·obtain ⟨⟨v',e,h⟩,_⟩:=h;cases e; exact h
 ·rename_i a k;split
  ·rename_i xs q;obtain ⟨⟨e,us,h1,h2⟩,h3⟩:=h;cases e;rw [A1e q] at h2;exact .inr ⟨a,us,rfl,h1,h3 a (by simp [OT.fp]),R6 (w:=⟨c.w0.M,c.w0.H,w.F⟩) h2⟩
  ·exact h
 ·exact h
theorem B3u {c:Ct} {env:PEnv} {σ:St} {v:V}:∀ {u:OT},New c env σ v u.sv:=by
 intro u a f;unfold OT.sv at f;split at f
 ·exact f.elim
 ·exact f.elim
 ·split at f
  ·exact f.elim
  ·exact f.elim
 ·exact f.elim
def OT.pair:OT->Option (OT × OT)
 | .nd false _ (.cons u (.cons v .nil))=>some (u,v)
 | .leaf (.tuple [x,y])=>some (.leaf x,.leaf y)
 | _=>none
def pUnp (i a b:Nat) (pr:LP->PEnv->(PEnv->Prop)->Prop) (D:PEnds) (env:PEnv):Prop:=match env[i]? with
 | some (some (.bt t))=>∃ u v,t.pair=some (u,v)/\D.nx ((env.set a (some u.sv)).set b (some v.sv))
 | some (some (.d x))=>qTup 2 pr x env D.nx
 | _=>False
theorem B9s {c:Ct} {w:Wd} {v:V} {t u1 u2:OT} (ok:w.Ok) (l:Le c.w0 w) (h:VR c w v (.bt t)) (e:t.pair=some (u1,u2)):∃ p x y,v=.ref p/\SqT c.K w.H p [x,y]/\VR c w x (.bt u1)/\VR c w y (.bt u2):=by
 unfold OT.pair at e;split at e
 ·rename_i a k1 k2;cases e;obtain ⟨⟨ev,us,h1,x,r,e1,hx,y,r2,e2,hy,e3⟩,h3⟩:=h;cases ev;have e3':r2=[]:=e3;subst e1; subst e2; subst e3';exact ⟨a,x,y,rfl,SqT.of (l.h _ _ h1 (h3 a (by simp [OT.fp]))),⟨hx,fun q hq=>h3 q (by simp [OT.fp,hq])⟩,⟨hy,fun q hq=>h3 q (by simp [OT.fp,hq])⟩⟩
 ·cases e;obtain ⟨⟨v',ev,h⟩,_⟩:=h;cases ev;obtain ⟨p,vs,rfl,h1,h2⟩:=Den.tupE h;cases h2 with
  | cons hx t=>cases t with
   | cons hy t =>
    cases t;exact ⟨p,_,_,rfl,SqT.same ok.sub h1,⟨⟨_,rfl,hx⟩,fun q hq=>nomatch hq⟩,⟨⟨_,rfl,hy⟩,fun q hq=>nomatch hq⟩⟩
 ·cases e
instance (priority:=high) rs_unp {K:Frag} {i a b:Nat} {pr:LP->PEnv->(PEnv->Prop)->Prop} [hr:RGs K (A4v (U4 a) (A4v (U4 b) gNil)) pr]:RS K (tAsg (tVar i) (gTup K 2 (A4v (U4 a) (A4v (U4 b) gNil)))) (pUnp i a b pr) where
 ok:=by
  rintro c w env σ Dp D rfl E h p;unfold pUnp at p;split at p
  ·rename_i t e;obtain ⟨u1,u2,hp,q⟩:=p;obtain ⟨v,h1,h2⟩:=E.at' i _ e;obtain ⟨p,x,y,rfl,hs,hx,hy⟩:=B9s E.wok E.le0 h2 hp;refine ⟨_,h1,p,[x,y],rfl,hs,rfl,x,[y],rfl,y,[],rfl,rfl,?_⟩;have E1:=E.set (i:=a) hx.sv B3u;have E2:=E1.set (i:=b) hy.sv B3u;exact h.nx _ _ w E2 (Same.refl _) q
  ·rename_i x e;obtain ⟨v,h1,h2⟩:=E.at' i _ e;refine ⟨v,h1,?_⟩;exact rg_tup.ok c w env σ v x _ _ rfl E h2 p fun e2 σ2 E2 q2=>h.nx e2 σ2 w E2 (Same.refl _) q2
  ·exact p.elim
end Pu
namespace Pu
open PySem L2 My Prf
theorem fdE {a:Int} {n:Nat} (h:(n:Int) ∣ a):a.fdiv n=a / n:=Int.fdiv_eq_ediv_of_dvd h
theorem fdN (a n:Nat):(a:Int).fdiv (n:Int)=((a / n:Nat):Int):=by
 rw [Int.fdiv_eq_ediv_of_nonneg _ (Int.natCast_nonneg n)]; rfl
theorem C2m (p q:Rat):p.num.fdiv ((Int.gcd p.num q.den:Nat):Int) * q.num.fdiv ((Int.gcd q.num p.den:Nat):Int)=(p * q).num:=by
 have e:p * q=Rat.mul p q:=rfl;rw [e]; unfold Rat.mul;show _=p.num.divExact _ _ * q.num.divExact _ _;rw [Int.divExact_eq_ediv,Int.divExact_eq_ediv,fdE (Int.gcd_dvd_left ..),fdE (Int.gcd_dvd_left ..)];rfl
theorem C2n (p q:Rat):(p.den:Int).fdiv ((Int.gcd q.num p.den:Nat):Int) * (q.den:Int).fdiv ((Int.gcd p.num q.den:Nat):Int)=((p * q).den:Int):=by
 have e:p * q=Rat.mul p q:=rfl;rw [e]; unfold Rat.mul;show _=((p.den.divExact _ _ * q.den.divExact _ _:Nat):Int);rw [Nat.divExact_eq_div,Nat.divExact_eq_div,fdN,fdN];rfl
theorem B6r (p q:Rat) (g t:Int) (hg:g=((Int.gcd (p.den:Int) (q.den:Int):Nat):Int)) (ht:t=p.num * (q.den:Int).fdiv g + q.num * (p.den:Int).fdiv g) :
  t.fdiv ((Int.gcd t g:Nat):Int)=(p + q).num/\(p.den:Int).fdiv g * (q.den:Int).fdiv ((Int.gcd t g:Nat):Int)=((p + q).den:Int):=by
 have e:p + q=Rat.add p q:=rfl;have hgn:Int.gcd (p.den:Int) (q.den:Int)=Nat.gcd p.den q.den:=rfl;rw [hgn] at hg;rw [e]; unfold Rat.add;dsimp only;split
 ·rename_i h1;rw [h1] at hg;subst hg;have ht':t=p.num * q.den + q.num * p.den:=by rw [ht,fdN,fdN]; simp
  have h2:Int.gcd t ((1:Nat):Int)=1:=by simp
  rw [h2,ht'];refine ⟨by simp,?_⟩;rw [fdN,fdN]; simp
 ·rename_i h1;rw [Rat.maybeNormalize_eq];rw [hg,fdN,fdN] at ht;have h3:Int.gcd t g=t.natAbs.gcd (p.den.gcd q.den):=by rw [hg]; rfl
  rw [h3];subst ht;refine ⟨?_,?_⟩
  ·show _=Int.divExact _ _ (Int.gcd_dvd_left _ ((p.den.gcd q.den:Nat):Int));rw [Int.divExact_eq_ediv];exact fdE (Int.gcd_dvd_left _ ((p.den.gcd q.den:Nat):Int))
  ·show _=((_ / _:Nat):Int);rw [hg,fdN,fdN];have hd:(p.num * ((q.den / p.den.gcd q.den:Nat):Int) + q.num * ((p.den / p.den.gcd q.den:Nat):Int)).natAbs.gcd (p.den.gcd q.den) ∣ q.den:=Nat.dvd_trans (Nat.gcd_dvd_right ..) (Nat.gcd_dvd_right ..);rw [Nat.mul_div_assoc _ hd,Int.natCast_mul]
theorem V9 {t:Int} (q:Rat):((Int.gcd t (q.den:Int):Nat):Int)≠0:=by
 have h:=q.den_nz;intro h0;have h1:Int.gcd t (q.den:Int)=0:=by omega
 have h2:=(Int.gcd_eq_zero_iff.mp h1).2;omega
theorem A6g {t g:Int} (h:g≠0):((Int.gcd t g:Nat):Int)≠0:=by
 intro h0;have h1:Int.gcd t g=0:=by omega
 exact h (Int.gcd_eq_zero_iff.mp h1).2
theorem A3o {k:Nat} {a g:Int} (h:Sm k a) (g1:0<=g):Sm k (a.fdiv g):=by
 unfold Sm at *;rw [Int.fdiv_eq_ediv_of_nonneg _ g1];rcases Int.lt_or_le 0 g with h0 | h0
 ·have h2:=Int.natAbs_ediv_le_natAbs a g;omega
 ·have:g=0:=by omega
  subst this;rw [Int.ediv_zero]; exact Nat.two_pow_pos k
theorem B6c {pr:LP->PEnv->(PEnv->Prop)->Prop} {q:Rat} {env:PEnv} {Q:PEnv->Prop}:qTup 2 pr (dq q) env Q=pr [.int q.num,.int q.den] env Q:=by
 unfold dq; rw [A1w]; exact propext ⟨fun h=>h.2,fun h=>⟨rfl,h⟩⟩
theorem C3g (q:Rat):PyData.tuple [.int (-q.num),.int q.den]=dq (-q):=rfl
theorem B0g {q:Rat} (h:q≠0):dq q⁻¹=.tuple [.int (if 0 < q.num then (q.den:Int) else -(q.den:Int)),.int (if 0 < q.num then q.num else -q.num)]:=by
 have hn:=A9s h;have e:q⁻¹=Rat.inv q:=rfl;unfold dq;rw [e]; unfold Rat.inv;by_cases h0:q.num < 0
 ·rw [dif_pos h0,if_neg (by omega),if_neg (by omega)];show PyData.tuple [_,.int ((q.num.natAbs:Nat):Int)]=_;rw [show ((q.num.natAbs:Nat):Int)=-q.num by omega]
 ·have h1:0 < q.num:=by omega
  rw [dif_neg h0,dif_pos h1,if_pos h1,if_pos h1];show PyData.tuple [_,.int ((q.num.natAbs:Nat):Int)]=_;rw [show ((q.num.natAbs:Nat):Int)=q.num by omega]
theorem B4j {k:Nat} {q:Rat} (h:SmQ k q) (hq:q≠0):SmQ k q⁻¹:=by
 have e:=B0g hq;unfold dq at e;injection e with e
 injection e with e1 e2
 injection e2 with e2 _
 injection e1 with e1
 injection e2 with e2
 refine ⟨?_,?_⟩
 ·show Sm k q⁻¹.num;rw [e1];have:=h.2;unfold Sm at *;split <;> omega
 ·show Sm k (q⁻¹.den:Int);rw [e2];have:=h.1;unfold Sm at *;split <;> omega
end Pu
namespace Pu
open PySem L2 My Prf
section
variable {x y:PyData} {xs ys:LP} {i j:Nat} {env e:PEnv} {s:SV} {t:OT}
theorem C4m {k:PyData->Prop}:(SV.d x).asD k=k x:=rfl
theorem C4l {k:PyData->Prop}:(SV.own xs).asD k=k (.list xs):=rfl
def oVar (o:Option (Option SV)) (i:Nat) (env:PEnv) (Q:SV->PEnv->Prop):Prop:=match o with
 | some (some (.d x))=>Q (.d x) env
 | some (some (.own xs))=>Q (.d (.list xs)) (env.set i (some (.d (.list xs))))
 | some (some .st)=>Q .st env
 | _=>False
theorem C0z {Q:SV->PEnv->Prop}:pVar i env Q=oVar env[i]? i env Q:=rfl
theorem C2a {Q:SV->PEnv->Prop}:oVar (some (some (.d x))) i env Q=Q (.d x) env:=rfl
theorem C19 {Q:SV->PEnv->Prop}:oVar (some (some (.own xs))) i env Q=Q (.d (.list xs)) (env.set i (some (.d (.list xs)))):=rfl
def B2t (o:Option (Option SV)) (env:PEnv) (Q:PyData->PEnv->Prop):Prop:=match o with
 | some (some (.d x))=>Q x env
 | some (some (.own xs))=>Q (.list xs) env
 | some (some (.bor xs))=>Q (.list xs) env
 | _=>False
theorem B63 {Q:PyData->PEnv->Prop}:B64 i env Q=B2t env[i]? env Q:=rfl
theorem B7w {Q:PyData->PEnv->Prop}:B2t (some (some (.d x))) env Q=Q x env:=rfl
theorem B7v {Q:PyData->PEnv->Prop}:B2t (some (some (.own xs))) env Q=Q (.list xs) env:=rfl
theorem B7x {Q:PyData->PEnv->Prop}:B2t (some (some (.bor xs))) env Q=Q (.list xs) env:=rfl
theorem pI_i {C:Int->Int->Prop} {gd:Int->Int->PyData} {i j:Int} {Q:SV->Prop}:pI C gd (.int i) (.int j) Q=(C i j/\Q (.d (gd i j))):=rfl
theorem C31 {gd:Int->Int->PyData} {i j:Int} {Q:SV->Prop}:pI0 gd (.int i) (.int j) Q=Q (.d (gd i j)):=rfl
theorem pU_i {gd:Int->PyData} {i:Int} {Q:SV->Prop}:pU gd (.int i) Q=Q (.d (gd i)):=rfl
theorem C10 {i:Int} {Q:SV->Prop}:pAbs [.int i] Q=Q (.d (.int (if i < 0 then -i else i))):=rfl
theorem C1d {i j:Int} {Q:SV->Prop}:pMax [.int i,.int j] Q=Q (.d (.int (if j > i then j else i))):=rfl
theorem C1c {i j:Int} {Q:SV->Prop}:pMin [.int i,.int j] Q=Q (.d (.int (if j < i then j else i))):=rfl
theorem C1o {b:Bool} {Q:SV->Prop}:pInt [.bool b] Q=Q (.d (.int (if b then 1 else 0))):=rfl
theorem B2h {Q:SV->Prop}:A87 [.list ys] Q=Q (.own ys):=rfl
def oKit (o:Option Bool) (Q:SV->Prop):Prop:=match o with
 | some b=>Q (.d (.bool b))
 | none=>False
theorem C1m {c:String} {pa:PDt} {Q:SV->PEnv->Prop}:pIsi c pa env Q=pa env fun x e=>oKit (kitB (tyD x) c) fun s=>Q s e:=rfl
theorem C2h {b:Bool} {Q:SV->Prop}:oKit (some b) Q=Q (.d (.bool b)):=rfl
theorem C4n {b:Bool} {k:Bool->Prop}:asB (.bool b) k=k b:=rfl
theorem C4h {k:LP->Prop}:asL (.list xs) k=k xs:=rfl
theorem C27 {k:Prop}:isSt (some (some .st)) k=k:=rfl
theorem C4i {i:Int} {k:Int->Prop}:asI (.int i) k=k i:=rfl
def B75 (o:Option (Option SV)) (D:PEnds) (env:PEnv):Prop:=match o with
 | some (some (.bor _))=>False
 | some (some (.bt _))=>False
 | some (some (.al _))=>False
 | some (some s)=>D.rt s env
 | _=>False
theorem B7a {D:PEnds}:B7b i D env=B75 env[i]? D env:=rfl
theorem B74 {D:PEnds}:B75 (some (some (.d x))) D env=D.rt (.d x) env:=rfl
theorem B73 {D:PEnds}:B75 (some (some (.own xs))) D env=D.rt (.own xs) env:=rfl
theorem B3z {Q:PEnv->Prop}:qNil [] env Q=Q env:=rfl
theorem A8k {pg:PyData->PEnv->(PEnv->Prop)->Prop} {pr:LP->PEnv->(PEnv->Prop)->Prop} {Q:PEnv->Prop}:B6e pg pr (x :: xs) env Q=pg x env fun e=>pr xs e Q:=rfl
def oPar (i j:Nat) (xs:LP) (D:PEnds) (e:PEnv):Prop:=match xs with
 | [x,y]=>D.nx ((e.set i (some (.d x))).set j (some (.d y)))
 | _=>False
theorem C06 {pa:PAr} {D:PEnds}:pPar i j pa D env=pa env fun xs e=>oPar i j xs D e:=rfl
theorem C2g {D:PEnds}:oPar i j [x,y] D e=D.nx ((e.set i (some (.d x))).set j (some (.d y))):=rfl
theorem B9e {k:LP->Prop}:A2o (some (some (.own xs))) k=k xs:=rfl
def A57 (o:Option (Option SV)) (i:Nat) (env:PEnv) (Q:LP->PEnv->Prop):Prop:=match o with
 | some (some (.d x))=>A2n x fun xs=>Q xs env
 | some (some (.own xs))=>Q xs (env.set i (some (.d (.list xs))))
 | some (some (.bor xs))=>Q xs env
 | _=>False
theorem B2l {Q:LP->PEnv->Prop}:A88 i env Q=A57 env[i]? i env Q:=rfl
theorem B2w {Q:LP->PEnv->Prop}:A57 (some (some (.d x))) i env Q=A2n x fun xs=>Q xs env:=rfl
theorem B2v {Q:LP->PEnv->Prop}:A57 (some (some (.own xs))) i env Q=Q xs (env.set i (some (.d (.list xs)))):=rfl
theorem B2x {Q:LP->PEnv->Prop}:A57 (some (some (.bor xs))) i env Q=Q xs env:=rfl
def C2f (xs:LP) (Q:LP->Prop):Prop:=match xs with
 | [.int j]=>(-(2 ^ 62)<=j/\j < 2 ^ 62)/\Q (rngD 0 j.toNat)
 | _=>False
theorem B69 {pa:PAr} {Q:LP->PEnv->Prop}:C04 pa env Q=pa env fun xs e=>C2f xs fun ys=>Q ys e:=rfl
theorem B72 {j:Int} {Q:LP->Prop}:C2f [.int j] Q=((-(2 ^ 62)<=j/\j < 2 ^ 62)/\Q (rngD 0 j.toNat)):=rfl
def C2e (xs:LP) (Q:LP->Prop):Prop:=match xs with
 | [.int i,.int j]=>(-(2 ^ 62)<=i/\i < 2 ^ 62/\-(2 ^ 62)<=j/\j < 2 ^ 62)/\Q (rngD i (j - i).toNat)
 | _=>False
theorem B68 {pa:PAr} {Q:LP->PEnv->Prop}:C03 pa env Q=pa env fun xs e=>C2e xs fun ys=>Q ys e:=rfl
theorem B71 {i j:Int} {Q:LP->Prop}:C2e [.int i,.int j] Q=((-(2 ^ 62)<=i/\i < 2 ^ 62/\-(2 ^ 62)<=j/\j < 2 ^ 62)/\Q (rngD i (j - i).toNat)):=rfl
theorem C1v {Q:SV->Prop}:pCat (.list xs) (.list ys) Q=(xs.length + ys.length<=1000000/\Q (.own (xs++ys))):=rfl
theorem C1z {Q:SV->Prop}:pAll [.list ys] Q=∃ bs,blsD ys=some bs/\Q (.d (.bool (bs.all id))):=rfl
def B2u (o:Option (Option SV)) (i:Nat) (env:PEnv) (Q:LP->PEnv->Prop):Prop:=match o with
 | some (some (.d x))=>asL x fun xs=>Q xs env
 | some (some (.own xs))=>Q xs (env.set i (some (.d (.list xs))))
 | some (some (.bor xs))=>Q xs env
 | _=>False
theorem B7e {Q:LP->PEnv->Prop}:B7f i env Q=B2u env[i]? i env Q:=rfl
theorem B77 {Q:LP->PEnv->Prop}:B2u (some (some (.d x))) i env Q=asL x fun xs=>Q xs env:=rfl
theorem B76 {Q:LP->PEnv->Prop}:B2u (some (some (.own xs))) i env Q=Q xs (env.set i (some (.d (.list xs)))):=rfl
theorem B78 {Q:LP->PEnv->Prop}:B2u (some (some (.bor xs))) i env Q=Q xs env:=rfl
def oZip (xss:List LP) (Q:LP->Prop):Prop:=match xss with
 | [xs,ys]=>Q (zipD xs ys)
 | _=>False
theorem C0y {pa:PEnv->(List LP->PEnv->Prop)->Prop} {Q:LP->PEnv->Prop}:pZip pa env Q=pa env fun xss e=>oZip xss fun ys=>Q ys e:=rfl
theorem C18 {Q:LP->Prop}:oZip [xs,ys] Q=Q (zipD xs ys):=rfl
def C2i (xss:List LP) (Q:LP->Prop):Prop:=match xss with
 | [xs]=>Q (A2f xs)
 | _=>False
theorem B7m {pa:PEnv->(List LP->PEnv->Prop)->Prop} {Q:LP->PEnv->Prop}:C1r pa env Q=pa env fun xss e=>C2i xss fun ys=>Q ys e:=rfl
theorem B8b {Q:LP->Prop}:C2i [xs] Q=Q (A2f xs):=rfl
def B70 (o:Option (Option SV)) (env:PEnv) (Q:PyData->PEnv->Prop):Prop:=match o with
 | some (some (.d x))=>Q x env
 | some (some (.own xs))=>Q (.list xs) env
 | some (some (.bor xs))=>Q (.list xs) env
 | some (some (.tr t))=>∃ x,t.dat=[x]/\Q x env
 | _=>False
theorem B65 {Q:PyData->PEnv->Prop}:B66 i env Q=B70 env[i]? env Q:=rfl
theorem B7z {Q:PyData->PEnv->Prop}:B70 (some (some (.d x))) env Q=Q x env:=rfl
theorem B7y {Q:PyData->PEnv->Prop}:B70 (some (some (.own xs))) env Q=Q (.list xs) env:=rfl
theorem C4k {k:PyData->Prop}:(SV.d x).asH k=k x:=rfl
theorem C4j {k:PyData->Prop}:(SV.own xs).asH k=k (.list xs):=rfl
def oTrV (o:Option (Option SV)) (env:PEnv) (Q:OT->PEnv->Prop):Prop:=match o with
 | some (some (.d x))=>Q (.leaf x) env
 | some (some (.tr t))=>Q t env
 | some (some (.bt t))=>Q t env
 | _=>False
theorem C01 {Q:OT->PEnv->Prop}:pTrV i env Q=oTrV env[i]? env Q:=rfl
theorem C2c {Q:OT->PEnv->Prop}:oTrV (some (some (.d x))) env Q=Q (.leaf x) env:=rfl
theorem C2d {Q:OT->PEnv->Prop}:oTrV (some (some (.bt t))) env Q=Q t env:=rfl
def oUnp (o:Option (Option SV)) (a b:Nat) (pr:LP->PEnv->(PEnv->Prop)->Prop) (D:PEnds) (env:PEnv):Prop:=match o with
 | some (some (.bt t))=>∃ u v,t.pair=some (u,v)/\D.nx ((env.set a (some u.sv)).set b (some v.sv))
 | some (some (.d x))=>qTup 2 pr x env D.nx
 | _=>False
theorem C00 {a b:Nat} {pr:LP->PEnv->(PEnv->Prop)->Prop} {D:PEnds}:pUnp i a b pr D env=oUnp env[i]? a b pr D env:=rfl
theorem C2b {a b:Nat} {pr:LP->PEnv->(PEnv->Prop)->Prop} {D:PEnds}:oUnp (some (some (.d x))) a b pr D env=qTup 2 pr x env D.nx:=rfl
class Box (α:Type) where
 f:α->Prop
def hold {α:Type} [b:Box α] (x:α):Prop:=b.f x
theorem B27 {α:Type} {f:α->Prop} {x:α}:@hold α ⟨f⟩ x=f x:=rfl
theorem B7q {psp:PSp} {pa:PAs} {env:PEnv} {Q:SV->PEnv->Prop}:C1w psp pa env Q=pa env fun as e=>psp as (@hold SV ⟨fun s=>Q s e⟩):=rfl
theorem C1f {xs:LP} {i:Int} {Q:SV->Prop}:pIx (.list xs) (.int i) Q=pGet xs i (@hold SV ⟨Q⟩):=rfl
theorem C1e {xs:LP} {i:Int} {Q:SV->Prop}:pIx (.tuple xs) (.int i) Q=pGet xs i (@hold SV ⟨Q⟩):=rfl
theorem B7p {pi:PAr} {pg:PyData->PEnv->(PEnv->Prop)->Prop} {pt:PTt} {pd:PDt} {cap:List (Option Nat)} {env:PEnv} {Q:SV->PEnv->Prop}:C1u pi pg pt pd cap env Q=pi env fun xs e=>xs.length < 1000000/\O8 xs pg pt pd (O5 cap e) (@hold LP ⟨fun ys=>Q (.own ys) e⟩):=rfl
theorem A7b {pi:PAr} {pg:PyData->PEnv->(PEnv->Prop)->Prop} {pt:PTt} {pd:PDt} {cap:List (Option Nat)} {i:Nat} {D:PEnds} {env:PEnv}:A52 pi pg pt pd cap i D env=pi env fun xs e=>xs.length < 1000000/\O8 xs pg pt pd (O5 cap e) (@hold LP ⟨fun ys=>D.nx (e.set i (some (.own ys)))⟩):=rfl
end
end Pu
namespace L2
open PySem PySem.Spec PyProof.Rows
section
variable {X:Cx}
def rInD (K:PySem.W.Frag) (neg:Bool):R2:=fun x y H Q=>∃ dx dy xs,Den K H x dx/\Den K H y dy/\(dy=.list xs\/dy=.tuple xs)/\PyData.canLayAll0 xs=true/\dx.canLay0=true/\dx.depth<=60/\Q (.bl (if neg then !(xs.any fun z=>z.eqv dx) else xs.any fun z=>z.eqv dx)) H
theorem C14 (hu:X.A.units + 64 < cLine):OpR X (compareOp .In) (rInD X.K false):=by
 intro pins s σ H x y v u Q I rx ry h;obtain ⟨dx,dy,xs,h1,h2,h3,c1,c2,hd,q⟩:=h;obtain ⟨as,r1⟩:=h1.reads I rx c2;obtain ⟨bs,r2⟩:=h2.reads I ry (by rcases h3 with rfl | rfl <;> exact c1)
 rcases h3 with rfl | rfl
 ·exact PySem.SeqAt.in_list_reads r2 r1 c1 c2 (by omega) ⟨.bl _,H,I,rfl,q⟩
 ·exact PySem.SeqAt.in_tuple_reads r2 r1 c1 c2 (by omega) ⟨.bl _,H,I,rfl,q⟩
theorem A14 {K:PySem.W.Frag} (h:X.K=K) (hu:X.A.units + 64 < cLine):OpR X (compareOp .In) (rInD K false):=by subst h; exact C14 hu
end
end L2
namespace Pu
open PySem L2 My Prf
def pIn (neg:Bool) (x y:PyData) (Q:SV->Prop):Prop:=A2n y fun xs=>PyData.canLayAll0 xs=true/\x.canLay0=true/\x.depth<=60/\Q (.d (.bool (if neg then !(xs.any fun z=>z.eqv x) else xs.any fun z=>z.eqv x)))
instance ro_in {K:Frag} {neg:Bool}:RO K (rInD K neg) (pIn neg) where
 ok:=by
  rintro c w env σ x y dx dy Qp Q rfl E vx vy p k;unfold pIn A2n at p;split at p
  ·rename_i xs;exact ⟨dx,_,xs,vx.den E.wok,vy.den E.wok,.inl rfl,p.1,p.2.1,p.2.2.1,k _ _ w (Res.data E (.bl _)) p.2.2.2⟩
  ·rename_i xs;exact ⟨dx,_,xs,vx.den E.wok,vy.den E.wok,.inr rfl,p.1,p.2.1,p.2.2.1,k _ _ w (Res.data E (.bl _)) p.2.2.2⟩
  ·exact p.elim
theorem hm_H {w:Wd}:Same (hm w) w.H:=fun _ _ h=>(B4k h).1
instance (priority:=high) re_neH {K:Frag} {ta tb:TE} {pa pb:PDt} [ha:RH K ta pa] [hb:RH K tb pb]:RE K (tOp (rNeD K) ta tb) (pOp pNeD pa pb) where
 ok:=by
  rintro c w env σ Qp Q rfl E p k;refine ha.ok c w env σ _ _ rfl E p fun x dx e1 w1 E1 l1 v1 q1=>?_;refine hb.ok c w1 e1 σ _ _ rfl E1 q1 fun y dy e2 w2 E2 l2 v2 q2=>?_;have v1':VH c.K w2 x dx:=Den.same (C3d l2) v1;exact ⟨dx,dy,Den.same hm_H v1',Den.same hm_H v2,q2.1,q2.2.1,q2.2.2.1,k _ _ e2 w2 ((Res.data E2 (.bl _)).pre (l1.trans l2)) q2.2.2.2⟩
instance (priority:=high) re_eqH {K:Frag} {ta tb:TE} {pa pb:PDt} [ha:RH K ta pa] [hb:RH K tb pb]:RE K (tOp (rEqD K) ta tb) (pOp pEqD pa pb) where
 ok:=by
  rintro c w env σ Qp Q rfl E p k;refine ha.ok c w env σ _ _ rfl E p fun x dx e1 w1 E1 l1 v1 q1=>?_;refine hb.ok c w1 e1 σ _ _ rfl E1 q1 fun y dy e2 w2 E2 l2 v2 q2=>?_;have v1':VH c.K w2 x dx:=Den.same (C3d l2) v1;exact ⟨dx,dy,Den.same hm_H v1',Den.same hm_H v2,q2.1,q2.2.1,q2.2.2.1,k _ _ e2 w2 ((Res.data E2 (.bl _)).pre (l1.trans l2)) q2.2.2.2⟩
theorem EnvOk.take {c:Ct} {w:Wd} {env:PEnv} {σ:St} {i:Nat} {s:SV} (E:EnvOk c w env σ) (h:env[i]?=some (some s)) (hr:s.isRes=true):∃ v,σ[i]?=some (some v)/\Res c w (env.set i none) σ w v s:=by
 obtain ⟨v,hv,hV⟩:=E.at' i _ h;have up:∀ {j:Nat} {t:SV},(env.set i none)[j]?=some (some t)->i≠j/\env[j]?=some (some t):=by
  intro j t q;rw [List.getElem?_set] at q;split at q
  ·split at q <;> cases q
  ·rename_i z; exact ⟨z,q⟩
 have E':EnvOk c w (env.set i none) σ:=⟨E.wok,E.le0,by simpa using E.len,fun j s q=>E.at' j s (up q).2,fun j k s t v u a q1 q2=>E.own j k s t v u a (up q1).2 (up q2).2,E.zf,fun a j t u za q=>E.zo a j t u za (up q).2⟩;exact ⟨v,hv,E',Lw.refl w,hV,fun a f=>⟨fun j t u q z g=>(up q).1 (E.own i j _ _ _ _ a h (up q).2 hv z f g),fun za=>E.zo a i _ _ za h hv f⟩,hr⟩
end Pu
namespace L2
open PySem PySem.Spec PyProof.Rows
section
variable {X:Cx} {tg:Expr}
def B1u (K:PySem.W.Frag):List V->Hp->VK->Prop:=fun xs H Q=>(∃ p ys,xs=[.ref p]/\(SqL K H p ys\/SqT K H p ys)/\Q (.int ys.length) H)\/∃ z,xs=[.str z]/\z.length<=sizeLine/\Q (.int z.length) H
theorem A7n {K:PySem.W.Frag} (h:X.K=K):CallR X (.builtin "len") (B1u K):=by subst h; exact call_len_seq.or A3y
theorem A6b:1000<=sizeLine:=by rw [sizeLine_eq]; decide
end
end L2
namespace L2
open PySem PySem.Spec PyProof.Rows
section
variable {X:Cx} {tg:Expr} {pos:Pos}
theorem G9 {o i:Expr} {to ti:TE} {t:TSet} (ho:QE X o to) (hi:QE X i ti) (hs:PSet X t)
  (ha:∀ v,assign (.Subscript o i pos) X.env v=(do
   let ov <- holding [v] (eval o X.env)
   let iv <- holding [v,ov] (eval i X.env)
   standAt pos
   holding [v,ov,iv] (setItem ov iv v)
   release [v,ov,iv] []):=by intro _; rfl):QG X (.Subscript o i pos) (gSub to ti t):=⟨A50 ho.out hi.out hs ha⟩
end
end L2
namespace Pu
open PySem L2 My Prf
def asS (x:PyData) (k:Str->Prop):Prop:=match x with
 | .str z=>k z
 | _=>False
theorem C4g {z:Str} {k:Str->Prop}:asS (.str z) k=k z:=rfl
theorem VV.strE {K:Frag} {w:Wd} {v:V} {z:Str} (h:VV K w v (.str z)):v=.str z:=by
 rcases h with h | ⟨l,vs,xs,e,e',_⟩
 ·cases h; rfl
 ·cases e'
def sgn (c:Nat):PyData:=.str ⟨#[c]⟩
def B7l (z:Str) (i:Int) (Q:SV->Prop):Prop:=∃ c,atI z.cps.toList i=some c/\Q (.d (sgn c))
def pIx2 (x y:PyData) (Q:SV->Prop):Prop:=match x with
 | .str z=>asI y fun i=>z.length<=1000/\B7l z i Q
 | x=>pIx x y Q
theorem C1j {xs:LP} {y:PyData} {Q:SV->Prop}:pIx2 (.list xs) y Q=pIx (.list xs) y Q:=rfl
theorem C1g {xs:LP} {y:PyData} {Q:SV->Prop}:pIx2 (.tuple xs) y Q=pIx (.tuple xs) y Q:=rfl
theorem C1i {q:Rat} {y:PyData} {Q:SV->Prop}:pIx2 (dq q) y Q=pIx (dq q) y Q:=rfl
theorem C1k {q:Rat × Rat} {y:PyData} {Q:SV->Prop}:pIx2 (dcn q) y Q=pIx (dcn q) y Q:=rfl
theorem C1h {z:Str} {i:Int} {Q:SV->Prop}:pIx2 (.str z) (.int i) Q=(z.length<=1000/\B7l z i Q):=rfl
instance (priority:=high) ro_ix2 {K:Frag}:RO K (rIx K) pIx2 where
 ok:=by
  rintro c w env σ x y dx dy Qp Q rfl E vx vy p k;unfold pIx2 at p;split at p
  ·unfold asI at p;split at p
   ·obtain ⟨hl,cc,h1,q⟩:=p;exact .inr (.inr ⟨_,_,cc,vx.strE,vy.intE,Zx hl A6b,h1,k _ _ w (Res.data E (.str _)) q⟩)
   ·exact p.elim
  ·exact ro_ix.ok c w env σ x y dx dy Qp Q rfl E vx vy p k
def B2i (xs:LP) (Q:SV->Prop):Prop:=match xs with
 | [.list ys]=>Q (.d (.int ys.length))
 | [.tuple ys]=>Q (.d (.int ys.length))
 | [.str z]=>z.length<=1000/\Q (.d (.int z.length))
 | _=>False
theorem B7i {ys:LP} {Q:SV->Prop}:B2i [.list ys] Q=Q (.d (.int ys.length)):=rfl
theorem B7h {ys:LP} {Q:SV->Prop}:B2i [.tuple ys] Q=Q (.d (.int ys.length)):=rfl
instance rb_len2 {K:Frag}:RB K (B1u K) B2i where
 ok:=by
  rintro c w env σ vs xs Qp Q rfl E vv p k;unfold B2i at p;split at p
  ·cases vv with | cons h t=>cases t; obtain ⟨a,us,e,h1,h2⟩:=h.lst E.wok; exact .inl ⟨a,us,by rw [e],.inl h1,by rw [h2.len]; exact k _ _ w (Res.data E (.int _)) p⟩
  ·cases vv with | cons h t=>cases t; obtain ⟨a,us,e,h1,h2⟩:=h.tup E.wok; exact .inl ⟨a,us,by rw [e],.inr h1,by rw [h2.len]; exact k _ _ w (Res.data E (.int _)) p⟩
  ·cases vv with | cons h t=>cases t; exact .inr ⟨_,by rw [h.strE],Zx p.1 A6b,k _ _ w (Res.data E (.int _)) p.2⟩
  ·exact p.elim
def C02 (pd:PDt) (i:Nat) (pi:PDt) (D:PEnds) (env:PEnv):Prop:=pd env fun x e=>A2o e[i]? fun _=>pi e fun y e2=>asI y fun n=>A2o e2[i]? fun xs=>∃ j,ixN xs.length n=some j/\D.nx (e2.set i (some (.own (xs.set j x))))
theorem DenAll.setAt {K:Frag} {F:Hpp} {v:V} {x:PyData} (d:Den K F v x):∀ {vs:List V} {xs:LP} (j:Nat),DenAll K F vs xs->DenAll K F (vs.set j v) (xs.set j x)
 | _,_,_,.nil=>.nil
 | _,_,0,.cons _ t=>.cons d t
 | _,_,j + 1,.cons h t=>.cons h (DenAll.setAt d j t)
instance rs_setI {K:Frag} {i:Nat} {te ti:TE} {pd pi:PDt} [he:RD K te pd] [hi:RW K ti pi]:RS K (tAsg te (gSub (tVar i) ti B58)) (C02 pd i pi) where
 ok:=by
  rintro c w env σ Dp D rfl E h p;refine he.ok c w env σ _ _ rfl E p fun v x e1 w1 E1 l1 d1 q1=>?_;unfold A2o at q1;split at q1
  ·rename_i xs0 e0;obtain ⟨o,g0,l,vs,ev,h1,h2,h3,h4,h5⟩:=E1.at' i _ e0;subst ev;refine ⟨_,g0,hi.ok c w1 e1 σ _ _ rfl E1 q1 fun u y e2 w2 E2 l2 d2 q2=>?_⟩;unfold asI at q2;split at q2
   ·rename_i n;split at q2
    ·rename_i xs e;obtain ⟨j,hj,q2⟩:=q2;obtain ⟨o',g0',l',vs',ev',k1,k2,k3,k4,k5⟩:=E2.at' i _ e;rw [g0] at g0'; cases g0'; cases ev';have hn:=d2.intE;refine ⟨l,vs',n,j,rfl,hn,k1,by rw [k5.len]; exact hj,?_⟩;exact h.nx _ σ ⟨w2.M,upd w2.H l (.lst (vs'.set j v)),w2.F⟩ (E2.write e g0 k1 k2 k3 k4 (DenAll.setAt (Den.same l2.f d1) j k5)) (l1.f.trans l2.f) q2
    ·exact q2.elim
   ·exact q2.elim
  ·exact q1.elim
def B4b (pr pr':PyData->PyData->(SV->Prop)->Prop) (pa pb pc:PDt) (env:PEnv) (Q:SV->PEnv->Prop):Prop :=
 pa env fun x e1=>pb e1 fun y e2=>pr x y fun s=>s.asD fun b=>asB b fun k=>if k=true then pc e2 fun z e3=>pr' y z fun s2=>Q s2 e3 else Q (.d (.bool false)) e2
instance re_chain {K:Frag} {r r':R2} {ta tb tc:TE} {pr pr':PyData->PyData->(SV->Prop)->Prop} {pa pb pc:PDt} [h:RO K r pr] [h':RO K r' pr'] [ha:RW K ta pa] [hb:RW K tb pb] [hc:RW K tc pc]:RE K (A75 r r' ta tb tc) (B4b pr pr' pa pb pc) where
 ok:=by
  rintro c w env σ Qp Q rfl E p k;refine ha.ok c w env σ _ _ rfl E p fun x dx e1 w1 E1 l1 v1 q1=>?_;refine hb.ok c w1 e1 σ _ _ rfl E1 q1 fun y dy e2 w2 E2 l2 v2 q2=>?_;refine h.ok c w2 e2 σ x y dx dy _ _ rfl E2 (v1.mono l2) v2 q2 fun v s w3 R q3=>?_;cases s with
  | d b =>
   cases b with
   | bool b =>
    have ev:v=.bl b:=Den.blE R.val;refine ⟨b,ev,?_⟩;cases b with
    | true =>
     refine hc.ok c w3 e2 σ _ _ rfl R.ev q3 fun z dz e3 w4 E4 l4 v4 q4=>?_;exact h'.ok c w4 e3 σ y z dy dz _ _ rfl E4 ((v2.mono R.lw).mono l4) v4 q4 fun v s w' R' q=>k v s e3 w' (R'.pre (l1.trans (l2.trans (R.lw.trans l4)))) q
    | false=>exact k _ _ e2 w3 ((Res.data R.ev (.bl _)).pre (l1.trans (l2.trans R.lw))) q3
   | _=>exact (show False from q3).elim
  | own xs=>exact (show False from q3).elim
  | bor xs=>exact (show False from q3).elim
  | st=>exact (show False from q3).elim
  | tr t=>exact (show False from q3).elim
  | bt t=>exact (show False from q3).elim
  | al t=>exact (show False from q3).elim
  | dk t=>exact (show False from q3).elim
end Pu
namespace L2
open PySem PySem.Spec PyProof.Rows
section
variable {prog:Program} {w:World} {A:Around} {E:Value->Shared->Prop} {h:Heap} {g:Array GenState} {d:Drawn} {t:Nat} {os:OsState} {a C:Addr} {o:Obj} {vs:Array Value} {K:PySem.W.Frag}
end
end L2
namespace L2
open PySem PySem.Spec PyProof.Rows
section
variable {P:Program} {w:World} {outer:List Env} {H H':Hp} {s s':Shared} {a:Addr} {cls a0:Value} {B:Heap}
end
section
variable {P:Program} {w:World} {K:PySem.W.Frag} {mg:Str->Option Value} {base:Heap} {N:List Str} {qual:Str} {scope:Scope} {f:Addr} {cd:Value} {A:Around} {outer:List Env} {s0:Shared} {H0:Hp} {E:XK}
end
end L2
namespace L2
open PySem PySem.Spec PyProof.Rows
section
variable {X:Cx} {E:XK} {x:Str} {C:Addr} {pos np cpos:Pos} {e:Expr} {es:List Expr} {t:TA}
end
section
variable {X:Cx} {pins:List (Addr × Obj)} {σ:St} {H:Hp} {s:Shared} {a:Addr} {oe:Obj}
end
end L2
namespace L2
open PySem PySem.Spec PyProof.Rows
section
variable {P:Program} {w:World} {outer:List Env} {H H':Hp} {s s':Shared} {a:Addr} {cls a0:Value} {B:Heap}
end
section
variable {X:Cx} {pins:List (Addr × Obj)} {σ:St} {H H':Hp} {s s':Shared} {a:Addr} {cls a0:Value} {B:Heap}
end
section
variable {X:Cx} {k i:Nat} {f C CH:Addr} {fd:FuncData} {ps:List Str} {sp:Sp} {x xh n:Str} {p pos pos2 pos3 pos4 pos5:Pos} {e:Expr} {es:List Expr} {t:TA} {b0:Stmt} {suite:List Stmt} {b:Bool}
end
end L2
namespace L2
open PySem PySem.Spec PyProof.Rows
section
variable {X:Cx} {a C:Addr} {oe:Obj} {i:Nat} {b:Bool}
inductive ClV:V->Value->Prop
 | own (c:Addr):ClV (.ref c) (.ref c)
 | ty (c:String):ClV (.ty c) (.type c)
theorem ClV.get {c:V} {u cv:Value} (h:ClV c cv) (r:RelV c u):u=cv:=by
 cases h with
 | own c=>exact r
 | ty c=>exact r
inductive ClVs:List V->List Value->Prop
 | nil:ClVs [] []
 | cons {c:V} {cv:Value} {r:List V} {s:List Value}:ClV c cv->ClVs r s->ClVs (c :: r) (cv :: s)
theorem ClVs.get:∀ {cs:List V} {us cvs:List Value},ClVs cs cvs->Vals cs us->us=cvs
 | [],_,_,.nil,.nil=>rfl
 | _ :: _,_,_,.cons h t,.cons r s=>by rw [h.get r,t.get s]
end
end L2
namespace L2
open PySem PySem.Spec PyProof.Rows
section
variable {X:Cx}
variable {k i:Nat} {f C CH:Addr} {fd:FuncData} {ps:List Str} {sp:Sp} {x xh n:Str} {p pos pos2 pos3 pos4 pos5:Pos} {e:Expr} {es:List Expr} {t:TA} {b0:Stmt} {suite:List Stmt} {b:Bool}
end
end L2
namespace Pu
open PySem PySem.Spec PyProof.Rows L2 My Prf
end Pu
namespace L2
open PySem PySem.Spec PyProof.Rows
theorem us0:∀ {us:List Value},us.length=0->us=[]
 | [],_=>rfl
theorem usS {n:Nat}:∀ {us:List Value},us.length=n + 1->∃ a r,us=a :: r/\r.length=n
 | a :: r,h=>⟨a,r,rfl,Nat.succ.inj h⟩
theorem us1 {us:List Value} (h:us.length=1):∃ a,us=[a]:=by
 obtain ⟨a,r,e,k⟩:=usS h;exact ⟨a,by rw [e,us0 k]⟩
theorem us2 {us:List Value} (h:us.length=2):∃ a b,us=[a,b]:=by
 obtain ⟨a,r,e,k⟩:=usS h; obtain ⟨b,z⟩:=us1 k; exact ⟨a,b,by rw [e,z]⟩
theorem us3 {us:List Value} (h:us.length=3):∃ a b c,us=[a,b,c]:=by
 obtain ⟨a,r,e,k⟩:=usS h; obtain ⟨b,c,z⟩:=us2 k; exact ⟨a,b,c,by rw [e,z]⟩
theorem us4 {us:List Value} (h:us.length=4):∃ a b c d,us=[a,b,c,d]:=by
 obtain ⟨a,r,e,k⟩:=usS h; obtain ⟨b,c,d,z⟩:=us3 k; exact ⟨a,b,c,d,by rw [e,z]⟩
end L2
namespace L2
open PySem PySem.Spec PyProof.Rows
section
variable {X:Cx}
end
end L2
namespace Pu
open PySem L2 My Prf
end Pu
namespace L2
open PySem PySem.Spec PyProof.Rows
section
variable {prog:Program} {w:World} {A:Around} {E:Value->Shared->Prop} {s:Shared}
end
section
variable {prog:Program} {w:World} {A:Around} {E:Value->Shared->Prop} {s:Shared} {R:Result->Shared->Prop} {us vs:Array Value}
end
section
variable {prog:Program} {w:World} {A:Around} {E:Value->Shared->Prop} {s:Shared} {us vs:Array Value}
end
section
variable {X:Cx} {pins:List (Addr × Obj)} {σ:St} {H:Hp} {s:Shared}
end
section
variable {X:Cx}
end
end L2
namespace Pu
open PySem L2 My Prf
end Pu
namespace L2
open PySem PySem.Spec PyProof.Rows
def A4g (K:PySem.W.Frag):V->List V->Hp->VK->Prop:=fun x vs H Q=>∃ y d xs j,vs=[y]/\Den K H x (.list xs)/\Den K H y d/\PyData.canLayAll0 xs=true/\d.canLay0=true/\d.depth<=60/\xs.length<=1000/\xs.findIdx? (fun z=>z.eqv d)=some j/\Q (.int j) H
section
variable {X:Cx}
theorem A9u (hu:X.A.units + 64 < cLine):MtR X "list.index" (A4g X.K):=by
 intro pins s σ H x vs v us Q I rx rv h;obtain ⟨y,d,xs,j,rfl,h1,h2,c1,c2,hd,hl,hj,q⟩:=h;obtain ⟨u,rfl,ru⟩:=rv.one;obtain ⟨as,r1⟩:=h1.reads I rx c1;obtain ⟨bs,r2⟩:=h2.reads I ru c2;cases r1 with
 | list e1 e2 e3 e4 =>
  rename_i l o vs n ns;have em:=PySem.SeqAt.readsAll_map xs _ _ c1 e4;have hsz:vs.size=xs.length:=by rw [<- em,Zl,Array.length_toList]
  obtain ⟨hjl,hjt,hjn⟩:=List.findIdx?_eq_some_iff_getElem.mp hj;have at':∀ m (hm:m < vs.size),PySem.SeqAt.readOf s.heap vs[m]=xs[m]'(by omega):=fun m hm=>by
   have:(vs.toList.map (PySem.SeqAt.readOf s.heap))[m]?=xs[m]?:=by rw [em]
   rw [Zh,Array.getElem?_toList,Array.getElem?_eq_getElem hm,Zg (by omega)] at this;exact Zj this
  obtain ⟨cl,dd,dt,sl⟩:=o;have e2':cl=.type "list":=e2;have e3':dt=.seq vs n:=e3;subst e2' e3';refine call_meets PySem.F.slot_list_index ⟨_,e1,rfl⟩ PySem.F.entry_list_index (PySem.F.args_list_index_2 _ _) (PySem.SeqAt.list_indexAt l vs n dd sl u (fun z=>PyData.eqv (PySem.SeqAt.readOf s.heap z) d) j (by omega) (by omega) (by rw [at' j (by omega)]; exact hjt) (fun m hm hlt=>by
   rw [at' m hm];exact Bool.eq_false_iff.mpr (hjn m hlt))) ⟨e1,PySem.SeqAt.items_eqAt e4 r2 c1 c2 (by omega),?_⟩
  exact ⟨.int j,H,I.tok _,⟨_,rfl⟩,q⟩
theorem V7 {K:PySem.W.Frag} (h:X.K=K) (hu:X.A.units + 64 < cLine):MtR X "list.index" (A4g K):=by subst h; exact A9u hu
end
end L2
namespace Pu
open PySem L2 My Prf
def pIdx (po pa:PDt) (env:PEnv) (Q:SV->PEnv->Prop):Prop:=po env fun x e=>asL x fun xs=>pa e fun d e2=>PyData.canLayAll0 xs=true/\d.canLay0=true/\d.depth<=60/\xs.length<=1000/\∃ j:Nat,xs.findIdx? (fun z=>z.eqv d)=some j/\Q (.d (.int (j:Int))) e2
instance re_idx {K:Frag} {to ta:TE} {po pa:PDt} [ho:RW K to po] [ha:RD K ta pa]:RE K (tBM K "list" (A4g K) to (O1 ta tNil)) (pIdx po pa) where
 ok:=by
  rintro c w env σ Qp Q rfl E p k;refine ho.ok c w env σ _ _ rfl E p fun v x e1 w1 E1 l1 d1 q1=>?_;unfold asL at q1;split at q1
  ·rename_i xs;obtain ⟨a,us,e,h1,h2⟩:=d1.lst E1.wok;subst e;refine ⟨.inl ⟨rfl,_,h1⟩,ha.ok c w1 e1 σ _ _ rfl E1 q1 fun u y e2 w2 E2 l2 d2 q2=>?_⟩;obtain ⟨c1,c2,hd,hl,j,hj,q⟩:=q2;exact ⟨u,y,xs,j,rfl,(d1.mono l2).den E2.wok,Den.same E2.wok.sub d2,c1,c2,hd,hl,hj,k _ _ e2 w2 ((Res.data E2 (.int _)).pre (l1.trans l2)) q⟩
  ·exact q1.elim
end Pu
namespace L2
open PySem PySem.Spec PyProof.Rows
section
variable {X:Cx}
end
end L2
namespace Pu
open PySem L2 My Prf
end Pu
namespace L2
open PySem PySem.Spec PyProof.Rows
section
variable {X:Cx}
end
end L2
namespace Pu
open PySem L2 My Prf
end Pu
namespace L2
open PySem PySem.Spec PyProof.Rows
end L2
namespace Pu
open PySem L2 My Prf
end Pu
namespace L2
open PySem PySem.Spec PyProof.Rows
def told:PyData->Str
 | .str z=>z
 | d=>d.shown
section
variable {X:Cx}
end
end L2
namespace Pu
open PySem L2 My Prf
end Pu
namespace L2
open PySem PySem.Spec PyProof.Rows
section
variable {X:Cx} {pins:List (Addr × Obj)} {σ:St} {H:Hp} {s:Shared}
end
end L2
namespace L2
open PySem PySem.Spec PyProof.Rows
section
variable {X:Cx}
end
end L2
namespace Pu
open PySem L2 My Prf
end Pu
namespace L2
open PySem PySem.Spec PyProof.Rows
end L2
namespace Pu
open PySem L2 My Prf
end Pu
namespace L2
open PySem PySem.Spec PyProof.Rows
section
variable {prog:Program} {w:World} {A:Around} {E:Value->Shared->Prop}
end
end L2
namespace Pu
open PySem L2 My Prf
theorem B1n {K:Frag} {F H:Hpp} {a:Addr} {vs:List V} (s:Same F H) (h:SqL K F a vs):SqL K H a vs:=by
 rcases h with (h | ⟨o,h⟩) | h
 ·exact .inl (.inl (s _ _ h))
 ·exact .inl (.inr ⟨o,s _ _ h⟩)
 ·exact .inr h
end Pu
namespace L2
open PySem PySem.Spec PyProof.Rows
section
variable {M:Model} {A:Around} {E:Value->Shared->Prop} {s:Shared}
end
section
variable {P:Program} {w:World} {K:PySem.W.Frag} {mg:Str->Option Value} {base:Heap} {N:List Str} {qual:Str} {scope:Scope} {f:Addr} {cd:Value} {A:Around} {outer:List Env} {s0:Shared} {H0:Hp} {E:XK}
end
end L2
namespace L2
open PySem PySem.Spec PyProof.Rows
section
variable {X:Cx} {scope:Scope} {cl:List (Str × Addr)} {N':List Str} {cap:List (Option Nat)} {elt tg iter:Expr} {ifs:List Expr} {wi:TI} {g:TG} {tt:TT} {te:TE} {pos:Pos}
end
section
variable {P:Program} {w:World} {K:PySem.W.Frag} {mg:Str->Option Value} {base:Heap} {N:List Str} {qual:Str} {dsc:Scope} {f:Addr} {cd:Value} {A:Around} {outer:List Env} {s0:Shared} {H0:Hp} {E:XK}
variable {scope:Scope} {cl:List (Str × Addr)} {N':List Str} {cap:List (Option Nat)} {elt tg iter:Expr} {ifs:List Expr} {wi:TI} {g:TG} {tt:TT} {te:TE} {pos:Pos}
end
end L2
namespace L2
open PySem PySem.Spec PyProof.Rows
section
variable {X:Cx} {e:Expr} {t u:TE}
end
section
variable {P:Program} {w:World} {K:PySem.W.Frag} {mg:Str->Option Value} {base:Heap} {N:List Str} {qual:Str} {dsc:Scope} {f:Addr} {cd:Value} {A:Around} {outer:List Env} {s0:Shared} {H0:Hp} {E:XK}
variable {scope:Scope} {cl:List (Str × Addr)} {N':List Str} {cap:List (Option Nat)} {elt tg iter:Expr} {ifs:List Expr} {wi:TI} {g:TG} {tt:TT} {te:TE} {pos:Pos}
end
end L2
namespace Pu
open PySem PySem.Spec PyProof.Rows L2 My Prf
end Pu
namespace L2
open PySem PySem.Spec PyProof.Rows
def A8g:R2:=fun x y H Q=>∃ i n,x=.str i/\y=.int n/\(0<=n/\n<=100)/\i.length<=100/\Q (.str (Txt.mul i n)) H
theorem C2l {x:Str} {n:Int} (h0:0<=n) (h1:n<=100) (h:x.length<=100):MulOk x n:=by
 refine ⟨?_,fun hn _=>?_,fun hn _=>?_⟩
 ·rw [Bool.or_eq_false_iff];exact ⟨Zd (by omega),Zd (by omega)⟩
 ·have hp:0 < n:=by omega
  have h2:100 * n<=2 ^ 63 - 1:=by omega
  have h3:(100:Int)<=(2 ^ 63 - 1) / n:=Int.le_ediv_of_mul_le hp h2;omega
 ·have h2:x.length * n.toNat<=100 * 100:=Nat.mul_le_mul h (by omega);have h3:100 * 100<=sizeLine:=by rw [sizeLine_eq]; decide
  show decide _=false;exact Zd (by omega)
theorem B7s {X:Cx}:OpR X (binaryOp .Mult) A8g:=by
 intro pins s σ H x y v u Q I rx ry h;obtain ⟨i,n,rfl,rfl,⟨h0,h1⟩,h2,q⟩:=h;obtain ⟨t,rfl⟩:=rx;obtain ⟨t2,rfl⟩:=ry;exact PySem.SB.mul (C2l h0 h1 h2) fun t' k=>⟨.str _,H,I.tok _,⟨t',rfl⟩,q⟩
end L2
namespace Pu
open PySem L2 My Prf
def B7d (x y:PyData) (Q:SV->Prop):Prop:=asS x fun i=>asI y fun n=>(0<=n/\n<=100)/\i.length<=100/\Q (.d (.str (Txt.mul i n)))
theorem B7c {i:Str} {n:Int} {Q:SV->Prop}:B7d (.str i) (.int n) Q=((0<=n/\n<=100)/\i.length<=100/\Q (.d (.str (Txt.mul i n)))):=rfl
instance ro_mulS {K:Frag}:RO K A8g B7d where
 ok:=by
  rintro c w env σ x y dx dy Qp Q rfl E vx vy p k;unfold B7d asS at p;split at p
  ·unfold asI at p;split at p
   ·exact ⟨_,_,vx.strE,vy.intE,p.1,p.2.1,k _ _ w (Res.data E (.str _)) p.2.2⟩
   ·exact p.elim
  ·exact p.elim
end Pu
namespace L2
open PySem PySem.Spec PyProof.Rows
theorem B9j {b n:Nat} (h:n<=b):Builtin.Slice.sliceAdjust none (some (b:Int)) 1 (n:Int)=(0,(n:Int)):=by
 have e1:¬ ((1:Int) < 0):=by decide
 have e2:¬ ((b:Int) < 0):=by omega
 have e3:min (b:Int) (n:Int)=n:=by omega
 simp only [Builtin.Slice.sliceAdjust,e1,e2,if_false,e3]
theorem B6q (n:Nat):Builtin.Slice.slicePlaces 0 (n:Int) 1=n:=by
 have e1:(1:Int) > 0:=by decide
 simp only [Builtin.Slice.slicePlaces,e1,if_true,Int.ediv_one];split <;> omega
section
variable {pg:Program} {wo:World} {ar:Around} {xe:Value->Shared->Prop} {st:Shared}
theorem B9f {q:Addr} {b n:Nat} {tk:Tok} {Q:Int × Int × Nat->Shared->Prop} (hs:st.heap.IsSliceOf q .none (.int b tk) .none) (hb:n<=b) (k:Q (0,1,n) st) :
  wpAny (model pg wo) ar (Builtin.Slice.sliceApplied (.ref q) (pure (n:Int))) Q xe st:=by
 obtain ⟨ob,g1,g2,g3⟩:=id hs;unfold Builtin.Slice.sliceApplied Builtin.Slice.sliceFields;refine wpAny_bind (wpAny_bind (wpAny_field g1 g3 (x:=.none) rfl ?_));refine wpAny_bind (wpAny_field g1 g3 (x:=.int b tk) rfl ?_);refine wpAny_bind (wpAny_field g1 g3 (x:=.none) rfl ?_);refine wpAny_pure ?_;refine wpAny_bind (slicePart_none ?_);show wpAny _ _ (if ((1:Int) == 0)=true then _ else _) _ _ st;rw [if_neg (by decide)];refine wpAny_bind (slicePart_none ?_);refine wpAny_bind (slicePart_int ?_);refine wpAny_bind (wpAny_pure ?_);show wpAny _ _ (match Builtin.Slice.sliceAdjust none (some (b:Int)) 1 (n:Int) with | (x,y)=>pure (x,(1:Int),Builtin.Slice.slicePlaces x y 1)) _ _ st;rw [B9j hb];show wpAny _ _ (pure ((0:Int),(1:Int),Builtin.Slice.slicePlaces 0 (n:Int) 1)) _ _ st;rw [B6q];exact wpAny_pure k
theorem B24 {a q:Addr} {its:Array Value} {b:Nat} {tk:Tok} {Q:Value->Shared->Prop} (ht:IsTup st.heap a its) (hs:st.heap.IsSliceOf q .none (.int b tk) .none) (hb:its.size<=b) (k:Q (.ref a) st) :
  wpAny (model pg wo) ar (getItem (.ref a) (.ref q)) Q xe st:=by
 obtain ⟨ob,g1,g2,g3⟩:=id hs;have tq:st.TypeIs (.ref q) "slice":=⟨ob,g1,g2⟩;unfold getItem;try with_reducible refine wpAny_holding ?_
 first | refine wpAny_bind (wpAny_pure ?_) | skip
 refine wpAny_bind (wpAny_sequenceKey ht.typeIs (by decide) ?_);refine wpAny_bind (wpAny_callSpecial?_slot (name:=Str.ofString "__getitem__") ht.typeIs slot_tuple_getitem ?_);refine wpAny_call_entry slot_tuple_getitem ht.typeIs entry_tuple_getitem ?_ (args_tuple_getitem _ _);show wpAny _ _ (Builtin.Tuple.tupleItemsOf (.ref a) >>= _) _ _ st;refine wpAny_bind (tupleItemsOf_ ht ?_);refine wpAny_bind (wpAny_typeOf tq ?_);rw [if_pos (by decide)];refine wpAny_bind (B9f hs hb ?_);show wpAny _ _ (if ((0:Int) == 0 && (1:Int) == 1 && its.size == its.size)=true then _ else _) _ _ st;rw [if_pos (by simp)];unfold Builtin.Tuple.tupleIsExact;refine wpAny_bind (wpAny_bind (wpAny_typeOf ht.typeIs ?_));refine wpAny_pure ?_;rw [if_pos (by decide)];first | exact wpAny_bind (wpAny_rule (wpAny_pure ⟨_,rfl,wpAny_pure k⟩)) | exact wpAny_bind (wpAny_pure (wpAny_pure ⟨_,rfl,wpAny_pure k⟩)) | exact wpAny_pure ⟨_,rfl,wpAny_pure k⟩
end
def rSlW (K:PySem.W.Frag):V->Option Int->Option Int->Hp->VK->Prop:=fun x lo hi H Q=>∃ (a:Addr) (xs:List V) (b:Nat),x=.ref a/\SqT K H a xs/\lo=none/\hi=some (b:Int)/\xs.length<=b/\Q (.ref a) H
theorem B1p {X:Cx}:SlR X (rSlW X.K):=by
 intro pins s σ H x v vl vu lo hi q Q I rx hs pl pu h;obtain ⟨a,xs,b,rfl,hx,rfl,rfl,hb,k⟩:=h;cases rx;obtain ⟨its,r,ht,hz⟩:=I.tuple hx;have hlen:=r.length;cases pl;cases pu;refine ⟨"tuple",_,slot_tuple_getitem.lookup,ht.typeIs,?_⟩;exact B24 ht hs (by rw [List.size_toArray]; omega) ⟨.ref a,H,I,rfl,k⟩
def B98 (K:PySem.W.Frag):V->Option Int->Option Int->Hp->VK->Prop:=fun x lo hi H Q=>rSlT K x lo hi H Q\/rSlW K x lo hi H Q
theorem B5v {X:Cx} {K:PySem.W.Frag} (h:X.K=K):SlR X (B98 K):=by
 subst h;exact SlR.or B9y B1p
end L2
namespace Pu
open PySem L2 My Prf
def pSlT (pa:PDt) (pl ph:PEnv->(Option Int->PEnv->Prop)->Prop) (env:PEnv) (Q:SV->PEnv->Prop):Prop:=pa env fun x e=>pl e fun lo e1=>ph e1 fun hi e2=>∃ (xs:LP) (b:Nat),x=.tuple xs/\lo=none/\hi=some (b:Int)/\Q (.d (.tuple (xs.take b))) e2
instance re_slT {K:Frag} {te:TE} {tl th:TO} {pa:PDt} {pl ph:PEnv->(Option Int->PEnv->Prop)->Prop} [ha:RD K te pa] [hl:RP K tl pl] [hh:RP K th ph]:RE K (tSl (B98 K) te tl th) (pSlT pa pl ph) where
 ok:=by
  rintro c w env σ Qp Q rfl E p k;refine ha.ok c w env σ _ _ rfl E p fun v dx e1 w1 E1 l1 d1 q1=>?_;refine hl.ok c w1 e1 σ _ _ rfl E1 q1 fun lo e2 w2 E2 l2 q2=>?_;refine hh.ok c w2 e2 σ _ _ rfl E2 q2 fun hi e3 w3 E3 l3 q3=>?_;obtain ⟨xs,b,rfl,rfl,rfl,q⟩:=q3;have d3:Den c.K w3.F v (.tuple xs):=(d1.same l2.f).same l3.f;obtain ⟨a,vs,e,g1,g2⟩:=VV.tup E3.wok (.inl d3);have hlen:=g2.len;by_cases hb:xs.length<=b
  ·refine .inr ⟨a,vs,b,e,g1,rfl,rfl,by rw [hlen]; exact hb,?_⟩;rw [List.take_of_length_le hb] at q;rw [<- e];exact k _ _ e3 _ ((Res.data E3 d3).pre (l1.trans (l2.trans l3))) q
  ·refine .inl ⟨a,vs,e,g1,fun z=>hb ?_,fun p hp=>?_⟩
   ·have:=z.2;rw [HT.sIx_nat] at this;omega
   ·have ec:cutV vs none (some (b:Int))=vs.take b:=by
     unfold cutV;rw [HT.sIx_none,HT.sIx_nat,List.drop_zero,Nat.sub_zero,Nat.min_eq_left (by omega)]
    rw [ec];exact k _ _ e3 _ ((Res.tup E3 hp (g2.take b)).pre (l1.trans (l2.trans l3))) q
end Pu
namespace Pu
open PySem L2 My Prf
def OT.part:OT->Int->Option OT
 | .leaf (.tuple xs),i=>(L2.atI xs i).map .leaf
 | .leaf (.list xs),i=>(L2.atI xs i).map .leaf
 | .nd _ _ k,i=>(ixN k.len i).bind k.kid
 | _,_=>none
theorem B86 {c:Ct} {w w':Wd} {v:V} {t:OT} (s:Same w.F w'.F) (h:VR c w v (.bt t)):VR c w' v (.bt t):=⟨h.1.sameF s,h.2⟩
theorem B62 {c:Ct} {w:Wd} {v:V} {t u:OT} {i:Int} (ok:w.Ok) (l:Le c.w0 w) (h:VR c w v (.bt t)) (e:t.part i=some u):∃ p vs x,v=.ref p/\(SqL c.K w.H p vs\/SqT c.K w.H p vs)/\L2.atI vs i=some x/\VR c w x (.bt u):=by
 unfold OT.part at e;split at e
 ·obtain ⟨⟨v',ev,h⟩,_⟩:=h;cases ev;obtain ⟨x,hx,rfl⟩:=Zo e;obtain ⟨p,vs,rfl,h1,h2⟩:=Den.tupE h;obtain ⟨y,hy,hd⟩:=h2.atIE hx;exact ⟨p,vs,y,rfl,.inr (SqT.same ok.sub h1),hy,⟨_,rfl,hd⟩,fun q hq=>nomatch hq⟩
 ·obtain ⟨⟨v',ev,h⟩,_⟩:=h;cases ev;obtain ⟨x,hx,rfl⟩:=Zo e;obtain ⟨p,vs,rfl,h1,h2⟩:=Den.lstE h;obtain ⟨y,hy,hd⟩:=h2.atIE hx;exact ⟨p,vs,y,rfl,.inl (ok.sub.seq h1),hy,⟨_,rfl,hd⟩,fun q hq=>nomatch hq⟩
 ·rename_i b a k;obtain ⟨⟨ev,us,h1,h2⟩,h3⟩:=h;cases ev;obtain ⟨j,hj,hk⟩:=Option.bind_eq_some_iff.mp e;obtain ⟨x,hx,hu⟩:=h2.kid hk;have hH:=l.h _ _ h1 (h3 a (by simp [OT.fp]));refine ⟨a,us,x,rfl,?_,?_,hu,fun q hq=>h3 q (Zr _ (B4i hk hq))⟩
  ·cases b with
   | true=>exact .inl (SqL.of hH)
   | false=>exact .inr (SqT.of hH)
  ·unfold L2.atI;rw [h2.len,hj]; exact hx
 ·cases e
class RTb (K:Frag) (te:TE) (pb:outParam (PEnv->(OT->PEnv->Prop)->Prop)):Prop where
 ok:∀ (c:Ct) (w:Wd) (env:PEnv) (σ:St) (Qp:OT->PEnv->Prop) (Q:VK),c.K=K->EnvOk c w env σ->pb env Qp->(∀ v t env' w',EnvOk c w' env' σ->Lw w w'->VR c w' v (.bt t)->Qp t env'->Q v w'.H)->te σ w.H Q
def B8a (o:Option (Option SV)) (env:PEnv) (Q:OT->PEnv->Prop):Prop:=match o with
 | some (some (.bt t))=>Q t env
 | some (some (.d x))=>Q (.leaf x) env
 | _=>False
def B7g (i:Nat) (env:PEnv) (Q:OT->PEnv->Prop):Prop:=B8a env[i]? env Q
theorem B79 {t:OT} {env:PEnv} {Q:OT->PEnv->Prop}:B8a (some (some (.bt t))) env Q=Q t env:=rfl
instance rtb_var {K:Frag} {i:Nat}:RTb K (tVar i) (B7g i) where
 ok:=by
  rintro c w env σ Qp Q rfl E p k;unfold B7g B8a at p;split at p
  ·rename_i t e;obtain ⟨v,h1,h2⟩:=E.at' i _ e;exact ⟨v,h1,k v _ env w E (Lw.refl w) h2 p⟩
  ·rename_i x e;obtain ⟨v,h1,h2⟩:=E.at' i _ e;exact ⟨v,h1,k v (.leaf x) env w E (Lw.refl w) ⟨⟨v,rfl,h2⟩,fun a z=>nomatch z⟩ p⟩
  ·exact p.elim
def tPth (te:TE):TE:=te
def pPth (pb:PEnv->(OT->PEnv->Prop)->Prop) (pi:PDt) (env:PEnv) (Q:OT->PEnv->Prop):Prop:=pb env fun t e1=>pi e1 fun y e2=>asI y fun n=>∃ u,t.part n=some u/\Q u e2
instance rtb_pth {K:Frag} {te ti:TE} {pb:PEnv->(OT->PEnv->Prop)->Prop} {pi:PDt} [hb:RTb K te pb] [hi:RW K ti pi]:RTb K (tPth (tOp (rIx K) te ti)) (pPth pb pi) where
 ok:=by
  rintro c w env σ Qp Q rfl E p k;refine hb.ok c w env σ _ _ rfl E p fun v t e1 w1 E1 l1 v1 q1=>?_;refine hi.ok c w1 e1 σ _ _ rfl E1 q1 fun y dy e2 w2 E2 l2 v2 q2=>?_;unfold asI at q2;split at q2
  ·rename_i n;obtain ⟨u,hu,q⟩:=q2;obtain ⟨p,vs,x,rfl,hs,hx,hv⟩:=B62 E2.wok E2.le0 (B86 l2.f v1) hu;have hn:=v2.intE;rcases hs with hs | hs
   ·exact .inl ⟨p,vs,n,x,rfl,hn,hs,hx,k x u e2 w2 E2 (l1.trans l2) hv q⟩
   ·exact .inr (.inl ⟨p,vs,n,x,rfl,hn,hs,hx,k x u e2 w2 E2 (l1.trans l2) hv q⟩)
  ·exact q2.elim
def OT.vw (t:OT) (k:PyData->Prop):Prop:=match t with
 | .leaf x=>k x
 | t=>∃ xs,t.sv=.bor xs/\k (.list xs)
def OT.lf (t:OT) (k:PyData->Prop):Prop:=match t with
 | .leaf x=>k x
 | _=>False
def pBr (pb:PEnv->(OT->PEnv->Prop)->Prop) (env:PEnv) (Q:LP->PEnv->Prop):Prop:=pb env fun t e=>∃ xs,t.sv=.bor xs/\Q xs e
instance (priority:=high) rl_pth {K:Frag} {te:TE} {pb:PEnv->(OT->PEnv->Prop)->Prop} [hb:RTb K (tPth te) pb]:RL K (tPth te) (pBr pb) where
 ok:=by
  rintro c w env σ Qp Q rfl E p k;refine hb.ok c w env σ _ _ rfl E p fun v t e1 w1 E1 l1 v1 q1=>?_;obtain ⟨xs,hs,q⟩:=q1;have h2:=v1.sv;rw [hs] at h2;exact k _ _ e1 w1 E1 l1 h2 q
instance (priority:=high) ri_pth {K:Frag} {te:TE} {pb:PEnv->(OT->PEnv->Prop)->Prop} [hb:RTb K (tPth te) pb]:RI K (iSq K (tPth te)) (pBr pb) where
 ok:=by
  rintro c w env σ Qp R rfl E p k;refine hb.ok c w env σ _ _ rfl E p fun v t e1 w1 E1 l1 v1 q1=>?_;obtain ⟨xs,hs,q⟩:=q1;have h2:=v1.sv;rw [hs] at h2;obtain ⟨l,vs,rfl,d,st⟩:=Y2 h2;exact .inl ⟨l,rfl,⟨vs,st w1 E1.wok E1.le0 (Same.refl _)⟩,k _ _ e1 w1 E1 l1 (M7 d st) q⟩
end Pu
namespace L2
open PySem PySem.Spec PyProof.Rows
theorem qPth {X:Cx} {e:Expr} {t:TE} (h:QE X e t):QE X e (Pu.tPth t):=h
end L2
namespace Pu
open PySem L2 My Prf
def Wd.less (w:Wd) (p q:Addr):Wd:=⟨w.M,fun a=>if a=p\/a=q then none else w.H a,w.F⟩
def Mut (K:Frag) (w:Wd) (l:Addr) (xs:LP):Prop:=∃ vs,w.H l=some (.lst vs)/\w.F l=none/\¬ w.M l/\DenAll K w.F vs xs
abbrev PMu:=LP->LP->LP->(PyData->LP->LP->Prop)->Prop
def spMu (K:Frag) (nd:Nat) (psp:PMu):Sp:=fun vs H Q _=>∃ (w:Wd) (us:List V) (xs ys zs:LP) (p q:Addr) (Qp:PyData->LP->LP->Prop),w.H=H/\w.Ok/\vs=us++[.ref p,.ref q]/\us.length=nd/\p≠q/\DenAll K w.F us xs/\Mut K w p ys/\Mut K w q zs/\psp xs ys zs Qp /\
 ∀ v x ys' zs' w',w'.Ok->Le (w.less p q) w'->Den K w'.F v x->Mut K w' p ys'->Mut K w' q zs'->Qp x ys' zs'->Q v w'.H
theorem spMu.len {K:Frag} {nd:Nat} {psp:PMu} {n:Nat} (h:nd + 2=n):∀ vs H Q E,spMu K nd psp vs H Q E->vs.length=n:=by
 rintro vs H Q E ⟨w,us,xs,ys,zs,p,q,Qp,_,_,rfl,hl,_⟩;simp; omega
theorem A3l {w:Wd} {p q a:Addr} (h:a=p\/a=q):(w.less p q).H a=none:=if_pos h
theorem S4 {w:Wd} {p q a:Addr} (h:a≠p) (h':a≠q):(w.less p q).H a=w.H a:=if_neg (fun z=>z.elim h h')
theorem A3k {w:Wd} {p q a:Addr} {o:HO} (h:(w.less p q).H a=some o):w.H a=some o/\a≠p/\a≠q:=by
 unfold Wd.less at h;dsimp only at h;split at h
 ·cases h
 ·rename_i z; exact ⟨h,fun e=>z (.inl e),fun e=>z (.inr e)⟩
theorem B8j {w:Wd} {p q:Addr}:Le (w.less p q) w :=
 ⟨⟨Same.refl _,fun b o h _=>(A3k h).1,fun _ h=>h,fun _ h=>.inl h,fun b h=>by
  cases e:(w.less p q).H b with
  | none=>rfl
  | some o=>rw [(A3k e).1] at h; cases h⟩,fun a o h=>.inl h⟩
theorem Mut.fp {K:Frag} {w:Wd} {l:Addr} {xs:LP} (h:Mut K w l xs):Tre K w (.nd true l (E7 xs)) [.ref l]/\w.H l≠none/\w.F l=none/\¬ w.M l:=by
 obtain ⟨vs,h1,h2,h3,h4⟩:=h;exact ⟨⟨rfl,vs,h1,U7 h4⟩,by rw [h1]; simp,h2,h3⟩
theorem fp_one {l a:Addr} {xs:LP}:a ∈ (OT.nd true l (E7 xs)).fp ↔ a=l:=by
 rw [show (OT.nd true l (E7 xs)).fp=l :: (E7 xs).fp from rfl,A0e]; simp
theorem B8y {l:Addr} {xs:LP}:(OT.nd true l (E7 xs)).fp.Nodup:=by rw [show (OT.nd true l (E7 xs)).fp=l :: (E7 xs).fp from rfl,A0e]; simp
theorem Mut.of {c:Ct} {w:Wd} {v:V} {l:Addr} {xs:LP} (h:VR c w v (.tr (.nd true l (E7 xs)))):Mut c.K w l xs:=by
 obtain ⟨⟨_,us,h1,h2⟩,h3⟩:=h;obtain ⟨_,g2,g3,_⟩:=h3.1 l (fp_one.mpr rfl);exact ⟨us,h1,g2,g3,R6 h2⟩
def B29 (nd:Nat) (p q:Addr) (Qp:PyData->LP->LP->Prop) (x:PyData) (e:PEnv):Prop:=∃ ys zs,e[nd]?=some (some (.tr (.nd true p (E7 ys))))/\e[nd + 1]?=some (some (.tr (.nd true q (E7 zs))))/\Qp x ys zs
def rtMu (nd:Nat) (p q:Addr) (Qp:PyData->LP->LP->Prop) (s:SV) (e:PEnv):Prop:=match s with
 | .d x=>B29 nd p q Qp x e
 | _=>False
theorem B95 {nd:Nat} {p q:Addr} {Qp:PyData->LP->LP->Prop} {x:PyData} {e:PEnv}:rtMu nd p q Qp (.d x) e=B29 nd p q Qp x e:=rfl
theorem B0r {K:Frag} {ts:TS} {ps:PSt} [hs:RS K ts ps] {nd:Nat} {psp:PMu} {vs:List V} {H:Hpp} {Q:VK} {E:XK} {N:List Str} (h:spMu K nd psp vs H Q E)
  (hb:∀ xs ys zs p q Qp,p≠q->psp xs ys zs Qp->ps ⟨B29 nd p q Qp .none,rtMu nd p q Qp,fun _=>False,fun _=>False⟩ (xs.map (fun x=>some (.d x))++(some (.tr (.nd true p (E7 ys))) :: some (.tr (.nd true q (E7 zs))) :: List.replicate (N.length - (nd + 2)) none))):ts { nx:=fun _ H'=>Q .non H',rt:=Q } (L2.start N vs) H:=by
 obtain ⟨w,us,xs,ys,zs,p,q,Qp,rfl,ok,rfl,hl,hne,hd,m1,m2,hp,k⟩:=h;have hxl:xs.length=nd:=by rw [<- hl]; exact hd.len.symm
 have cas:∀ (i:Nat) s,(xs.map (fun x=>some (SV.d x))++(some (.tr (.nd true p (E7 ys))) :: some (.tr (.nd true q (E7 zs))) :: List.replicate (N.length - (nd + 2)) none))[i]?=some (some s) ->
   (∃ x,xs[i]?=some x/\s=.d x)\/(i=nd/\s=.tr (.nd true p (E7 ys)))\/(i=nd + 1/\s=.tr (.nd true q (E7 zs))):=by
  intro i s e;rw [List.getElem?_append] at e;split at e
  ·rw [Zh] at e;cases q:xs[i]? with
   | none=>rw [q] at e; cases e
   | some t=>rw [q] at e; cases e; exact .inl ⟨t,rfl,rfl⟩
  ·rename_i z;rw [Zl,hxl] at z e;match hi:i - nd,e with
   | 0,e=>cases e; exact .inr (.inl ⟨by omega,rfl⟩)
   | 1,e=>cases e; exact .inr (.inr ⟨by omega,rfl⟩)
   | j + 2,e =>
    rw [List.getElem?_cons_succ,List.getElem?_cons_succ,List.getElem?_replicate] at e;split at e <;> cases e
 have st0:∀ (i:Nat) u,us[i]?=some u->(L2.start N (us++[.ref p,.ref q]))[i]?=some (some u):=fun i u e=>by
  have:=(Zs e).1;unfold L2.start;rw [List.getElem?_append_left (by simp; omega),Zh,List.getElem?_append_left (by omega),e]; rfl
 have st1:(L2.start N (us++[.ref p,.ref q]))[nd]?=some (some (.ref p)):=by
  unfold L2.start;rw [List.getElem?_append_left (by simp; omega),Zh,List.getElem?_append_right (by omega),hl]; simp
 have st2:(L2.start N (us++[.ref p,.ref q]))[nd + 1]?=some (some (.ref q)):=by
  unfold L2.start;rw [List.getElem?_append_left (by simp; omega),Zh,List.getElem?_append_right (by omega),hl]; simp
 have vr1:VR ⟨K,w.less p q,noZ⟩ w (.ref p) (.tr (.nd true p (E7 ys))):=⟨m1.fp.1,fun a ha=>by rw [fp_one.mp ha]; exact ⟨m1.fp.2.1,m1.fp.2.2.1,m1.fp.2.2.2,A3l (.inl rfl)⟩,B8y⟩;have vr2:VR ⟨K,w.less p q,noZ⟩ w (.ref q) (.tr (.nd true q (E7 zs))):=⟨m2.fp.1,fun a ha=>by rw [fp_one.mp ha]; exact ⟨m2.fp.2.1,m2.fp.2.2.1,m2.fp.2.2.2,A3l (.inr rfl)⟩,B8y⟩;have fin:∀ x env σ w',EnvOk ⟨K,w.less p q,noZ⟩ w' env σ->B29 nd p q Qp x env->∀ v,Den K w'.F v x->Q v w'.H:=fun x env σ w' E' ⟨ys',zs',e1,e2,qp⟩ v hv=>by
  obtain ⟨u1,_,g1⟩:=E'.at' _ _ e1;obtain ⟨u2,_,g2⟩:=E'.at' _ _ e2;exact k v x ys' zs' w' E'.wok E'.le0 hv (Mut.of g1) (Mut.of g2) qp
 refine hs.ok ⟨K,w.less p q,noZ⟩ w _ (L2.start N (us++[.ref p,.ref q])) _ { nx:=fun _ H'=>Q .non H',rt:=Q } rfl ⟨ok,B8j,by simp [L2.start,hxl,hl],fun i s e=>?_,fun i j s t v u a e e' g g' f f'=>?_,fun a z=>z.elim,fun a j t u z=>z.elim⟩ ⟨fun env σ w' E' _ q=>fin _ env σ w' E' q _ .non,fun v s env σ w' E' h r hq=>?_,fun _ _ _ _ _ z=>False.elim z,fun _ _ _ _ _ z=>False.elim z⟩ (hb xs ys zs p q Qp hne hp)
 ·rcases cas i s e with ⟨x,hx,rfl⟩ | ⟨rfl,rfl⟩ | ⟨rfl,rfl⟩
  ·obtain ⟨u,hu,hx2⟩:=hd.at hx;exact ⟨u,st0 i u hu,hx2⟩
  ·exact ⟨_,st1,vr1⟩
  ·exact ⟨_,st2,vr2⟩
 ·rcases cas i s e with ⟨x,hx,rfl⟩ | ⟨rfl,rfl⟩ | ⟨rfl,rfl⟩
  ·exact f.elim
  ·rcases cas j t e' with ⟨x,hx,rfl⟩ | ⟨rfl,rfl⟩ | ⟨rfl,rfl⟩
   ·exact f'.elim
   ·rfl
   ·exact absurd ((fp_one.mp f).symm.trans (fp_one.mp f')) hne
  ·rcases cas j t e' with ⟨x,hx,rfl⟩ | ⟨rfl,rfl⟩ | ⟨rfl,rfl⟩
   ·exact f'.elim
   ·exact absurd ((fp_one.mp f').symm.trans (fp_one.mp f)) hne
   ·rfl
 ·have hq':rtMu nd p q Qp s env:=hq;unfold rtMu at hq';split at hq'
  ·exact fin _ env σ w' E' hq' v h
  ·exact hq'.elim
def tMu (i:Nat):TE:=tVar i
def oMu (o:Option (Option SV)) (k:Addr->LP->Prop):Prop:=match o with
 | some (some (.tr t))=>∃ a xs,t=.nd true a (E7 xs)/\k a xs
 | _=>False
theorem C35 {a:Addr} {xs:LP} {k:Addr->LP->Prop} (h:k a xs):oMu (some (some (.tr (.nd true a (E7 xs))))) k:=⟨a,xs,rfl,h⟩
theorem A7l {xs ys:LP} (h:E7 xs=E7 ys):xs=ys:=by
 have:=congrArg OT.dat h
 rwa [V8,V8] at this
theorem C36 {a:Addr} {xs:LP} {k:Addr->LP->Prop}:oMu (some (some (.tr (.nd true a (E7 xs))))) k=k a xs :=
 propext ⟨fun ⟨_,_,e,h⟩=>by
  have e1:=(OT.nd.inj e).2.1;have e2:=A7l (OT.nd.inj e).2.2;subst e1; subst e2; exact h,C35⟩
def pMuV (i:Nat) (env:PEnv) (Q:PyData->PEnv->Prop):Prop:=oMu env[i]? fun _ xs=>Q (.list xs) env
instance (priority:=high) rw_mu {K:Frag} {i:Nat}:RW K (tMu i) (pMuV i) where
 ok:=by
  rintro c w env σ Qp Q rfl E p k;unfold pMuV oMu at p;split at p
  ·rename_i t e;obtain ⟨a,xs,rfl,p⟩:=p;obtain ⟨v,h1,h2⟩:=E.at' i _ e;obtain ⟨vs,g1,g2,g3,g4⟩:=Mut.of h2;have ev:v=.ref a:=List.singleton_inj.mp h2.1.1;exact ⟨v,h1,k v _ env w E (Lw.refl w) (.inr ⟨a,vs,xs,ev,rfl,g1,g3,g4⟩) p⟩
  ·exact p.elim
def B36 (pd:PDt) (i:Nat) (pi:PDt) (D:PEnds) (env:PEnv):Prop:=pd env fun x e=>oMu e[i]? fun _ _=>pi e fun y e2=>asI y fun n=>oMu e2[i]? fun a xs=>∃ j,ixN xs.length n=some j/\D.nx (e2.set i (some (.tr (.nd true a (E7 (xs.set j x))))))
instance (priority:=high) rs_setMu {K:Frag} {i:Nat} {te ti:TE} {pd pi:PDt} [he:RD K te pd] [hi:RW K ti pi]:RS K (tAsg te (gSub (tMu i) ti B58)) (B36 pd i pi) where
 ok:=by
  rintro c w env σ Dp D rfl E h p;refine he.ok c w env σ _ _ rfl E p fun v x e1 w1 E1 l1 d1 q1=>?_;unfold oMu at q1;split at q1
  ·rename_i t0 e0;obtain ⟨a0,xs0,rfl,q1⟩:=q1;obtain ⟨o,g0,h2⟩:=E1.at' i _ e0;refine ⟨_,g0,hi.ok c w1 e1 σ _ _ rfl E1 q1 fun u y e2 w2 E2 l2 d2 q2=>?_⟩;unfold asI at q2;split at q2
   ·rename_i n;split at q2
    ·rename_i t e;obtain ⟨a,xs,rfl,j,hj,q2⟩:=q2;obtain ⟨o',g0',h2'⟩:=E2.at' i _ e;rw [g0] at g0'; cases g0';obtain ⟨vs',k1,k2,k3,k5⟩:=Mut.of h2';have ev:o=.ref a:=List.singleton_inj.mp h2'.1.1;subst ev;have hn:=d2.intE;refine ⟨a,vs',n,j,rfl,hn,k1,by rw [k5.len]; exact hj,?_⟩;refine h.nx _ σ ⟨w2.M,upd w2.H a (.lst (vs'.set j v)),w2.F⟩ (E2.writeAt (s':=.tr (.nd true a (E7 (xs.set j x)))) e g0 (fp_one.mpr rfl) (fun b hb=>fp_one.mpr (fp_one.mp hb)) ⟨⟨rfl,_,D5,U7 (DenAll.setAt (Den.same l2.f d1) j k5)⟩,fun b hb=>?_,B8y⟩) (l1.f.trans l2.f) q2;rw [fp_one.mp hb];obtain ⟨z1,z2,z3,z4⟩:=h2'.2.1 a (fp_one.mpr rfl);exact ⟨fun z=>z1 (R5 z),z2,z3,z4⟩
    ·exact q2.elim
   ·exact q2.elim
  ·exact q1.elim
class RA2 (K:Frag) (nd:Nat) (ta:TA) (pa:outParam (PEnv->(LP->Nat->Nat->PEnv->Prop)->Prop)):Prop where
 ok:∀ (c:Ct) (w:Wd) (env:PEnv) (σ:St) (Qp:LP->Nat->Nat->PEnv->Prop) (Q:List V->Hpp->Prop),c.K=K->EnvOk c w env σ->pa env Qp->(∀ vs xs i j u v env' w',EnvOk c w' env' σ->Lw w w'->vs.length=nd->DenAll K w'.F vs xs->σ[i]?=some (some u)->σ[j]?=some (some v)->Qp xs i j env'->Q (vs++[u,v]) w'.H)->ta σ w.H Q
def is2 (o o':Option (Option SV)) (k:Prop):Prop:=match o,o' with
 | some (some (.own _)),some (some (.own _))=>k
 | _,_=>False
theorem C4a {xs ys:LP} {k:Prop}:is2 (some (some (.own xs))) (some (some (.own ys))) k=k:=rfl
def pA2 (i j:Nat) (env:PEnv) (Q:LP->Nat->Nat->PEnv->Prop):Prop:=is2 env[i]? env[j]? (Q [] i j env)
instance ra2_nil {K:Frag} {i j:Nat}:RA2 K 0 (O1 (tVar i) (O1 (tVar j) tNil)) (pA2 i j) where
 ok:=by
  rintro c w env σ Qp Q rfl E p k;unfold pA2 is2 at p;split at p
  ·rename_i xs ys e1 e2;obtain ⟨u,h1,_⟩:=E.at' i _ e1;obtain ⟨v,h2,_⟩:=E.at' j _ e2;exact ⟨u,h1,v,h2,k [] [] i j u v env w E (Lw.refl w) rfl .nil h1 h2 p⟩
  ·exact p.elim
def pC2 (pd:PDt) (pr:PEnv->(LP->Nat->Nat->PEnv->Prop)->Prop) (env:PEnv) (Q:LP->Nat->Nat->PEnv->Prop):Prop:=pd env fun x e1=>pr e1 fun xs i j e2=>Q (x :: xs) i j e2
instance ra2_cons {K:Frag} {n:Nat} {ta:TE} {tr:TA} {pd:PDt} {pr:PEnv->(LP->Nat->Nat->PEnv->Prop)->Prop} [ha:RD K ta pd] [hr:RA2 K n tr pr]:RA2 K (n + 1) (O1 ta tr) (pC2 pd pr) where
 ok:=by
  rintro c w env σ Qp Q rfl E p k;refine ha.ok c w env σ _ _ rfl E p fun x dx e1 w1 E1 l1 v1 q1=>?_;refine hr.ok c w1 e1 σ _ _ rfl E1 q1 fun vs xs i j u v e2 w2 E2 l2 hl d h1 h2 q2=>?_;exact k (x :: vs) (dx :: xs) i j u v e2 w2 E2 (l1.trans l2) (by simp [hl]) (.cons (Den.same l2.f v1) d) h1 h2 q2
theorem Tre.less {K:Frag} {w:Wd} {p q:Addr}:∀ {t:OT} {vs:List V},Tre K w t vs->p ∉ t.fp->q ∉ t.fp->Tre K (w.less p q) t vs
 | .leaf _,_,h,_,_=>h
 | .nd _ a _,_,⟨e,ys,h,k⟩,n,m=>⟨e,ys,by rw [S4 (fun z=>n (by simp [OT.fp,z])) (fun z=>m (by simp [OT.fp,z]))]; exact h,Tre.less k (fun z=>n (by simp [OT.fp,z])) fun z=>m (by simp [OT.fp,z])⟩
 | .nil,_,e,_,_=>e
 | .cons _ _,_,⟨v,r,e,h,t⟩,n,m=>⟨v,r,e,Tre.less h (fun z=>n (by simp [OT.fp,z])) fun z=>m (by simp [OT.fp,z]),Tre.less t (fun z=>n (by simp [OT.fp,z])) fun z=>m (by simp [OT.fp,z])⟩
theorem VR.less {c:Ct} {w:Wd} {v:V} {p q:Addr}:∀ {s:SV},VR c w v s->¬ s.foot v p->¬ s.foot v q->VR c (w.less p q) v s
 | .d _,h,_,_=>h
 | .own _,⟨l',vs,e,k1,k2,k3,k4,k5⟩,n,m=>⟨l',vs,e,by rw [S4 (fun z=>n (by rw [<- z]; exact e)) (fun z=>m (by rw [<- z]; exact e))]; exact k1,k2,k3,k4,k5⟩
 | .bor _,h,_,_=>h
 | .st,h,_,_=>h
 | .bt _,h,_,_=>h
 | .al _,h,_,_=>h
 | .dk _,⟨l',e,k1,k2,k3,k4⟩,n,m=>⟨l',e,by rw [S4 (fun z=>n (by rw [<- z]; exact e)) (fun z=>m (by rw [<- z]; exact e))]; exact k1,k2,k3,k4⟩
 | .tr _,⟨h,o,d⟩,n,m=>⟨h.less n m,fun a ha=>⟨by rw [S4 (fun z=>n (by rw [<- z]; exact ha)) (fun z=>m (by rw [<- z]; exact ha))]; exact (o a ha).1,(o a ha).2⟩,d⟩
theorem EnvOk.mut {c:Ct} {w w':Wd} {env:PEnv} {σ:St} {i j:Nat} {p q:Addr} {ys zs ys' zs':LP} (E:EnvOk c w env σ) (ei:env[i]?=some (some (.own ys))) (ej:env[j]?=some (some (.own zs))) (si:σ[i]?=some (some (.ref p))) (sj:σ[j]?=some (some (.ref q)))
  (ok:w'.Ok) (l:Le (w.less p q) w') (m1:Mut c.K w' p ys') (m2:Mut c.K w' q zs'):EnvOk c w' ((env.set i (some (.own ys'))).set j (some (.own zs'))) σ:=by
 obtain ⟨v1,hv1,hV1⟩:=E.at' i _ ei;rw [si] at hv1; cases hv1;obtain ⟨v2,hv2,hV2⟩:=E.at' j _ ej;rw [sj] at hv2; cases hv2;obtain ⟨_,_,_,z1⟩:=hV1.foot (a:=p) rfl;obtain ⟨_,_,_,z2⟩:=hV2.foot (a:=q) rfl;have le0:Le c.w0 (w.less p q):=⟨⟨E.le0.f,fun b o h n=>by
   rw [S4 (fun z=>by rw [z,z1] at h; cases h) (fun z=>by rw [z,z2] at h; cases h)]; exact E.le0.h b o h n,E.le0.m,E.le0.mn,fun b h=>by
   by_cases y:b=p\/b=q
   ·rcases y with rfl | rfl
    ·exact z1
    ·exact z2
   ·rw [S4 (fun z=>y (.inl z)) (fun z=>y (.inr z))] at h; exact E.le0.dom b h⟩,E.le0.n⟩
 have hd:∀ {k:Nat} {t:SV},((env.set i (some (.own ys'))).set j (some (.own zs')))[k]?=some (some t)->(k=j/\t=.own zs')\/(k=i/\t=.own ys')\/(k≠i/\k≠j/\env[k]?=some (some t)):=by
  intro k t q;rw [List.getElem?_set] at q;split at q
  ·rename_i e;split at q
   ·cases q; exact .inl ⟨e.symm,rfl⟩
   ·cases q
  ·rename_i e;rw [List.getElem?_set] at q;split at q
   ·rename_i e';split at q
    ·cases q; exact .inr (.inl ⟨e'.symm,rfl⟩)
    ·cases q
   ·rename_i e';exact .inr (.inr ⟨fun z=>e' z.symm,fun z=>e z.symm,q⟩)
 have fo:∀ {k:Nat} {t:SV} {u:V} {a:Addr},((env.set i (some (.own ys'))).set j (some (.own zs')))[k]?=some (some t)->σ[k]?=some (some u)->t.foot u a->∃ s,env[k]?=some (some s)/\s.foot u a:=by
  intro k t u a q g f;rcases hd q with ⟨rfl,rfl⟩ | ⟨rfl,rfl⟩ | ⟨_,_,q⟩
  ·exact ⟨_,ej,f⟩
  ·exact ⟨_,ei,f⟩
  ·exact ⟨_,q,f⟩
 refine ⟨ok,le0.trans l,by simpa using E.len,fun k t q=>?_,fun k k' s t v u a q1 q2 q3 q4 f1 f2=>?_,fun a za=>?_,fun a k t u za q q' f=>?_⟩
 ·rcases hd q with ⟨rfl,rfl⟩ | ⟨rfl,rfl⟩ | ⟨n1,n2,q⟩
  ·obtain ⟨vs,h1,h2,h3,h4⟩:=m2;exact ⟨_,sj,_,vs,rfl,h1,h2,h3,z2,h4⟩
  ·obtain ⟨vs,h1,h2,h3,h4⟩:=m1;exact ⟨_,si,_,vs,rfl,h1,h2,h3,z1,h4⟩
  ·obtain ⟨u,g1,g2⟩:=E.at' k t q;exact ⟨u,g1,(g2.less (fun f=>n1 (E.own k i _ _ _ _ p q ei g1 si f rfl)) (fun f=>n2 (E.own k j _ _ _ _ _ q ej g1 sj f rfl))).mono l⟩
 ·obtain ⟨s',p1,g1⟩:=fo q1 q3 f1;obtain ⟨t',p2,g2⟩:=fo q2 q4 f2;exact E.own k k' _ _ _ _ a p1 p2 q3 q4 g1 g2
 ·obtain ⟨y1,y2,y3⟩:=E.zf a za;have n1:a≠p:=fun z=>E.zo a i _ _ za ei si (by rw [z]; rfl);have n2:a≠q:=fun z=>E.zo a j _ _ za ej sj (by rw [z]; rfl);have y2':(w.less p q).H a≠none:=by rw [S4 n1 n2]; exact y2
  exact ⟨l.fnone y1 y2',l.hsome y2',l.nm y2' y3⟩
 ·obtain ⟨s',p1,g1⟩:=fo q q' f;exact E.zo a k _ _ za p1 q' g1
def own2 (o o':Option (Option SV)) (k:LP->LP->Prop):Prop:=match o,o' with
 | some (some (.own xs)),some (some (.own ys))=>k xs ys
 | _,_=>False
theorem C11 {xs ys:LP} {k:LP->LP->Prop}:own2 (some (some (.own xs))) (some (some (.own ys))) k=k xs ys:=rfl
def pMu (psp:PMu) (pa:PEnv->(LP->Nat->Nat->PEnv->Prop)->Prop) (env:PEnv) (Q:PyData->PEnv->Prop):Prop:=pa env fun xs i j e=>i≠j/\own2 e[i]? e[j]? fun ys zs=>psp xs ys zs fun x ys' zs'=>Q x ((e.set i (some (.own ys'))).set j (some (.own zs')))
theorem B41 {K:Frag} {nd:Nat} {psp:PMu} {E0:XK} {ta:TA} {pa:PEnv->(LP->Nat->Nat->PEnv->Prop)->Prop} [ha:RA2 K nd ta pa] {c:Ct} {w:Wd} {env:PEnv} {σ:St} {Qp:PyData->PEnv->Prop} {Q:VK} (hK:c.K=K) (E:EnvOk c w env σ) (p:pMu psp pa env Qp)
  (k:∀ v x env' w',EnvOk c w' env' σ->Same w.F w'.F->Den K w'.F v x->Qp x env'->Q v w'.H):A4b (spMu K nd psp) [] E0 ta σ w.H Q:=by
 subst hK;refine ha.ok c w env σ _ _ rfl E p fun vs xs i j u v e1 w1 E1 l1 hl d s1 s2 q1=>?_;rw [List.append_nil];obtain ⟨hij,q1⟩:=q1;unfold own2 at q1;split at q1
 ·rename_i ys zs ei ej;obtain ⟨u',g1,l,vs1,rfl,a1,a2,a3,a4,a5⟩:=E1.at' i _ ei;rw [s1] at g1; cases g1;obtain ⟨v',g2,l',vs2,rfl,b1,b2,b3,b4,b5⟩:=E1.at' j _ ej;rw [s2] at g2; cases g2;refine ⟨w1,vs,xs,ys,zs,l,l',_,rfl,E1.wok,rfl,hl,fun z=>hij (E1.own i j _ _ _ _ l ei ej s1 s2 rfl (by rw [z]; rfl)),d,⟨vs1,a1,a2,a3,a5⟩,⟨vs2,b1,b2,b3,b5⟩,q1,fun v x ys' zs' w' ok le hv m1 m2 q=>?_⟩;exact k v x _ w' (E1.mut ei ej s1 s2 ok le m1 m2) (l1.f.trans le.f) hv q
 ·exact q1.elim
def B4c (psp:PMu) (pa:PEnv->(LP->Nat->Nat->PEnv->Prop)->Prop) (m:Nat) (D:PEnds) (env:PEnv):Prop:=pMu psp pa env fun x e=>D.nx (e.set m (some (.d x)))
instance (priority:=high) rs_asgMu {K:Frag} {nd:Nat} {psp:PMu} {E0:XK} {ta:TA} {pa:PEnv->(LP->Nat->Nat->PEnv->Prop)->Prop} {m:Nat} [ha:RA2 K nd ta pa]:RS K (tAsg (A4b (spMu K nd psp) [] E0 ta) (U4 m)) (B4c psp pa m) where
 ok:=by
  rintro c w env σ Dp D rfl E h p;exact B41 rfl E p fun v x e1 w1 E1 s1 hv q=>h.nx _ _ w1 (E1.set (s:=.d x) hv (fun _ z=>nomatch z)) s1 q
def A89 (psp:PMu) (pa:PEnv->(LP->Nat->Nat->PEnv->Prop)->Prop) (D:PEnds) (env:PEnv):Prop:=pMu psp pa env fun _ e=>D.nx e
instance (priority:=high) rs_dropMu {K:Frag} {nd:Nat} {psp:PMu} {E0:XK} {ta:TA} {pa:PEnv->(LP->Nat->Nat->PEnv->Prop)->Prop} [ha:RA2 K nd ta pa]:RS K (A73 (A4b (spMu K nd psp) [] E0 ta)) (A89 psp pa) where
 ok:=by
  rintro c w env σ Dp D rfl E h p;exact B41 rfl E p fun v x e1 w1 E1 s1 hv q=>h.nx _ _ w1 E1 s1 q
end Pu
namespace L2
open PySem PySem.Spec PyProof.Rows
theorem qMu {X:Cx} {e:Expr} {i:Nat} (h:QE X e (tVar i)):QE X e (Pu.tMu i):=h
end L2
namespace Pu
open PySem L2 My Prf
def tKp (i:Nat):TE:=tVar i
theorem B2m {c:Ct} {w:Wd} {env:PEnv} {σ:St} {i:Nat} {xs:LP} (E:EnvOk c w env σ) (e:env[i]?=some (some (.own xs))):∃ a vs,σ[i]?=some (some (.ref a))/\SqL c.K w.H a vs/\Walk ⟨c.K,w,c.Z⟩ w (Itl c.K a) xs:=by
 obtain ⟨v,h1,l,vs,rfl,g1,g2,g3,g4,g5⟩:=E.at' i _ e;exact ⟨l,vs,h1,SqL.of g1,M7 (c:=⟨c.K,w,c.Z⟩) g5 fun w' ok l' s=>SqL.of (l'.h _ _ g1 g3)⟩
def Z4 (i:Nat) (pg:PyData->PEnv->(PEnv->Prop)->Prop) (pt:PTt) (pd:PDt) (cap:List (Option Nat)) (j:Nat) (D:PEnds) (env:PEnv):Prop:=A2o env[i]? fun xs=>xs.length < 1000000/\O8 xs pg pt pd (O5 cap env) fun ys=>D.nx (env.set j (some (.own ys)))
instance (priority:=high) rs_setCompK {K:Frag} {i j:Nat} {g:TG} {tt:TT} {te:TE} {cap:List (Option Nat)} {pg:PyData->PEnv->(PEnv->Prop)->Prop} {pt:PTt} {pd:PDt} [hg:RG K g pg] [ht:RT K tt pt] [he:RD K te pd]:RS K (X2 (iSq K (tKp i)) g tt te cap j) (Z4 i pg pt pd cap j) where
 ok:=by
  rintro c w env σ Dp D rfl E h p;unfold Z4 A2o at p;split at p
  ·rename_i xs e;obtain ⟨a,vs,h1,h2,wk⟩:=B2m E e;refine ⟨_,h1,.inl ⟨a,rfl,⟨vs,h2⟩,fun D' hD=>?_⟩⟩;exact A43 (pg:=pg) (pt:=pt) (pd:=pd) rfl E wk p.1 p.2 hD fun w' ys R q'=>h.nx _ _ w' (R.ev.set R.val R.new) R.lw.f q'
  ·exact p.elim
end Pu
namespace L2
open PySem PySem.Spec PyProof.Rows
theorem qKp {X:Cx} {e:Expr} {i:Nat} (h:QE X e (tVar i)):QE X e (Pu.tKp i):=h
end L2
namespace Pu
open PySem L2 My Prf
structure Sub (K:Frag) (w:Wd) (T u:OT) (r:OT->OT) (v0 v:V):Prop where
 tre:Tre K w u [v]
 re:∀ (w':Wd) x,(∀ a o,w.H a=some o->a ∉ u.fp->w'.H a=some o)->Same w.F w'.F->Tre K w' x [v]->Tre K w' (r x) [v0]
 fp:∃ A B,T.fp=A++u.fp++B/\∀ x,(r x).fp=A++x.fp++B
def OT.slot:OT->SV
 | .leaf x=>.d x
 | .nd true a k=>match k.lvs with
  | some xs=>.own xs
  | none=>.tr (.nd true a k)
 | t=>.tr t
def tUn (te:TE):TE:=te
def OT.tup (a:Addr) (k:OT):SV:=match k.lvs with
 | some xs=>.d (.tuple xs)
 | none=>.tr (.nd false a k)
end Pu
namespace L2
open PySem PySem.Spec PyProof.Rows
section
variable {X:Cx} {e:Expr}
end
end L2
namespace Pu
open PySem L2 My Prf
end Pu
namespace L2
open PySem PySem.Spec PyProof.Rows
section
variable {X:Cx} {e:Expr}
end
end L2
namespace L2
open PySem PySem.Spec PyProof.Rows
section
variable {X:Cx} {tg:Expr}
end
end L2
namespace Pu
open PySem L2 My Prf
end Pu
namespace L2
open PySem
end L2
namespace L2
open PySem PySem.Spec PyProof.Rows
section
variable {X:Cx} {pos:Pos}
end
end L2
namespace Pu
open PySem L2 My Prf
end Pu
namespace Pu
open PySem L2 My Prf
end Pu
namespace L2
open PySem PySem.Spec PyProof.Rows
section
variable {X:Cx} {e:Expr}
end
end L2
namespace L2
open PySem PySem.Spec PyProof.Rows
section
variable {κ:Type} [DecidableEq κ]
def valV (kvs:List (κ × V)) (k:κ):Option V:=(kvs.find? fun kv=>decide (kv.1=k)).map (·.2)
def putK (kvs:List (κ × V)) (k:κ) (v:V):List (κ × V) :=
 if (kvs.any fun kv=>decide (kv.1=k))=true then kvs.map (fun kv=>if kv.1=k then (kv.1,v) else kv) else kvs++[(k,v)]
theorem A1n {p:κ × V} {r:List (κ × V)} {k:κ} (e:p.1=k):valV (p :: r) k=some p.2:=by simp [valV,List.find?_cons,e]
theorem A1o {p:κ × V} {r:List (κ × V)} {k:κ} (e:¬ p.1=k):valV (p :: r) k=valV r k:=by simp [valV,List.find?_cons,e]
theorem A1p (k:κ):∀ kvs:List (κ × V),(kvs.any fun kv=>decide (kv.1=k))=(valV kvs k).isSome
 | []=>rfl
 | p :: r=>by
  rw [List.any_cons];by_cases e:p.1=k
  ·simp only [A1n e,Zk e,Bool.true_or,Option.isSome_some]
  ·rw [A1o e,Zd e,Bool.false_or]; exact A1p k r
theorem S5 (kvs:List (κ × V)) (k:κ) (v:V):(putK kvs k v).length<=kvs.length + 1:=by
 unfold putK;split
 ·rw [Zl]; omega
 ·rw [Ze,List.length_cons,List.length_nil]; omega
theorem A5x {kvs:List (κ × V)} {k:κ} (v:V) (h:valV kvs k=none):putK kvs k v=kvs++[(k,v)]:=by
 unfold putK;rw [A1p,h];exact if_neg (by decide)
theorem RelO.isSome_eq {o:Option V} {u:Option Value} (r:RelO o u):o.isSome=u.isSome:=by
 cases o with
 | none=>cases u with
  | none=>rfl
  | some _=>exact (show False from r).elim
 | some _=>cases u with
  | none=>exact (show False from r).elim
  | some _=>rfl
theorem KV.val {kvs:List (κ × V)} {vs:List (κ × Value)} (r:KV kvs vs) (k:κ):RelO (valV kvs k) (valueAt vs k):=by
 unfold KV at r;induction r with
 | nil=>exact True.intro
 | @cons p q ps qs h t ih =>
  obtain ⟨h1,h2⟩:=h;by_cases e:p.1=k
  ·have e':q.1=k:=h1.symm.trans e;have b:valueAt (q :: qs) k=some q.2:=by simp [valueAt,List.find?_cons,e']
   rw [A1n e,b]; exact h2
  ·have e':¬ q.1=k:=fun z=>e (h1.trans z);have b:valueAt (q :: qs) k=valueAt qs k:=by simp [valueAt,List.find?_cons,e']
   rw [A1o e,b]; exact ih
theorem KV.any {kvs:List (κ × V)} {vs:List (κ × Value)} (r:KV kvs vs) (k:κ):(kvs.any fun kv=>decide (kv.1=k))=vs.any fun kv=>decide (kv.1=k):=by
 unfold KV at r;induction r with
 | nil=>rfl
 | cons h t ih=>rw [List.any_cons,List.any_cons,ih,h.1]
theorem KV.repl {kvs:List (κ × V)} {vs:List (κ × Value)} (r:KV kvs vs) (k:κ) {y:V} {u:Value} (ry:RelV y u) :
  KV (kvs.map fun kv=>if kv.1=k then (kv.1,y) else kv) (vs.map fun kv=>if kv.1=k then (kv.1,u) else kv):=by
 unfold KV at r ⊢;induction r with
 | nil=>exact .nil
 | @cons p q ps qs h t ih =>
  rw [List.map_cons,List.map_cons];refine .cons ?_ ih;obtain ⟨h1,h2⟩:=h;by_cases e:p.1=k
  ·rw [if_pos e,if_pos (h1.symm.trans e)]; exact ⟨h1,ry⟩
  ·rw [if_neg e,if_neg (fun z=>e (h1.trans z))]; exact ⟨h1,h2⟩
theorem KV.put {kvs:List (κ × V)} {vs:List (κ × Value)} (r:KV kvs vs) (k:κ) {y:V} {u:Value} (ry:RelV y u):KV (putK kvs k y) (stored vs k u):=by
 unfold putK stored;rw [r.any k];by_cases e:(vs.any fun kv=>decide (kv.1=k))=true
 ·rw [if_pos e,if_pos e]; exact r.repl k ry
 ·rw [if_neg e,if_neg e]; exact Paired.snoc r ⟨rfl,ry⟩
theorem KV.length {kvs:List (κ × V)} {vs:List (κ × Value)} (r:KV kvs vs):kvs.length=vs.length:=Paired.length r
end
theorem B0b {P:Program} {w:World} {k:Key} {u:Value} (r:RelV (kV k) u):(K0 P w).is k u=true:=by
 cases k with
 | inl i=>obtain ⟨t,e⟩:=(show ∃ t,u=Value.int i t from r); subst e; exact A4s P w i t
 | inr x=>obtain ⟨t,e⟩:=(show ∃ t,u=Value.str x t from r); subst e; exact A4r P w x t
theorem A3n {P:Program} {w:World}:∀ {ks:List Key} {us:List Value},Vals (ks.map kV) us->ItemsAre (K0 P w) ks us
 | [],_,r=>by rw [List.map_nil] at r; cases r; exact .nil
 | k :: ks,_,r=>by
  rw [List.map_cons] at r;cases r with
  | cons h t=>exact .cons (B0b h) (A3n t)
abbrev KTb (H:Hp):List (List Key × V)->List (List Key × Addr × Value)->Prop:=Paired fun p q=>p.1=q.1/\H q.2.1=some (.tup (p.1.map kV))/\RelV p.2 q.2.2
theorem KTb.val {H:Hp} {kvs:List (List Key × V)} {xs:List (List Key × Addr × Value)} (r:KTb H kvs xs) (k:List Key):RelO (valV kvs k) ((atKey xs k).map (·.2)):=by
 induction r with
 | nil=>exact True.intro
 | @cons p q ps qs h t ih =>
  obtain ⟨h1,_,h2⟩:=h;by_cases e:p.1=k
  ·have e':q.1=k:=h1.symm.trans e;have b:atKey (q :: qs) k=some q.2:=by simp [atKey,List.find?_cons,e']
   rw [A1n e,b]; exact h2
  ·have e':¬ q.1=k:=fun z=>e (h1.trans z);have b:atKey (q :: qs) k=atKey qs k:=by simp [atKey,List.find?_cons,e']
   rw [A1o e,b]; exact ih
theorem KTb.repl {H:Hp} {kvs:List (List Key × V)} {xs:List (List Key × Addr × Value)} (r:KTb H kvs xs) (k:List Key) {y:V} {u:Value} (ry:RelV y u) :
  KTb H (kvs.map fun kv=>if kv.1=k then (kv.1,y) else kv) (xs.map (putAt k u)):=by
 induction r with
 | nil=>exact .nil
 | @cons p q ps qs h t ih =>
  rw [List.map_cons,List.map_cons];refine .cons ?_ ih;obtain ⟨h1,h2,h3⟩:=h;unfold putAt;by_cases e:p.1=k
  ·rw [if_pos e,if_pos (h1.symm.trans e)]; exact ⟨h1,h2,ry⟩
  ·rw [if_neg e,if_neg (fun z=>e (h1.trans z))]; exact ⟨h1,h2,h3⟩
theorem KTb.put {H:Hp} {kvs:List (List Key × V)} {xs:List (List Key × Addr × Value)} (r:KTb H kvs xs) (k:List Key) {b:Addr} {y:V} {u:Value} (hb:H b=some (.tup (k.map kV))) (ry:RelV y u) :
  KTb H (putK kvs k y) (storedH xs k b u):=by
 have e:(kvs.any fun kv=>decide (kv.1=k))=(atKey xs k).isSome:=by
  rw [A1p,(r.val k).isSome_eq,Option.isSome_map]
 unfold putK storedH;rw [e];by_cases q:(atKey xs k).isSome=true
 ·rw [if_pos q,if_pos q]; exact r.repl k ry
 ·rw [if_neg q,if_neg q]; exact Paired.snoc r ⟨rfl,hb,ry⟩
theorem KTb.keeps {H H':Hp} {kvs:List (List Key × V)} {xs:List (List Key × Addr × Value)} (r:KTb H kvs xs) (ht:∀ b ys,H b=some (.tup ys)->H' b=some (.tup ys)):KTb H' kvs xs :=
 Paired.mapP r fun _ _ z=>⟨z.1,ht _ _ z.2.1,z.2.2⟩
section
variable {P:Program} {w:World} {H:Hp} {h:Heap} {a:Addr}
theorem B56 {u:HO} (ok:HOk P w H h) (e:Rd H a u):ObjOk P w H h a u:=e.ok ok
theorem B3d {kvs:List (Key × V)} (ok:HOk P w H h) (e:Rd H a (.dK kvs)):kvs.length<=sizeLine/\(a == sysModules)=false/\∃ vs,KV kvs vs/\h.DictOf (K0 P w) a vs :=
 show ObjOk P w H h a (.dK kvs) from B56 ok e
theorem C3j {kvs:List (Key × V)} (ok:HOk P w H h) (e:H a=some (.dK kvs)):kvs.length<=sizeLine/\(a == sysModules)=false/\∃ vs,KV kvs vs/\h.DictOf (K0 P w) a vs:=B3d ok (.inl e)
theorem A6e {ks:List Key} (ok:HOk P w H h) (e:H a=some (.tup (ks.map kV))):(tupleKind (K0 P w)).is h ks a:=by
 obtain ⟨_,its,r,o,h1,h2,n,h3⟩:=(show ObjOk P w H h a (.tup (ks.map kV)) from ok a _ e);exact ⟨o,its.toArray,n,h1,h2,h3,by simpa using A3n r⟩
theorem B3b {kvs:List (List Key × V)} (ok:HOk P w H h) (e:Rd H a (.dT kvs)):kvs.length<=sizeLine/\(a == sysModules)=false /\
  ∃ xs,KTb H kvs xs/\h.DictOfH (tupleKind (K0 P w)) a xs:=by
 obtain ⟨z,y,xs,r,o,es,ep,h1,h2,h3,h4,h5⟩:=(show ObjOk P w H h a (.dT kvs) from B56 ok e);refine ⟨z,y,xs,r,o,es,ep,h1,h2,h3,h4,fun x hx=>?_,h5⟩;have all:∀ {l:List (List Key × V)} {m:List (List Key × Addr × Value)},KTb H l m->∀ x ∈ m,(tupleKind (K0 P w)).is h x.1 x.2.1:=by
  intro l m q;induction q with
  | nil=>intro x hx; exact nomatch hx
  | @cons p q ps qs hq t ih =>
   intro x hx;rcases List.mem_cons.mp hx with e | hx
   ·subst e;exact A6e ok (by rw [<- hq.1]; exact hq.2.1)
   ·exact ih x hx
 exact all r x hx
theorem C4e {kvs:List (List Key × V)} (ok:HOk P w H h) (e:H a=some (.dT kvs)):kvs.length<=sizeLine/\(a == sysModules)=false /\
  ∃ xs,KTb H kvs xs/\h.DictOfH (tupleKind (K0 P w)) a xs:=B3b ok (.inl e)
end
def DGet (H:Hp) (a:Addr) (y:V) (r:Option V):Prop :=
 (∃ kvs k,Rd H a (.dK kvs)/\y=kV k/\r=valV kvs k)\/∃ kvs k b,Rd H a (.dT kvs)/\y=.ref b/\H b=some (.tup (k.map kV))/\r=valV kvs k
def DPut (H:Hp) (a:Addr) (y v:V) (H':Hp):Prop :=
 (∃ kvs k,H a=some (.dK kvs)/\y=kV k/\kvs.length < sizeLine/\H'=upd H a (.dK (putK kvs k v))) \/
 ∃ kvs k b,H a=some (.dT kvs)/\y=.ref b/\H b=some (.tup (k.map kV))/\kvs.length < sizeLine/\H'=upd H a (.dT (putK kvs k v))
theorem DGet.k {H:Hp} {a:Addr} {kvs:List (Key × V)} {k:Key} (e:H a=some (.dK kvs)):DGet H a (kV k) (valV kvs k):=.inl ⟨kvs,k,.inl e,rfl,rfl⟩
theorem DGet.t {H:Hp} {a b:Addr} {kvs:List (List Key × V)} {k:List Key} (e:H a=some (.dT kvs)) (eb:H b=some (.tup (k.map kV))):DGet H a (.ref b) (valV kvs k):=.inr ⟨kvs,k,b,.inl e,rfl,eb,rfl⟩
theorem DPut.t {H:Hp} {a b:Addr} {kvs:List (List Key × V)} {k:List Key} {v:V} (e:H a=some (.dT kvs)) (eb:H b=some (.tup (k.map kV))) (hl:kvs.length < sizeLine) :
  DPut H a (.ref b) v (upd H a (.dT (putK kvs k v))):=.inr ⟨kvs,k,b,e,rfl,eb,hl,rfl⟩
section
variable {X:Cx} {pins:List (Addr × Obj)} {σ:St} {H:Hp} {s:Shared} {a:Addr} {y v:V} {u r:Value} {o:Option V} {A:Around} {E:Value->Shared->Prop}
theorem Inv.big (I:Inv X pins σ H s):sysModules < s.heap.objs.size:=by
 have h:mainGlobals < s.heap.objs.size:=(I.mod.glob.keeps I.bk).lt;exact Nat.lt_trans (by decide) h
theorem B0z {Q:Value->Shared->Prop} (hu:A.units + 1 < cLine) (I:Inv X pins σ H s) (g:DGet H a y (some v)) (ry:RelV y u) (h:∀ w' s',Inv X pins σ H s'->RelV v w'->Q w' s') :
  wpAny (model X.prog X.w) A (getItem (.ref a) u) Q E s:=by
 rcases g with ⟨kvs,k,e,ey,l⟩ | ⟨kvs,k,b,e,ey,eb,l⟩
 ·subst ey;obtain ⟨z,hd,vs,rel,dd⟩:=B3d I.hok e;obtain ⟨w',hw,rw'⟩:=RelO.some_of (v:=v) (o:=valueAt vs k) (by rw [l]; exact rel.val k);exact wpAny_getItem_of (B0b ry) dd.mapOf hw (h w' _ (I.tok _) rw')
 ·subst ey;cases (show u=Value.ref b from ry);obtain ⟨z,hd,xs,rel,dd⟩:=B3b I.hok e;obtain ⟨w',hw,rw'⟩:=RelO.some_of (v:=v) (o:=(atKey xs k).map (·.2)) (by rw [l]; exact rel.val k);obtain ⟨p,hp,hp2⟩:=Zo hw;refine wpAny_getItem_heap (tupleKind_room_in1 hu) (A6e I.hok eb) dd hp ?_;rw [hp2];exact h w' _ (I.tok _) rw'
theorem d_in {Q:Value->Shared->Prop} (hu:A.units + 1 < cLine) (I:Inv X pins σ H s) (g:DGet H a y o) (ry:RelV y u) (h:∀ s',Inv X pins σ H s'->Q (.bool o.isSome) s') :
  wpAny (model X.prog X.w) A (compareOp .In u (.ref a)) Q E s:=by
 rcases g with ⟨kvs,k,e,ey,l⟩ | ⟨kvs,k,b,e,ey,eb,l⟩
 ·subst ey;obtain ⟨z,hd,vs,rel,dd⟩:=B3d I.hok e;refine wpAny_in_of (B0b ry) hd dd.mapOf ?_;rw [<- (rel.val k).isSome_eq,<- l];exact h _ (I.tok _)
 ·subst ey;cases (show u=Value.ref b from ry);obtain ⟨z,hd,xs,rel,dd⟩:=B3b I.hok e;refine wpAny_in_heap (tupleKind_room_in1 hu) (A6e I.hok eb) hd dd ?_;have q:=(rel.val k).isSome_eq;rw [Option.isSome_map] at q;rw [<- q,<- l];exact h _ (I.tok _)
theorem A42 {h':Heap} {t':Nat} {ob:HO} (I:Inv X pins σ H s) (mu:Mut (H a)) (hs:Heap.SameBut a s.heap h') (he:∃ q,h'.get? a=some q) (new:ObjOk X.prog X.w (upd H a ob) h' a ob) :
  Inv X pins σ (upd H a ob) { s with heap:=h',toks:=t' } :=
 I.write (x:=a) (e:=a) mu (.inl rfl) (fun b q hb z=>(hs.2 b hb).trans z) he new
theorem B4x {P:Program} {w:World} {H':Hp} {h':Heap} {kvs:List (Key × V)} {vs:List (Key × Value)} (z:kvs.length<=sizeLine) (hd:(a == sysModules)=false) (rel:KV kvs vs) (dd:h'.DictOf (K0 P w) a vs) :
  ObjOk P w H' h' a (.dK kvs):=⟨z,hd,vs,rel,dd⟩
theorem B0y {H':Hp} {Q:Unit->Shared->Prop} (hu:A.units + 1 < cLine) (I:Inv X pins σ H s) (g:DPut H a y v H') (ry:RelV y u) (rv:RelV v r) (h:∀ s',Inv X pins σ H' s'->Q () s') :
  wpAny (model X.prog X.w) A (setItem (.ref a) u r) Q E s:=by
 rcases g with ⟨kvs,k,e,ey,l,eH⟩ | ⟨kvs,k,b,e,ey,eb,l,eH⟩
 ·subst ey eH;obtain ⟨z,hd,vs,rel,dd⟩:=C3j I.hok e;have hz:vs.length<=sizeLine:=by rw [<- rel.length]; exact z
  have hl:(putK kvs k v).length<=sizeLine:=by have:=S5 kvs k v; omega
  refine wpAny_setItem_pairs (hsz:=hz) (B0b ry) dd fun h' dd' hs=>h _ ?_;have he:∃ q,h'.get? a=some q:=let ⟨q,_,_,hq,_⟩:=dd'; ⟨q,hq⟩;exact A42 I (by rw [e]; exact True.intro) hs he (B4x hl hd (rel.put k rv) dd')
 ·subst ey eH;cases (show u=Value.ref b from ry);obtain ⟨z,hd,xs,rel,dd⟩:=C4e I.hok e;have hz:xs.length<=sizeLine:=by rw [<- Paired.length rel]; exact z
  have hl:(putK kvs k v).length<=sizeLine:=by have:=S5 kvs k v; omega
  refine wpAny_setItem_heap (hsz:=hz) (tupleKind_room_in1 hu) (A6e I.hok eb) dd fun h' dd' hs=>h _ ?_;obtain ⟨q,es,ep,hq,h2,h3,h4,_,h5⟩:=dd';refine A42 I (by rw [e]; exact True.intro) hs ⟨q,hq⟩ ⟨hl,hd,_,(rel.put k eb rv).keeps fun c ys ec=>?_,q,es,ep,hq,h2,h3,h4,h5⟩;rw [D7 (C37 ec e (fun z=>nomatch z))];exact ec
end
section
variable {X:Cx} {pins:List (Addr × Obj)} {σ:St} {H:Hp} {s:Shared} {a:Addr} {kvs:List (Key × V)} {k:Key} {u:Value} {A:Around} {E:Value->Shared->Prop}
end
def NoSl (i:Expr):Prop:=∀ ov iv,subscripted i false ov iv=operate [ov,iv] (getItem ov iv)
theorem B5o {prog:Program} {w:World} {A:Around} {E:Value->Shared->Prop} {s:Shared} {env:Env} {value slice:Expr} {pos:Pos} {T id:String} {Q:Value->Shared->Prop}
  (hl:typeLookup (.type T) "__getitem__"=pure (some (.builtin id))) (hs:NoSl slice)
  (h:wpAny (model prog w) A (eval value env) (fun o s₁=>wpAny (model prog w) A (eval slice env) (fun i s₂=>s₂.TypeIs o T/\wpAny (model prog w) A (getItem o i) Q E s₂) E s₁) E s) :
  wpAny (model prog w) A (eval (.Subscript value slice pos) env) Q E s:=by
 refine Subscript_ (wpAny_mono h (fun o s₁ h₁=>wpAny_mono h₁ (fun i s₂ h₂=>?_) fun _ _ x=>x) fun _ _ x=>x);obtain ⟨hT,h₂⟩:=h₂;unfold subscriptTail;refine wpAny_bind ?_;rw [getitemInPython_of_ne hT.not_modules];refine wpAny_bind (wpAny_specialOf hT hl ?_);have fin:wpAny (model prog w) A (subscripted slice false o i) (fun r s₃=>wpAny (model prog w) A (letTemporaryGo value o r >>= fun _=>pure r) Q E s₃) E s₂:=by
  rw [hs o i];exact wpAny_operating (wpAny_mono h₂ (fun r s₃ h₃=>wpAny_bind (wpAny_letTemporaryGo (wpAny_pure h₃))) fun _ _ x=>x)
 first
  | exact wpAny_pure (wpAny_bind fin)
  | exact wpAny_bind (wpAny_pure (wpAny_bind fin))
  | exact wpAny_bind fin
theorem A41 {X:Cx} {pins:List (Addr × Obj)} {σ:St} {H:Hp} {s:Shared} {a:Addr} {y:V} {o:Option V} (I:Inv X pins σ H s) (g:DGet H a y o):s.TypeIs (.ref a) "dict":=by
 rcases g with ⟨kvs,k,e,_,_⟩ | ⟨kvs,k,b,e,_,_,_⟩
 ·obtain ⟨_,_,vs,_,dd⟩:=B3d I.hok e;exact dd.typeIs
 ·obtain ⟨_,_,xs,_,dd⟩:=B3b I.hok e;exact dd.typeIs
def B5l (td ty:TE):TE:=fun σ H Q=>td σ H fun x H1=>ty σ H1 fun y H2=>∃ a v,x=.ref a/\DGet H2 a y (some v)/\Q v H2
def tDIn (ty td:TE):TE:=fun σ H Q=>ty σ H fun y H1=>td σ H1 fun x H2=>∃ a o,x=.ref a/\DGet H2 a y o/\Q (.bl o.isSome) H2
def B5x (td ty tv:TE):TS:=fun D σ H=>tv σ H fun v H1=>td σ H1 fun x H2=>ty σ H2 fun y H3=>∃ a H4,x=.ref a/\DPut H3 a y v H4/\D.nx σ H4
section
variable {X:Cx} {o i e value:Expr} {pos pos' tpos:Pos} {td ty tv:TE}
theorem B6x (hu:X.A.units + 1 < cLine) (ho:PE X o td) (hi:PE X i ty) (hs:NoSl i):PE X (.Subscript o i pos) (B5l td ty):=by
 intro pins s σ H Q I h;refine B5o PySem.F.slot_dict_getitem.lookup hs (thn (ho pins s σ H _ I h) fun u s1 ⟨x,H1,I1,rx,q1⟩=>thn (hi pins s1 σ H1 _ I1 q1) fun iv s2 ⟨y,H2,I2,ry,a,v,ex,g,q2⟩=>?_);subst ex;obtain rfl:u=Value.ref a:=rx;exact ⟨A41 I2 g,B0z hu I2 g ry fun w' s3 I3 rw'=>⟨v,H2,I3,rw',q2⟩⟩
theorem B34 (hu:X.A.units + 1 < cLine) (hi:PE X i ty) (ho:PE X o td):PC X .In i o (tDIn ty td):=by
 intro pins s σ H Q I h;refine thn (hi pins s σ H _ I h) fun iv s1 ⟨y,H1,I1,ry,q1⟩=>thn (ho pins s1 σ H1 _ I1 q1) fun u s2 ⟨x,H2,I2,rx,a,ov,ex,g,q2⟩=>?_;subst ex;obtain rfl:u=Value.ref a:=rx;exact d_in hu I2 g ry fun s3 I3=>⟨.bl ov.isSome,H2,I3,rfl,q2⟩
theorem B6l (hu:X.A.units + 1 < cLine) (ho:PE X o td) (hi:PE X i ty) (hv:PE X value tv) (hs:swapsWith value (some (.Subscript o i pos')) pos.line X.env=pure false) :
  PS X (.Assign [.Subscript o i pos'] value pos) (B5x td ty tv):=by
 intro pins s σ H D I h;refine wpAny_Assign_Subscript (thn (hv pins s σ H _ I h) fun r s1 ⟨v,H1,I1,rv,q1⟩=>thn (ho pins s1 σ H1 _ I1 q1) fun u s2 ⟨x,H2,I2,rx,q2⟩=>thn (hi pins s2 σ H2 _ I2 q2) fun iv s3 ⟨y,H3,I3,ry,a,H4,ex,g,q3⟩=>?_) hs;subst ex;obtain rfl:u=Value.ref a:=rx;exact B0y hu I3 g ry rv fun s4 I4=>⟨σ,H4,I4,q3⟩
end
theorem B3e {P:Program} {w:World} {H:Hp} (h:Heap) (hb:sysModules < h.objs.size):ObjOk P w H (h.push { cls:=.type "dict",data:=.dict #[] }) h.objs.size (.dK []) :=
 ⟨Nat.zero_le _,beq_eq_false_iff_ne.mpr (Ne.symm (Nat.ne_of_lt hb)),[],.nil,Heap.DictOf.new h⟩
theorem B3c {P:Program} {w:World} {H:Hp} (h:Heap) (hb:sysModules < h.objs.size):ObjOk P w H (h.push { cls:=.type "dict",data:=.dict #[] }) h.objs.size (.dT []) :=
 ⟨Nat.zero_le _,beq_eq_false_iff_ne.mpr (Ne.symm (Nat.ne_of_lt hb)),[],.nil,_,#[],0,Heap.get?_push_size _ rfl,⟨rfl,rfl,rfl⟩,rfl,rfl,List.nodup_nil⟩
def A74:TE:=fun _ H Q=>∀ p,H p=none->Q (.ref p) (upd H p (.dT []))
section
variable {X:Cx} {pos:Pos}
theorem B2f:PE X (.Dict [] [] pos) A74:=fun pins s σ H Q I h =>
 wpAny_Dict_empty ⟨.ref s.heap.objs.size,_,I.laid (a:=s.heap.objs.size) (o:=.dT []) (t':=s.toks) (fun _ _ q=>Heap.get?_push_of_some _ q) (Zv _) (B3c s.heap I.big),rfl,h _ (I.hok.fresh (Zv _))⟩
end
def A5k:List (TE × TE)->St->Hp->(List (V × V)->Hp->Prop)->Prop
 | [],_,H,Q=>Q [] H
 | (tk,tv) :: r,σ,H,Q=>tk σ H fun x H1=>tv σ H1 fun y H2=>A5k r σ H2 fun ps H3=>Q ((x,y) :: ps) H3
abbrev VVd:List (V × V)->List (Value × Value)->Prop:=Paired fun p q=>RelV p.1 q.1/\RelV p.2 q.2
def PPs (X:Cx) (pos:Pos) (keys:List (Option Expr)) (values:List Expr) (trs:List (TE × TE)):Prop :=
 ∀ (pins:List (Addr × Obj)) (s:Shared) (σ:St) (H:Hp) (Q:List (V × V)->Hp->Prop),Inv X pins σ H s->A5k trs σ H Q ->
  wpAny (model X.prog X.w) X.A (evalPairs (pairTrees keys values X.env pos)) (fun vs s'=>∃ ps H',Inv X pins σ H' s'/\VVd ps vs/\Q ps H') X.xe s
theorem B6m {X:Cx} {pos:Pos}:PPs X pos [] [] []:=fun pins s σ H Q I h=>pairTrees_nil_walk ⟨[],H,I,.nil,h⟩
theorem B19 {X:Cx} {pos:Pos} {k v:Expr} {ks:List (Option Expr)} {vs:List Expr} {tk tv:TE} {trs:List (TE × TE)} (hk:PE X k tk) (hv:PE X v tv) (hr:PPs X pos ks vs trs) :
  PPs X pos (some k :: ks) (v :: vs) ((tk,tv) :: trs):=fun pins s σ H Q I h =>
 pairTrees_cons_walk (thn (hk pins s σ H _ I h) fun u s1 ⟨x,H1,I1,rx,q1⟩=>thn (hv pins s1 σ H1 _ I1 q1) fun w2 s2 ⟨y,H2,I2,ry,q2⟩ =>
  thn (hr pins s2 σ H2 _ I2 q2) fun ws s3 ⟨ps,H3,I3,rel,q3⟩=>⟨(x,y) :: ps,H3,I3,.cons ⟨rx,ry⟩ rel,q3⟩)
def A0d (kvs more:List (Key × V)):List (Key × V):=more.foldl (fun acc kv=>putK acc kv.1 kv.2) kvs
theorem KV.merge:∀ {more:List (Key × V)} {rs:List (Key × Value)} {kvs:List (Key × V)} {vs:List (Key × Value)},KV more rs->KV kvs vs->KV (A0d kvs more) (merged vs rs):=by
 intro more rs kvs vs r;unfold KV at r;induction r generalizing kvs vs with
 | nil=>intro q; exact q
 | @cons p q ps qs h t ih =>
  intro r0;have e:KV (putK kvs p.1 p.2) (stored vs q.1 q.2):=by
   have:=r0.put p.1 h.2;rw [<- h.1]; exact this
  exact ih e
theorem U3:∀ (more kvs:List (Key × V)),(A0d kvs more).length<=kvs.length + more.length
 | [],kvs=>by show kvs.length<=kvs.length + 0; omega
 | p :: r,kvs=>by
  have h1:=U3 r (putK kvs p.1 p.2);have h2:=S5 kvs p.1 p.2;show (A0d (putK kvs p.1 p.2) r).length<=_;rw [List.length_cons]; omega
theorem A1g {P:Program} {w:World}:∀ {kvs:List (Key × V)} {ws:List (Value × Value)},VVd (kvs.map fun kv=>(kV kv.1,kv.2)) ws->∃ rs,Carries (K0 P w) ws rs/\KV kvs rs
 | [],_,r=>by rw [List.map_nil] at r; cases r; exact ⟨[],True.intro,.nil⟩
 | p :: kvs,_,r=>by
  rw [List.map_cons] at r;cases r with
  | @cons a b as bs h t =>
   obtain ⟨rs,c,q⟩:=A1g (P:=P) (w:=w) t;obtain ⟨b1,b2⟩:=b;exact ⟨(p.1,b2) :: rs,⟨B0b h.1,rfl,c⟩,.cons ⟨rfl,h.2⟩ q⟩
def B5k (trs:List (TE × TE)):TE:=fun σ H Q=>∀ p,H p=none->A5k trs σ (upd H p (.dK [])) fun ps H2=>H2 p=some (.dK [])/\∃ kvs:List (Key × V),ps=kvs.map (fun kv=>(kV kv.1,kv.2))/\kvs.length<=15/\Q (.ref p) (upd H2 p (.dK (A0d [] kvs)))
theorem B6w {X:Cx} {pos:Pos} {keys:List (Option Expr)} {values:List Expr} {trs:List (TE × TE)} (h:PPs X pos keys values trs) (hall:keys.all (·.isSome)=true) (hl:keys.length=values.length) (h0:keys≠[])
  (h15:keys.length<=15):PE X (.Dict keys values pos) (B5k trs):=by
 intro pins s σ H Q I q;have hn:=I.hok.fresh (Zv s.heap.objs.size);have I1:=I.laid (a:=s.heap.objs.size) (o:=.dK []) (h':=s.heap.push { cls:=.type "dict",data:=.dict #[] }) (t':=s.toks) (fun _ _ q=>Heap.get?_push_of_some _ q) (Zv _) (B3e s.heap I.big);refine wpAny_Dict_walk (knd:=K0 X.prog X.w) hall hl h0 h15 (thn (h pins _ σ _ _ I1 (q _ hn)) fun ws s2 ⟨ps,H2,I2,rel,e,kvs,ep,lk,q2⟩=>?_);subst ep;obtain ⟨rs,c,rk⟩:=A1g (P:=X.prog) (w:=X.w) rel;obtain ⟨z,hd,vs0,r0,dd⟩:=C3j I2.hok e;cases r0;refine ⟨rs,c,dd,fun h' dd' hs=>⟨.ref s.heap.objs.size,_,?_,rfl,q2⟩⟩;have hz:(A0d [] kvs).length<=sizeLine:=by
  have h1:=U3 kvs [];rw [List.length_nil] at h1;rw [sizeLine_eq]; omega
 have he:∃ q,h'.get? s.heap.objs.size=some q:=let ⟨q,_,_,hq,_⟩:=dd'; ⟨q,hq⟩;exact A42 I2 (by rw [e]; exact True.intro) hs he (B4x hz hd (rk.merge .nil) dd')
theorem B4f {a b:Int}:NSI [V.int a,V.int b]:=fun _ _ z=>nomatch z
theorem u1 {n:Nat} (h:n + 64 < cLine):n + 1 < cLine:=by omega
theorem A1c:∀ {more acc:List (Key × V)},((acc++more).map (·.1)).Nodup->A0d acc more=acc++more
 | [],acc,_=>by rw [List.append_nil]; rfl
 | p :: r,acc,h=>by
  have hn:valV acc p.1=none:=by
   unfold valV;rw [Option.map_eq_none_iff,List.find?_eq_none];intro x hx e;have e:x.1=p.1:=of_decide_eq_true e;rw [Zc,List.nodup_append] at h;exact h.2.2 x.1 (List.mem_map.mpr ⟨x,hx,rfl⟩) p.1 (List.mem_map.mpr ⟨p,Zy,rfl⟩) e
  show A0d (putK acc p.1 p.2) r=_;rw [A5x _ hn,show (p.1,p.2)=p from rfl];have h':(((acc++[p])++r).map (·.1)).Nodup:=by rw [List.append_assoc]; exact h
  rw [A1c h',List.append_assoc]; rfl
def B9v (i j k:Nat) (ta:TA):TS:=fun D σ H=>ta σ H fun vs H1=>∃ v w z,vs=[v,w,z]/\D.nx (((σ.set i (some v)).set j (some w)).set k (some z)) H1
theorem A5v {X:Cx} {pos:Pos} {i j k:Nat} {x y z:Str} {a b c:Expr} {ta:TA} {px py pz pt:Pos} {kt k2 pt2} (hc:X.calm=true) (hN:X.N.Nodup) (hi:X.N[i]?=some x) (hj:X.N[j]?=some y) (hk:X.N[k]?=some z) (hij:i≠j) (hik:i≠k) (hjk:j≠k)
  (hx:X.env.scope.names.lookup x=some .local) (hy:X.env.scope.names.lookup y=some .local) (hz:X.env.scope.names.lookup z=some .local) (ha:QA X [a,b,c] ta)
  (hw:swappedStores [.Tuple [.Name x px,.Name y py,.Name z pz] kt pt] (.Tuple [a,b,c] k2 pt2) X.env=pure (some [x,y,z]))
  (hs:swapsWithSole [.Tuple [.Name x px,.Name y py,.Name z pz] kt pt] (.Tuple [a,b,c] k2 pt2) pos.line X.env=pure false) :
  QS X (.Assign [.Tuple [.Name x px,.Name y py,.Name z pz] kt pt] (.Tuple [a,b,c] k2 pt2) pos) (B9v i j k ta):=by
 refine ⟨fun pins s σ H D I h=>?_⟩;rw [exec_Assign_arm];apply wpAny_bind; apply wpAny_standAt;rw [hs];apply wpAny_bind; apply wpAny_pure;rw [if_neg Bool.false_ne_true];apply wpAny_bind;apply Tuple_;refine thn (ha.out _ pins s σ H _ I h) ?_;rintro us s1 ⟨vs,H1,I1,r1,v,w,t,rfl,q1⟩;cases r1 with | cons p1 r1=>cases r1 with | cons p2 r1=>cases r1 with | cons p3 r1 =>
 cases r1;rename_i u1 u2 u3;refine wpAny_newObj_type ?_ (by show 3<=sizeLine; decide);have I2:Inv X pins σ H1 { s1 with heap:=s1.heap.push ⟨.type "tuple",none,.seq [u1,u2,u3].toArray 0,#[]⟩ }:=I1.kept (t':=s1.toks) fun _ _ e=>Heap.get?_push_of_some _ e;rw [hw];apply wpAny_bind; apply wpAny_pure;show wpAny (model X.prog X.w) X.A (do rule "assign.swapped-stores"; let its <- unpackItems (.ref s1.heap.objs.size) 3 none; assignInOrder [fun v=>bindName X.env z v,fun v=>bindName X.env y v,fun v=>bindName X.env x v] its.reverse; pure Flow.next) _ _ _;apply wpAny_bind; apply wpAny_rule; apply wpAny_bind;refine unpackItems_tuple (items:=#[u1,u2,u3]) (I.ok.hd hc) (IsTup.new s1.heap _) fun h' hx'=>?_;have I3:=I2.kept (h':=h') (t':=s1.toks) fun b o e=>hx' b o (Nat.ne_of_lt (Heap.lt_size e)) e;show wpAny _ _ (assignInOrder [fun v=>bindName X.env z v,fun v=>bindName X.env y v,fun v=>bindName X.env x v] [u3,u2,u1] >>= fun _=>pure Flow.next) _ _ _;apply wpAny_bind;refine assignInOrder_cons (wpAny_bindName (O6 I3 hN hk (.inl hz) p3 (fun s2 I4=>?_) (.inr hz)));refine assignInOrder_cons (wpAny_bindName (O6 I4 hN hj (.inl hy) p2 (fun s3 I5=>?_) (.inr hy)));refine assignInOrder_cons (wpAny_bindName (O6 I5 hN hi (.inl hx) p1 (fun s4 I6=>assignInOrder_nil (wpAny_pure ?_)) (.inr hx)));have e:((σ.set k (some t)).set j (some w)).set i (some v)=((σ.set i (some v)).set j (some w)).set k (some t):=by
  rw [List.set_comm _ _ (Ne.symm hjk),List.set_comm _ _ (Ne.symm hik),List.set_comm _ _ (Ne.symm hij)]
 rw [e] at I6;exact ⟨_,H1,I6,q1⟩
section
variable {X:Cx} {o i e value:Expr} {pos pos':Pos} {td ty tv:TE}
structure QPs (X:Cx) (pos:Pos) (keys:List (Option Expr)) (values:List Expr) (trs:List (TE × TE)):Prop where
 out:PPs X pos keys values trs
theorem B6a:QPs X pos [] [] []:=⟨B6m⟩
theorem X4 {k v:Expr} {ks:List (Option Expr)} {vs:List Expr} {tk tv:TE} {trs:List (TE × TE)} (hk:QE X k tk) (hv:QE X v tv) (hr:QPs X pos ks vs trs):QPs X pos (some k :: ks) (v :: vs) ((tk,tv) :: trs):=⟨B19 hk.out hv.out hr.out⟩
theorem B1w {keys:List (Option Expr)} {values:List Expr} {trs:List (TE × TE)} (h:QPs X pos keys values trs) (hall:keys.all (·.isSome)=true) (hl:keys.length=values.length) (h0:keys≠[]) (h15:keys.length<=15):QE X (.Dict keys values pos) (B5k trs):=⟨B6w h.out hall hl h0 h15⟩
theorem A8i:QE X (.Dict [] [] pos) A74:=⟨B2f⟩
theorem B6b (hu:X.A.units + 1 < cLine) (hi:QE X i ty) (ho:QE X o td) (h1:behindInMarks .In o=false):QE X (.Compare i [.In] [o] pos) (tDIn ty td):=⟨C0v (B34 hu hi.out ho.out) h1⟩
theorem B59 (hu:X.A.units + 1 < cLine) (hi:QE X i ty) (ho:QE X o td) (h1:behindInMarks .In o=false):QT X (.Compare i [.In] [o] pos) (tB (tDIn ty td)):=⟨C0k (B34 hu hi.out ho.out) h1⟩
theorem B1x (hu:X.A.units + 1 < cLine) (ho:QE X o td) (hi:QE X i ty) (hs:NoSl i):QE X (.Subscript o i pos) (B5l td ty):=⟨B6x hu ho.out hi.out hs⟩
theorem B1v (hu:X.A.units + 1 < cLine) (ho:QE X o td) (hi:QE X i ty) (hv:QE X value tv) (hs:swapsWith value (some (.Subscript o i pos')) pos.line X.env=pure false):QS X (.Assign [.Subscript o i pos'] value pos) (B5x td ty tv):=⟨B6l hu ho.out hi.out hv.out hs⟩
end
end L2
namespace Pu
open PySem L2 My Prf
abbrev dkV (ks:List (Str × Int)):List (List Key × V):=ks.map fun k=>([Sum.inr k.1,Sum.inl k.2],V.bl true)
theorem A7w {c:Str} {n:Int}:∀ {ks:List (Str × Int)},valV (dkV ks) [Sum.inr c,Sum.inl n]=if (c,n) ∈ ks then some (.bl true) else none
 | []=>rfl
 | k :: r=>by
  unfold valV;rw [dkV,List.map_cons,List.find?_cons];by_cases h:k=(c,n)
  ·subst h;rw [Zk rfl,if_pos Zy]; rfl
  ·have h1:¬ (([Sum.inr k.1,Sum.inl k.2]:List Key)=[Sum.inr c,Sum.inl n]):=fun e=>by
    have e1:=(List.cons.inj e).1;have e2:=(List.cons.inj (List.cons.inj e).2).1;exact h (Prod.ext (Sum.inr.inj e1) (Sum.inl.inj e2))
   rw [Zd h1];have ih:=A7w (c:=c) (n:=n) (ks:=r);unfold valV at ih;refine ih.trans ?_;by_cases hr:(c,n) ∈ r
   ·rw [if_pos hr,if_pos (Zr _ hr)]
   ·rw [if_neg hr,if_neg fun z=>by
     rcases List.mem_cons.mp z with z | z
     ·exact h z.symm
     ·exact hr z]
def pDk0 (env:PEnv) (Q:SV->PEnv->Prop):Prop:=Q (.dk []) env
instance re_dk0 {K:Frag}:RE K A74 pDk0 where
 ok:=by
  rintro c w env σ Qp Q rfl E p k q hq;exact k (.ref q) (.dk []) env (w.lay q (.dT [])) ⟨E.mono (Wd.lay_ok E.wok hq) (Wd.lay_le hq),(Wd.lay_le hq).toLw,⟨q,rfl,D5,E.wok.fnone hq,fun z=>E.wok.mne hq z rfl,E.le0.dom q hq⟩,fun a f=>(by
   have:V.ref q=.ref a:=f;cases this;exact E.fresh hq),rfl⟩ p
def asP (x:PyData) (k:Str->Int->Prop):Prop:=match x with
 | .tuple [.str c,.int n]=>k c n
 | _=>False
def hasD (kvs:List (PyData × PyData)) (c:Str):Bool:=kvs.any fun p=>match p.1 with
 | .str s=>decide (s=c)
 | _=>false
def inD (o:Option (Option SV)) (x:PyData) (k:Bool->Prop):Prop:=match o with
 | some (some (.dk ks))=>asP x fun c n=>k (decide ((c,n) ∈ ks))
 | some (some (.d (.dict kvs)))=>asS x fun c=>k (hasD kvs c)
 | _=>False
theorem C4b {ks:List (Str × Int)} {x:PyData} {k:Bool->Prop}:inD (some (some (.dk ks))) x k=asP x fun c n=>k (decide ((c,n) ∈ ks)):=rfl
theorem C4c {kvs:List (PyData × PyData)} {x:PyData} {k:Bool->Prop}:inD (some (some (.d (.dict kvs)))) x k=asS x fun c=>k (hasD kvs c):=rfl
theorem B0j {c:Str}:∀ {kvs:List (Key × V)},(valV kvs (.inr c)).isSome=hasD (kvs.map B0s) c
 | []=>rfl
 | p :: r=>by
  have ih:=B0j (c:=c) (kvs:=r);unfold valV hasD at *;rw [List.map_cons,List.any_cons,List.find?_cons];obtain ⟨k,v⟩:=p;cases k with
  | inl i =>
   rw [Zd (show ¬ ((Sum.inl i:Key)=Sum.inr c) from fun z=>nomatch z)];exact ih
  | inr s =>
   by_cases h:s=c
   ·subst h;rw [Zk rfl];show true=(decide (s=s) || _);rw [Zk rfl]; rfl
   ·rw [Zd (show ¬ ((Sum.inr s:Key)=Sum.inr c) from fun z=>h (Sum.inr.inj z))];show _=(decide (s=c) || _);rw [Zd h,Bool.false_or];exact ih
theorem Den.dctE {K:Frag} {F:Hpp} {v:V} {ds:List (PyData × PyData)} (h:Den K F v (.dict ds)):∃ a kvs,v=.ref a/\F a=some (.dK kvs)/\ds=kvs.map B0s:=by
 cases h with | dct h=>exact ⟨_,_,rfl,h,rfl⟩
def pDIn (pd:PDt) (i:Nat) (env:PEnv) (Q:SV->PEnv->Prop):Prop:=pd env fun x e=>inD e[i]? x fun b=>Q (.d (.bool b)) e
instance re_din {K:Frag} {ty:TE} {i:Nat} {pd:PDt} [hd:RD K ty pd]:RE K (tDIn ty (tVar i)) (pDIn pd i) where
 ok:=by
  rintro c w env σ Qp Q rfl E p k;refine hd.ok c w env σ _ _ rfl E p fun y x e1 w1 E1 l1 d1 q1=>?_;unfold inD at q1;split at q1
  ·rename_i ks ei;unfold asP at q1;split at q1
   ·obtain ⟨v,hv,l,rfl,h1,h2,h3,h4⟩:=E1.at' i _ ei;obtain ⟨b,rfl,hb⟩:=Den.pairE d1;refine ⟨_,hv,l,_,rfl,DGet.t (k:=[Sum.inr _,Sum.inl _]) h1 (E1.wok.sub _ _ hb),?_⟩;rw [A7w];rename_i cc nn;have eb:(if (cc,nn) ∈ ks then some (V.bl true) else none).isSome=decide ((cc,nn) ∈ ks):=by
     by_cases z:(cc,nn) ∈ ks
     ·rw [if_pos z,Zk z]; rfl
     ·rw [if_neg z,Zd z]; rfl
    rw [eb];exact k _ _ e1 w1 ((Res.data E1 (.bl _)).pre l1) q1
   ·exact q1.elim
  ·rename_i kvs ei;unfold asS at q1;split at q1
   ·obtain ⟨v,hv,h1⟩:=E1.at' i _ ei;obtain ⟨a,kvs',rfl,h2,rfl⟩:=Den.dctE h1;have ey:=d1.strE;subst ey;refine ⟨_,hv,a,_,rfl,DGet.k (k:=Sum.inr _) (E1.wok.sub _ _ h2),?_⟩;rw [B0j];exact k _ _ e1 w1 ((Res.data E1 (.bl _)).pre l1) q1
   ·exact q1.elim
  ·exact q1.elim
def isDk (o:Option (Option SV)) (k:List (Str × Int)->Prop):Prop:=match o with
 | some (some (.dk ks))=>k ks
 | _=>False
theorem C28 {ks:List (Str × Int)} {k:List (Str × Int)->Prop}:isDk (some (some (.dk ks))) k=k ks:=rfl
def B7n (i:Nat) (pd:PDt) (D:PEnds) (env:PEnv):Prop:=isDk env[i]? fun _=>pd env fun x e=>asP x fun c n=>isDk e[i]? fun ks=>(c,n) ∉ ks/\ks.length < 1000000/\D.nx (e.set i (some (.dk (ks++[(c,n)]))))
instance rs_dput {K:Frag} {i:Nat} {ty:TE} {pd:PDt} [hd:RD K ty pd]:RS K (B5x (tVar i) ty (tC (.bl true))) (B7n i pd) where
 ok:=by
  rintro c w env σ Dp D rfl E h p;unfold B7n isDk at p;split at p
  ·rename_i ks0 e0;obtain ⟨o,g0,l,rfl,_⟩:=E.at' i _ e0;refine ⟨_,g0,hd.ok c w env σ _ _ rfl E p fun y x e1 w1 E1 l1 d1 q1=>?_⟩;unfold asP at q1;split at q1
   ·rename_i cc nn;split at q1
    ·rename_i ks e;obtain ⟨nin,hl,q⟩:=q1;obtain ⟨o',g0',l',ev',k1,k2,k3,k4⟩:=E1.at' i _ e;rw [g0] at g0'; cases g0'; cases ev';obtain ⟨b,rfl,hb⟩:=Den.pairE d1;have hv:valV (dkV ks) [Sum.inr cc,Sum.inl nn]=none:=by rw [A7w,if_neg nin]
     refine ⟨l,_,rfl,DPut.t (k:=[Sum.inr cc,Sum.inl nn]) k1 (E1.wok.sub _ _ hb) (by rw [Zl]; exact A5n hl),?_⟩;rw [A5x _ hv];have e2:dkV ks++[([Sum.inr cc,Sum.inl nn],V.bl true)]=dkV (ks++[(cc,nn)]):=by unfold dkV; rw [Zc]; rfl
     rw [e2];exact h.nx _ σ ⟨w1.M,upd w1.H l (.dT (dkV (ks++[(cc,nn)]))),w1.F⟩ (E1.writeAt (s':=.dk (ks++[(cc,nn)])) e g0 rfl (fun a f=>f) ⟨l,rfl,D5,k2,k3,k4⟩) l1.f q
    ·exact q1.elim
   ·exact q1.elim
  ·exact p.elim
def numD:List (PyData × PyData)->Str->Option Int
 | [],_=>none
 | (.str x,.int n) :: r,s=>if x=s then some n else numD r s
 | _,_=>none
theorem A9t {s:Str} {n:Int}:∀ {kvs:List (Key × V)},numD (kvs.map B0s) s=some n->valV kvs (.inr s)=some (.int n)
 | [],h=>by cases h
 | (.inl i,v) :: r,h=>by cases v <;> cases h
 | (.inr x,v) :: r,h=>by
  unfold valV;rw [List.find?_cons];cases v with
  | int m =>
   have h:(if x=s then some m else numD (r.map B0s) s)=some n:=h;by_cases e:x=s
   ·subst e;rw [if_pos rfl] at h; cases h;rw [Zk rfl]; rfl
   ·rw [if_neg e] at h;rw [Zd (show ¬ ((Sum.inr x:Key)=Sum.inr s) from fun z=>e (Sum.inr.inj z))];exact A9t (kvs:=r) h
  | _=>cases h
def B0w (o:Option (Option SV)) (k:List (PyData × PyData)->Prop):Prop:=match o with
 | some (some (.d (.dict ds)))=>k ds
 | _=>False
theorem B3f {ds:List (PyData × PyData)} {k:List (PyData × PyData)->Prop}:B0w (some (some (.d (.dict ds)))) k=k ds:=rfl
def B5s (o:Option (Option SV)) (k:Str->Prop):Prop:=match o with
 | some (some (.d (.str s)))=>k s
 | _=>False
theorem B5r {s:Str} {k:Str->Prop}:B5s (some (some (.d (.str s)))) k=k s:=rfl
def A9a (i j:Nat) (env:PEnv) (Q:SV->PEnv->Prop):Prop:=B0w env[i]? fun ds=>B5s env[j]? fun s=>∃ n,numD ds s=some n/\Q (.d (.int n)) env
instance re_dgetN {K:Frag} {i j:Nat}:RE K (B5l (tVar i) (tVar j)) (A9a i j) where
 ok:=by
  rintro c w env σ Qp Q rfl E p k;unfold A9a B0w at p;split at p
  ·rename_i ds ei;unfold B5s at p;split at p
   ·rename_i s ej;obtain ⟨n,hn,q⟩:=p;obtain ⟨v,hv,h1⟩:=E.at' i _ ei;obtain ⟨u,hu,h2⟩:=E.at' j _ ej;obtain ⟨a,kvs,rfl,h3,rfl⟩:=Den.dctE h1;have ey:=Den.strE h2;subst ey;have g:=DGet.k (k:=Sum.inr s) (E.wok.sub _ _ h3);rw [A9t hn] at g;exact ⟨_,hv,_,hu,a,_,rfl,g,k _ _ env w (Res.data E (.int n)) q⟩
   ·exact p.elim
  ·exact p.elim
class RPr (K:Frag) (trs:List (TE × TE)) (pp:outParam (PEnv->(List (Str × Int)->Prop)->Prop)):Prop where
 ok:∀ (c:Ct) (w:Wd) (env:PEnv) (σ:L2.St) (H':Hpp) (Qp:List (Str × Int)->Prop) (Q:List (V × V)->Hpp->Prop),c.K=K->EnvOk c w env σ->Same w.H H'->pp env Qp->(∀ ps,Qp ps->Q (ps.map fun p=>(V.str p.1,V.int p.2)) H')->A5k trs σ H' Q
def pPr0 (_:PEnv) (Q:List (Str × Int)->Prop):Prop:=Q []
instance rpr_nil {K:Frag}:RPr K [] pPr0:=⟨fun _ _ _ _ _ _ _ _ _ _ p k=>k [] p⟩
def B8l (o:Option (Option SV)) (k:Int->Prop):Prop:=match o with
 | some (some (.d (.list xs)))=>k (xs.length:Int)
 | _=>False
theorem B8k {xs:LP} {k:Int->Prop}:B8l (some (some (.d (.list xs)))) k=k (xs.length:Int):=rfl
def pPr (s:Str) (i:Nat) (pp:PEnv->(List (Str × Int)->Prop)->Prop) (env:PEnv) (Q:List (Str × Int)->Prop):Prop:=B8l env[i]? fun n=>pp env fun ps=>Q ((s,n) :: ps)
instance rpr_cons {K:Frag} {s:Str} {i:Nat} {r:List (TE × TE)} {pp:PEnv->(List (Str × Int)->Prop)->Prop} [hr:RPr K r pp]:RPr K ((tC (.str s),tCB (B1u K) (O1 (tVar i) tNil)) :: r) (pPr s i pp) where
 ok:=by
  rintro c w env σ H' Qp Q rfl E sm p k;unfold pPr B8l at p;split at p
  ·rename_i xs e;obtain ⟨v,hv,hd⟩:=E.at' i _ e;obtain ⟨a,vs,rfl,hs,hd⟩:=Den.lstE hd;refine ⟨_,hv,.inl ⟨a,vs,rfl,.inl ((E.wok.sub.trans sm).seq hs),?_⟩⟩;rw [hd.len];exact hr.ok c w env σ H' _ _ rfl E sm p fun ps q=>k _ q
  ·exact p.elim
def C1t (pp:PEnv->(List (Str × Int)->Prop)->Prop) (env:PEnv) (Q:SV->PEnv->Prop):Prop:=pp env fun ps=>(ps.map (·.1)).Nodup/\ps.length<=15/\Q (.d (.dict (ps.map fun p=>(.str p.1,.int p.2)))) env
instance re_disp {K:Frag} {trs:List (TE × TE)} {pp:PEnv->(List (Str × Int)->Prop)->Prop} [h:RPr K trs pp]:RE K (B5k trs) (C1t pp) where
 ok:=by
  rintro c w env σ Qp Q rfl E p k q hq;refine h.ok c w env σ (upd w.H q (.dK [])) _ _ rfl E (Same.upd hq) p fun ps ⟨nd,hl,qq⟩=>?_;refine ⟨D5,ps.map fun p=>(Sum.inr p.1,V.int p.2),by rw [List.map_map]; rfl,by rw [Zl]; exact hl,?_⟩;have nd':((([]:List (Key × V))++ps.map fun p:Str × Int=>((Sum.inr p.1,V.int p.2):Key × V)).map fun x=>x.1).Nodup:=by
   rw [List.nil_append,List.map_map];have:(ps.map fun p=>(Sum.inr p.1:Key))=(ps.map (·.1)).map fun s=>(Sum.inr s:Key):=by rw [List.map_map]; rfl
   show (ps.map fun p=>(Sum.inr p.1:Key)).Nodup;rw [this];exact List.Pairwise.map (fun s=>(Sum.inr s:Key)) (fun a b ne e=>ne (Sum.inr.inj e)) nd
  rw [A1c nd',List.nil_append,B48];refine k (.ref q) (.d (.dict (ps.map fun p=>(.str p.1,.int p.2)))) env (w.tup q (.dK (ps.map fun p=>(Sum.inr p.1,V.int p.2)))) ⟨E.mono (Wd.tup_ok E.wok hq) (Wd.tup_le E.wok hq),(Wd.tup_le E.wok hq).toLw,?_,fun _ e=>(show False from e).elim,rfl⟩ qq;have:=Den.dct (K:=c.K) (H:=upd w.F q (.dK (ps.map fun p=>(Sum.inr p.1,V.int p.2)))) D5;rw [List.map_map] at this;exact this
def C07 (i j k:Nat) (pa:PAr) (D:PEnds) (env:PEnv):Prop:=pa env fun xs e=>match xs with
 | [x,y,z]=>D.nx (((e.set i (some (.d x))).set j (some (.d y))).set k (some (.d z)))
 | _=>False
instance rs_par3 {K:Frag} {ta:TA} {pa:PAr} {i j k:Nat} [ha:RAd K ta pa]:RS K (B9v i j k ta) (C07 i j k pa) where
 ok:=by
  rintro c w env σ Dp D rfl E h p;refine ha.ok c w env σ _ _ rfl E p fun vs xs e1 w1 E1 l1 d1 q1=>?_;split at q1
  ·cases d1 with
   | cons a t=>cases t with
    | cons b t=>cases t with
     | cons d t =>
      cases t;exact ⟨_,_,_,rfl,h.nx _ _ w1 (((E1.set (s:=.d _) a (fun _ z=>nomatch z)).set (s:=.d _) b (fun _ z=>nomatch z)).set (s:=.d _) d (fun _ z=>nomatch z)) l1.f q1⟩
  ·exact q1.elim
end Pu
open PySem L2 My
namespace Pu
def rIsB:R2:=fun x y H Q=>∃ a b,x=.bl a/\y=.bl b/\Q (.bl (decide (a=b))) H
theorem B4d {X:Cx}:OpR X (compareOp .Is) rIsB:=by
 intro pins s σ H x y v u Q I rx ry h;obtain ⟨a,b,rfl,rfl,q⟩:=h;cases rx;cases ry;have e:compareOp CmpOp.Is (Value.bool a) (Value.bool b)=(pure (Value.bool (decide (a=b))):Sem Value):=by
  cases a <;> cases b <;> rfl
 rw [e];exact wpAny_pure (B0p I q rfl)
def pIsB (x y:PyData) (Q:SV->Prop):Prop:=∃ a b,x=.bool a/\y=.bool b/\Q (.d (.bool (decide (a=b))))
theorem C1n {a b:Bool} {Q:SV->Prop}:pIsB (.bool a) (.bool b) Q=Q (.d (.bool (decide (a=b)))) :=
 propext ⟨fun ⟨_,_,e,e',q⟩=>by cases e; cases e'; exact q,fun q=>⟨_,_,rfl,rfl,q⟩⟩
instance ro_isB {K:PySem.W.Frag}:RO K rIsB pIsB where
 ok:=by
  rintro c w env σ x y dx dy Qp Q rfl E vx vy ⟨a,b,rfl,rfl,p⟩ k;exact ⟨a,b,vx.blE,vy.blE,k _ _ w (Res.data E (.bl _)) p⟩
end Pu
set_option synthInstance.maxHeartbeats 0
set_option synthInstance.maxSize 100000
set_option maxHeartbeats 4000000
namespace Prf
open PySem L2 My Pu
local macro_rules | `(tactic| trivial) => `(tactic| try simp only [pSeq, C1b, B37, C1s, pRet, B7a, B74, B73, pIf, pAsg, C1x, C06, C2g, pApp, B9e, B67, C4n, pYes, pNot, pAnd, pOr, C08, C1y, pOrV, pIfE, pOp, pI_i, C31, pEqD, pNeD, pIsN, C09, B0d, B0e, B25, C1f, C1e, pU_i, pUn, pNil, B7o, pTup, pLst, pCB, C10, C1d, C1c, C1o, B2h, C1m, C2h, B5b, B5a, B1k, B49, C0z, C2a, C19, B63, B7w, B7v, B7x, pC, pdat, C4m, C4l, B7q, C1a, B39, B38, A9b, C4h, C27, B6d, B3z, A8k, A1w, B1z, B35, C1l, B2l, B2w, B2v, B2x, A7r, B69, B72, B68, B71, pFor, B7p, A7b, O5, SV.lent, A86, C05, C4i, pSlL, C1v, C1z, List.map_cons, List.map_nil, List.replicate_succ, List.replicate_zero, List.cons_append, List.nil_append, List.getElem?_cons_zero, List.getElem?_cons_succ, List.set_cons_zero, List.set_cons_succ, List.length_cons, List.length_nil, C1q, C1p, C32, Option.bind_some, Option.bind_none, Option.map_some, Option.join_some, B7k, B7j, B8n, B83, B82, C2t, C3k, A4y, B4s, B8q, decide_eq_true_eq, Bool.not_eq_true', decide_eq_false_iff_not, ite_not, true_and, and_true, reduceIte, Nat.zero_le, Nat.reduceAdd, Nat.reduceLeDiff, Nat.reduceSub, Int.zero_add, B2k, B2j, List.length_map, B44, B5c, B8m, C2w, C20, C2z, C2x, C2y, Bool.true_eq_false, Bool.false_eq_true, reduceCtorEq, Bool.not_true, Bool.not_false, decide_true, decide_false, C0y, C18, B7m, B8b, pLsN, pLsC, B7e, B77, B76, B78, eq_self, B80, B65, B7z, B7y, C0x, C4k, C4j, C01, C2c, C2d, B4a, C00, C2b, B6c, B27, pIn, C4g, C1j, C1g, C1i, C1k, C1h, B7i, B7h, C02, B4b, pIdx, B7c, pSlT, B7g, B79, pPth, pBr, pMuV, C36, B36, pA2, C4a, pC2, pMu, C11, B4c, A89, B95, Z4, pDk0, pDIn, C4b, C4c, B7n, C28, A9a, B3f, B5r, pPr0, pPr, B8k, C1t, C07, C1n])
set_option genInjectivity false
set_option genSizeOfSpec false
structure Adr where
 a_c1:Addr
 d_c1:FuncData
 a_b1:Addr
 d_b1:FuncData
 a_aa:Addr
 d_aa:FuncData
 a_c0:Addr
 d_c0:FuncData
 a_e5:Addr
 d_e5:FuncData
 a_e0:Addr
 d_e0:FuncData
 a_c2:Addr
 d_c2:FuncData
 a_d5:Addr
 d_d5:FuncData
 a_d3:Addr
 d_d3:FuncData
 a_c4:Addr
 d_c4:FuncData
 a_e1:Addr
 d_e1:FuncData
 a_a8:Addr
 d_a8:FuncData
 a_b0:Addr
 d_b0:FuncData
 a_a3:Addr
 d_a3:FuncData
 a_a7:Addr
 d_a7:FuncData
 a_b2:Addr
 d_b2:FuncData
 a_e2:Addr
 d_e2:FuncData
 a_be:Addr
 d_be:FuncData
 a_d7:Addr
 d_d7:FuncData
 a_c5:Addr
 d_c5:FuncData
 a_b3:Addr
 d_b3:FuncData
 a_b9:Addr
 d_b9:FuncData
 a_b8:Addr
 d_b8:FuncData
 a_d4:Addr
 d_d4:FuncData
 a_a2:Addr
 d_a2:FuncData
 a_df:Addr
 d_df:FuncData
 a_af:Addr
 d_af:FuncData
 a_ac:Addr
 d_ac:FuncData
 a_bd:Addr
 d_bd:FuncData
 a_bc:Addr
 d_bc:FuncData
 a_ad:Addr
 d_ad:FuncData
 a_d6:Addr
 d_d6:FuncData
 a_a6:Addr
 d_a6:FuncData
 a_de:Addr
 d_de:FuncData
 a_b5:Addr
 d_b5:FuncData
 a_ae:Addr
 d_ae:FuncData
 a_a0:Addr
 d_a0:FuncData
 a_ab:Addr
 d_ab:FuncData
 a_a4:Addr
 d_a4:FuncData
 a_a5:Addr
 d_a5:FuncData
 a_ba:Addr
 d_ba:FuncData
 a_b7:Addr
 d_b7:FuncData
 a_e4:Addr
 d_e4:FuncData
 a_b4:Addr
 d_b4:FuncData
 a_c3:Addr
 d_c3:FuncData
 a_c6:Addr
 d_c6:FuncData
 a_db:Addr
 d_db:FuncData
 a_e3:Addr
 d_e3:FuncData
 a_d9:Addr
 d_d9:FuncData
 a_ca:Addr
 d_ca:FuncData
 a_d1:Addr
 d_d1:FuncData
 a_d2:Addr
 d_d2:FuncData
 a_bb:Addr
 d_bb:FuncData
 a_cc:Addr
 d_cc:FuncData
 a_cf:Addr
 d_cf:FuncData
 a_dd:Addr
 d_dd:FuncData
 a_da:Addr
 d_da:FuncData
 a_cd:Addr
 d_cd:FuncData
 a_c8:Addr
 d_c8:FuncData
 a_c9:Addr
 d_c9:FuncData
 a_dc:Addr
 d_dc:FuncData
 a_b6:Addr
 d_b6:FuncData
 a_d0:Addr
 d_d0:FuncData
 a_a9:Addr
 d_a9:FuncData
 a_d8:Addr
 d_d8:FuncData
 a_c7:Addr
 d_c7:FuncData
 a_a1:Addr
 d_a1:FuncData
 a_ce:Addr
 d_ce:FuncData
 a_e6:Addr
 d_e6:FuncData
 k_NOUGHT:Addr
 k_ONE:Addr
structure TxB (K:PySem.W.Frag) (a_c1 a_b1 a_aa a_c0 a_e5 a_e0 a_c2 a_d5 a_d3 a_c4 a_e1 a_a8 a_b0 a_a3 a_a7 a_b2 a_e2 a_be a_d7 a_c5 a_b3 a_b9 a_b8 a_d4 a_a2 a_df a_af a_ac a_bd a_bc a_ad a_d6 a_a6 a_de a_b5 a_ae a_a0 a_ab a_a4 a_a5 a_ba a_b7 a_e4 a_b4 a_c3 a_c6 a_db a_e3 a_d9 a_ca a_d1 a_d2 a_bb a_cc a_cf a_dd a_da a_cd a_c8 a_c9 a_dc a_b6 a_d0 a_a9 a_d8 a_c7 a_a1 a_ce k_NOUGHT k_ONE:Addr) (d_c1 d_b1 d_aa d_c0 d_e5 d_e0 d_c2 d_d5 d_d3 d_c4 d_e1 d_a8 d_b0 d_a3 d_a7 d_b2 d_e2 d_be d_d7 d_c5 d_b3 d_b9 d_b8 d_d4 d_a2 d_df d_af d_ac d_bd d_bc d_ad d_d6 d_a6 d_de d_b5 d_ae d_a0 d_ab d_a4 d_a5 d_ba d_b7 d_e4 d_b4 d_c3 d_c6 d_db d_e3 d_d9 d_ca d_d1 d_d2 d_bb d_cc d_cf d_dd d_da d_cd d_c8 d_c9 d_dc d_b6 d_d0 d_a9 d_d8 d_c7 d_a1 d_ce:FuncData):Prop where
 g_c1:PySem.W.nsIn K mainGlobals "is_whole"=some (some (.ref a_c1))
 F_c1:Fun K "is_whole" "is_whole" s_c1 a_c1 d_c1
 g_b1:PySem.W.nsIn K mainGlobals "is_tuple_of"=some (some (.ref a_b1))
 F_b1:Fun K "is_tuple_of" "is_tuple_of" s_b1 a_b1 d_b1
 g_aa:PySem.W.nsIn K mainGlobals "common_part"=some (some (.ref a_aa))
 F_aa:Fun K "common_part" "common_part" s_aa a_aa d_aa
 g_c0:PySem.W.nsIn K mainGlobals "is_ratio"=some (some (.ref a_c0))
 F_c0:Fun K "is_ratio" "is_ratio" s_c0 a_c0 d_c0
 g_e5:PySem.W.nsIn K mainGlobals "plus"=some (some (.ref a_e5))
 F_e5:Fun K "plus" "plus" s_e5 a_e5 d_e5
 g_e0:PySem.W.nsIn K mainGlobals "minus"=some (some (.ref a_e0))
 F_e0:Fun K "minus" "minus" s_e0 a_e0 d_e0
 g_c2:PySem.W.nsIn K mainGlobals "product"=some (some (.ref a_c2))
 F_c2:Fun K "product" "product" s_c2 a_c2 d_c2
 g_d5:PySem.W.nsIn K mainGlobals "parted"=some (some (.ref a_d5))
 F_d5:Fun K "parted" "parted" s_d5 a_d5 d_d5
 g_d3:PySem.W.nsIn K mainGlobals "is_less"=some (some (.ref a_d3))
 F_d3:Fun K "is_less" "is_less" s_d3 a_d3 d_d3
 g_c4:PySem.W.nsIn K mainGlobals "smaller"=some (some (.ref a_c4))
 F_c4:Fun K "smaller" "smaller" s_c4 a_c4 d_c4
 g_e1:PySem.W.nsIn K mainGlobals "sum_of"=some (some (.ref a_e1))
 F_e1:Fun K "sum_of" "sum_of" s_e1 a_e1 d_e1
 g_a8:PySem.W.nsIn K mainGlobals "rate_between"=some (some (.ref a_a8))
 F_a8:Fun K "rate_between" "rate_between" s_a8 a_a8 d_a8
 g_b0:PySem.W.nsIn K mainGlobals "is_offered"=some (some (.ref a_b0))
 F_b0:Fun K "is_offered" "is_offered" s_b0 a_b0 d_b0
 g_a3:PySem.W.nsIn K mainGlobals "corners_above"=some (some (.ref a_a3))
 F_a3:Fun K "corners_above" "corners_above" s_a3 a_a3 d_a3
 g_a7:PySem.W.nsIn K mainGlobals "price_of_time"=some (some (.ref a_a7))
 F_a7:Fun K "price_of_time" "price_of_time" s_a7 a_a7 d_a7
 g_b2:PySem.W.nsIn K mainGlobals "least_with"=some (some (.ref a_b2))
 F_b2:Fun K "least_with" "least_with" s_b2 a_b2 d_b2
 g_e2:PySem.W.nsIn K mainGlobals "timed"=some (some (.ref a_e2))
 F_e2:Fun K "timed" "timed" s_e2 a_e2 d_e2
 g_be:PySem.W.nsIn K mainGlobals "hold_way"=some (some (.ref a_be))
 F_be:Fun K "hold_way" "hold_way" s_be a_be d_be
 g_d7:PySem.W.nsIn K mainGlobals "ways_of"=some (some (.ref a_d7))
 F_d7:Fun K "ways_of" "ways_of" s_d7 a_d7 d_d7
 g_c5:PySem.W.nsIn K mainGlobals "stretch"=some (some (.ref a_c5))
 F_c5:Fun K "stretch" "stretch" s_c5 a_c5 d_c5
 g_b3:PySem.W.nsIn K mainGlobals "ring_paper"=some (some (.ref a_b3))
 F_b3:Fun K "ring_paper" "ring_paper" s_b3 a_b3 d_b3
 g_b9:PySem.W.nsIn K mainGlobals "farthest"=some (some (.ref a_b9))
 F_b9:Fun K "farthest" "farthest" s_b9 a_b9 d_b9
 g_b8:PySem.W.nsIn K mainGlobals "earliest"=some (some (.ref a_b8))
 F_b8:Fun K "earliest" "earliest" s_b8 a_b8 d_b8
 g_d4:PySem.W.nsIn K mainGlobals "latest"=some (some (.ref a_d4))
 F_d4:Fun K "latest" "latest" s_d4 a_d4 d_d4
 g_a2:PySem.W.nsIn K mainGlobals "is_number_below"=some (some (.ref a_a2))
 F_a2:Fun K "is_number_below" "is_number_below" s_a2 a_a2 d_a2
 g_df:PySem.W.nsIn K mainGlobals "is_arc"=some (some (.ref a_df))
 F_df:Fun K "is_arc" "is_arc" s_df a_df d_df
 g_af:PySem.W.nsIn K mainGlobals "is_carried"=some (some (.ref a_af))
 F_af:Fun K "is_carried" "is_carried" s_af a_af d_af
 g_ac:PySem.W.nsIn K mainGlobals "look_at_form"=some (some (.ref a_ac))
 F_ac:Fun K "look_at_form" "look_at_form" s_ac a_ac d_ac
 g_bd:PySem.W.nsIn K mainGlobals "flows_of"=some (some (.ref a_bd))
 F_bd:Fun K "flows_of" "flows_of" s_bd a_bd d_bd
 g_bc:PySem.W.nsIn K mainGlobals "add_hold"=some (some (.ref a_bc))
 F_bc:Fun K "add_hold" "add_hold" s_bc a_bc d_bc
 g_ad:PySem.W.nsIn K mainGlobals "amounts_of"=some (some (.ref a_ad))
 F_ad:Fun K "amounts_of" "amounts_of" s_ad a_ad d_ad
 g_d6:PySem.W.nsIn K mainGlobals "rate_of"=some (some (.ref a_d6))
 F_d6:Fun K "rate_of" "rate_of" s_d6 a_d6 d_d6
 g_a6:PySem.W.nsIn K mainGlobals "look_at_paper"=some (some (.ref a_a6))
 F_a6:Fun K "look_at_paper" "look_at_paper" s_a6 a_a6 d_a6
 g_de:PySem.W.nsIn K mainGlobals "end_of"=some (some (.ref a_de))
 F_de:Fun K "end_of" "end_of" s_de a_de d_de
 g_b5:PySem.W.nsIn K mainGlobals "wait_slack"=some (some (.ref a_b5))
 F_b5:Fun K "wait_slack" "wait_slack" s_b5 a_b5 d_b5
 g_ae:PySem.W.nsIn K mainGlobals "hold_slack"=some (some (.ref a_ae))
 F_ae:Fun K "hold_slack" "hold_slack" s_ae a_ae d_ae
 g_a0:PySem.W.nsIn K mainGlobals "takes_one_corner"=some (some (.ref a_a0))
 F_a0:Fun K "takes_one_corner" "takes_one_corner" s_a0 a_a0 d_a0
 g_ab:PySem.W.nsIn K mainGlobals "first_below"=some (some (.ref a_ab))
 F_ab:Fun K "first_below" "first_below" s_ab a_ab d_ab
 g_a4:PySem.W.nsIn K mainGlobals "first_untaken"=some (some (.ref a_a4))
 F_a4:Fun K "first_untaken" "first_untaken" s_a4 a_a4 d_a4
 g_a5:PySem.W.nsIn K mainGlobals "first_broken"=some (some (.ref a_a5))
 F_a5:Fun K "first_broken" "first_broken" s_a5 a_a5 d_a5
 g_ba:PySem.W.nsIn K mainGlobals "weight_of"=some (some (.ref a_ba))
 F_ba:Fun K "weight_of" "weight_of" s_ba a_ba d_ba
 g_b7:PySem.W.nsIn K mainGlobals "claims_of"=some (some (.ref a_b7))
 F_b7:Fun K "claims_of" "claims_of" s_b7 a_b7 d_b7
 g_e4:PySem.W.nsIn K mainGlobals "bars"=some (some (.ref a_e4))
 F_e4:Fun K "bars" "bars" s_e4 a_e4 d_e4
 g_b4:PySem.W.nsIn K mainGlobals "slip_alone"=some (some (.ref a_b4))
 F_b4:Fun K "slip_alone" "slip_alone" s_b4 a_b4 d_b4
 g_c3:PySem.W.nsIn K mainGlobals "slips_of"=some (some (.ref a_c3))
 F_c3:Fun K "slips_of" "slips_of" s_c3 a_c3 d_c3
 g_c6:PySem.W.nsIn K mainGlobals "_law_begun"=some (some (.ref a_c6))
 F_c6:Fun K "_law_begun" "_law_begun" s_c6 a_c6 d_c6
 g_db:PySem.W.nsIn K mainGlobals "_law_take"=some (some (.ref a_db))
 F_db:Fun K "_law_take" "_law_take" s_db a_db d_db
 g_e3:PySem.W.nsIn K mainGlobals "_law_low"=some (some (.ref a_e3))
 F_e3:Fun K "_law_low" "_law_low" s_e3 a_e3 d_e3
 g_d9:PySem.W.nsIn K mainGlobals "_law_plus"=some (some (.ref a_d9))
 F_d9:Fun K "_law_plus" "_law_plus" s_d9 a_d9 d_d9
 g_ca:PySem.W.nsIn K mainGlobals "_law_minus"=some (some (.ref a_ca))
 F_ca:Fun K "_law_minus" "_law_minus" s_ca a_ca d_ca
 g_d1:PySem.W.nsIn K mainGlobals "_law_times"=some (some (.ref a_d1))
 F_d1:Fun K "_law_times" "_law_times" s_d1 a_d1 d_d1
 g_d2:PySem.W.nsIn K mainGlobals "_law_under"=some (some (.ref a_d2))
 F_d2:Fun K "_law_under" "_law_under" s_d2 a_d2 d_d2
 g_bb:PySem.W.nsIn K mainGlobals "_law_amount"=some (some (.ref a_bb))
 F_bb:Fun K "_law_amount" "_law_amount" s_bb a_bb d_bb
 g_cc:PySem.W.nsIn K mainGlobals "_law_offer"=some (some (.ref a_cc))
 F_cc:Fun K "_law_offer" "_law_offer" s_cc a_cc d_cc
 g_cf:PySem.W.nsIn K mainGlobals "_law_shape"=some (some (.ref a_cf))
 F_cf:Fun K "_law_shape" "_law_shape" s_cf a_cf d_cf
 g_dd:PySem.W.nsIn K mainGlobals "_law_walk"=some (some (.ref a_dd))
 F_dd:Fun K "_law_walk" "_law_walk" s_dd a_dd d_dd
 g_da:PySem.W.nsIn K mainGlobals "_law_rate"=some (some (.ref a_da))
 F_da:Fun K "_law_rate" "_law_rate" s_da a_da d_da
 g_cd:PySem.W.nsIn K mainGlobals "_law_paper"=some (some (.ref a_cd))
 F_cd:Fun K "_law_paper" "_law_paper" s_cd a_cd d_cd
 g_c8:PySem.W.nsIn K mainGlobals "_law_flows"=some (some (.ref a_c8))
 F_c8:Fun K "_law_flows" "_law_flows" s_c8 a_c8 d_c8
 g_c9:PySem.W.nsIn K mainGlobals "_law_least"=some (some (.ref a_c9))
 F_c9:Fun K "_law_least" "_law_least" s_c9 a_c9 d_c9
 g_dc:PySem.W.nsIn K mainGlobals "_law_time"=some (some (.ref a_dc))
 F_dc:Fun K "_law_time" "_law_time" s_dc a_dc d_dc
 g_b6:PySem.W.nsIn K mainGlobals "_law_planned"=some (some (.ref a_b6))
 F_b6:Fun K "_law_planned" "_law_planned" s_b6 a_b6 d_b6
 g_d0:PySem.W.nsIn K mainGlobals "_law_slack"=some (some (.ref a_d0))
 F_d0:Fun K "_law_slack" "_law_slack" s_d0 a_d0 d_d0
 g_a9:PySem.W.nsIn K mainGlobals "_law_latest_end"=some (some (.ref a_a9))
 F_a9:Fun K "_law_latest_end" "_law_latest_end" s_a9 a_a9 d_a9
 g_d8:PySem.W.nsIn K mainGlobals "_law_copy"=some (some (.ref a_d8))
 F_d8:Fun K "_law_copy" "_law_copy" s_d8 a_d8 d_d8
 g_c7:PySem.W.nsIn K mainGlobals "_law_drawn"=some (some (.ref a_c7))
 F_c7:Fun K "_law_drawn" "_law_drawn" s_c7 a_c7 d_c7
 g_a1:PySem.W.nsIn K mainGlobals "_law_soonest_whole"=some (some (.ref a_a1))
 F_a1:Fun K "_law_soonest_whole" "_law_soonest_whole" s_a1 a_a1 d_a1
 g_ce:PySem.W.nsIn K mainGlobals "_law_round"=some (some (.ref a_ce))
 F_ce:Fun K "_law_round" "_law_round" s_ce a_ce d_ce
 gc_NOUGHT:PySem.W.nsIn K mainGlobals "NOUGHT"=some (some (.ref k_NOUGHT))
 gc_ONE:PySem.W.nsIn K mainGlobals "ONE"=some (some (.ref k_ONE))
 z_abs:PySem.W.nsIn K mainGlobals "abs"=some none
 z_all:PySem.W.nsIn K mainGlobals "all"=some none
 z_bool:PySem.W.nsIn K mainGlobals "bool"=some none
 z_enumerate:PySem.W.nsIn K mainGlobals "enumerate"=some none
 z_int:PySem.W.nsIn K mainGlobals "int"=some none
 z_isinstance:PySem.W.nsIn K mainGlobals "isinstance"=some none
 z_len:PySem.W.nsIn K mainGlobals "len"=some none
 z_list:PySem.W.nsIn K mainGlobals "list"=some none
 z_max:PySem.W.nsIn K mainGlobals "max"=some none
 z_min:PySem.W.nsIn K mainGlobals "min"=some none
 z_range:PySem.W.nsIn K mainGlobals "range"=some none
 z_str:PySem.W.nsIn K mainGlobals "str"=some none
 z_tuple:PySem.W.nsIn K mainGlobals "tuple"=some none
 z_zip:PySem.W.nsIn K mainGlobals "zip"=some none
structure Txt (K:PySem.W.Frag) (mg:Str->Option Value) (D:Adr):Prop where
 B:TxB K D.a_c1 D.a_b1 D.a_aa D.a_c0 D.a_e5 D.a_e0 D.a_c2 D.a_d5 D.a_d3 D.a_c4 D.a_e1 D.a_a8 D.a_b0 D.a_a3 D.a_a7 D.a_b2 D.a_e2 D.a_be D.a_d7 D.a_c5 D.a_b3 D.a_b9 D.a_b8 D.a_d4 D.a_a2 D.a_df D.a_af D.a_ac D.a_bd D.a_bc D.a_ad D.a_d6 D.a_a6 D.a_de D.a_b5 D.a_ae D.a_a0 D.a_ab D.a_a4 D.a_a5 D.a_ba D.a_b7 D.a_e4 D.a_b4 D.a_c3 D.a_c6 D.a_db D.a_e3 D.a_d9 D.a_ca D.a_d1 D.a_d2 D.a_bb D.a_cc D.a_cf D.a_dd D.a_da D.a_cd D.a_c8 D.a_c9 D.a_dc D.a_b6 D.a_d0 D.a_a9 D.a_d8 D.a_c7 D.a_a1 D.a_ce D.k_NOUGHT D.k_ONE D.d_c1 D.d_b1 D.d_aa D.d_c0 D.d_e5 D.d_e0 D.d_c2 D.d_d5 D.d_d3 D.d_c4 D.d_e1 D.d_a8 D.d_b0 D.d_a3 D.d_a7 D.d_b2 D.d_e2 D.d_be D.d_d7 D.d_c5 D.d_b3 D.d_b9 D.d_b8 D.d_d4 D.d_a2 D.d_df D.d_af D.d_ac D.d_bd D.d_bc D.d_ad D.d_d6 D.d_a6 D.d_de D.d_b5 D.d_ae D.d_a0 D.d_ab D.d_a4 D.d_a5 D.d_ba D.d_b7 D.d_e4 D.d_b4 D.d_c3 D.d_c6 D.d_db D.d_e3 D.d_d9 D.d_ca D.d_d1 D.d_d2 D.d_bb D.d_cc D.d_cf D.d_dd D.d_da D.d_cd D.d_c8 D.d_c9 D.d_dc D.d_b6 D.d_d0 D.d_a9 D.d_d8 D.d_c7 D.d_a1 D.d_ce
 m_c1:mg "is_whole"=some (.ref D.a_c1)
 m_b1:mg "is_tuple_of"=some (.ref D.a_b1)
 m_aa:mg "common_part"=some (.ref D.a_aa)
 m_c0:mg "is_ratio"=some (.ref D.a_c0)
 m_e5:mg "plus"=some (.ref D.a_e5)
 m_e0:mg "minus"=some (.ref D.a_e0)
 m_c2:mg "product"=some (.ref D.a_c2)
 m_d5:mg "parted"=some (.ref D.a_d5)
 m_d3:mg "is_less"=some (.ref D.a_d3)
 m_c4:mg "smaller"=some (.ref D.a_c4)
 m_e1:mg "sum_of"=some (.ref D.a_e1)
 m_a8:mg "rate_between"=some (.ref D.a_a8)
 m_b0:mg "is_offered"=some (.ref D.a_b0)
 m_a3:mg "corners_above"=some (.ref D.a_a3)
 m_a7:mg "price_of_time"=some (.ref D.a_a7)
 m_b2:mg "least_with"=some (.ref D.a_b2)
 m_e2:mg "timed"=some (.ref D.a_e2)
 m_be:mg "hold_way"=some (.ref D.a_be)
 m_d7:mg "ways_of"=some (.ref D.a_d7)
 m_c5:mg "stretch"=some (.ref D.a_c5)
 m_b3:mg "ring_paper"=some (.ref D.a_b3)
 m_b9:mg "farthest"=some (.ref D.a_b9)
 m_b8:mg "earliest"=some (.ref D.a_b8)
 m_d4:mg "latest"=some (.ref D.a_d4)
 m_a2:mg "is_number_below"=some (.ref D.a_a2)
 m_df:mg "is_arc"=some (.ref D.a_df)
 m_af:mg "is_carried"=some (.ref D.a_af)
 m_ac:mg "look_at_form"=some (.ref D.a_ac)
 m_bd:mg "flows_of"=some (.ref D.a_bd)
 m_bc:mg "add_hold"=some (.ref D.a_bc)
 m_ad:mg "amounts_of"=some (.ref D.a_ad)
 m_d6:mg "rate_of"=some (.ref D.a_d6)
 m_a6:mg "look_at_paper"=some (.ref D.a_a6)
 m_de:mg "end_of"=some (.ref D.a_de)
 m_b5:mg "wait_slack"=some (.ref D.a_b5)
 m_ae:mg "hold_slack"=some (.ref D.a_ae)
 m_a0:mg "takes_one_corner"=some (.ref D.a_a0)
 m_ab:mg "first_below"=some (.ref D.a_ab)
 m_a4:mg "first_untaken"=some (.ref D.a_a4)
 m_a5:mg "first_broken"=some (.ref D.a_a5)
 m_ba:mg "weight_of"=some (.ref D.a_ba)
 m_b7:mg "claims_of"=some (.ref D.a_b7)
 m_e4:mg "bars"=some (.ref D.a_e4)
 m_b4:mg "slip_alone"=some (.ref D.a_b4)
 m_c3:mg "slips_of"=some (.ref D.a_c3)
 m_c6:mg "_law_begun"=some (.ref D.a_c6)
 m_db:mg "_law_take"=some (.ref D.a_db)
 m_e3:mg "_law_low"=some (.ref D.a_e3)
 m_d9:mg "_law_plus"=some (.ref D.a_d9)
 m_ca:mg "_law_minus"=some (.ref D.a_ca)
 m_d1:mg "_law_times"=some (.ref D.a_d1)
 m_d2:mg "_law_under"=some (.ref D.a_d2)
 m_bb:mg "_law_amount"=some (.ref D.a_bb)
 m_cc:mg "_law_offer"=some (.ref D.a_cc)
 m_cf:mg "_law_shape"=some (.ref D.a_cf)
 m_dd:mg "_law_walk"=some (.ref D.a_dd)
 m_da:mg "_law_rate"=some (.ref D.a_da)
 m_cd:mg "_law_paper"=some (.ref D.a_cd)
 m_c8:mg "_law_flows"=some (.ref D.a_c8)
 m_c9:mg "_law_least"=some (.ref D.a_c9)
 m_dc:mg "_law_time"=some (.ref D.a_dc)
 m_b6:mg "_law_planned"=some (.ref D.a_b6)
 m_d0:mg "_law_slack"=some (.ref D.a_d0)
 m_a9:mg "_law_latest_end"=some (.ref D.a_a9)
 m_d8:mg "_law_copy"=some (.ref D.a_d8)
 m_c7:mg "_law_drawn"=some (.ref D.a_c7)
 m_a1:mg "_law_soonest_whole"=some (.ref D.a_a1)
 m_ce:mg "_law_round"=some (.ref D.a_ce)
 F_e6:Fun K "law" "law" s_e6 D.a_e6 D.d_e6
 m_e6:mg "law"=some (.ref D.a_e6)
 c_NOUGHT:mg "NOUGHT"=some (.ref D.k_NOUGHT)
 c_ONE:mg "ONE"=some (.ref D.k_ONE)
 z_abs:mg "abs"=none
 z_all:mg "all"=none
 z_bool:mg "bool"=none
 z_enumerate:mg "enumerate"=none
 z_int:mg "int"=none
 z_isinstance:mg "isinstance"=none
 z_len:mg "len"=none
 z_list:mg "list"=none
 z_max:mg "max"=none
 z_min:mg "min"=none
 z_range:mg "range"=none
 z_str:mg "str"=none
 z_tuple:mg "tuple"=none
 z_zip:mg "zip"=none
 c2_NOUGHT:Pu.GD K D.k_NOUGHT (dq 0)
 c2_ONE:Pu.GD K D.k_ONE (dq 1)
abbrev sp_law:=B5t
theorem scI {N P:List Str} {sc:Scope} (a:sc.kind=.function:=by rfl) (b:sc.isCoroutine=false:=by rfl) (c:sc.isGenerator=false:=by rfl) (d:N.Nodup:=by decide +kernel) (e:N.take P.length=P:=by rfl) (f:∀ x ∈ P,sc.names.lookup x=some .local\/sc.names.lookup x=some .cell:=by decide +kernel) (g:∀ y ∈ sc.names,y.2≠.free:=by decide +kernel):FnScope N P sc:=⟨a,b,c,d,e,f,g⟩
structure KCl (K:PySem.W.Frag) (mg:Str->Option Value) (x:Str) (f:Addr) (fd:FuncData) (ps:List Str):Prop where
 m:mg x=some (.ref f)
 k:PySem.W.keepIn K (.ref f)=true
 b:Binds K fd ps []
theorem qcK {X:Cx} {k:Nat} {f:Addr} {fd:FuncData} {ps:List Str} {sp:Sp} {x:Str} {p pos:Pos} {e:Expr} {es:List Expr} {t:TA} (F:FnOk X.prog X.w X.K X.mg X.base CX0 k f fd ps sp) (hr:Room k X.A) (c:KCl X.K X.mg x f fd ps) (ha:QA X (e :: es) t) (hg:Gl X x:=by rfl) (hdb:(x == ("__debug__":Str))=false:=by decide) (he:starEach (e :: es) X.env=(false,eval e X.env) :: starEach es X.env:=by rfl) (hpl:(backTo pos (starEach es X.env)).any (·.1)=false:=by rfl):QE X (.Call (.Name x p) (e :: es) [] pos) (A4b sp [] E0 t):=B1y F hr hg c.m c.k c.b .nil C30 ha hdb he hpl
theorem qgn {X:Cx} (i:Nat) {P:List Str} {sc:Scope} {x:Str} {pos:Pos} (S:FnScope X.N P sc) (hi:X.N[i]?=some x:=by rfl) (hx:Loc X.env.scope x:=by exact Or.inl rfl) (hf:X.fn x=true\/X.env.scope.names.lookup x=some .local:=by first | exact .inl rfl | exact .inr rfl | assumption):QG X (.Name x pos) (U4 i):=X5 S.nd hi hx hf
theorem qgc {X:Cx} (i:Nat) (N:List Str) {x:Str} {pos:Pos} (hN:X.N=N:=by exact rfl) (hd:N.Nodup:=by decide +kernel) (hi:X.N[i]?=some x:=by exact rfl) (hx:Loc X.env.scope x:=by exact Or.inl rfl) (hf:X.fn x=true\/X.env.scope.names.lookup x=some .local:=by exact Or.inr rfl):QG X (.Name x pos) (U4 i):=X5 (hN ▸ hd) hi hx hf
theorem qst {X:Cx} (i:Nat) {P:List Str} {sc:Scope} {x:Str} {e:Expr} {te:TE} {pos pos':Pos} (S:FnScope X.N P sc) (he:QE X e te) (hi:X.N[i]?=some x:=by rfl) (hx:Loc X.env.scope x:=by exact Or.inl rfl) (hs:swapsWith e (some (.Name x pos')) pos.line X.env=pure false:=by rfl) (hf:X.fn x=true\/X.env.scope.names.lookup x=some .local:=by first | exact .inl rfl | exact .inr rfl | assumption):QS X (.Assign [.Name x pos'] e pos) (tAsg te (U4 i)):=O7 S.nd hi hx he hs hf
theorem qln (K:PySem.W.Frag) {X:Cx} {p pos:Pos} {e:Expr} {te:TE} (hm:X.mg "len"=none) (he:QE X e te) (h:X.K=K:=by rfl) (hg:Gl X "len":=by rfl) (hs:starEach [e] X.env=(false,eval e X.env) :: starEach [] X.env:=by rfl) (hpl:(backTo pos (starEach [] X.env)).any (·.1)=false:=by rfl):QE X (.Call (.Name "len" p) [e] [] pos) (tCB (B1u K) (O1 te tNil)):=J5 (A7n h) hg hm PySem.boot_len (A0 he A3 hs) (by decide) (by decide) hs hpl
theorem qix (K:PySem.W.Frag) {X:Cx} {a b:Expr} {ta tb:TE} {pos:Pos} (ha:QE X a ta) (hb:QE X b tb) (h:X.K=K:=by rfl) (hs:A5d b:=by exact fun _ _=>rfl):QE X (.Subscript a b pos) (tOp (rIx K) ta tb):=C0c (B8p h) ha hb hs
theorem _root_.L2.Fun.b1 {K:PySem.W.Frag} {x q:Str} {st:Stmt} {f:Addr} {fd:FuncData} {a:Str} (F:L2.Fun K x q st f fd) (h:∀ (kV doc pm:Value) (an:Option Addr) (cdv ct u:Value),bindArgs (PySem.W.fnOf x q (N5 st) (L9 st) (A8 st) .none kV doc pm an cdv ct) ⟨[u],[]⟩=pure [(a,u)]:=by intros; rfl):Binds K fd [a] []:=F.binds (ps:=[a]) fun _ _ _ _ _ _ us hl=>by obtain ⟨_,rfl⟩:=us1 hl; exact h ..
theorem _root_.L2.Fun.b2 {K:PySem.W.Frag} {x q:Str} {st:Stmt} {f:Addr} {fd:FuncData} {a b:Str} (F:L2.Fun K x q st f fd) (h:∀ (kV doc pm:Value) (an:Option Addr) (cdv ct u v:Value),bindArgs (PySem.W.fnOf x q (N5 st) (L9 st) (A8 st) .none kV doc pm an cdv ct) ⟨[u,v],[]⟩=pure [(a,u),(b,v)]:=by intros; rfl):Binds K fd [a,b] []:=F.binds (ps:=[a,b]) fun _ _ _ _ _ _ us hl=>by obtain ⟨_,_,rfl⟩:=us2 hl; exact h ..
theorem _root_.L2.Fun.b3 {K:PySem.W.Frag} {x q:Str} {st:Stmt} {f:Addr} {fd:FuncData} {a b c:Str} (F:L2.Fun K x q st f fd) (h:∀ (kV doc pm:Value) (an:Option Addr) (cdv ct u v w:Value),bindArgs (PySem.W.fnOf x q (N5 st) (L9 st) (A8 st) .none kV doc pm an cdv ct) ⟨[u,v,w],[]⟩=pure [(a,u),(b,v),(c,w)]:=by intros; rfl):Binds K fd [a,b,c] []:=F.binds (ps:=[a,b,c]) fun _ _ _ _ _ _ us hl=>by obtain ⟨_,_,_,rfl⟩:=us3 hl; exact h ..
theorem _root_.L2.Fun.b4 {K:PySem.W.Frag} {x q:Str} {st:Stmt} {f:Addr} {fd:FuncData} {a b c d:Str} (F:L2.Fun K x q st f fd) (h:∀ (kV doc pm:Value) (an:Option Addr) (cdv ct u v w x1:Value),bindArgs (PySem.W.fnOf x q (N5 st) (L9 st) (A8 st) .none kV doc pm an cdv ct) ⟨[u,v,w,x1],[]⟩=pure [(a,u),(b,v),(c,w),(d,x1)]:=by intros; rfl):Binds K fd [a,b,c,d] []:=F.binds (ps:=[a,b,c,d]) fun _ _ _ _ _ _ us hl=>by obtain ⟨_,_,_,_,rfl⟩:=us4 hl; exact h ..
def Zz:=@Pu.spOf.len
def Zf:=@PassesOwn.never
section
variable {K:PySem.W.Frag} {mg:Str->Option Value} {D:Adr}
theorem sc_c1:FnScope ["thing"] ["thing"] (A8 s_c1):=scI
theorem A0m (T:Txt K mg D):KCl K mg "is_whole" D.a_c1 D.d_c1 ["thing"]:=⟨T.m_c1,T.B.F_c1.kp,T.B.F_c1.b1⟩
theorem sc_b1:FnScope ["thing","many"] ["thing","many"] (A8 s_b1):=scI
theorem S6 (T:Txt K mg D):KCl K mg "is_tuple_of" D.a_b1 D.d_b1 ["thing","many"]:=⟨T.m_b1,T.B.F_b1.kp,T.B.F_b1.b2⟩
theorem sc_aa:FnScope ["one","other"] ["one","other"] (A8 s_aa):=scI
theorem L6 (T:Txt K mg D):KCl K mg "common_part" D.a_aa D.d_aa ["one","other"]:=⟨T.m_aa,T.B.F_aa.kp,T.B.F_aa.b2⟩
theorem sc_c0:FnScope ["thing","top","bottom"] ["thing"] (A8 s_c0):=scI
theorem B1f (T:Txt K mg D):KCl K mg "is_ratio" D.a_c0 D.d_c0 ["thing"]:=⟨T.m_c0,T.B.F_c0.kp,T.B.F_c0.b1⟩
theorem sc_e5:FnScope ["one","other","shared","mine","theirs","top","rest"] ["one","other"] (A8 s_e5):=scI
theorem K7 (T:Txt K mg D):KCl K mg "plus" D.a_e5 D.d_e5 ["one","other"]:=⟨T.m_e5,T.B.F_e5.kp,T.B.F_e5.b2⟩
theorem sc_e0:FnScope ["one","other"] ["one","other"] (A8 s_e0):=scI
theorem J4 (T:Txt K mg D):KCl K mg "minus" D.a_e0 D.d_e0 ["one","other"]:=⟨T.m_e0,T.B.F_e0.kp,T.B.F_e0.b2⟩
theorem sc_c2:FnScope ["one","other","mine","theirs"] ["one","other"] (A8 s_c2):=scI
theorem N6 (T:Txt K mg D):KCl K mg "product" D.a_c2 D.d_c2 ["one","other"]:=⟨T.m_c2,T.B.F_c2.kp,T.B.F_c2.b2⟩
theorem sc_d5:FnScope ["one","other","top","bottom"] ["one","other"] (A8 s_d5):=scI
theorem B3m (T:Txt K mg D):KCl K mg "parted" D.a_d5 D.d_d5 ["one","other"]:=⟨T.m_d5,T.B.F_d5.kp,T.B.F_d5.b2⟩
theorem sc_d3:FnScope ["one","other"] ["one","other"] (A8 s_d3):=scI
theorem M5 (T:Txt K mg D):KCl K mg "is_less" D.a_d3 D.d_d3 ["one","other"]:=⟨T.m_d3,T.B.F_d3.kp,T.B.F_d3.b2⟩
theorem sc_c4:FnScope ["one","other"] ["one","other"] (A8 s_c4):=scI
theorem A0l (T:Txt K mg D):KCl K mg "smaller" D.a_c4 D.d_c4 ["one","other"]:=⟨T.m_c4,T.B.F_c4.kp,T.B.F_c4.b2⟩
theorem sc_e1:FnScope ["some","total","one"] ["some"] (A8 s_e1):=scI
theorem A46 (T:Txt K mg D):KCl K mg "sum_of" D.a_e1 D.d_e1 ["some"]:=⟨T.m_e1,T.B.F_e1.kp,T.B.F_e1.b1⟩
theorem sc_a8:FnScope ["longer","quicker"] ["longer","quicker"] (A8 s_a8):=scI
theorem A2h (T:Txt K mg D):KCl K mg "rate_between" D.a_a8 D.d_a8 ["longer","quicker"]:=⟨T.m_a8,T.B.F_a8.kp,T.B.F_a8.b2⟩
theorem sc_b0:FnScope ["offer","time","kind","corners"] ["offer","time"] (A8 s_b0):=scI
theorem A0n (T:Txt K mg D):KCl K mg "is_offered" D.a_b0 D.d_b0 ["offer","time"]:=⟨T.m_b0,T.B.F_b0.kp,T.B.F_b0.b2⟩
theorem sc_a3:FnScope ["corners","time"] ["corners","time"] (A8 s_a3):=scI
theorem A02 (T:Txt K mg D):KCl K mg "corners_above" D.a_a3 D.d_a3 ["corners","time"]:=⟨T.m_a3,T.B.F_a3.kp,T.B.F_a3.b2⟩
theorem sc_a7:FnScope ["offer","time","corners","at","longer"] ["offer","time"] (A8 s_a7):=scI
theorem A2i (T:Txt K mg D):KCl K mg "price_of_time" D.a_a7 D.d_a7 ["offer","time"]:=⟨T.m_a7,T.B.F_a7.kp,T.B.F_a7.b2⟩
theorem sc_b2:FnScope ["offer","rate","costs","least","cost"] ["offer","rate"] (A8 s_b2):=scI
theorem A49 (T:Txt K mg D):KCl K mg "least_with" D.a_b2 D.d_b2 ["offer","rate"]:=⟨T.m_b2,T.B.F_b2.kp,T.B.F_b2.b2⟩
theorem sc_e2:FnScope ["net","times","works","waits","holds","fixed","name","offer","time"] ["net","times"] (A8 s_e2):=scI
theorem B1c (T:Txt K mg D):KCl K mg "timed" D.a_e2 D.d_e2 ["net","times"]:=⟨T.m_e2,T.B.F_e2.kp,T.B.F_e2.b2⟩
theorem sc_be:FnScope ["hold","times","arc","kind","work","moment","root"] ["hold","times","arc"] (A8 s_be):=scI
theorem B1g (T:Txt K mg D):KCl K mg "hold_way" D.a_be D.d_be ["hold","times","arc"]:=⟨T.m_be,T.B.F_be.kp,T.B.F_be.b3⟩
theorem sc_d7:FnScope ["net","times","whole","root","ways","work","time","at","one","other","lag","hold"] ["net","times","whole"] (A8 s_d7):=scI
theorem A6r (T:Txt K mg D):KCl K mg "ways_of" D.a_d7 D.d_d7 ["net","times","whole"]:=⟨T.m_d7,T.B.F_d7.kp,T.B.F_d7.b3⟩
theorem sc_c5:FnScope ["ways","far","came","moved","way","tail","head","length","arc","reached"] ["ways","far","came"] (A8 s_c5):=scI
theorem B1d (T:Txt K mg D):KCl K mg "stretch" D.a_c5 D.d_c5 ["ways","far","came"]:=⟨T.m_c5,T.B.F_c5.kp,T.B.F_c5.b3⟩
theorem sc_b3:FnScope ["came","moved","place","step","paper","at","tail","head","length","arc"] ["came","moved"] (A8 s_b3):=scI
theorem A48 (T:Txt K mg D):KCl K mg "ring_paper" D.a_b3 D.d_b3 ["came","moved"]:=⟨T.m_b3,T.B.F_b3.kp,T.B.F_b3.b2⟩
theorem sc_b9:FnScope ["ways","many","far","came","moved","turn"] ["ways","many"] (A8 s_b9):=scI
theorem A1j (T:Txt K mg D):KCl K mg "farthest" D.a_b9 D.d_b9 ["ways","many"]:=⟨T.m_b9,T.B.F_b9.kp,T.B.F_b9.b2⟩
theorem sc_b8:FnScope ["net","times","starts","ring"] ["net","times"] (A8 s_b8):=scI
theorem W1 (T:Txt K mg D):KCl K mg "earliest" D.a_b8 D.d_b8 ["net","times"]:=⟨T.m_b8,T.B.F_b8.kp,T.B.F_b8.b2⟩
theorem sc_d4:FnScope ["net","times","whole","word","told","back","leads","bar"] ["net","times","whole"] (A8 s_d4):=scI
theorem A2k (T:Txt K mg D):KCl K mg "latest" D.a_d4 D.d_d4 ["net","times","whole"]:=⟨T.m_d4,T.B.F_d4.kp,T.B.F_d4.b3⟩
theorem sc_a2:FnScope ["thing","many"] ["thing","many"] (A8 s_a2):=scI
theorem A0o (T:Txt K mg D):KCl K mg "is_number_below" D.a_a2 D.d_a2 ["thing","many"]:=⟨T.m_a2,T.B.F_a2.kp,T.B.F_a2.b2⟩
theorem sc_df:FnScope ["net","thing","works","waits","holds","many","word","number"] ["net","thing"] (A8 s_df):=scI
theorem B9a (T:Txt K mg D):KCl K mg "is_arc" D.a_df D.d_df ["net","thing"]:=⟨T.m_df,T.B.F_df.kp,T.B.F_df.b2⟩
theorem sc_af:FnScope ["net","thing","arc","amount"] ["net","thing"] (A8 s_af):=scI
theorem A5a (T:Txt K mg D):KCl K mg "is_carried" D.a_af D.d_af ["net","thing"]:=⟨T.m_af,T.B.F_af.kp,T.B.F_af.b2⟩
theorem sc_ac:FnScope ["net","thing","ahead","at","carried"] ["net","thing"] (A8 s_ac):=scI
theorem A37 (T:Txt K mg D):KCl K mg "look_at_form" D.a_ac D.d_ac ["net","thing"]:=⟨T.m_ac,T.B.F_ac.kp,T.B.F_ac.b2⟩
theorem sc_bd:FnScope ["net","paper","waits","holds","amounts","offs","word","number","amount","one","other","lag"] ["net","paper"] (A8 s_bd):=scI
theorem B1h (T:Txt K mg D):KCl K mg "flows_of" D.a_bd D.d_bd ["net","paper"]:=⟨T.m_bd,T.B.F_bd.kp,T.B.F_bd.b2⟩
theorem sc_bc:FnScope ["hold","amount","amounts","offs","kind","work","moment"] ["hold","amount","amounts","offs"] (A8 s_bc):=scI
theorem B1i (T:Txt K mg D):KCl K mg "add_hold" D.a_bc D.d_bc ["hold","amount","amounts","offs"]:=⟨T.m_bc,T.B.F_bc.kp,T.B.F_bc.b4⟩
theorem sc_ad:FnScope ["net","paper","amounts","offs","work","amount"] ["net","paper"] (A8 s_ad):=scI
theorem A0q (T:Txt K mg D):KCl K mg "amounts_of" D.a_ad D.d_ad ["net","paper"]:=⟨T.m_ad,T.B.F_ad.kp,T.B.F_ad.b2⟩
theorem sc_d6:FnScope ["paper"] ["paper"] (A8 s_d6):=scI
theorem B3l (T:Txt K mg D):KCl K mg "rate_of" D.a_d6 D.d_d6 ["paper"]:=⟨T.m_d6,T.B.F_d6.kp,T.B.F_d6.b1⟩
theorem sc_a6:FnScope ["net","thing"] ["net","thing"] (A8 s_a6):=scI
theorem A2j (T:Txt K mg D):KCl K mg "look_at_paper" D.a_a6 D.d_a6 ["net","thing"]:=⟨T.m_a6,T.B.F_a6.kp,T.B.F_a6.b2⟩
theorem sc_de:FnScope ["step"] ["step"] (A8 s_de):=scI
theorem A2m (T:Txt K mg D):KCl K mg "end_of" D.a_de D.d_de ["step"]:=⟨T.m_de,T.B.F_de.kp,T.B.F_de.b1⟩
theorem sc_b5:FnScope ["wait","plan","one","other","lag"] ["wait","plan"] (A8 s_b5):=scI
theorem A0k (T:Txt K mg D):KCl K mg "wait_slack" D.a_b5 D.d_b5 ["wait","plan"]:=⟨T.m_b5,T.B.F_b5.kp,T.B.F_b5.b2⟩
theorem sc_ae:FnScope ["hold","plan","kind","work","moment"] ["hold","plan"] (A8 s_ae):=scI
theorem A0p (T:Txt K mg D):KCl K mg "hold_slack" D.a_ae D.d_ae ["hold","plan"]:=⟨T.m_ae,T.B.F_ae.kp,T.B.F_ae.b2⟩
theorem sc_ab:FnScope ["word","slacks","at","slack"] ["word","slacks"] (A8 s_ab):=scI
theorem N9 (T:Txt K mg D):KCl K mg "first_below" D.a_ab D.d_ab ["word","slacks"]:=⟨T.m_ab,T.B.F_ab.kp,T.B.F_ab.b2⟩
theorem sc_a4:FnScope ["works","groups","plan","at","work","group"] ["works","groups","plan"] (A8 s_a4):=scI
theorem A01 (T:Txt K mg D):KCl K mg "first_untaken" D.a_a4 D.d_a4 ["works","groups","plan"]:=⟨T.m_a4,T.B.F_a4.kp,T.B.F_a4.b3⟩
theorem sc_a5:FnScope ["net","plan","whole","works","waits","holds","groups","broken"] ["net","plan","whole"] (A8 s_a5):=scI
theorem A2l (T:Txt K mg D):KCl K mg "first_broken" D.a_a5 D.d_a5 ["net","plan","whole"]:=⟨T.m_a5,T.B.F_a5.kp,T.B.F_a5.b3⟩
theorem sc_ba:FnScope ["net","paper","waits","holds","weight","word","number","amount","kind","work","moment","share"] ["net","paper"] (A8 s_ba):=scI
theorem A7p (T:Txt K mg D):KCl K mg "weight_of" D.a_ba D.d_ba ["net","paper"]:=⟨T.m_ba,T.B.F_ba.kp,T.B.F_ba.b2⟩
theorem sc_b7:FnScope ["net","paper","amounts","offered","weight","leasts","quicks"] ["net","paper"] (A8 s_b7):=scI
theorem A1k (T:Txt K mg D):KCl K mg "claims_of" D.a_b7 D.d_b7 ["net","paper"]:=⟨T.m_b7,T.B.F_b7.kp,T.B.F_b7.b2⟩
theorem sc_e4:FnScope ["net","paper","whole","price","rate","length"] ["net","paper","whole"] (A8 s_e4):=scI
theorem B43 (T:Txt K mg D):KCl K mg "bars" D.a_e4 D.d_e4 ["net","paper","whole"]:=⟨T.m_e4,T.B.F_e4.kp,T.B.F_e4.b3⟩
theorem sc_b4:FnScope ["net","plan","whole","work","slip","wait","hold"] ["net","plan","whole","work"] (A8 s_b4):=scI
theorem A47 (T:Txt K mg D):KCl K mg "slip_alone" D.a_b4 D.d_b4 ["net","plan","whole","work"]:=⟨T.m_b4,T.B.F_b4.kp,T.B.F_b4.b4⟩
theorem sc_c3:FnScope ["net","plan","whole","starts","slips","work","step"] ["net","plan","whole"] (A8 s_c3):=scI
theorem B1e (T:Txt K mg D):KCl K mg "slips_of" D.a_c3 D.d_c3 ["net","plan","whole"]:=⟨T.m_c3,T.B.F_c3.kp,T.B.F_c3.b3⟩
theorem sc_c6:FnScope ["_law_script","_law_k","_law_cell"] ["_law_script","_law_k"] (A8 s_c6):=scI
theorem P5 (T:Txt K mg D):KCl K mg "_law_begun" D.a_c6 D.d_c6 ["_law_script","_law_k"]:=⟨T.m_c6,T.B.F_c6.kp,T.B.F_c6.b2⟩
theorem sc_db:FnScope ["_law_state","_law_many","_law_digit","_law_made","_law_turn"] ["_law_state","_law_many"] (A8 s_db):=scI
theorem D0 (T:Txt K mg D):KCl K mg "_law_take" D.a_db D.d_db ["_law_state","_law_many"]:=⟨T.m_db,T.B.F_db.kp,T.B.F_db.b2⟩
theorem sc_e3:FnScope ["_law_top","_law_bottom","_law_one","_law_other"] ["_law_top","_law_bottom"] (A8 s_e3):=scI
theorem A1l (T:Txt K mg D):KCl K mg "_law_low" D.a_e3 D.d_e3 ["_law_top","_law_bottom"]:=⟨T.m_e3,T.B.F_e3.kp,T.B.F_e3.b2⟩
theorem sc_d9:FnScope ["_law_one","_law_other"] ["_law_one","_law_other"] (A8 s_d9):=scI
theorem G6 (T:Txt K mg D):KCl K mg "_law_plus" D.a_d9 D.d_d9 ["_law_one","_law_other"]:=⟨T.m_d9,T.B.F_d9.kp,T.B.F_d9.b2⟩
theorem sc_ca:FnScope ["_law_one","_law_other"] ["_law_one","_law_other"] (A8 s_ca):=scI
theorem L4 (T:Txt K mg D):KCl K mg "_law_minus" D.a_ca D.d_ca ["_law_one","_law_other"]:=⟨T.m_ca,T.B.F_ca.kp,T.B.F_ca.b2⟩
theorem sc_d1:FnScope ["_law_one","_law_other"] ["_law_one","_law_other"] (A8 s_d1):=scI
theorem U6 (T:Txt K mg D):KCl K mg "_law_times" D.a_d1 D.d_d1 ["_law_one","_law_other"]:=⟨T.m_d1,T.B.F_d1.kp,T.B.F_d1.b2⟩
theorem sc_d2:FnScope ["_law_one","_law_other"] ["_law_one","_law_other"] (A8 s_d2):=scI
theorem Y3 (T:Txt K mg D):KCl K mg "_law_under" D.a_d2 D.d_d2 ["_law_one","_law_other"]:=⟨T.m_d2,T.B.F_d2.kp,T.B.F_d2.b2⟩
theorem sc_bb:FnScope ["_law_state","_law_plain","_law_least_here","_law_way","_law_bottom"] ["_law_state","_law_plain","_law_least_here"] (A8 s_bb):=scI
theorem K6 (T:Txt K mg D):KCl K mg "_law_amount" D.a_bb D.d_bb ["_law_state","_law_plain","_law_least_here"]:=⟨T.m_bb,T.B.F_bb.kp,T.B.F_bb.b3⟩
theorem sc_cc:FnScope ["_law_state","_law_kind","_law_most","_law_plain","_law_many","_law_time_here","_law_price","_law_gaps","_law_gap","_law_corners","_law_rate_here","_law_step"] ["_law_state","_law_kind","_law_most","_law_plain"] (A8 s_cc):=scI
theorem B3q (T:Txt K mg D):KCl K mg "_law_offer" D.a_cc D.d_cc ["_law_state","_law_kind","_law_most","_law_plain"]:=⟨T.m_cc,T.B.F_cc.kp,T.B.F_cc.b4⟩
theorem sc_cf:FnScope ["_law_script","_law_kinds","_law_state","_law_many","_law_size","_law_least_here","_law_works","_law_k","_law_own","_law_kind","_law_waits","_law_holds","_law_one"] ["_law_script","_law_kinds"] (A8 s_cf):=scI
theorem B3n (T:Txt K mg D):KCl K mg "_law_shape" D.a_cf D.d_cf ["_law_script","_law_kinds"]:=⟨T.m_cf,T.B.F_cf.kp,T.B.F_cf.b2⟩
theorem sc_dd:FnScope ["_law_shape_here","_law_state","_law_works","_law_waits","_law_holds","_law_work","_law_seen","_law_arcs","_law_going","_law_some","_law_first","_law_last"] ["_law_shape_here","_law_state"] (A8 s_dd):=scI
theorem B9b (T:Txt K mg D):KCl K mg "_law_walk" D.a_dd D.d_dd ["_law_shape_here","_law_state"]:=⟨T.m_dd,T.B.F_dd.kp,T.B.F_dd.b2⟩
theorem sc_da:FnScope ["_law_shape_here","_law_state","_law_kind","_law_corners","_law_amount_here","_law_k","_law_up","_law_gap"] ["_law_shape_here","_law_state"] (A8 s_da):=scI
theorem B9d (T:Txt K mg D):KCl K mg "_law_rate" D.a_da D.d_da ["_law_shape_here","_law_state"]:=⟨T.m_da,T.B.F_da.kp,T.B.F_da.b2⟩
theorem sc_cd:FnScope ["_law_shape_here","_law_script","_law_at","_law_state","_law_arcs","_law_amounts","_law_turn","_law_amount_here","_law_arc","_law_paper_here","_law_cut"] ["_law_shape_here","_law_script","_law_at"] (A8 s_cd):=scI
theorem B3p (T:Txt K mg D):KCl K mg "_law_paper" D.a_cd D.d_cd ["_law_shape_here","_law_script","_law_at"]:=⟨T.m_cd,T.B.F_cd.kp,T.B.F_cd.b3⟩
theorem sc_c8:FnScope ["_law_net","_law_paper_here","_law_works","_law_waits","_law_holds","_law_inward","_law_off","_law_word","_law_k","_law_amount_here"] ["_law_net","_law_paper_here"] (A8 s_c8):=scI
theorem B3s (T:Txt K mg D):KCl K mg "_law_flows" D.a_c8 D.d_c8 ["_law_net","_law_paper_here"]:=⟨T.m_c8,T.B.F_c8.kp,T.B.F_c8.b2⟩
theorem sc_c9:FnScope ["_law_offer_here","_law_rate_here","_law_made","_law_time_here","_law_price","_law_cost"] ["_law_offer_here","_law_rate_here"] (A8 s_c9):=scI
theorem B3r (T:Txt K mg D):KCl K mg "_law_least" D.a_c9 D.d_c9 ["_law_offer_here","_law_rate_here"]:=⟨T.m_c9,T.B.F_c9.kp,T.B.F_c9.b2⟩
theorem sc_dc:FnScope ["_law_offer_here","_law_amount_here","_law_own","_law_kind","_law_corners","_law_due","_law_tight","_law_way","_law_k","_law_gap"] ["_law_offer_here","_law_amount_here","_law_own"] (A8 s_dc):=scI
theorem B9c (T:Txt K mg D):KCl K mg "_law_time" D.a_dc D.d_dc ["_law_offer_here","_law_amount_here","_law_own"]:=⟨T.m_dc,T.B.F_dc.kp,T.B.F_dc.b3⟩
theorem sc_b6:FnScope ["_law_shape_here","_law_script","_law_paper_here","_law_works","_law_waits","_law_holds","_law_amounts","_law_plan","_law_i","_law_own","_law_time_here","_law_start","_law_ends","_law_lags","_law_k","_law_one","_law_other","_law_moments","_law_kind","_law_slack_here"] ["_law_shape_here","_law_script","_law_paper_here"] (A8 s_b6):=scI
theorem A7q (T:Txt K mg D):KCl K mg "_law_planned" D.a_b6 D.d_b6 ["_law_shape_here","_law_script","_law_paper_here"]:=⟨T.m_b6,T.B.F_b6.kp,T.B.F_b6.b3⟩
theorem sc_d0:FnScope ["_law_script","_law_k","_law_own","_law_slack_here"] ["_law_script","_law_k"] (A8 s_d0):=scI
theorem A6s (T:Txt K mg D):KCl K mg "_law_slack" D.a_d0 D.d_d0 ["_law_script","_law_k"]:=⟨T.m_d0,T.B.F_d0.kp,T.B.F_d0.b2⟩
theorem sc_a9:FnScope ["_law_plan","_law_late","_law_start","_law_time_here","_law_end"] ["_law_plan"] (A8 s_a9):=scI
theorem A38 (T:Txt K mg D):KCl K mg "_law_latest_end" D.a_a9 D.d_a9 ["_law_plan"]:=⟨T.m_a9,T.B.F_a9.kp,T.B.F_a9.b1⟩
theorem sc_c7:FnScope ["_law_script","_law_kinds","_law_shape_here","_law_paper_here","_law_net","_law_plan"] ["_law_script","_law_kinds"] (A8 s_c7):=scI
theorem B3t (T:Txt K mg D):KCl K mg "_law_drawn" D.a_c7 D.d_c7 ["_law_script","_law_kinds"]:=⟨T.m_c7,T.B.F_c7.kp,T.B.F_c7.b2⟩
theorem sc_a1:FnScope ["_law_net","_law_times_here","_law_state","_law_starts","_law_plan","_law_whole","_law_late","_law_slips","_law_i","_law_lesser","_law_bar","_law_told"] ["_law_net","_law_times_here","_law_state"] (A8 s_a1):=scI
theorem A0r (T:Txt K mg D):KCl K mg "_law_soonest_whole" D.a_a1 D.d_a1 ["_law_net","_law_times_here","_law_state"]:=⟨T.m_a1,T.B.F_a1.kp,T.B.F_a1.b3⟩
theorem sc_ce:FnScope ["_law_net","_law_times_here","_law_state","_law_one","_law_other","_law_lag","_law_back","_law_works","_law_waits","_law_holds","_law_groups","_law_made","_law_found","_law_price","_law_rate_here","_law_length"] ["_law_net","_law_times_here","_law_state"] (A8 s_ce):=scI
theorem B3o (T:Txt K mg D):KCl K mg "_law_round" D.a_ce D.d_ce ["_law_net","_law_times_here","_law_state"]:=⟨T.m_ce,T.B.F_ce.kp,T.B.F_ce.b3⟩
theorem sc_e6:FnScope ["_law_script","_law_net","_law_plan","_law_paper_here","_law_state","_law_times_here"] ["_law_script"] (A8 s_e6):=scI
end
theorem A93:(PyData.str "steps").canLay0=true:=by decide +kernel
theorem A92:(PyData.str "straight").canLay0=true:=by decide +kernel
theorem B4p:PyData.eqv (.str "steps") (.str "steps")=true:=by decide +kernel
theorem C3e:PyData.eqv (.str "straight") (.str "straight")=true:=by decide +kernel
theorem C3f:PyData.eqv (.str "straight") (.str "steps")=false:=by decide +kernel
def offD (kd:Str) (cs:LR):PyData:=.tuple [.str kd,.list (cs.map dcn)]
def Kd (kd:Str):Prop:=kd="straight"\/kd="steps"
theorem Kd.lay {kd:Str} (h:Kd kd):(PyData.str kd).canLay0=true:=by rcases h with rfl | rfl; exact A92; exact A93
def K2 (c d:Rat × Rat):Rat:=(d.2 - c.2) / (c.1 - d.1)
def A9e (c d:Rat × Rat) (t:Rat):Rat:=c.2 + K2 c d * (c.1 - t)
theorem A5o {c d:Rat × Rat} (h:d.1 < c.1) (h1:SmR 161 85 c.1) (h2:SmR 285 151 c.2) (h3:SmR 161 85 d.1) (h4:SmR 285 151 d.2):SmR 607 549 (K2 c d) :=
 ((h4.sub h2).div (h1.sub h3) (by grind)).mono (by decide) (by decide)
theorem part (t:Rat):∀ {cs:LR},Dec cs->∃ A B,cs=A++B/\cs.filter (fun c=>decide (t < c.1))=A/\(∀ c ∈ A,t < c.1) /\
  ((B=[]/\cs.filter (fun c=>decide (t<=c.1))=A/\cs.filter (fun c=>decide (c.1=t))=[]) \/
   ∃ b r,B=b :: r/\b.1<=t/\(b.1=t->cs.filter (fun c=>decide (t<=c.1))=A++[b]/\cs.filter (fun c=>decide (c.1=t))=[b])/\(b.1 < t->cs.filter (fun c=>decide (t<=c.1))=A/\cs.filter (fun c=>decide (c.1=t))=[]))
 | [],_=>⟨[],[],rfl,rfl,fun _ z=>(nomatch z),.inl ⟨rfl,rfl,rfl⟩⟩
 | c :: r,h=>by
  by_cases hc:t < c.1
  ·have h1:t<=c.1:=Rat.le_of_lt hc;have h2:¬ c.1=t:=fun e=>by grind
   obtain ⟨A,B,e,fA,hA,hB⟩:=part t h.tail;refine ⟨c :: A,B,by rw [e]; rfl,by rw [List.filter_cons,if_pos (by simpa using hc),fA],fun d hd=>?_,?_⟩
   ·rcases List.mem_cons.mp hd with rfl | z
    ·exact hc
    ·exact hA d z
   ·rw [List.filter_cons,if_pos (by simpa using h1),List.filter_cons,if_neg (by simpa using h2)];rcases hB with ⟨b1,b2,b3⟩ | ⟨b,r',b1,b2,b3,b4⟩
    ·exact .inl ⟨b1,by rw [b2],b3⟩
    ·exact .inr ⟨b,r',b1,b2,fun z=>⟨by rw [(b3 z).1]; rfl,(b3 z).2⟩,fun z=>⟨by rw [(b4 z).1],(b4 z).2⟩⟩
  ·have hr:∀ d ∈ r,d.1 < t:=fun d hd=>by have:=h.lt d hd; grind
   have n1:r.filter (fun c=>decide (t < c.1))=[]:=List.filter_eq_nil_iff.mpr fun d hd=>by have:=hr d hd; simp; grind
   have n2:r.filter (fun c=>decide (t<=c.1))=[]:=List.filter_eq_nil_iff.mpr fun d hd=>by have:=hr d hd; simp; grind
   have n3:r.filter (fun c=>decide (c.1=t))=[]:=List.filter_eq_nil_iff.mpr fun d hd=>by have:=hr d hd; simp; grind
   refine ⟨[],c :: r,rfl,by rw [List.filter_cons,if_neg (by simpa using hc),n1],fun _ z=>(nomatch z),.inr ⟨c,r,rfl,by grind,fun e=>?_,fun e=>?_⟩⟩
   ·exact ⟨by rw [List.filter_cons,if_pos (by simp [e]),n2]; rfl,by rw [List.filter_cons,if_pos (by simp [e]),n3]⟩
   ·exact ⟨by rw [List.filter_cons,if_neg (by simp; grind),n2],by rw [List.filter_cons,if_neg (by simp; grind),n3]⟩
def Price (cs:LR) (t p:Rat):Prop:=∃ A b r,cs=A++b :: r/\cs.filter (fun c=>decide (t < c.1))=A/\b.1<=t/\((b.1=t/\p=b.2)\/(b.1 < t/\∃ A' l,A=A'++[l]/\p=A9e l b t))
theorem B0a:("steps":Str)≠"straight":=by decide +kernel
theorem A8a {A r:LR} {b:Rat × Rat}:(A++b :: r)[A.length]?=some b:=by simp
theorem A97 {A r:LR} {l:Rat × Rat}:((A++[l])++r)[A.length]?=some l:=by simp
theorem B1o {c d:Rat × Rat} {t:Rat} (h:d.1 < c.1) (h1:SmR 161 85 c.1) (h2:SmR 285 151 c.2) (h3:SmR 161 85 d.1) (h4:SmR 285 151 d.2) (ht:SmR 339 261 t):SmR 1200 1100 (A9e c d t) :=
 (h2.add ((A5o h h1 h2 h3 h4).mul (h1.sub ht))).mono (by decide) (by decide)
def lm (vs:LQ) (m:Rat):Rat:=vs.foldl (fun m v=>if v < m then v else m) m
theorem B8i (vs:LQ) (v m:Rat):lm (vs++[v]) m=if v < lm vs m then v else lm vs m:=by unfold lm; rw [List.foldl_append]; rfl
theorem C38:∀ (vs:LQ) (m:Rat),lm vs m<=m/\∀ v ∈ vs,lm vs m<=v
 | [],m=>⟨Rat.le_refl,fun v h=>absurd h (by simp)⟩
 | v :: r,m=>by
  obtain ⟨h1,h2⟩:=C38 r (if v < m then v else m);have e:lm (v :: r) m=lm r (if v < m then v else m):=rfl;rw [e];have h3:(if v < m then v else m)<=m/\(if v < m then v else m)<=v:=by
   split
   ·constructor <;> grind
   ·constructor <;> grind
  refine ⟨by grind,fun x hx=>?_⟩;rcases List.mem_cons.mp hx with rfl | hx
  ·grind
  ·exact h2 x hx
theorem A3j:∀ (vs:LQ) (m:Rat),lm vs m=m\/lm vs m ∈ vs
 | [],m=>.inl rfl
 | v :: r,m=>by
  have e:lm (v :: r) m=lm r (if v < m then v else m):=rfl;rw [e];rcases A3j r (if v < m then v else m) with h | h
  ·rw [h];split
   ·exact .inr Zy
   ·exact .inl rfl
  ·exact .inr (Zr _ h)
def val (q:Rat) (c:Rat × Rat):Rat:=c.2 + q * c.1
theorem A19 {f:Rat × Rat->Rat} {cs:LR} {i:Nat} {c:Rat × Rat} (h:cs[i]?=some c):(cs.map f).take (i + 1)=(cs.map f).take i++[f c]:=by
 rw [List.take_add_one,Zh,h]; rfl
theorem B9l {q m t:Rat} {c d:Rat × Rat} (hcd:d.1 < c.1) (h1:m<=val q c) (h2:m<=val q d) (t1:d.1<=t) (t2:t<=c.1):¬ A9e c d t + q * t < m:=by
 have hn:c.1 - d.1≠0:=by grind
 have hp:0 < c.1 - d.1:=by grind
 obtain ⟨x,hx⟩:∃ x,x=(c.1 - t) / (c.1 - d.1):=⟨_,rfl⟩;have hx1:x * (c.1 - d.1)=c.1 - t:=by rw [hx]; exact Rat.div_mul_cancel hn
 have x0:0<=x:=by
  refine Rat.le_of_mul_le_mul_right (c:=c.1 - d.1) ?_ hp;rw [hx1]; grind
 have x1:x<=1:=by
  refine Rat.le_of_mul_le_mul_right (c:=c.1 - d.1) ?_ hp;rw [hx1]; grind
 have e1:K2 c d * (c.1 - t)=(d.2 - c.2) * x:=by
  unfold K2;rw [hx,Rat.div_def,Rat.div_def]; grind
 have e2:A9e c d t + q * t=(1 - x) * val q c + x * val q d:=by
  unfold A9e val;rw [e1];have ht:t=c.1 - x * (c.1 - d.1):=by grind
  rw [ht]; grind
 have a1:0<=(1 - x) * (val q c - m):=Rat.mul_nonneg (by grind) (by grind);have a2:0<=x * (val q d - m):=Rat.mul_nonneg x0 (by grind);rw [e2];grind
theorem C3q {x:Int} (h:x<=60):Rat.divInt x 60<=1:=by
 have e:Rat.divInt 1 1 - Rat.divInt x 60=Rat.divInt (1 * 60 - x * 1) (1 * 60):=Rat.divInt_sub_divInt _ _ (by decide) (by decide);have h1:0<=Rat.divInt (1 * 60 - x * 1) (1 * 60):=U0 (by omega) (by decide);have h2:Rat.divInt 1 1=1:=by decide +kernel
 rw [<- e,h2] at h1;grind
theorem OfOk.up {cs:LR} {a b c d a' b' c' d':Nat} (h:OfOk cs a b c d) (h1:a<=a') (h2:b<=b') (h3:c<=c') (h4:d<=d'):OfOk cs a' b' c' d' :=
 ⟨h.ne,h.le,h.dec,fun x hx=>⟨(h.sm x hx).1.mono h1 h2,(h.sm x hx).2.mono h3 h4⟩⟩
theorem Price.sm {cs:LR} {t p:Rat} (h:Price cs t p) (ok:OfOk cs 161 85 285 151) (st:SmR 339 261 t):SmR 1200 1100 p:=by
 obtain ⟨A,b,r,e,f,hb,h⟩:=h;have sb:=ok.sm b (by rw [e]; simp);rcases h with ⟨h1,rfl⟩ | ⟨h1,A',l,eA,rfl⟩
 ·exact sb.2.mono (by decide) (by decide)
 ·have sl:=ok.sm l (by rw [e,eA]; simp);have hl:l ∈ cs.filter (fun c=>decide (t < c.1)):=by rw [f,eA]; simp
  have:=(List.mem_filter.mp hl).2;simp at this;exact B1o (by grind) sl.1 sl.2 sb.1 sb.2 st
theorem smr0:SmR 1 1 0:=⟨by unfold Sm; decide,by unfold Sm; decide⟩
theorem smq0:SmQ 3900 0:=⟨smr0.1.mono (by decide),smr0.2.mono (by decide)⟩
def CvI (l:LR):Prop:=∀ (i:Nat) a b c,l[i]?=some a->l[i + 1]?=some b->l[i + 2]?=some c->K2 a b < K2 b c
def Ltt (l:LR):Prop:=l.Pairwise fun a b=>b.1 < a.1
theorem Y4 {a b:Rat × Rat} (h:b.1 < a.1):K2 a b * (a.1 - b.1)=b.2 - a.2:=by unfold K2; exact Rat.div_mul_cancel (by grind)
theorem CvI.push {l:LR} {c:Rat × Rat} (H:CvI l) (h:∀ A a b,l=A++[a,b]->K2 a b < K2 b c):CvI (l++[c]):=by
 intro j x y z h1 h2 h3;have hl:j + 2 < l.length + 1:=by have:=(Zs h3).1; simpa using this
 rcases (show j + 2 < l.length\/j + 2=l.length by omega) with q | q
 ·rw [List.getElem?_append_left (by omega)] at h1 h2 h3;exact H j x y z h1 h2 h3
 ·rw [List.getElem?_append_left (by omega)] at h1 h2;rw [List.getElem?_append_right (by omega),q,Nat.sub_self] at h3;cases h3;refine h (l.take j) x y ?_;have e1:l.drop j=[x,y]:=by
   refine List.ext_getElem? fun k=>?_;rw [List.getElem?_drop];match k with
   | 0=>simpa using h1
   | 1=>simpa using h2
   | k + 2=>simp; omega
  rw [<- e1,List.take_append_drop]
def CvR (l:LR) (R:Rat):Prop:=CvI l/\∀ A a b,l=A++[a,b]->K2 a b=R
theorem CvR.one (c:Rat × Rat):CvR [c] 0:=by
 refine ⟨fun i a b d h1 h2 h3=>?_,fun A a b e=>?_⟩
 ·have:=(Zs h3).1; simp at this
 ·have:=congrArg List.length e; simp at this
theorem CvR.step {cs:LR} {T P R q v v2:Rat} (q0:0 < q) (v0:0 < v) (hv:v2=(R + v) * q) (h:CvR (cs++[(T,P)]) R):CvR (cs++[(T,P)]++[(T - q,P + v2)]) (R + v):=by
 have es:K2 (T,P) (T - q,P + v2)=R + v:=by
  have e:=Y4 (a:=(T,P)) (b:=(T - q,P + v2)) (by show T - q < T; grind);have e':K2 (T,P) (T - q,P + v2) * q=(R + v) * q:=by
   rw [<- hv];have:K2 (T,P) (T - q,P + v2) * (T - (T - q))=P + v2 - P:=e;grind
  have hq:q≠0:=by grind
  rw [<- Rat.mul_div_cancel (b:=q) hq (a:=K2 (T,P) (T - q,P + v2)),e',Rat.mul_div_cancel hq]
 refine ⟨h.1.push fun A a b e=>?_,fun A a b e=>?_⟩
 ·have hb:b=(T,P):=by
   have e':cs++[(T,P)]=(A++[a])++[b]:=by rw [e]; simp
   have:=(List.append_inj' e' rfl).2;cases this; rfl
  have:=h.2 A a b e;rw [this,hb,es]; grind
 ·have e':cs++[(T,P),(T - q,P + v2)]=A++[a,b]:=by rw [<- e]; simp
  have:=(List.append_inj' e' rfl).2;cases this; exact es
theorem CvI.scale {l:LR} {s k:Rat} (hs:0 < s) (hk:0 < k) (d:Ltt l) (h:CvI l):CvI (l.map fun c=>(c.1 * s,c.2 * k)):=by
 have hh:∀ {a b:Rat × Rat},b.1 < a.1->K2 (a.1 * s,a.2 * k) (b.1 * s,b.2 * k) * s=K2 a b * k:=by
  intro a b hb;have m:=Rat.mul_pos (show 0 < a.1 - b.1 by grind) hs;have e1:=Y4 (a:=(a.1 * s,a.2 * k)) (b:=(b.1 * s,b.2 * k)) (by show b.1 * s < a.1 * s; grind);have e2:=Y4 hb;have e1':K2 (a.1 * s,a.2 * k) (b.1 * s,b.2 * k) * (a.1 * s - b.1 * s)=b.2 * k - a.2 * k:=e1;generalize K2 (a.1 * s,a.2 * k) (b.1 * s,b.2 * k)=z at *;have hn:a.1 - b.1≠0:=by grind
  have e3:(z * s) * (a.1 - b.1)=(K2 a b * k) * (a.1 - b.1):=by grind
  rw [<- Rat.mul_div_cancel (b:=a.1 - b.1) hn (a:=z * s),e3,Rat.mul_div_cancel hn]
 intro i a b c h1 h2 h3;rw [Zh] at h1 h2 h3;cases x1:l[i]? with
 | none=>rw [x1] at h1; cases h1
 | some a'=>cases x2:l[i + 1]? with
  | none=>rw [x2] at h2; cases h2
  | some b'=>cases x3:l[i + 2]? with
   | none=>rw [x3] at h3; cases h3
   | some c' =>
    rw [x1] at h1; rw [x2] at h2; rw [x3] at h3;cases h1; cases h2; cases h3;have lt1:b'.1 < a'.1:=List.pairwise_iff_getElem.mp d i (i + 1) (Zs x1).1 (Zs x2).1 (by omega) |> fun z=>by
     rw [(Zs x1).2,(Zs x2).2] at z; exact z
    have lt2:c'.1 < b'.1:=List.pairwise_iff_getElem.mp d (i + 1) (i + 2) (Zs x2).1 (Zs x3).1 (by omega) |> fun z=>by
     rw [(Zs x2).2,(Zs x3).2] at z; exact z
    have g:=h i a' b' c' x1 x2 x3;have g1:=hh lt1;have g2:=hh lt2;have g3:=Rat.mul_pos (show 0 < K2 b' c' - K2 a' b' by grind) hk;refine Rat.not_le.mp fun z=>?_;have g4:=Rat.mul_nonneg (show 0<=K2 (a'.1 * s,a'.2 * k) (b'.1 * s,b'.2 * k) - K2 (b'.1 * s,b'.2 * k) (c'.1 * s,c'.2 * k) by grind) (Rat.le_of_lt hs);grind
theorem B4y {α:Type} {f:α->PyData} {xs:List α} {n:Nat} (h:n<=xs.length):cutD (xs.map f) none (some (n:Int))=(xs.take n).map f:=by
 unfold cutD;rw [HT.sIx_none,show HT.sIx (xs.map f).length (xs.map f).length (some (n:Int))=min n xs.length by rw [Zl]; exact HT.sIx_nat _ _ n,List.map_take];rw [Nat.min_eq_left h]; simp
theorem C3n {α:Type} {f:α->PyData} {xs:List α} {n:Nat} (h:n<=xs.length):cutD (xs.map f) (some (n:Int)) none=(xs.drop n).map f:=by
 unfold cutD;rw [HT.sIx_none,show HT.sIx (xs.map f).length 0 (some (n:Int))=min n xs.length by rw [Zl]; exact HT.sIx_nat _ _ n,List.map_drop,Nat.min_eq_left h,Zl];rw [List.take_of_length_le (by simp)]
def RiseO (cs:LR):Prop:=∀ (i:Nat) c d,cs[i]?=some c->cs[i + 1]?=some d->d.1 < c.1/\c.2 < d.2
theorem RiseO.one (c:Rat × Rat):RiseO [c]:=fun i a b _ h=>by rw [List.getElem?_eq_none (by simp)] at h; cases h
theorem RiseO.snoc {cs:LR} {c d:Rat × Rat} (h:RiseO (cs++[c])) (h1:d.1 < c.1) (h2:c.2 < d.2):RiseO (cs++[c]++[d]):=fun i a b ha hb=>by
 rcases Nat.lt_trichotomy (i + 1) (cs++[c]).length with z | z | z
 ·rw [List.getElem?_append_left (by omega)] at ha;rw [List.getElem?_append_left z] at hb;exact h i a b ha hb
 ·rw [List.getElem?_append_left (by omega)] at ha;rw [z,List.getElem?_append_right (Zv _),Nat.sub_self] at hb;have hi:i=cs.length:=by simp at z; exact z
  rw [hi,List.getElem?_append_right (Zv _),Nat.sub_self] at ha;cases ha; cases hb;exact ⟨h1,h2⟩
 ·rw [List.getElem?_eq_none (by simp at z ⊢; omega)] at hb; cases hb
def sumR (qs:LQ):Rat:=qs.foldr (· + ·) 0
theorem A2s:∀ (qs:LQ) (q:Rat),sumR (qs++[q])=sumR qs + q
 | [],q=>by show q + 0=0 + q; grind
 | p :: r,q=>by
  have h:=A2s r q;show p + sumR (r++[q])=p + sumR r + q;rw [h]; grind
theorem A1r:∀ {qs:LQ},(∀ q ∈ qs,0 < q)->0<=sumR qs
 | [],_=>Rat.le_refl
 | p :: r,h=>by
  have h1:=A1r (qs:=r) fun q hq=>h q (Zr _ hq);have h2:=h p Zy;show 0<=p + sumR r;grind
structure OfG (kd:Str) (cs:LR) (a b c d:Nat):Prop where
 ok:OfOk cs a b c d
 nn:∀ x ∈ cs,0<=x.1/\0<=x.2
 up:RiseO cs
 cv:kd="straight"->CvI cs
def wD (w:Int × Int × Rat):PyData:=.tuple [.int w.1,.int w.2.1,dq w.2.2]
def hD (h:Str × Int × Rat):PyData:=.tuple [.str h.1,.int h.2.1,dq h.2.2]
def On (B k:Nat) (q:Rat):Prop:=∃ z:Int,q=Rat.divInt z (B:Int)/\z.natAbs<=k * B
theorem On.mono {B k l:Nat} {q:Rat} (h:On B k q) (g:k<=l):On B l q:=let ⟨z,e,b⟩:=h; ⟨z,e,Zx b (Zu _ g)⟩
theorem On.add {B k l:Nat} {p q:Rat} (hB:0 < B) (h:On B k p) (g:On B l q):On B (k + l) (p + q):=by
 obtain ⟨z,rfl,b⟩:=h;obtain ⟨y,rfl,c⟩:=g;have hn:(B:Int)≠0:=by omega
 refine ⟨z + y,?_,Zx (Int.natAbs_add_le _ _) (by rw [Nat.add_mul]; omega)⟩;rw [Rat.divInt_add_divInt _ _ hn hn,<- Int.add_mul,Rat.divInt_mul_right hn]
theorem On.neg {B k:Nat} {p:Rat} (h:On B k p):On B k (-p):=by
 obtain ⟨z,rfl,b⟩:=h;exact ⟨-z,by rw [Rat.neg_divInt],by rw [Int.natAbs_neg]; exact b⟩
theorem On.sub {B k l:Nat} {p q:Rat} (hB:0 < B) (h:On B k p) (g:On B l q):On B (k + l) (p - q):=by
 rw [Rat.sub_eq_add_neg]; exact h.add hB g.neg
theorem On.of {B a b:Nat} {q:Rat} (hB:0 < B) (h:SmR a b q) (d:q.den ∣ B):On B (2 ^ a) q:=by
 obtain ⟨c,rfl⟩:=d;have hd:=q.den_pos;by_cases hc:c=0
 ·subst hc; rw [Nat.mul_zero] at hB; exact absurd hB (Nat.lt_irrefl _)
 ·refine ⟨q.num * c,?_,?_⟩
  ·rw [Int.natCast_mul,Rat.divInt_mul_right (by omega),Rat.num_divInt_den]
  ·rw [Int.natAbs_mul,Int.natAbs_natCast];have h1:q.num.natAbs<=2 ^ a:=Nat.le_of_lt h.1;exact Nat.mul_le_mul h1 (Nat.le_mul_of_pos_left _ hd)
theorem On.zero {B:Nat}:On B 0 0:=⟨0,by rw [Rat.zero_divInt],by simp⟩
theorem On.q {B k:Nat} {q:Rat} (hB:0 < B) (h:On B k q) (g:k * B < 2 ^ 3900) (g2:B < 2 ^ 3900):SmQ 3900 q:=by
 obtain ⟨z,rfl,b⟩:=h;have:=SmR.low (n:=3900) (d:=3900) (t:=z) (b:=(B:Int)) (Nat.lt_of_le_of_lt b g) (by unfold Sm; rw [Int.natAbs_natCast]; exact g2) (by omega);exact ⟨this.1,this.2⟩
theorem On.up {B C k:Nat} {q:Rat} (hC:0 < C) (h:On B k q):On (B * C) k q:=by
 obtain ⟨z,rfl,b⟩:=h;refine ⟨z * C,by rw [Int.natCast_mul,Rat.divInt_mul_right (by omega)],?_⟩;rw [Int.natAbs_mul,Int.natAbs_natCast,<- Nat.mul_assoc];exact Zu _ b
theorem M4 {a b:Str}:PyData.eqv (.str a) (.str b)=decide (a=b):=by
 rw [Bool.eq_iff_iff,decide_eq_true_eq];simp [PyData.eqv]
def LL:Nat:=591133442051411133755680800
theorem C7:0 < LL:=by decide
theorem C2q {d:Nat} (h0:0 < d) (h:d < 64):d ∣ LL:=by
 have k:∀ d:Fin 64,d.val=0\/LL % d.val=0:=by decide +kernel
 rcases k ⟨d,h⟩ with z | z
 ·exact absurd z (Nat.ne_of_gt h0)
 ·exact Nat.dvd_of_mod_eq_zero z
theorem P7 {q:Rat} (h:SmR 41 6 q):On LL (2 ^ 41) q:=by
 refine On.of C7 h (C2q q.den_pos ?_);have:=h.2; unfold Sm at this; rw [Int.natAbs_natCast] at this; exact this
theorem On.mul {B C k l:Nat} {p q:Rat} (h:On B k p) (g:On C l q):On (B * C) (k * l) (p * q):=by
 obtain ⟨z,rfl,b⟩:=h;obtain ⟨y,rfl,c⟩:=g;refine ⟨z * y,by rw [Rat.divInt_mul_divInt,Int.natCast_mul],?_⟩;rw [Int.natAbs_mul];have:=Nat.mul_le_mul b c;rw [Nat.mul_mul_mul_comm] at this;exact this
theorem B4e {B k:Nat} {n:Int} (hB:0 < B) (h:n.natAbs<=k):On B k (n:Rat):=by
 refine ⟨n * (B:Int),?_,by rw [Int.natAbs_mul,Int.natAbs_natCast]; exact Zu _ h⟩;have:=Rat.divInt_mul_right (n:=n) (d:=1) (a:=(B:Int)) (by omega);rw [Int.one_mul] at this;rw [this];have e:=Rat.num_divInt_den (n:Rat);rw [Rat.num_intCast,Rat.den_intCast] at e;exact e.symm
theorem onQ {B k:Nat} {q:Rat} (h:On B k q) (hB:0 < B) (hb:B<=2 ^ 1000) (g:k<=2 ^ 1000):SmQ 3900 q:=by
 refine h.q hB (Nat.lt_of_le_of_lt (Nat.mul_le_mul g hb) ?_) (Nat.lt_of_le_of_lt hb ?_)
 ·rw [<- Nat.pow_add]; exact Nat.pow_lt_pow_right (by decide) (by decide)
 ·exact Nat.pow_lt_pow_right (by decide) (by decide)
theorem C4q:LL<=2 ^ 1000:=Zx (Nat.le_of_ble_eq_true rfl:LL<=2 ^ 100) (Zp (by decide) (by decide))
theorem onL {a:Nat} {q:Rat} (h:On LL (2 ^ a) q) (ha:a<=1000):SmQ 3900 q:=onQ h C7 C4q (Zp (by decide) ha)
theorem On.p2 {B a b:Nat} {q:Rat} (h:On B (2 ^ a) q) (g:a<=b):On B (2 ^ b) q:=h.mono (Zp (by decide) g)
theorem On.add2 {B a b:Nat} {p q:Rat} (hB:0 < B) (h:On B (2 ^ a) p) (g:On B (2 ^ a) q) (hb:a + 1<=b):On B (2 ^ b) (p + q):=by
 refine (h.add hB g).mono (Zx ?_ (Zp (by decide) hb));rw [Nat.pow_succ]; omega
theorem On.sub2 {B a b:Nat} {p q:Rat} (hB:0 < B) (h:On B (2 ^ a) p) (g:On B (2 ^ a) q) (hb:a + 1<=b):On B (2 ^ b) (p - q):=by
 refine (h.sub hB g).mono (Zx ?_ (Zp (by decide) hb));rw [Nat.pow_succ]; omega
def OnP (l:LR):Prop:=∀ (i:Nat) a b,l[i]?=some a->l[i + 1]?=some b->On LL (2 ^ 45) (K2 a b)
theorem OnP.one (c:Rat × Rat):OnP [c]:=fun i a b _ h=>by rw [List.getElem?_eq_none (by simp)] at h; cases h
theorem OnP.snoc {l:LR} {c d:Rat × Rat} (h:OnP (l++[c])) (h1:On LL (2 ^ 45) (K2 c d)):OnP (l++[c]++[d]):=fun i a b ha hb=>by
 rcases Nat.lt_trichotomy (i + 1) (l++[c]).length with z | z | z
 ·rw [List.getElem?_append_left (by omega)] at ha;rw [List.getElem?_append_left z] at hb;exact h i a b ha hb
 ·rw [List.getElem?_append_left (by omega)] at ha;rw [z,List.getElem?_append_right (Zv _),Nat.sub_self] at hb;have hi:i=l.length:=by simp at z; exact z
  rw [hi,List.getElem?_append_right (Zv _),Nat.sub_self] at ha;cases ha; cases hb;exact h1
 ·rw [List.getElem?_eq_none (by simp at z ⊢; omega)] at hb; cases hb
def OnC (cs:LR):Prop:=∀ c ∈ cs,On LL (2 ^ 45) c.1/\On (LL * LL) (2 ^ 90) c.2
def Hk (k:Str):Prop:=k="from"\/k="till"\/k="by"
def HOk (n:Int) (hs:LH):Prop:=∀ h ∈ hs,Hk h.1/\(0<=h.2.1/\h.2.1 < n)/\On LL (2 ^ 55) h.2.2
theorem Hk.lay {kd:Str} (h:Hk kd):(PyData.str kd).canLay0=true:=by rcases h with rfl | rfl | rfl <;> decide +kernel
theorem A95:(PyData.str "from").canLay0=true:=by decide +kernel
theorem B91 {c:Nat} (h:c < 128):(sgn c).canLay0=true:=by
 show PyData.strOk ⟨#[c]⟩=true;unfold PyData.strOk;simp;omega
theorem getS {z:Str} {n:Int} (hl:z.length<=1000) (all:z.cps.toList.all (fun c=>decide (c < 128))=true) (h0:0<=n) (h1:n < z.length) {Q:SV->Prop} (q:∀ c,c < 128->Q (.d (sgn c))):B7l z n Q:=by
 obtain ⟨m,rfl⟩:=Zi h0;have hm:m < z.cps.toList.length:=by rw [Array.length_toList]; exact Int.ofNat_lt.mp h1
 refine ⟨z.cps.toList[m],M0 (Zg hm),q _ ?_⟩;have:=List.all_eq_true.mp all _ (List.getElem_mem hm);simpa using this
abbrev Wk:=Str × Str × LR
def kD (x:Wk):PyData:=.tuple [.str x.1,offD x.2.1 x.2.2]
def netD (xs:List Wk) (ws:LW) (hs:LH) (gs:LP):PyData:=.tuple [.list (xs.map kD),.list (ws.map wD),.list (hs.map hD),.list gs]
def fb (qs:LQ):Option Nat:=qs.findIdx? fun q=>decide (q < 0)
theorem C3m {ps:LR} {o:Int} {p:Rat × Rat} (h0:0<=o) (h:ps[o.toNat]?=some p):L2.atI (ps.map dcn) o=some (dcn p):=by
 obtain ⟨i,rfl⟩:=Zi h0;exact M0 (by rw [Zh]; rw [Int.toNat_natCast] at h; rw [h]; rfl)
def sat (ps:LR) (o:Int):Rat × Rat:=ps.getD o.toNat (0,0)
theorem A5q {ps:LR} {o:Int} (h0:0<=o) (h1:o < (ps.length:Int)):L2.atI (ps.map dcn) o=some (dcn (sat ps o)) :=
 C3m h0 (by unfold sat; rw [List.getD_eq_getElem?_getD,Zg (by omega:o.toNat < ps.length)]; rfl)
def enD (p:Rat × Rat):Rat:=p.1 + p.2
def wSl (ps:LR) (w:Int × Int × Rat):Rat:=(sat ps w.2.1).1 - (enD (sat ps w.1) + w.2.2)
def hSl (ps:LR) (h:Str × Int × Rat):Rat:=if h.1="from" then (sat ps h.2.1).1 - h.2.2 else if h.1="till" then h.2.2 - (sat ps h.2.1).1 else h.2.2 - enD (sat ps h.2.1)
structure PlSm (p:Rat × Rat):Prop where
 s:SmQ 3900 p.1
 t:SmQ 3900 p.2
 e:SmQ 3900 (enD p)
theorem B4r:PyData.eqv (.str "from") (.str "from")=true:=by decide +kernel
theorem B4o:PyData.eqv (.str "till") (.str "from")=false:=by decide +kernel
theorem B4u:PyData.eqv (.str "by") (.str "from")=false:=by decide +kernel
theorem B4q:PyData.eqv (.str "till") (.str "till")=true:=by decide +kernel
theorem B4t:PyData.eqv (.str "by") (.str "till")=false:=by decide +kernel
theorem A1f:(PyData.str "till").canLay0=true:=by decide +kernel
theorem B8c:(Str.ofString "till")≠Str.ofString "from":=by decide +kernel
theorem B8e:(Str.ofString "by")≠Str.ofString "from":=by decide +kernel
theorem B8d:(Str.ofString "by")≠Str.ofString "till":=by decide +kernel
structure Off (kd:Str) (cs:LR) (t:Rat):Prop where
 st:kd="steps"->∃ c ∈ cs,c.1=t
 sr:kd="straight"->∃ c0 cl,cs[0]?=some c0/\cs[cs.length - 1]?=some cl/\¬ t < cl.1/\¬ c0.1 < t
theorem A94:∀ cs:LR,PyData.canLayAll0 (cs.map fun c=>dq c.1)=true
 | []=>rfl
 | c :: r=>by
  show ((dq c.1).canLay0 && PyData.canLayAll0 (r.map fun c=>dq c.1))=true;rw [A94 r]; rfl
theorem U9 {ps:LR} {o:Int} (h0:0<=o) (h1:o < (ps.length:Int)):sat ps o ∈ ps:=by
 unfold sat;rw [List.getD_eq_getElem?_getD,Zg (by omega:o.toNat < ps.length)];exact List.getElem_mem _
theorem A0c {kd:Str} {cs:LR} {t:Rat} {i j:Nat} {c d:Rat × Rat} (hd:Dec cs) (hs:kd≠"steps") (h1:1<=cs.length) (ei:cs[i]?=some c) (ej:cs[j]?=some d) (h2:t<=c.1) (h3:d.1<=t):Off kd cs t:=by
 refine ⟨fun z=>absurd z hs,fun _=>?_⟩;have e0:cs[0]?=some cs[0]:=Zg (by omega);have el:cs[cs.length - 1]?=some cs[cs.length - 1]:=Zg (by omega);have hi:=(Zs ei).1;have hj:=(Zs ej).1;refine ⟨_,_,e0,el,Rat.not_lt.mpr ?_,Rat.not_lt.mpr ?_⟩
 ·by_cases z:j=cs.length - 1
  ·subst z; rw [ej] at el; cases el; exact h3
  ·exact Rat.le_trans (Rat.le_of_lt (hd.get ej el (by omega))) h3
 ·by_cases z:i=0
  ·subst z; rw [ei] at e0; cases e0; exact h2
  ·exact Rat.le_trans h2 (Rat.le_of_lt (hd.get e0 ei (by omega)))
theorem A7j {kd:Str} {cs:LR} {i:Nat} {c:Rat × Rat} (hk:Kd kd) (hd:Dec cs) (h1:1<=cs.length) (ei:cs[i]?=some c):Off kd cs c.1:=by
 by_cases z:kd="steps"
 ·exact ⟨fun _=>⟨c,Zm ei,rfl⟩,fun q=>absurd (z.symm.trans q) (by decide +kernel)⟩
 ·exact A0c hd z h1 ei ei Rat.le_refl Rat.le_refl
theorem X9:∀ ls:List Int,PyData.canLayAll0 (ls.map PyData.int)=true
 | []=>rfl
 | n :: r=>by
  show ((PyData.int n).canLay0 && PyData.canLayAll0 (r.map PyData.int))=true;rw [X9 r]; rfl
theorem A6l:∀ ls:List Int,PyData.depthAll (ls.map PyData.int)<=1
 | []=>by decide
 | n :: r=>by
  show max (PyData.int n).depth (PyData.depthAll (r.map PyData.int))<=1;have:=A6l r;have:(PyData.int n).depth=0:=rfl;omega
theorem A3s (ls:List Int):(PyData.list (ls.map PyData.int)).depth<=60:=by
 show PyData.depthAll (ls.map PyData.int) + 1<=60;have:=A6l ls;omega
theorem A6i (ls:List Int):(PyData.list (ls.map PyData.int)).eqv (.list [])=ls.isEmpty:=by
 cases ls <;> rfl
def fstC (cs:LR):Rat × Rat:=(cs[0]?).getD (0,0)
def lstC (cs:LR):Rat × Rat:=(cs[cs.length - 1]?).getD (0,0)
def offB (kd:Str) (cs:LR) (t:Rat):Bool:=if kd="steps" then cs.any fun c=>decide (c.1=t) else !decide (t < (lstC cs).1) && !decide ((fstC cs).1 < t)
theorem B0l {cs:LR} (h:1<=cs.length):cs[0]?=some (fstC cs):=by
 unfold fstC; rw [Zg (by omega:0 < cs.length)]; rfl
theorem A9v {cs:LR} (h:1<=cs.length):cs[cs.length - 1]?=some (lstC cs):=by
 unfold lstC; rw [Zg (by omega:cs.length - 1 < cs.length)]; rfl
theorem B9g (cs:LR) (t:Rat):((cs.map fun c=>dq c.1).any fun z=>z.eqv (dq t))=cs.any fun c=>decide (c.1=t):=by
 rw [List.any_map];congr 1
 funext c
 exact B4s
def rat (ss:LQ) (o:Int):Rat:=ss.getD o.toNat 0
theorem T3 {ss:LQ} {o:Int} (h0:0<=o) (h1:o < (ss.length:Int)):L2.atI (ss.map dq) o=some (dq (rat ss o)):=by
 obtain ⟨i,rfl⟩:=Zi h0;have hi:i < ss.length:=by omega
 refine M0 ?_;unfold rat;rw [Zh,Int.toNat_natCast,List.getD_eq_getElem?_getD,Zg hi]; rfl
theorem O0 {ss:LQ} {o:Int} (h0:0<=o) (h1:o < (ss.length:Int)):rat ss o ∈ ss:=by
 unfold rat;rw [List.getD_eq_getElem?_getD,Zg (by omega:o.toNat < ss.length)];exact List.getElem_mem _
theorem N7 {o:Int} {n:Nat} (h0:0<=o) (h1:o < (n:Int)):ixN n o=some o.toNat:=by
 obtain ⟨i,rfl⟩:=Zi h0;have hi:i < n:=by omega
 unfold ixN;simp;omega
theorem S2 {B k m:Nat} {p q:Rat} (hB:0 < B) (h:On B (m * k) p) (g:On B k q):On B ((m + 1) * k) (p + q):=(h.add hB g).mono (by rw [Nat.add_mul,Nat.one_mul]; exact Zv _)
theorem C4t:PyData.eqv (.str "by") (.str "by")=true:=by decide +kernel
theorem C2u:(PyData.str "by").canLay0=true:=by decide +kernel
theorem num_lt {q:Rat}:q.num < 0 ↔ q < 0:=by
 rw [<- Rat.not_le,<- Rat.num_nonneg]; omega
def vD:Option Rat->PyData
 | none=>.none
 | some q=>dq q
theorem B92 {ps:LR} {i:Nat} {p:Rat × Rat} (h:ps[i]?=some p):sat ps (i:Int)=p:=by
 unfold sat;rw [Int.toNat_natCast,List.getD_eq_getElem?_getD,h]; rfl
theorem unQ {D c:Nat} {q:Rat} (h:On (LL * D) (c * 2 ^ 60) q) (hD:0 < D) (hd:D<=2 ^ 20) (hc:c<=2 ^ 12):SmQ 3900 q :=
 onQ h (Nat.mul_pos C7 hD) (Zx (Nat.mul_le_mul (Nat.le_of_ble_eq_true rfl:LL<=2 ^ 100) hd) (by rw [<- Nat.pow_add]; exact Zp (by decide) (by decide))) (Zx (Zu _ hc) (by rw [<- Nat.pow_add]; exact Zp (by decide) (by decide)))
theorem B9q {D a b c:Nat} {p q:Rat} (hD:0 < D) (h:On (LL * D) (a * 2 ^ 60) p) (g:On (LL * D) (b * 2 ^ 60) q) (hc:a + b<=c):On (LL * D) (c * 2 ^ 60) (p + q) :=
 (h.add (Nat.mul_pos C7 hD) g).mono (by rw [<- Nat.add_mul]; exact Zu _ hc)
theorem A5j {D a c:Nat} {q:Rat} (h:On (LL * D) (a * 2 ^ 60) q) (hc:a<=c):On (LL * D) (c * 2 ^ 60) q:=h.mono (Zu _ hc)
theorem hd {a b:PSt} {D:PEnds} {e:PEnv} (h:∀ R,R=b->pSeq a R D e):pSeq a b D e:=h b rfl
theorem A4d {a b:PSt} {D:PEnds} {e:PEnv} (P:PEnv->Prop) (h1:∀ R:PSt,(∀ e',P e'->R D e')->pSeq a R D e) (h2:∀ e',P e'->b D e'):pSeq a b D e:=h1 b h2
theorem B4l {g:Int} (g0:0<=g) (g1:g < 3):∃ kd:Str,Hk kd/\L2.atI [PyData.str "from",.str "till",.str "by"] g=some (.str kd):=by
 have hg:g=0\/g=1\/g=2:=by omega
 rcases hg with rfl | rfl | rfl
 ·exact ⟨_,.inl rfl,rfl⟩
 ·exact ⟨_,.inr (.inl rfl),rfl⟩
 ·exact ⟨_,.inr (.inr rfl),rfl⟩
def B3v (K:PySem.W.Frag):Sp:=fun vs H Q _=>∃ (a:Addr) (ns:List Int) (k:Int),vs=[.ref a,.int k]/\SqL K H a (ns.map V.int)/\0<=k/\k<=300/\∀ p H',H p=none->StAt H' p->Kp p H H'->Q (.ref p) H'
def B33:Pu.PSp:=fun as Q=>∃ (ns:List Int) (k:Int),as=[.bor (ns.map .int),.d (.int k)]/\0<=k/\k<=300/\Q .st
theorem C3o {K:Frag}:∀ vs H Q E,spOf K [.vw,.dat] B33 vs H Q E->B3v K vs H Q E:=by
 rintro vs H Q E ⟨w,as,Qp,rfl,ok,a,⟨ns,kk,rfl,k0,k1,q⟩,k⟩;cases a with
 | vw h t=>cases t with
  | dat h' t =>
   cases t;obtain ⟨a,us,e,hS,hd⟩:=h.lst ok;subst e;rw [Den.intE h'];refine ⟨a,ns,kk,rfl,by rw [<- B0h hd]; exact hS,k0,k1,fun p H' hp S' kp=>?_⟩;have out:∀ b o,w.H b=some o->H' b=some o:=fun b o e=>kp b o (F5 e hp) e;refine k (.ref p) .st ⟨fun b=>w.M b\/b=p,H',w.F⟩ ⟨fun b o e=>out b o (ok.sub b o e),fun r hr=>?_,fun r hr=>?_⟩ ⟨⟨Same.refl _,fun b o e _=>out b o e,fun _ z=>.inl z,fun b z=>?_,fun b e=>?_⟩,fun _ _ z=>.inl z⟩ ⟨p,rfl,.inr rfl⟩ rfl q
   ·rcases hr with hr | rfl
    ·exact (ok.st r hr).kp (ok.mne hp hr) kp
    ·exact S'
   ·rcases hr with hr | rfl
    ·exact ok.nf r hr
    ·exact ok.fnone hp
   ·rcases z with z | rfl
    ·exact .inl z
    ·exact .inr hp
   ·cases hb:w.H b with
    | none=>rfl
    | some o=>have:=out b o hb; rw [show H' b=none from e] at this; cases this
theorem A6m {K:PySem.W.Frag} {H:Hp}:∀ ns:List Int,DenAll K H (ns.map V.int) (ns.map PyData.int)
 | []=>.nil
 | n :: r=>.cons (.int n) (A6m r)
theorem A1m:∀ (n:Nat) {a:Array Nat} (b:Array Nat),(a.all fun c=>decide (c < 0x110000))=true->(b.all fun c=>decide (c < 0x110000))=true->(((List.replicate n a).foldl (·++·) b).all fun c=>decide (c < 0x110000))=true
 | 0,_,_,_,hb=>hb
 | n + 1,a,b,ha,hb=>by
  rw [List.replicate_succ,List.foldl_cons];exact A1m n (b++a) ha (by rw [Array.all_append,ha,hb]; rfl)
theorem B8f {x:Str} {n:Int} (h:(PyData.str x).canLay0=true):(PyData.str (Txt.mul x n)).canLay0=true:=by
 unfold Txt.mul;split
 ·decide +kernel
 ·split
  ·exact h
  ·exact A1m _ _ h (by decide +kernel)
def pD (v:Int × Int):PyData:=.tuple [.int v.1,.int v.2]
def qD (u:Str × Int):PyData:=.tuple [.str u.1,.int u.2]
def shD (xs:List Wk) (vs:List (Int × Int)) (us:List (Str × Int)):PyData:=.tuple [.list (xs.map kD),.list (vs.map pD),.list (us.map qD)]
structure ShOk (n:Nat) (xs:List Wk) (vs:List (Int × Int)) (us:List (Str × Int)):Prop where
 ln:xs.length=n
 n0:1<=n
 n1:n<=10
 of:∀ x ∈ xs,Kd x.2.1/\OfG x.2.1 x.2.2 100 54 244 130/\OnC x.2.2/\(x.2.1="straight"->OnP x.2.2)
 nm:∀ x ∈ xs,(PyData.str x.1).canLay0=true
 vl:vs.length<=38
 vk:∀ v ∈ vs,(0<=v.1/\v.1 < (n:Int))/\(0<=v.2/\v.2 < (n:Int))
 ul:us.length<=40
 uk:∀ u ∈ us,Hk u.1/\0<=u.2/\u.2 < (n:Int)
 vn:∀ v ∈ vs,v.1≠v.2
theorem ShOk.addV {n:Nat} {xs:List Wk} {vs:List (Int × Int)} {us:List (Str × Int)} {a b:Int} (ok:ShOk n xs vs us) (ha:0<=a/\a < (n:Int)) (hb:0<=b/\b < (n:Int)) (hv:vs.length < 38) (hne:a≠b):ShOk n xs (vs++[(a,b)]) us:=by
 refine ⟨ok.ln,ok.n0,ok.n1,ok.of,ok.nm,by rw [Ze,List.length_singleton]; omega,fun v hv'=>?_,ok.ul,ok.uk,fun v hv'=>?_⟩
 ·rcases Za hv' with q | q
  ·exact ok.vk v q
  ·rw [Zn q]; exact ⟨ha,hb⟩
 ·rcases Za hv' with q | q
  ·exact ok.vn v q
  ·rw [Zn q]; exact hne
theorem ShOk.addU {n:Nat} {xs:List Wk} {vs:List (Int × Int)} {us:List (Str × Int)} {a:Int} {kd:Str} (ok:ShOk n xs vs us) (ha:0<=a/\a < (n:Int)) (hk:Hk kd) (hu:us.length < 40):ShOk n xs vs (us++[(kd,a)]):=by
 refine ⟨ok.ln,ok.n0,ok.n1,ok.of,ok.nm,ok.vl,ok.vk,by rw [Ze,List.length_singleton]; omega,fun v hv'=>?_,ok.vn⟩;rcases Za hv' with q | q
 ·exact ok.uk v q
 ·rw [Zn q]; exact ⟨hk,ha⟩
theorem A3m:∀ ls:List Int,PyData.canLayAll0 (ls.map PyData.int)=true:=X9
theorem B2y {n:Nat}:∀ {l:List Int},l.Nodup->(∀ x ∈ l,0<=x/\x < (n:Int))->l.length<=n:=fun {l} h g=>by
 have h2:(l.map Int.toNat).Nodup:=List.pairwise_map.mpr (List.Pairwise.imp_of_mem (fun {a b} ha hb (hne:a≠b) e=>by have:=g a ha; have:=g b hb; omega) h);have h3:(l.map Int.toNat) ⊆ List.range n:=fun a ha=>by
  obtain ⟨x,hx,rfl⟩:=List.mem_map.mp ha;have:=g x hx;exact List.mem_range.mpr (by omega)
 have:=List.Nodup.length_le_of_subset h2 h3;simpa using this
def ArOk (n v u:Nat) (a:Str × Int):Prop:=0<=a.2/\((a.1="start"/\a.2 < (n:Int))\/(a.1="end"/\a.2 < (n:Int))\/(a.1="wait"/\a.2 < (v:Int))\/(a.1="hold"/\a.2 < (u:Int)))
theorem A2z {u:Str × Int} (h:Hk u.1):(qD u).canLay0=true:=by
 show ((PyData.str u.1).canLay0 && ((PyData.int u.2).canLay0 && true))=true;rw [h.lay]; rfl
theorem A5w (u:Str × Int):(qD u).depth<=60:=by unfold qD; exact Nat.le_of_ble_eq_true rfl
theorem ArOk.snoc {n v u:Nat} {fs:List (Str × Int)} {i:Nat} (h:∀ a ∈ fs,ArOk n v u a) (hi:i < u):∀ a ∈ fs++[(Str.ofString "hold",(i:Int))],ArOk n v u a:=fun a ha=>by
 rcases Za ha with z | z
 ·exact h a z
 ·rw [Zn z]; exact ⟨by show (0:Int)<=(i:Int); omega,.inr (.inr (.inr ⟨rfl,by show (i:Int) < (u:Int); omega⟩))⟩
def paD (p:(Str × Int) × Rat):PyData:=.tuple [qD p.1,dq p.2]
theorem ArOk.lay {n v u:Nat} {a:Str × Int} (h:ArOk n v u a):(qD a).canLay0=true:=by
 show ((PyData.str a.1).canLay0 && ((PyData.int a.2).canLay0 && true))=true;have:(PyData.str a.1).canLay0=true:=by
  rcases h.2 with ⟨e,_⟩ | ⟨e,_⟩ | ⟨e,_⟩ | ⟨e,_⟩ <;> rw [e] <;> decide +kernel
 rw [this]; rfl
theorem A2d {n v u:Nat}:∀ {l:List (Str × Int)},(∀ a ∈ l,ArOk n v u a)->PyData.canLayAll0 (l.map qD)=true
 | [],_=>rfl
 | a :: r,h=>by
  show ((qD a).canLay0 && PyData.canLayAll0 (r.map qD))=true;rw [(h a Zy).lay,A2d fun x hx=>h x (Zr _ hx)]; rfl
theorem B8r {l:LP} {f:PyData->Bool} (h:l.any f=true):∃ p,l.findIdx? f=some p/\p < l.length:=by
 rcases e:l.findIdx? f with _ | p
 ·rw [List.findIdx?_eq_none_iff] at e;obtain ⟨y,y1,y2⟩:=List.any_eq_true.mp h;rw [e y y1] at y2; cases y2
 ·exact ⟨p,rfl,(List.findIdx?_eq_some_iff_getElem.mp e).1⟩
theorem four {x:Int} (h0:0<=x) (h:x<=4):0<=Rat.divInt x 4/\Rat.divInt x 4<=1:=by
 have e:Rat.divInt 1 1 - Rat.divInt x 4=Rat.divInt (1 * 4 - x * 1) (1 * 4):=Rat.divInt_sub_divInt _ _ (by decide) (by decide);have h1:0<=Rat.divInt (1 * 4 - x * 1) (1 * 4):=U0 (by omega) (by decide);have h2:Rat.divInt 1 1=1:=by decide +kernel
 rw [<- e,h2] at h1;exact ⟨U0 h0 (by decide),by grind⟩
theorem C2k {n a b:Int} (h0:0<=a) (h1:a < n) (b0:0<=b) (b1:b < n - 1):a≠(a + 1 + b) % n:=fun h=>by
 have e:=Int.emod_add_mul_ediv (a + 1 + b) n;rw [<- h] at e;generalize (a + 1 + b) / n=q at e;rcases Int.lt_or_le 0 q with z | z
 ·have:=Int.mul_le_mul_of_nonneg_left (show 1<=q by omega) (show 0<=n by omega);omega
 ·have:=Int.mul_le_mul_of_nonneg_left z (show 0<=n by omega);omega
def ole (x y:Option Rat):Prop:=∀ a,x=some a->∃ b,y=some b/\a<=b
theorem N3 (x:Option Rat):ole x x:=fun a h=>⟨a,h,Rat.le_refl⟩
theorem O3 {x y z:Option Rat} (h:ole x y) (g:ole y z):ole x z:=fun a e=>by
 obtain ⟨b,hb,l⟩:=h a e;obtain ⟨c,hc,l'⟩:=g b hb;exact ⟨c,hc,Rat.le_trans l l'⟩
theorem A15 {x y:Option Rat} (h:ole x y) (g:ole y x):x=y:=by
 cases x with
 | none =>
  cases y with
  | none=>rfl
  | some b=>obtain ⟨c,hc,_⟩:=g b rfl; cases hc
 | some a =>
  obtain ⟨b,hb,l⟩:=h a rfl;obtain ⟨c,hc,l'⟩:=g b hb;cases hc;rw [hb,Rat.le_antisymm l l']
theorem B2o (y:Option Rat):ole none y:=fun _ h=>nomatch h
abbrev Wy:=Nat × Nat × Rat × (Str × Int)
def upB:Option Rat->Rat->Bool
 | none,_=>true
 | some b,r=>decide (b < r)
def lnS (g:Nat->Option Rat) (v:Nat) (acc:Option Rat) (w:Wy):Option Rat:=match g w.1 with
 | none=>acc
 | some a=>if w.2.1=v && upB acc (a + w.2.2.1) then some (a + w.2.2.1) else acc
def lnF (g:Nat->Option Rat) (v:Nat) (ways:List Wy) (acc:Option Rat):Option Rat:=ways.foldl (lnS g v) acc
theorem C2p {g:Nat->Option Rat} {v:Nat} {acc:Option Rat} {w:Wy}:ole acc (lnS g v acc w):=by
 unfold lnS;split
 ·exact N3 _
 ·rename_i a _;split
  ·rename_i h;simp only [Bool.and_eq_true,decide_eq_true_eq] at h;intro b hb;subst hb;exact ⟨_,rfl,Rat.le_of_lt (of_decide_eq_true h.2)⟩
  ·exact N3 _
theorem A90 {g:Nat->Option Rat} {v:Nat}:∀ {ways:List Wy} {acc:Option Rat},ole acc (lnF g v ways acc)
 | [],_=>N3 _
 | w :: r,acc=>O3 C2p (A90 (ways:=r) (acc:=lnS g v acc w))
theorem A4t {g:Nat->Option Rat} {v:Nat} {w:Wy} {a:Rat} (hv:w.2.1=v) (ha:g w.1=some a):∀ {ways:List Wy} {acc:Option Rat},w ∈ ways->∃ b,lnF g v ways acc=some b/\a + w.2.2.1<=b
 | x :: r,acc,h=>by
  rcases List.mem_cons.mp h with rfl | h
  ·have:∃ b,lnS g v acc w=some b/\a + w.2.2.1<=b:=by
    unfold lnS;rw [ha];dsimp only;split
    ·exact ⟨_,rfl,Rat.le_refl⟩
    ·rename_i h;simp only [hv,decide_true,Bool.true_and,Bool.not_eq_true] at h;cases acc with
     | none=>cases h
     | some b=>exact ⟨b,rfl,Rat.not_lt.mp (of_decide_eq_false h)⟩
   obtain ⟨b,hb,l⟩:=this;obtain ⟨c,hc,l'⟩:=A90 (g:=g) (v:=v) (ways:=r) b hb;exact ⟨c,hc,Rat.le_trans l l'⟩
  ·exact A4t hv ha (ways:=r) h
theorem A2c {g:Nat->Option Rat} {v:Nat}:∀ {ways:List Wy} {acc:Option Rat},lnF g v ways acc=acc\/∃ w ∈ ways,w.2.1=v/\∃ a,g w.1=some a/\lnF g v ways acc=some (a + w.2.2.1)
 | [],_=>.inl rfl
 | w :: r,acc=>by
  rcases A2c (ways:=r) (acc:=lnS g v acc w) with e | ⟨x,hx,h1,a,h2,h3⟩
  ·have e':lnF g v (w :: r) acc=lnS g v acc w:=e;rw [e'];unfold lnS;split
   ·exact .inl rfl
   ·rename_i a ha;split
    ·rename_i h;simp only [Bool.and_eq_true,decide_eq_true_eq] at h;exact .inr ⟨w,Zy,h.1,a,ha,rfl⟩
    ·exact .inl rfl
  ·exact .inr ⟨x,Zr _ hx,h1,a,h2,h3⟩
def lnK (ways:List Wy) (n:Nat):Nat->Nat->Option Rat
 | 0,v=>if v=n then some 0 else none
 | k + 1,v=>lnF (lnK ways n k) v ways (lnK ways n k v)
theorem A9z {ways:List Wy} {n k v:Nat}:ole (lnK ways n k v) (lnK ways n (k + 1) v):=A90
theorem X8 {ways:List Wy} {n v:Nat} {k m:Nat} (h:k<=m):ole (lnK ways n k v) (lnK ways n m v):=by
 induction m with
 | zero=>rw [Nat.le_zero.mp h]; exact N3 _
 | succ m ih =>
  rcases Nat.lt_or_ge m k with z | z
  ·rw [show k=m + 1 by omega]; exact N3 _
  ·exact O3 (ih z) A9z
structure Chn (ways:List Wy) (n k:Nat) (c:Nat->Nat) (x:Nat->Rat):Prop where
 at':∀ j,j<=k + 1->lnK ways n j (c j)=some (x j)
 st:∀ j,j<=k->∃ w ∈ ways,w.2.1=c (j + 1)/\w.1=c j/\x (j + 1)=x j + w.2.2.1
 new:∀ j,j<=k->lnK ways n (j + 1) (c (j + 1))≠lnK ways n j (c (j + 1))
theorem B40 {ways:List Wy} {n:Nat}:∀ (k v:Nat),lnK ways n (k + 1) v≠lnK ways n k v->∃ c x,c (k + 1)=v/\Chn ways n k c x
 | 0,v,h=>by
  rcases A2c (g:=lnK ways n 0) (v:=v) (ways:=ways) (acc:=lnK ways n 0 v) with e | ⟨w,hw,h1,a,h2,h3⟩
  ·exact absurd e h
  ·refine ⟨fun j=>if j=0 then w.1 else v,fun j=>if j=0 then a else a + w.2.2.1,rfl,⟨fun j hj=>?_,fun j hj=>?_,fun j hj=>?_⟩⟩
   ·match j,hj with
    | 0,_=>exact h2
    | 1,_=>exact h3
   ·rw [Nat.le_zero.mp hj]; exact ⟨w,hw,h1,rfl,rfl⟩
   ·rw [Nat.le_zero.mp hj]; exact h
 | k + 1,v,h=>by
  rcases A2c (g:=lnK ways n (k + 1)) (v:=v) (ways:=ways) (acc:=lnK ways n (k + 1) v) with e | ⟨w,hw,h1,a,h2,h3⟩
  ·exact absurd e h
  ·have h3':lnK ways n (k + 2) v=some (a + w.2.2.1):=h3;have hne:lnK ways n (k + 1) w.1≠lnK ways n k w.1:=fun e=>by
    obtain ⟨b,hb,l⟩:=A4t (g:=lnK ways n k) (acc:=lnK ways n k v) h1 (by rw [<- e]; exact h2) hw;have hb':lnK ways n (k + 1) v=some b:=hb;apply h;refine A15 (fun c hc=>?_) A9z;rw [h3'] at hc;cases hc;exact ⟨b,hb',l⟩
   obtain ⟨c,x,hc,ch⟩:=B40 k w.1 hne;refine ⟨fun j=>if j<=k + 1 then c j else v,fun j=>if j<=k + 1 then x j else a + w.2.2.1,if_neg (by omega),⟨fun j hj=>?_,fun j hj=>?_,fun j hj=>?_⟩⟩
   ·by_cases z:j<=k + 1
    ·simp only [z,if_true]; exact ch.at' j z
    ·rw [show j=k + 2 by omega]; simp only [show ¬ (k + 2<=k + 1) by omega,if_false]; exact h3'
   ·by_cases z:j<=k
    ·simp only [show j + 1<=k + 1 by omega,show j<=k + 1 by omega,if_true]; exact ch.st j z
    ·rw [show j=k + 1 by omega];simp only [show ¬ (k + 1 + 1<=k + 1) by omega,Zv,if_true,if_false];have e:=ch.at' (k + 1) (Zv _);rw [hc,h2] at e;exact ⟨w,hw,h1,hc.symm,by rw [Zj e]⟩
   ·by_cases z:j<=k
    ·simp only [show j + 1<=k + 1 by omega,if_true]; exact ch.new j z
    ·rw [show j=k + 1 by omega];simp only [show ¬ (k + 1 + 1<=k + 1) by omega,if_false]; exact h
def Pot (ways:List Wy) (n:Nat) (P:Nat->Rat):Prop:=P n=0/\∀ w ∈ ways,P w.1 + w.2.2.1<=P w.2.1
theorem B9t {n:Nat} {c:Nat->Nat} (h:∀ j,j<=n + 1->c j<=n):∃ i j,i < j/\j<=n + 1/\c i=c j:=by
 apply Classical.byContradiction;intro hc;have hd:((List.range (n + 2)).map c).Nodup:=by
  refine List.pairwise_map.mpr (List.Pairwise.imp_of_mem (R:=fun a b=>a < b) (fun {a b} ha hb hab e=>?_) List.pairwise_lt_range);rw [List.mem_range] at hb;exact hc ⟨a,b,hab,by omega,e⟩
 have hs:((List.range (n + 2)).map c) ⊆ List.range (n + 1):=fun a ha=>by
  obtain ⟨x,hx,rfl⟩:=List.mem_map.mp ha;rw [List.mem_range] at hx;have:=h x (by omega);exact List.mem_range.mpr (by omega)
 have:=List.Nodup.length_le_of_subset hd hs;rw [Zl,List.length_range,List.length_range] at this;omega
theorem B01 {ways:List Wy} {n k:Nat} {c:Nat->Nat} {x:Nat->Rat} {P:Nat->Rat} (ch:Chn ways n k c x) (hp:Pot ways n P) {i:Nat}:∀ {j:Nat},i<=j->j<=k + 1->x j - P (c j)<=x i - P (c i)
 | 0,h,_=>by rw [Nat.le_zero.mp h]; exact Rat.le_refl
 | j + 1,h,hj=>by
  rcases Nat.lt_or_ge j i with z | z
  ·rw [show i=j + 1 by omega]; exact Rat.le_refl
  ·have ih:=B01 ch hp (j:=j) z (by omega);obtain ⟨w,hw,h1,h2,h3⟩:=ch.st j (by omega);have:=hp.2 w hw;rw [h1,h2] at this;rw [h3];grind
theorem B8h {ways:List Wy} {n:Nat} {P:Nat->Rat} (hw:∀ w ∈ ways,w.1<=n/\w.2.1<=n) (hp:Pot ways n P) (v:Nat):lnK ways n (n + 1) v=lnK ways n n v:=by
 apply Classical.byContradiction;intro h;obtain ⟨c,x,hc,ch⟩:=B40 n v h;have hle:∀ j,j<=n + 1->c j<=n:=fun j hj=>by
  match j,hj with
  | 0,_=>obtain ⟨w,hw',_,h2,_⟩:=ch.st 0 (by omega); rw [<- h2]; exact (hw w hw').1
  | j + 1,hj=>obtain ⟨w,hw',h1,_,_⟩:=ch.st j (by omega); rw [<- h1]; exact (hw w hw').2
 obtain ⟨i,j,hij,hj,e⟩:=B9t hle;have h1:=B01 ch hp (i:=i) (j:=j) (by omega) hj;rw [e] at h1;have h1':x j<=x i:=by grind
 obtain ⟨m,rfl⟩:∃ m,j=m + 1:=⟨j - 1,by omega⟩;have hn:=ch.new m (by omega);apply hn;refine A15 (fun a ha=>?_) A9z;rw [ch.at' (m + 1) hj] at ha;cases ha;obtain ⟨b,hb,l⟩:=X8 (ways:=ways) (n:=n) (v:=c (m + 1)) (show i<=m by omega) (x i) (by rw [<- e]; exact ch.at' i (by omega));exact ⟨b,hb,Rat.le_trans h1' l⟩
def fa (f:List (Option Rat)) (v:Nat):Option Rat:=(f[v]?).join
abbrev Bst:=List (Option Rat) × List (Option Wy) × Option Nat
def rlx (s:Bst) (w:Wy):Bst:=match fa s.1 w.1 with
 | none=>s
 | some a=>if upB (fa s.1 w.2.1) (a + w.2.2.1) then (s.1.set w.2.1 (some (a + w.2.2.1)),s.2.1.set w.2.1 (some w),some w.2.1) else s
def strF (ways:List Wy) (s:Bst):Bst:=ways.foldl rlx s
theorem P8 {f:List (Option Rat)} {i v:Nat} {r:Rat} (h:i < f.length):fa (f.set i (some r)) v=if v=i then some r else fa f v:=by
 unfold fa;rw [List.getElem?_set];by_cases e:i=v
 ·subst e; simp [h]
 ·rw [if_neg e,if_neg (fun z=>e z.symm)]
theorem rlx_len {s:Bst} {w:Wy}:(rlx s w).1.length=s.1.length/\(rlx s w).2.1.length=s.2.1.length:=by
 unfold rlx;split
 ·exact ⟨rfl,rfl⟩
 ·split
  ·simp
  ·exact ⟨rfl,rfl⟩
theorem B3w {s:Bst} {w:Wy} (hw:w.2.1 < s.1.length) (v:Nat):ole (fa s.1 v) (fa (rlx s w).1 v):=by
 unfold rlx;split
 ·exact N3 _
 ·rename_i a _;split
  ·rename_i h;rw [show (s.1.set w.2.1 (some (a + w.2.2.1)),s.2.1.set w.2.1 (some w),some w.2.1).1=s.1.set w.2.1 (some (a + w.2.2.1)) from rfl,P8 hw];split
   ·rename_i e;subst e;intro b hb;rw [hb] at h;exact ⟨_,rfl,Rat.le_of_lt (of_decide_eq_true h)⟩
   ·exact N3 _
  ·exact N3 _
theorem B53 {s:Bst} {w:Wy} {a:Rat} (hw:w.2.1 < s.1.length) (ha:fa s.1 w.1=some a):∃ b,fa (rlx s w).1 w.2.1=some b/\a + w.2.2.1<=b:=by
 unfold rlx;rw [ha];dsimp only;split
 ·dsimp only;rw [P8 hw,if_pos rfl]; exact ⟨_,rfl,Rat.le_refl⟩
 ·rename_i h;cases e:fa s.1 w.2.1 with
  | none=>rw [e] at h; exact absurd rfl h
  | some b=>rw [e] at h; exact ⟨b,rfl,Rat.not_lt.mp fun z=>h (Zk z)⟩
def Kep (ways:List Wy) (g:Nat->Option Rat):Prop:=∀ w ∈ ways,∀ a,g w.1=some a->∃ b,g w.2.1=some b/\a + w.2.2.1<=b
theorem B96 {s:Bst} {w:Wy} {g:Nat->Option Rat} (hw:w.2.1 < s.1.length) (hg:∀ a,g w.1=some a->∃ b,g w.2.1=some b/\a + w.2.2.1<=b) (h:∀ v,ole (fa s.1 v) (g v)):∀ v,ole (fa (rlx s w).1 v) (g v):=by
 intro v;unfold rlx;split
 ·exact h v
 ·rename_i a ha;split
  ·dsimp only;rw [P8 hw];split
   ·rename_i e;subst e;intro b hb;cases hb;obtain ⟨c,hc,l⟩:=h w.1 a ha;obtain ⟨d,hd,l'⟩:=hg c hc;exact ⟨d,hd,by grind⟩
   ·exact h v
  ·exact h v
theorem strF_len {ways:List Wy}:∀ {s:Bst},(strF ways s).1.length=s.1.length/\(strF ways s).2.1.length=s.2.1.length:=by
 induction ways with
 | nil=>exact fun {s}=>⟨rfl,rfl⟩
 | cons w r ih=>exact fun {s}=>⟨(ih (s:=rlx s w)).1.trans rlx_len.1,(ih (s:=rlx s w)).2.trans rlx_len.2⟩
theorem A76 {ways:List Wy}:∀ {s:Bst},(∀ w ∈ ways,w.2.1 < s.1.length)->∀ v,ole (fa s.1 v) (fa (strF ways s).1 v):=by
 induction ways with
 | nil=>exact fun {s} _ v=>N3 _
 | cons w r ih=>exact fun {s} hw v=>O3 (B3w (hw w Zy) v) (ih (s:=rlx s w) (fun x hx=>by rw [rlx_len.1]; exact hw x (Zr _ hx)) v)
theorem A5m {w:Wy} {ways:List Wy}:∀ {s:Bst} {a:Rat},(∀ w ∈ ways,w.2.1 < s.1.length)->w ∈ ways->fa s.1 w.1=some a->∃ b,fa (strF ways s).1 w.2.1=some b/\a + w.2.2.1<=b:=by
 induction ways with
 | nil=>exact fun {s a} _ h=>nomatch h
 | cons x r ih =>
  intro s a hw h ha;have hw':∀ y ∈ r,y.2.1 < (rlx s x).1.length:=fun y hy=>by rw [rlx_len.1]; exact hw y (Zr _ hy)
  rcases List.mem_cons.mp h with rfl | h
  ·obtain ⟨b,hb,l⟩:=B53 (hw w Zy) ha;obtain ⟨c,hc,l'⟩:=A76 hw' w.2.1 b hb;exact ⟨c,hc,Rat.le_trans l l'⟩
  ·obtain ⟨b,hb,l⟩:=B3w (hw x Zy) w.1 a ha;obtain ⟨c,hc,l'⟩:=ih hw' h hb;exact ⟨c,hc,by grind⟩
theorem B5q {g:Nat->Option Rat} {ways:List Wy}:∀ {s:Bst},(∀ w ∈ ways,w.2.1 < s.1.length)->Kep ways g->(∀ v,ole (fa s.1 v) (g v))->∀ v,ole (fa (strF ways s).1 v) (g v):=by
 induction ways with
 | nil=>exact fun {s} _ _ h=>h
 | cons w r ih =>
  intro s hw hg h;exact ih (fun x hx=>by rw [rlx_len.1]; exact hw x (Zr _ hx)) (fun x hx=>hg x (Zr _ hx)) (B96 (hw w Zy) (hg w Zy) h)
theorem A6y {ways:List Wy}:∀ {s:Bst},Kep ways (fa s.1)->strF ways s=s:=by
 induction ways with
 | nil=>exact fun {s} _=>rfl
 | cons w r ih =>
  intro s hg;have e:rlx s w=s:=by
   unfold rlx;split
   ·rfl
   ·rename_i a ha;obtain ⟨b,hb,l⟩:=hg w Zy a ha;rw [hb];exact if_neg (fun z=>absurd (of_decide_eq_true z) (Rat.not_lt.mpr l))
  show strF r (rlx s w)=s;rw [e];exact ih (fun x hx=>hg x (Zr _ hx))
theorem B1r {s:Bst} {w:Wy} (h:(rlx s w).2.2=none):rlx s w=s:=by
 unfold rlx at *;split
 ·rfl
 ·split
  ·rename_i a ha z;rw [ha] at h;dsimp only at h;rw [if_pos z] at h;cases h
  ·rfl
theorem B5p {ways:List Wy}:∀ {s:Bst},(strF ways s).2.2=none->s.2.2=none/\strF ways s=s:=by
 induction ways with
 | nil=>exact fun {s} h=>⟨h,rfl⟩
 | cons w r ih =>
  intro s h;obtain ⟨h1,h2⟩:=ih (s:=rlx s w) h;have e:=B1r h1;rw [e] at h1 h2;exact ⟨h1,by show strF r (rlx s w)=s; rw [e]; exact h2⟩
def bs0 (n:Nat):Bst:=(List.replicate n none++[some 0],List.replicate (n + 1) none,none)
def bsK (ways:List Wy) (n:Nat):Nat->Bst
 | 0=>bs0 n
 | k + 1=>let s:=bsK ways n k; strF ways (s.1,s.2.1,none)
theorem G4 {ways:List Wy} {n:Nat}:∀ k,(bsK ways n k).1.length=n + 1/\(bsK ways n k).2.1.length=n + 1
 | 0=>by simp [bsK,bs0]
 | k + 1=>⟨strF_len.1.trans (G4 k).1,strF_len.2.trans (G4 k).2⟩
theorem fa0 {n v:Nat}:fa (bs0 n).1 v=if v=n then some 0 else none:=by
 unfold fa bs0;dsimp only;rw [List.getElem?_append,List.length_replicate];by_cases h:v < n
 ·rw [if_pos h,if_neg (by omega),List.getElem?_replicate,if_pos h]; rfl
 ·rw [if_neg h];by_cases e:v=n
  ·subst e; simp
  ·rw [if_neg e,List.getElem?_eq_none (by simp; omega)]; rfl
theorem A31 {ways:List Wy} {n:Nat} (hw:∀ w ∈ ways,w.1<=n/\w.2.1<=n):∀ k v,ole (lnK ways n k v) (fa (bsK ways n k).1 v)
 | 0,v=>by rw [show bsK ways n 0=bs0 n from rfl,fa0]; exact N3 _
 | k + 1,v=>by
  have hl:∀ w ∈ ways,w.2.1 < (bsK ways n k).1.length:=fun w h=>by rw [(G4 k).1]; have:=hw w h; omega
  rcases A2c (g:=lnK ways n k) (v:=v) (ways:=ways) (acc:=lnK ways n k v) with e | ⟨w,hw',h1,a,h2,h3⟩
  ·rw [show lnK ways n (k + 1) v=lnK ways n k v from e];exact O3 (A31 hw k v) (A76 (s:=((bsK ways n k).1,(bsK ways n k).2.1,none)) hl v)
  ·intro c hc;rw [show lnK ways n (k + 1) v=some (a + w.2.2.1) from h3] at hc;cases hc;obtain ⟨b,hb,l⟩:=A31 hw k w.1 a h2;obtain ⟨d,hd,l'⟩:=A5m (s:=((bsK ways n k).1,(bsK ways n k).2.1,none)) hl hw' hb;rw [h1] at hd;exact ⟨d,hd,by grind⟩
theorem B08 {ways:List Wy} {n:Nat} (hw:∀ w ∈ ways,w.1<=n/\w.2.1<=n) {g:Nat->Option Rat} (hg:Kep ways g) (h0:ole (some 0) (g n)):∀ k v,ole (fa (bsK ways n k).1 v) (g v)
 | 0,v=>by
  rw [show bsK ways n 0=bs0 n from rfl,fa0];split
  ·rename_i e; rw [e]; exact h0
  ·exact B2o _
 | k + 1,v=>B5q (s:=((bsK ways n k).1,(bsK ways n k).2.1,none)) (fun w h=>by rw [(G4 k).1]; have:=hw w h; omega) hg (B08 hw hg h0 k) v
theorem B87 {ways:List Wy} {n:Nat} {P:Nat->Rat} (hw:∀ w ∈ ways,w.1<=n/\w.2.1<=n) (hp:Pot ways n P):(bsK ways n (n + 1)).2.2=none:=by
 have hk:Kep ways (lnK ways n n):=fun w h a ha=>by
  obtain ⟨b,hb,l⟩:=A4t (g:=lnK ways n n) (acc:=lnK ways n n w.2.1) rfl ha h;exact ⟨b,(B8h hw hp w.2.1).symm.trans hb,l⟩
 have h0:ole (some 0) (lnK ways n n n):=by
  have:=X8 (ways:=ways) (n:=n) (v:=n) (Nat.zero_le n)
  rwa [show lnK ways n 0 n=some 0 from if_pos rfl] at this
 have e:∀ v,fa (bsK ways n n).1 v=lnK ways n n v:=fun v=>A15 (B08 hw hk h0 n v) (A31 hw n v);have hs:=A6y (ways:=ways) (s:=((bsK ways n n).1,(bsK ways n n).2.1,none)) (by
  intro w h a ha;dsimp only at ha ⊢;rw [e] at ha ⊢;exact hk w h a ha)
 show (strF ways ((bsK ways n n).1,(bsK ways n n).2.1,none)).2.2=none;rw [hs]
theorem B07 {ways:List Wy} {n k:Nat} (hw:∀ w ∈ ways,w.1<=n/\w.2.1<=n) (h:(bsK ways n (k + 1)).2.2=none):Kep ways (fa (bsK ways n k).1)/\(bsK ways n (k + 1)).1=(bsK ways n k).1:=by
 have hs:=(B5p (ways:=ways) (s:=((bsK ways n k).1,(bsK ways n k).2.1,none)) h).2;have e:(bsK ways n (k + 1)).1=(bsK ways n k).1:=by
  show (strF ways ((bsK ways n k).1,(bsK ways n k).2.1,none)).1=_;rw [hs]
 refine ⟨fun w hw' a ha=>?_,e⟩;obtain ⟨b,hb,l⟩:=A5m (s:=((bsK ways n k).1,(bsK ways n k).2.1,none)) (fun w h=>by rw [(G4 k).1]; have:=hw w h; omega) hw' ha;rw [hs] at hb;exact ⟨b,hb,l⟩
theorem B42 {ways:List Wy} {n k v:Nat} {P:Nat->Rat} {a:Rat} (hw:∀ w ∈ ways,w.1<=n/\w.2.1<=n) (hp:Pot ways n P) (h:fa (bsK ways n k).1 v=some a):a<=P v:=by
 obtain ⟨b,hb,l⟩:=B08 hw (g:=fun v=>some (P v)) (fun w h a ha=>⟨_,rfl,by cases ha; exact hp.2 w h⟩) (by rw [hp.1]; exact N3 _) k v a h;cases hb; exact l
theorem B88 {ways:List Wy} {n k:Nat} {P:Nat->Rat} (hw:∀ w ∈ ways,w.1<=n/\w.2.1<=n) (hp:Pot ways n P):fa (bsK ways n k).1 n=some 0:=by
 have h0:ole (some 0) (fa (bsK ways n k).1 n):=O3 (by
  have:=X8 (ways:=ways) (n:=n) (v:=n) (Nat.zero_le k)
  rwa [show lnK ways n 0 n=some 0 from if_pos rfl] at this) (A31 hw k n)
 obtain ⟨b,hb,l⟩:=h0 0 rfl;have:=B42 hw hp hb;rw [hp.1] at this;rw [hb,Rat.le_antisymm this l]
def wyD (w:Wy):PyData:=.tuple [.int (w.1:Int),.int (w.2.1:Int),dq w.2.2.1,qD w.2.2.2]
def cD:Option Wy->PyData
 | none=>.none
 | some w=>wyD w
def mD:Option Nat->PyData
 | none=>.none
 | some v=>.int (v:Int)
abbrev ZB:={z:Nat // 0 < z/\z<=2 ^ 32}
abbrev z4:ZB:=⟨4,by decide,by decide⟩
theorem B45 {zB:ZB}:LL * zB.1<=2 ^ 132:=Zx (Nat.mul_le_mul (Nat.le_of_ble_eq_true rfl:LL<=2 ^ 100) zB.2.2) (by rw [<- Nat.pow_add]; exact Zp (by decide) (by decide))
theorem A2p {zB:ZB}:0 < LL * zB.1:=Nat.mul_pos C7 zB.2.1
theorem zQ {zB:ZB} {c:Nat} {q:Rat} (h:On (LL * zB.1) (c * 2 ^ 60) q) (hc:c<=2 ^ 12):SmQ 3900 q:=onQ h A2p (Zx B45 (Zp (by decide) (by decide))) (Zx (Zu _ hc) (by rw [<- Nat.pow_add]; exact Zp (by decide) (by decide)))
def OB (zB:ZB) (q:Rat):Prop:=On (LL * zB.1) (2 ^ 58) q
theorem OB.q {zB:ZB} {q:Rat} (h:OB zB q):SmQ 3900 q:=zQ (c:=1) (zB:=zB) (On.mono h (by decide)) (by decide)
theorem OB.un {zB:ZB} {q:Rat} (h:OB zB q):On (LL * zB.1) (1 * 2 ^ 60) q:=On.mono h (by decide)
theorem OB.add {zB:ZB} {p q:Rat} (h:OB zB p) (g:OB zB q):On (LL * zB.1) (1 * 2 ^ 60) (p + q):=(On.add A2p h g).mono (by decide)
theorem OB.sub {zB:ZB} {p q:Rat} (h:OB zB p) (g:OB zB q):On (LL * zB.1) (1 * 2 ^ 60) (p - q):=(On.sub A2p h g).mono (by decide)
def FB (zB:ZB) (m:Nat) (f:List (Option Rat)):Prop:=∀ v a,fa f v=some a->On (LL * zB.1) (m * 2 ^ 60) a
theorem B3a {f:List (Option Rat)} {v:Nat} (h:v < f.length):L2.atI (f.map vD) (v:Int)=some (vD (fa f v)) :=
 M0 (by rw [Zh,Zg h]; unfold fa; rw [Zg h]; rfl)
theorem FB.rlx {zB:ZB} {m:Nat} {s:Bst} {w:Wy} (h:FB zB m s.1) (hw:w.2.1 < s.1.length) (hl:On (LL * zB.1) (1 * 2 ^ 60) w.2.2.1):FB zB (m + 1) (rlx s w).1:=by
 unfold Prf.rlx;split
 ·exact fun v a e=>A5j (h v a e) (by omega)
 ·rename_i a ha;split
  ·intro v b e;dsimp only at e;rw [P8 hw] at e;split at e
   ·cases e; exact B9q zB.2.1 (h _ _ ha) hl (Zv _)
   ·exact A5j (h v b e) (by omega)
  ·exact fun v a e=>A5j (h v a e) (by omega)
theorem FB.strF {zB:ZB} {ways:List Wy}:∀ {m:Nat} {s:Bst},FB zB m s.1->(∀ w ∈ ways,w.2.1 < s.1.length/\On (LL * zB.1) (1 * 2 ^ 60) w.2.2.1)->FB zB (m + ways.length) (strF ways s).1:=by
 induction ways with
 | nil=>exact fun {m s} h _=>h
 | cons w r ih =>
  intro m s h hw;have:=ih (h.rlx (hw w Zy).1 (hw w Zy).2) (fun x hx=>by rw [rlx_len.1]; exact hw x (Zr _ hx));rw [show m + (w :: r).length=m + 1 + r.length by simp; omega];exact this
theorem A77 {ways:List Wy} {w:Wy} {i:Nat} {s:Bst} (h:ways[i]?=some w):strF (ways.take (i + 1)) s=rlx (strF (ways.take i) s) w:=by
 unfold strF;rw [List.take_add_one,h,List.foldl_append]; rfl
theorem M3 {α:Type} {f:α->PyData} {xs:List α} {pg:PyData->PEnv->(PEnv->Prop)->Prop} {pb:PSt} {D:PEnds} {env:PEnv} (Iv:Nat->PEnv->Prop) (h0:Iv 0 env)
  (hs:∀ (i:Nat) a e,xs[i]?=some a->Iv i e->pg (.tuple [.int (i:Int),f a]) e fun e2=>pb ⟨Iv (i + 1),D.rt,D.nx,Iv (i + 1)⟩ e2) (hd:∀ e,Iv xs.length e->D.nx e):A3c (A2f (xs.map f)) pg pb D env:=by
 refine ⟨Iv,h0,fun i x e hx hi=>?_,fun e h=>hd e (by rwa [A3p,List.length_map] at h)⟩;obtain ⟨y,hy,rfl⟩:=B0q hx;rw [Zh] at hy;cases ha:xs[i]? with
 | none=>rw [ha] at hy; cases hy
 | some a=>rw [ha] at hy; cases hy; exact hs i a e ha hi
def O4 (q:Rat):Prop:=On (LL * 4) (2 ^ 58) q
theorem O4.q {q:Rat} (h:O4 q):SmQ 3900 q:=unQ (D:=4) (c:=1) (h.mono (by decide)) (by decide) (by decide) (by decide)
def stW (n:Nat):List Wy:=(List.range n).map fun i=>(n,i,(0:Rat),(("start":Str),(i:Int)))
def enW (n:Nat) (ts:LQ) (W:Rat):List Wy:=ts.zipIdx.map fun z=>(z.2,n,z.1 - W,(("end":Str),(z.2:Int)))
def waW (ts:LQ) (ws:LW):List Wy:=ws.zipIdx.map fun z=>(z.1.1.toNat,z.1.2.1.toNat,rat ts z.1.1 + z.1.2.2,(("wait":Str),(z.2:Int)))
def hoO (ts:LQ) (h:Str × Int × Rat) (k:Nat):Wy:=if h.1="from" then (ts.length,h.2.1.toNat,h.2.2,(("hold":Str),(k:Int))) else if h.1="till" then (h.2.1.toNat,ts.length,0 - h.2.2,(("hold":Str),(k:Int))) else (h.2.1.toNat,ts.length,rat ts h.2.1 - h.2.2,(("hold":Str),(k:Int)))
def hoW (ts:LQ) (hs:LH):List Wy:=hs.zipIdx.map fun z=>hoO ts z.1 z.2
def enO (ts:LQ):Option Rat->List Wy
 | none=>[]
 | some W=>enW ts.length ts W
def E9 (ts:LQ) (ws:LW) (hs:LH) (W:Option Rat):List Wy:=stW ts.length++enO ts W++waW ts ws++hoW ts hs
theorem A39 {α β:Type} (f:α × Nat->β) {xs:List α} {i:Nat} {a:α} (h:xs[i]?=some a):(xs.zipIdx.map f).take (i + 1)=(xs.zipIdx.map f).take i++[f (a,i)]:=by
 rw [List.take_add_one,Zh,List.getElem?_zipIdx,h];simp
theorem A7u {α β:Type} (f:α × Nat->β) {xs:List α}:(xs.zipIdx.map f).take xs.length=xs.zipIdx.map f:=List.take_of_length_le (by simp)
structure NOk (zB:ZB) (ts:LQ) (ws:LW) (hs:LH):Prop where
 n0:1<=ts.length
 n1:ts.length<=10
 wl:ws.length<=40
 hl:hs.length<=40
 t:∀ t ∈ ts,OB zB t
 w:∀ w ∈ ws,(0<=w.1/\w.1 < (ts.length:Int))/\(0<=w.2.1/\w.2.1 < (ts.length:Int))/\OB zB w.2.2
 h:∀ h ∈ hs,Hk h.1/\(0<=h.2.1/\h.2.1 < (ts.length:Int))/\OB zB h.2.2
def NetB (t:OT) (ws:LW) (hs:LH):Prop:=∃ u1 u2,t.part 1=some u1/\u1.sv=.bor (ws.map wD)/\t.part 2=some u2/\u2.sv=.bor (hs.map hD)
theorem NetB.leaf {xs:List Wk} {ws:LW} {hs:LH} {gs:LP}:NetB (.leaf (netD xs ws hs gs)) ws hs:=⟨_,_,rfl,rfl,rfl,rfl⟩
theorem A4q {A T T':List Wy} {w:Wy} (h:T'=T++[w]):(A++T').map wyD=(A++T).map wyD++[wyD w]:=by rw [h,<- List.append_assoc,Zc]; rfl
theorem A1s {n:Nat}:(stW n).length=n:=by simp [stW]
theorem A4z {ts:LQ} {W:Option Rat}:(enO ts W).length<=ts.length:=by cases W <;> simp [enO,enW]
theorem A7v {ts:LQ} {ws:LW}:(waW ts ws).length=ws.length:=by simp [waW]
theorem B8v {ts:LQ} {hs:LH}:(hoW ts hs).length=hs.length:=by simp [hoW]
theorem S8 {zB:ZB} {ts:LQ} {ws:LW} {hs:LH} {W:Option Rat} (ok:NOk zB ts ws hs):(E9 ts ws hs W).length<=100:=by
 have:=ok.n1;have:=ok.wl;have:=ok.hl;have:=A4z (ts:=ts) (W:=W);unfold E9;rw [Ze,Ze,Ze,A1s,A7v,B8v];omega
theorem P9 {α β:Type} {f:α × Nat->β} {xs:List α} {b:β} (h:b ∈ xs.zipIdx.map f):∃ a i,xs[i]?=some a/\b=f (a,i):=by
 obtain ⟨⟨a,i⟩,hz,rfl⟩:=List.mem_map.mp h;exact ⟨a,i,List.mem_zipIdx_iff_getElem?.mp hz,rfl⟩
theorem Q7 {zB:ZB} {ts:LQ} {ws:LW} {hs:LH} {W:Option Rat} (ok:NOk zB ts ws hs) (hW:∀ w,W=some w->OB zB w):∀ w ∈ E9 ts ws hs W,w.1<=ts.length/\w.2.1<=ts.length/\On (LL * zB.1) (1 * 2 ^ 60) w.2.2.1:=fun w hw=>by
 unfold E9 at hw;rcases Za hw with hw | hw
 ·rcases Za hw with hw | hw
  ·rcases Za hw with hw | hw
   ·obtain ⟨i,hi,rfl⟩:=List.mem_map.mp hw;rw [List.mem_range] at hi;exact ⟨Zv _,by show i<=_; omega,On.zero.mono (Nat.zero_le _)⟩
   ·cases W with
    | none=>cases hw
    | some W =>
     obtain ⟨q,i,hi,rfl⟩:=P9 hw;have:=(Zs hi).1;exact ⟨by show i<=_; omega,Zv _,(ok.t q (Zm hi)).sub (hW W rfl)⟩
  ·obtain ⟨x,i,hi,rfl⟩:=P9 hw;obtain ⟨a,b,c⟩:=ok.w x (Zm hi);exact ⟨by show x.1.toNat<=_; omega,by show x.2.1.toNat<=_; omega,(ok.t _ (O0 a.1 a.2)).add c⟩
 ·obtain ⟨x,i,hi,rfl⟩:=P9 hw;obtain ⟨a,b,c⟩:=ok.h x (Zm hi);have hx:x.2.1.toNat<=ts.length:=by omega
  show (hoO ts x i).1<=_/\(hoO ts x i).2.1<=_/\On _ _ (hoO ts x i).2.2.1;unfold hoO;split
  ·exact ⟨Zv _,hx,c.un⟩
  ·split
   ·refine ⟨hx,Zv _,?_⟩;show On _ _ (0 - x.2.2);rw [Rat.sub_eq_add_neg,Rat.zero_add];exact c.un.neg
   ·exact ⟨hx,Zv _,(ok.t _ (O0 b.1 b.2)).sub c⟩
def kst (ways:List Wy) (n:Nat):Option Nat:=(List.range (n + 1)).find? fun k=>(bsK ways n (k + 1)).2.2.isNone
theorem B09 {zB:ZB} {ways:List Wy} {n:Nat} (hw:∀ w ∈ ways,w.1<=n/\w.2.1<=n/\On (LL * zB.1) (1 * 2 ^ 60) w.2.2.1):∀ k,FB zB (k * ways.length) (bsK ways n k).1
 | 0=>fun v a h=>by
  rw [show bsK ways n 0=bs0 n from rfl,fa0] at h;split at h
  ·cases h; exact On.zero.mono (Nat.zero_le _)
  ·cases h
 | k + 1=>by
  have:=FB.strF (ways:=ways) (s:=((bsK ways n k).1,(bsK ways n k).2.1,none)) (B09 hw k) (fun w h=>⟨by rw [(G4 k).1]; have:=hw w h; omega,(hw w h).2.2⟩);rw [show (k + 1) * ways.length=k * ways.length + ways.length by rw [Nat.add_mul,Nat.one_mul]];exact this
theorem A6u {α β:Type} {f:α × Nat->β} {xs:List α} {a:α} {i:Nat} (h:xs[i]?=some a):f (a,i) ∈ xs.zipIdx.map f:=List.mem_map.mpr ⟨(a,i),List.mem_zipIdx_iff_getElem?.mpr h,rfl⟩
structure Kps (ws:LW) (hs:LH) (ps:LR) (W:Option Rat):Prop where
 s:∀ p ∈ ps,0<=p.1
 w:∀ w ∈ ws,0<=wSl ps w
 h:∀ h ∈ hs,0<=hSl ps h
 e:∀ V,W=some V->∀ p ∈ ps,enD p<=V
def pvS (ps:LR) (v:Nat):Rat:=(ps.getD v (0,0)).1
theorem V0 {ps:LR} {o:Int}:rat (ps.map (·.2)) o=(sat ps o).2:=by
 unfold rat sat;rw [List.getD_eq_getElem?_getD,List.getD_eq_getElem?_getD,Zh];cases ps[o.toNat]? <;> rfl
theorem L5 {ps:LR}:pvS ps ps.length=0:=by unfold pvS; rw [List.getD_eq_getElem?_getD,List.getElem?_eq_none (Zv _)]; rfl
theorem A1x {ps:LR} {i:Nat} {p:Rat × Rat} (h:ps[i]?=some p):pvS ps i=p.1:=by unfold pvS; rw [List.getD_eq_getElem?_getD,h]; rfl
theorem Kps.pot {ws:LW} {hs:LH} {ps:LR} {W:Option Rat} (k:Kps ws hs ps W) (hh:∀ h ∈ hs,Hk h.1):Pot (E9 (ps.map (·.2)) ws hs W) ps.length (pvS ps):=by
 refine ⟨L5,fun x hx=>?_⟩;unfold E9 at hx;rcases Za hx with hx | hx
 ·rcases Za hx with hx | hx
  ·rcases Za hx with hx | hx
   ·obtain ⟨i,hi,rfl⟩:=List.mem_map.mp hx;rw [List.mem_range,Zl] at hi;show pvS ps (ps.map (·.2)).length + 0<=pvS ps i;rw [Zl,L5,A1x (Zg hi),Rat.add_zero];exact k.s _ (List.getElem_mem hi)
   ·cases W with
    | none=>cases hx
    | some W =>
     obtain ⟨q,i,hi,rfl⟩:=P9 hx;rw [Zh] at hi;obtain ⟨p,hp,rfl⟩:=Zo hi;show pvS ps i + (p.2 - W)<=pvS ps (ps.map (·.2)).length;rw [Zl,L5,A1x hp];have:=k.e W rfl p (Zm hp);unfold enD at this;grind
  ·obtain ⟨x,i,hi,rfl⟩:=P9 hx;have:=k.w x (Zm hi);show pvS ps x.1.toNat + (rat (ps.map (·.2)) x.1 + x.2.2)<=pvS ps x.2.1.toNat;rw [V0];unfold wSl enD at this;have e1:pvS ps x.1.toNat=(sat ps x.1).1:=rfl;have e2:pvS ps x.2.1.toNat=(sat ps x.2.1).1:=rfl;rw [e1,e2];grind
 ·obtain ⟨x,i,hi,rfl⟩:=P9 hx;have hk:=hh x (Zm hi);have:=k.h x (Zm hi);have e2:pvS ps x.2.1.toNat=(sat ps x.2.1).1:=rfl;show pvS ps (hoO (ps.map (·.2)) x i).1 + (hoO (ps.map (·.2)) x i).2.2.1<=pvS ps (hoO (ps.map (·.2)) x i).2.1;unfold hoO;unfold hSl at this;split
  ·rename_i z;rw [if_pos z] at this;show pvS ps (ps.map (·.2)).length + x.2.2<=pvS ps x.2.1.toNat;rw [Zl,L5,e2];grind
  ·rename_i z;rw [if_neg z] at this;split
   ·rename_i z;rw [if_pos z] at this;show pvS ps x.2.1.toNat + (0 - x.2.2)<=pvS ps (ps.map (·.2)).length;rw [Zl,L5,e2];grind
   ·rename_i z;rw [if_neg z] at this;show pvS ps x.2.1.toNat + (rat (ps.map (·.2)) x.2.1 - x.2.2)<=pvS ps (ps.map (·.2)).length;rw [Zl,L5,e2,V0];unfold enD at this;grind
theorem Kps.of {ws:LW} {hs:LH} {ps:LR} {W:Option Rat} (h:Pot (E9 (ps.map (·.2)) ws hs W) ps.length (pvS ps)):Kps ws hs ps W:=by
 obtain ⟨_,h⟩:=h;have e2:∀ o:Int,pvS ps o.toNat=(sat ps o).1:=fun _=>rfl;refine ⟨fun p hp=>?_,fun x hx=>?_,fun x hx=>?_,fun V hV p hp=>?_⟩
 ·obtain ⟨i,hi,e⟩:=List.getElem_of_mem hp;have:=h _ (Zt _ (Zt _ (Zt _ (List.mem_map.mpr ⟨i,List.mem_range.mpr (by rw [Zl]; exact hi),rfl⟩))));rw [show pvS ps ((ps.map (·.2)).length,i,(0:Rat),(("start":Str),(i:Int))).1=0 by show pvS ps (ps.map (·.2)).length=0; rw [Zl,L5],show pvS ps ((ps.map (·.2)).length,i,(0:Rat),(("start":Str),(i:Int))).2.1=p.1 from A1x (by rw [Zg hi,e])] at this;rw [Rat.zero_add] at this;exact this
 ·obtain ⟨i,hi,e⟩:=List.getElem_of_mem hx;have:=h _ (Zt _ (Zw _ (A6u (f:=fun z:(Int × Int × Rat) × Nat=>((z.1.1.toNat,z.1.2.1.toNat,rat (ps.map (·.2)) z.1.1 + z.1.2.2,(("wait":Str),(z.2:Int))):Wy)) (by rw [Zg hi,e]))));dsimp only at this;rw [e2,e2,V0] at this;unfold wSl enD;grind
 ·obtain ⟨i,hi,e⟩:=List.getElem_of_mem hx;have:=h _ (Zw _ (A6u (f:=fun z:(Str × Int × Rat) × Nat=>hoO (ps.map (·.2)) z.1 z.2) (by rw [Zg hi,e])));dsimp only at this;unfold hSl;unfold hoO at this;split
  ·rename_i z;rw [if_pos z] at this;dsimp only at this;rw [Zl,L5,e2] at this;grind
  ·rename_i z;rw [if_neg z] at this;split
   ·rename_i z;rw [if_pos z] at this;dsimp only at this;rw [Zl,L5,e2] at this;grind
   ·rename_i z;rw [if_neg z] at this;dsimp only at this;rw [Zl,L5,e2,V0] at this;unfold enD;grind
 ·subst hV;obtain ⟨i,hi,e⟩:=List.getElem_of_mem hp;have:=h _ (Zt _ (Zt _ (Zw _ (A6u (f:=fun z:Rat × Nat=>((z.2,(ps.map (·.2)).length,z.1 - V,(("end":Str),(z.2:Int))):Wy)) (a:=p.2) (i:=i) (by rw [Zh,Zg hi,e]; rfl)))));dsimp only at this;rw [Zl,L5,A1x (by rw [Zg hi,e])] at this;unfold enD;grind
def swp (w:Wy):Wy:=(w.2.1,w.1,w.2.2)
def bkL (ts:LQ) (ws:LW) (hs:LH) (W:Rat):List Wy:=(E9 ts ws hs (some W)).map swp
theorem A11 {ways:List Wy} {n:Nat} {P:Nat->Rat} (h:Pot ways n P):Pot (ways.map swp) n (fun v=>-P v):=⟨by show -P n=0; rw [h.1]; decide,fun w hw=>by
 obtain ⟨x,hx,rfl⟩:=List.mem_map.mp hw;have:=h.2 x hx;show -P x.2.1 + x.2.2.1<=-P x.1;grind⟩
theorem B6n {a b:List Wy} {n:Nat} {P:Nat->Rat} (h:Pot b n P) (hs:∀ w ∈ a,w ∈ b):Pot a n P:=⟨h.1,fun w hw=>h.2 w (hs w hw)⟩
theorem A2q {ts:LQ} {ws:LW} {hs:LH} {W:Option Rat}:∀ w ∈ E9 ts ws hs none,w ∈ E9 ts ws hs W:=fun w hw=>by
 unfold E9 at hw ⊢;rw [show enO ts none=[] from rfl,List.append_nil] at hw;rcases Za hw with hw | hw
 ·rcases Za hw with hw | hw
  ·exact Zt _ (Zt _ (Zt _ hw))
  ·exact Zt _ (Zw _ hw)
 ·exact Zw _ hw
theorem Y0 {ways:List Wy} {n:Nat} {P:Nat->Rat} (hw:∀ w ∈ ways,w.1<=n/\w.2.1<=n) (hp:Pot ways n P):∃ k,kst ways n=some k:=by
 cases h:kst ways n with
 | some k=>exact ⟨k,rfl⟩
 | none =>
  unfold kst at h;rw [List.find?_eq_none] at h;have:=h n (List.mem_range.mpr (by omega));rw [B87 hw hp] at this;exact absurd rfl this
theorem A6d {ways:List Wy} {n k:Nat} (h:kst ways n=some k):(bsK ways n (k + 1)).2.2=none/\k<=n:=by
 unfold kst at h;rw [List.find?_range_eq_some] at h;obtain ⟨h1,h2,_⟩:=h;rw [List.mem_range] at h2;exact ⟨Option.isNone_iff_eq_none.mp h1,by omega⟩
def farS (ways:List Wy) (n:Nat):List (Option Rat):=(bsK ways n ((kst ways n).getD 0)).1
theorem A4x {ways:List Wy} {n k:Nat} (h:kst ways n=some k):farS ways n=(bsK ways n k).1:=by unfold farS; rw [h]; rfl
structure Fars (zB:ZB) (ways:List Wy) (n:Nat) (f:List (Option Rat)):Prop where
 ln:f.length=n + 1
 fx:Kep ways (fa f)
 rt:fa f n=some 0
 le:∀ P,Pot ways n P->∀ v a,fa f v=some a->a<=P v
 fb:FB zB 1000 f
theorem A4w {zB:ZB} {ways:List Wy} {n:Nat} {P:Nat->Rat} (hw:∀ w ∈ ways,w.1<=n/\w.2.1<=n/\On (LL * zB.1) (1 * 2 ^ 60) w.2.2.1) (hp:Pot ways n P) (hl:ways.length<=100) (hn:n<=10):Fars zB ways n (farS ways n):=by
 have hw':∀ w ∈ ways,w.1<=n/\w.2.1<=n:=fun w h=>⟨(hw w h).1,(hw w h).2.1⟩;obtain ⟨k,hk⟩:=Y0 hw' hp;obtain ⟨h1,h2⟩:=A6d hk;rw [A4x hk];exact ⟨(G4 k).1,(B07 hw' h1).1,B88 hw' hp,fun Q hQ v a h=>B42 hw' hQ h,fun v a h=>A5j (B09 hw k v a h) (by have:=Nat.mul_le_mul (show k<=10 by omega) hl; omega)⟩
def latS (ts:LQ) (ws:LW) (hs:LH) (W:Rat):LQ:=((farS (bkL ts ws hs W) ts.length).take ts.length).map fun x=>0 - x.getD 0
def earS (ts:LQ) (ws:LW) (hs:LH):LQ:=((farS (E9 ts ws hs none) ts.length).take ts.length).map fun x=>x.getD 0
theorem A1h {zB:ZB} {ts:LQ} {ws:LW} {hs:LH} {W:Rat} (ok:NOk zB ts ws hs) (hW:OB zB W):∀ w ∈ bkL ts ws hs W,w.1<=ts.length/\w.2.1<=ts.length/\On (LL * zB.1) (1 * 2 ^ 60) w.2.2.1:=fun w hw=>by
 obtain ⟨x,hx,rfl⟩:=List.mem_map.mp hw;obtain ⟨a,b,c⟩:=Q7 ok (W:=some W) (fun _ e=>by cases e; exact hW) x hx;exact ⟨b,a,c⟩
theorem A45 {zB:ZB} {ts:LQ} {ws:LW} {hs:LH} {W:Rat} {f:List (Option Rat)} (h:Fars zB (bkL ts ws hs W) ts.length f) {v:Nat} (hv:v < ts.length):∃ a,fa f v=some a:=by
 have hm:(ts.length,v,ts[v] - W,(("end":Str),(v:Int))) ∈ bkL ts ws hs W:=List.mem_map.mpr ⟨(v,ts.length,ts[v] - W,(("end":Str),(v:Int))),Zt _ (Zt _ (Zw _ (A6u (f:=fun z:Rat × Nat=>((z.2,ts.length,z.1 - W,(("end":Str),(z.2:Int))):Wy)) (Zg hv)))),rfl⟩;obtain ⟨b,hb,_⟩:=h.fx _ hm 0 h.rt;exact ⟨b,hb⟩
theorem B0v {zB:ZB} {ts:LQ} {ws:LW} {hs:LH} {W:Option Rat} {f:List (Option Rat)} (h:Fars zB (E9 ts ws hs W) ts.length f) {v:Nat} (hv:v < ts.length):∃ a,fa f v=some a:=by
 have hm:(ts.length,v,(0:Rat),(("start":Str),(v:Int))) ∈ E9 ts ws hs W:=Zt _ (Zt _ (Zt _ (List.mem_map.mpr ⟨v,List.mem_range.mpr hv,rfl⟩)));obtain ⟨b,hb,_⟩:=h.fx _ hm 0 h.rt;exact ⟨b,hb⟩
theorem A70 {f:List (Option Rat)} {n:Nat} (hl:n<=f.length) (h:∀ v,v < n->∃ a,fa f v=some a):(f.take n).map vD=((f.take n).map fun x=>x.getD 0).map dq:=by
 rw [List.map_map];refine List.map_congr_left fun x hx=>?_;obtain ⟨i,hi,e⟩:=List.getElem_of_mem hx;rw [List.length_take] at hi;rw [List.getElem_take] at e;obtain ⟨a,ha⟩:=h i (by omega);unfold fa at ha;rw [Zg (by omega),e] at ha;rw [show x=some a from ha];rfl
structure PSz (B a:Nat) (ws:LW) (hs:LH) (ps:LR):Prop where
 b0:0 < B
 b1:B<=2 ^ 1000
 a1:a<=900
 ln:ps.length<=10
 wl:ws.length<=40
 hl:hs.length<=40
 p:∀ p ∈ ps,On B (2 ^ a) p.1/\On B (2 ^ a) p.2
 w:∀ w ∈ ws,(0<=w.1/\w.1 < (ps.length:Int))/\(0<=w.2.1/\w.2.1 < (ps.length:Int))/\On B (2 ^ a) w.2.2
 h:∀ h ∈ hs,Hk h.1/\(0<=h.2.1/\h.2.1 < (ps.length:Int))/\On B (2 ^ a) h.2.2
theorem onB {B a:Nat} {q:Rat} (h:On B (2 ^ a) q) (hB:0 < B) (hb:B<=2 ^ 1000) (g:a<=1000):SmQ 3900 q:=onQ h hB hb (Zp (by decide) g)
section
variable {B a:Nat} {ws:LW} {hs:LH} {ps:LR}
theorem PSz.sm (ok:PSz B a ws hs ps) {b:Nat} {q:Rat} (h:On B (2 ^ b) q) (g:b<=a + 10):SmQ 3900 q:=onB h ok.b0 ok.b1 (by have:=ok.a1; omega)
theorem PSz.st (ok:PSz B a ws hs ps) {o:Int} (h0:0<=o) (h1:o < (ps.length:Int)):On B (2 ^ a) (sat ps o).1/\On B (2 ^ a) (sat ps o).2/\On B (2 ^ (a + 1)) (enD (sat ps o)) :=
 let z:=ok.p _ (U9 h0 h1)
 ⟨z.1,z.2,z.1.add2 ok.b0 z.2 (Zv _)⟩
theorem PSz.pl (ok:PSz B a ws hs ps) {o:Int} (h0:0<=o) (h1:o < (ps.length:Int)):PlSm (sat ps o) :=
 let ⟨x,y,z⟩:=ok.st h0 h1
 ⟨ok.sm x (by omega),ok.sm y (by omega),ok.sm z (by omega)⟩
theorem PSz.wS (ok:PSz B a ws hs ps) {w:Int × Int × Rat} (hw:w ∈ ws):On B (2 ^ (a + 3)) (wSl ps w)/\On B (2 ^ (a + 2)) (enD (sat ps w.1) + w.2.2):=by
 obtain ⟨x,y,z⟩:=ok.w w hw;have e:=(ok.st x.1 x.2).2.2.add2 ok.b0 (z.p2 (by omega)) (show a + 1 + 1<=a + 2 by omega);exact ⟨((ok.st y.1 y.2).1.p2 (by omega)).sub2 ok.b0 e (by omega),e⟩
theorem PSz.hS (ok:PSz B a ws hs ps) {h:Str × Int × Rat} (hh:h ∈ hs):On B (2 ^ (a + 3)) (hSl ps h):=by
 obtain ⟨x,y,z⟩:=ok.h h hh;obtain ⟨s1,s2,s3⟩:=ok.st y.1 y.2;unfold hSl;split
 ·exact s1.sub2 ok.b0 z (by omega)
 ·split
  ·exact z.sub2 ok.b0 s1 (by omega)
  ·exact (z.p2 (b:=a + 1) (by omega)).sub2 ok.b0 s3 (by omega)
end
def aloW (ws:LW) (ps:LR) (W:Rat) (i:Nat):Rat:=lm ((ws.filter fun w=>decide (w.1=(i:Int))).map (wSl ps)) (W - enD (sat ps (i:Int)))
def hTB (i:Nat) (h:Str × Int × Rat):Bool:=decide (h.2.1=(i:Int)) && !decide (h.1="from")
def alo (ws:LW) (hs:LH) (ps:LR) (W:Rat) (i:Nat):Rat:=lm ((hs.filter (hTB i)).map (hSl ps)) (aloW ws ps W i)
theorem A2e {zB:ZB} {ts:LQ} {ws:LW} {hs:LH} {W:Rat} (h:Fars zB (bkL ts ws hs W) ts.length (farS (bkL ts ws hs W) ts.length)):(latS ts ws hs W).length=ts.length:=by
 unfold latS;rw [Zl,List.length_take,h.ln]; omega
theorem A4u {zB:ZB} {ts:LQ} {ws:LW} {hs:LH} {W:Rat} (h:Fars zB (bkL ts ws hs W) ts.length (farS (bkL ts ws hs W) ts.length)) {v:Nat} (hv:v < ts.length):∃ a,fa (farS (bkL ts ws hs W) ts.length) v=some a/\(latS ts ws hs W)[v]?=some (0 - a):=by
 obtain ⟨a,ha⟩:=A45 h hv;refine ⟨a,ha,?_⟩;unfold latS;rw [Zh,List.getElem?_take,if_pos hv];unfold fa at ha;cases e:(farS (bkL ts ws hs W) ts.length)[v]? with
 | none=>rw [e] at ha; cases ha
 | some x=>rw [e] at ha; rw [show x=some a from ha]; rfl
theorem A96 {zB:ZB} {ts:LQ} {ws:LW} {hs:LH} {W:Rat} (h:Fars zB (bkL ts ws hs W) ts.length (farS (bkL ts ws hs W) ts.length)):∀ q ∈ latS ts ws hs W,On (LL * zB.1) (2 ^ 70) q:=fun q hq=>by
 obtain ⟨i,hi,e⟩:=List.getElem_of_mem hq;obtain ⟨a,ha,e2⟩:=A4u h (v:=i) (by rw [<- A2e h]; exact hi);rw [Zg hi,e] at e2;rw [Zj e2,Rat.sub_eq_add_neg,Rat.zero_add];exact ((h.fb i a ha).mono (by decide)).neg
section
variable {ws:LW} {hs:LH} {ps:LR} {W x:Rat} {i:Nat}
theorem B9h:alo ws hs ps W i=W - enD (sat ps (i:Int))\/(∃ w ∈ ws,w.1=(i:Int)/\alo ws hs ps W i=wSl ps w)\/∃ h ∈ hs,hTB i h=true/\alo ws hs ps W i=hSl ps h:=by
 unfold alo;rcases A3j ((hs.filter (hTB i)).map (hSl ps)) (aloW ws ps W i) with e | e
 ·rw [e];unfold aloW;rcases A3j ((ws.filter fun w=>decide (w.1=(i:Int))).map (wSl ps)) (W - enD (sat ps (i:Int))) with e | e
  ·exact .inl e
  ·obtain ⟨w,hw,e⟩:=List.mem_map.mp e;obtain ⟨h1,h2⟩:=List.mem_filter.mp hw;exact .inr (.inl ⟨w,h1,of_decide_eq_true h2,e.symm⟩)
 ·obtain ⟨w,hw,e⟩:=List.mem_map.mp e;obtain ⟨h1,h2⟩:=List.mem_filter.mp hw;exact .inr (.inr ⟨w,h1,h2,e.symm⟩)
structure Idx (ws:LW) (hs:LH) (ps:LR):Prop where
 w:∀ w ∈ ws,0<=w.1/\0<=w.2.1/\w.1≠w.2.1
 h:∀ h ∈ hs,0<=h.2.1
theorem C4u (K:Kps ws hs ps (some W)) (hi:i < ps.length):0<=alo ws hs ps W i:=by
 rcases B9h (ws:=ws) (hs:=hs) (ps:=ps) (W:=W) (i:=i) with e | ⟨w,hw,_,e⟩ | ⟨h,hh,_,e⟩
 ·have:=K.e W rfl (sat ps (i:Int)) (U9 (by omega) (by omega));rw [e]; grind
 ·rw [e]; exact K.w w hw
 ·rw [e]; exact K.h h hh
def lpl (ws:LW) (hs:LH) (ps:LR) (W:Rat):LR:=ps.zipIdx.map fun z=>(rat (latS (ps.map (·.2)) ws hs W) (z.2:Int),z.1.2)
theorem A2b:(lpl ws hs ps W).length=ps.length:=by unfold lpl; simp
theorem A6a {j:Nat} {p:Rat × Rat} (h:ps[j]?=some p):(lpl ws hs ps W)[j]?=some (rat (latS (ps.map (·.2)) ws hs W) (j:Int),p.2):=by
 unfold lpl;rw [Zh,List.getElem?_zipIdx,h]; simp
theorem A9w:(lpl ws hs ps W).map (·.2)=ps.map (·.2):=by
 refine List.ext_getElem? fun j=>?_;rw [Zh,Zh];cases h:ps[j]? with
 | none=>rw [List.getElem?_eq_none (by rw [A2b]; exact List.getElem?_eq_none_iff.mp h)]
 | some p=>rw [A6a h]; rfl
theorem B4g {zB:ZB} (fo:Fars zB (bkL (ps.map (·.2)) ws hs W) (ps.map (·.2)).length (farS (bkL (ps.map (·.2)) ws hs W) (ps.map (·.2)).length)) {v:Nat} (hv:v<=ps.length):∃ a,fa (farS (bkL (ps.map (·.2)) ws hs W) (ps.map (·.2)).length) v=some a/\pvS (lpl ws hs ps W) v=0 - a:=by
 rcases Nat.lt_or_ge v ps.length with h | h
 ·obtain ⟨a,ha,hl⟩:=A4u fo (v:=v) (by rw [Zl]; exact h);refine ⟨a,ha,?_⟩;rw [A1x (A6a (Zg h))];show rat (latS (ps.map (·.2)) ws hs W) (v:Int)=0 - a;unfold rat;rw [List.getD_eq_getElem?_getD,Int.toNat_natCast,hl]; rfl
 ·rw [show v=ps.length by omega];refine ⟨0,by rw [<- Zl (f:=fun p:Rat × Rat=>p.2)]; exact fo.rt,?_⟩;rw [<- A2b (ws:=ws) (hs:=hs) (ps:=ps) (W:=W),L5]; grind
theorem A9x {zB:ZB} (fo:Fars zB (bkL (ps.map (·.2)) ws hs W) (ps.map (·.2)).length (farS (bkL (ps.map (·.2)) ws hs W) (ps.map (·.2)).length)) (hw:∀ w ∈ E9 (ps.map (·.2)) ws hs (some W),w.1<=ps.length/\w.2.1<=ps.length):Kps ws hs (lpl ws hs ps W) (some W):=by
 refine Kps.of ?_;rw [A9w,A2b];refine ⟨by rw [<- A2b (ws:=ws) (hs:=hs) (ps:=ps) (W:=W),L5],fun w h=>?_⟩;obtain ⟨h1,h2⟩:=hw w h;obtain ⟨a,ha,ea⟩:=B4g fo h1;obtain ⟨b,hb,eb⟩:=B4g fo h2;obtain ⟨c,hc,l⟩:=fo.fx (swp w) (List.mem_map.mpr ⟨w,h,rfl⟩) b hb;have hc':fa (farS (bkL (ps.map (·.2)) ws hs W) (ps.map (·.2)).length) w.1=some c:=hc;rw [ha] at hc';cases hc';have l':b + w.2.2.1<=a:=l;rw [ea,eb];grind
end
theorem B2n {m:Int} (h:0 < m):PyData.tuple [.int 1,.int m]=dq (Rat.divInt 1 m):=by
 obtain ⟨k,rfl⟩:=Zi (Int.le_of_lt h);unfold dq;have hk:k≠0:=by omega
 have e:Rat.divInt 1 (k:Int)=mkRat 1 k:=rfl;have e2:mkRat 1 k=⟨1,k,hk,by simp⟩:=Rat.mkRat_eq_iff hk hk |>.mpr rfl |>.trans (Rat.mkRat_self ⟨1,k,hk,by simp⟩);rw [e,e2]
theorem B7t {m:Nat} {B:Nat} (h:0 < m) (hB:0 < B):On (B * m) 1 (Rat.divInt 1 (m:Int)):=⟨(B:Int),by
 rw [show ((B * m:Nat):Int)=(B:Int) * (m:Int) by simp];exact (Rat.divInt_eq_divInt_iff (by omega) (by have:=Int.mul_pos (show (0:Int) < (B:Int) by omega) (show (0:Int) < (m:Int) by omega); omega)).mpr (by rw [Int.one_mul]),by rw [Nat.one_mul]; have:=Nat.le_mul_of_pos_right B h; simpa using this⟩
theorem A5e:LL * 4<=2 ^ 100:=by decide +kernel
theorem L1 {B a:Nat} (h:B<=2 ^ a) (g:a<=1000):B<=2 ^ 1000:=Zx h (Zp (by decide) g)
structure Dr (n:Nat) (ps:LR) (ws:LW) (hs:LH):Prop where
 n0:1<=n
 ln:ps.length=n
 sz:PSz (LL * 4) 58 ws hs ps
 nk:NOk z4 (ps.map (·.2)) ws hs
 ix:Idx ws hs ps
 kp:∀ W:Option Rat,(∀ V,W=some V->∀ p ∈ ps,enD p<=V)->Kps ws hs ps W
 s50:∀ p ∈ ps,On (LL * 4) (2 ^ 50) p.1/\On (LL * 4) (2 ^ 50) p.2
theorem C4f {n:Nat} {xs:List Wk} {vs:List (Int × Int)} {us:List (Str × Int)} {ps:LR} {ws:LW} {hs:LH} (ok:ShOk n xs vs us) (h1:ps.length=n) (h2:∀ p ∈ ps,0<=p.1/\On (LL * 4) (2 ^ 50) p.1/\On (LL * 4) (2 ^ 50) p.2) (h4:ws.map (fun w=>(w.1,w.2.1))=vs) (h5:∀ w ∈ ws,On (LL * 4) (2 ^ 55) w.2.2/\0<=wSl ps w) (h6:hs.map (fun h=>(h.1,h.2.1))=us) (h7:∀ h ∈ hs,On (LL * 4) (2 ^ 55) h.2.2/\0<=hSl ps h):Dr n ps ws hs:=by
 have wl:ws.length<=40:=by have:=ok.vl; rw [<- h4,Zl] at this; omega
 have hl:hs.length<=40:=by have:=ok.ul; rw [<- h6,Zl] at this; exact this
 have wk:∀ w ∈ ws,(0<=w.1/\w.1 < (ps.length:Int))/\(0<=w.2.1/\w.2.1 < (ps.length:Int))/\On (LL * 4) (2 ^ 58) w.2.2:=fun w hw=>by
  have:=ok.vk (w.1,w.2.1) (by rw [<- h4]; exact List.mem_map.mpr ⟨w,hw,rfl⟩);rw [h1];exact ⟨this.1,this.2,(h5 w hw).1.p2 (by decide)⟩
 have hk:∀ h ∈ hs,Hk h.1/\(0<=h.2.1/\h.2.1 < (ps.length:Int))/\On (LL * 4) (2 ^ 58) h.2.2:=fun h hh=>by
  have:=ok.uk (h.1,h.2.1) (by rw [<- h6]; exact List.mem_map.mpr ⟨h,hh,rfl⟩);rw [h1];exact ⟨this.1,this.2,(h7 h hh).1.p2 (by decide)⟩
 have n1:=ok.n1;refine ⟨ok.n0,h1,⟨by decide,L1 A5e (by decide),by decide,by omega,wl,hl,fun p hp=>⟨(h2 p hp).2.1.p2 (by decide),(h2 p hp).2.2.p2 (by decide)⟩,wk,hk⟩,⟨by rw [Zl,h1]; exact ok.n0,by rw [Zl]; omega,wl,hl,fun t ht=>?_,fun w hw=>by rw [Zl]; exact wk w hw,fun h hh=>by rw [Zl]; exact hk h hh⟩,⟨fun w hw=>⟨(wk w hw).1.1,(wk w hw).2.1.1,ok.vn (w.1,w.2.1) (by rw [<- h4]; exact List.mem_map.mpr ⟨w,hw,rfl⟩)⟩,fun h hh=>(hk h hh).2.1.1⟩,fun W hW=>⟨fun p hp=>(h2 p hp).1,fun w hw=>(h5 w hw).2,fun h hh=>(h7 h hh).2,hW⟩,fun p hp=>(h2 p hp).2⟩;obtain ⟨p,hp,rfl⟩:=List.mem_map.mp ht;exact (h2 p hp).2.2.p2 (by decide)
theorem kz3:∀ z ∈ [("straight":Str),"straight","steps"],Kd z:=fun z hz=>by
 simp only [List.mem_cons,List.not_mem_nil,or_false] at hz;rcases hz with rfl | rfl | rfl
 ·exact .inl rfl
 ·exact .inl rfl
 ·exact .inr rfl
theorem M8 {ps:LR} {i:Nat} (h:i < ps.length):ps[i]?=some (sat ps (i:Int)):=by
 unfold sat;rw [List.getD_eq_getElem?_getD,Int.toNat_natCast,Zg h]; rfl
def cmA (c:List (Option Wy)) (v:Nat):Option Wy:=(c[v]?).join
theorem B4z {c:List (Option Wy)} {i v:Nat} {w:Wy} (h:i < c.length):cmA (c.set i (some w)) v=if v=i then some w else cmA c v:=by
 unfold cmA;rw [List.getElem?_set];by_cases e:i=v
 ·subst e; simp [h]
 ·rw [if_neg e,if_neg (fun z=>e z.symm)]
def Okw (f:List (Option Rat)) (w:Wy):Prop:=∀ a,fa f w.1=some a->∃ b,fa f w.2.1=some b/\a + w.2.2.1<=b
structure Rgi (ways:List Wy) (n r:Nat) (A B:List Wy) (s:Bst) (R:Nat->Nat):Prop where
 lf:s.1.length=n + 1
 lc:s.2.1.length=n + 1
 a:∀ w ∈ A,Okw s.1 w\/R w.1=r
 b:∀ w ∈ B,Okw s.1 w\/r<=R w.1 + 1
 le:∀ v,R v<=r
 cm:∀ v,1<=R v->∃ w,cmA s.2.1 v=some w/\w ∈ ways/\w.2.1=v/\R v<=R w.1 + 1
 mv:∀ m,s.2.2=some m->R m=r/\m<=n
theorem Rgi.step {ways:List Wy} {n r:Nat} {A B:List Wy} {w:Wy} {s:Bst} {R:Nat->Nat} (hr:1<=r) (hw:w ∈ ways/\w.1<=n/\w.2.1<=n) (h:Rgi ways n r A (w :: B) s R):∃ R',Rgi ways n r (A++[w]) B (rlx s w) R':=by
 have hlf:w.2.1 < s.1.length:=by rw [h.lf]; omega
 have hlc:w.2.1 < s.2.1.length:=by rw [h.lc]; omega
 have keep:rlx s w=s->Okw s.1 w->Rgi ways n r (A++[w]) B (rlx s w) R:=fun e ok=>by
  rw [e];refine ⟨h.lf,h.lc,fun x hx=>?_,fun x hx=>h.b x (Zr _ hx),h.le,h.cm,h.mv⟩;rcases Za hx with z | z
  ·exact h.a x z
  ·rw [Zn z]; exact .inl ok
 cases ha:fa s.1 w.1 with
 | none=>exact ⟨R,keep (by unfold rlx; rw [ha]) (fun a e=>by rw [ha] at e; cases e)⟩
 | some a =>
  by_cases up:upB (fa s.1 w.2.1) (a + w.2.2.1)=true
  ·have er:rlx s w=(s.1.set w.2.1 (some (a + w.2.2.1)),s.2.1.set w.2.1 (some w),some w.2.1):=by
    unfold rlx; rw [ha]; dsimp only; rw [if_pos up]
   have nok:¬ Okw s.1 w:=fun ok=>by
    obtain ⟨b,hb,l⟩:=ok a ha;rw [hb] at up;exact absurd (of_decide_eq_true up) (Rat.not_lt.mpr l)
   have rt:r<=R w.1 + 1:=(h.b w Zy).resolve_left nok;have grow:∀ x:Wy,x.1≠w.2.1->Okw s.1 x->Okw (rlx s w).1 x:=fun x hx ok b hb=>by
    rw [er] at hb ⊢;dsimp only at hb ⊢;rw [P8 hlf,if_neg hx] at hb;obtain ⟨c,hc,l⟩:=ok b hb;rw [P8 hlf];split
    ·rename_i e;refine ⟨_,rfl,?_⟩;rw [e] at hc;rw [hc] at up;exact Rat.le_trans l (Rat.le_of_lt (of_decide_eq_true up))
    ·exact ⟨c,hc,l⟩
   refine ⟨fun v=>if v=w.2.1 then r else R v,?_⟩;have hR:∀ v,R v<=(if v=w.2.1 then r else R v):=fun v=>by
    split
    ·exact h.le v
    ·exact Zv _
   refine ⟨rlx_len.1.trans h.lf,rlx_len.2.trans h.lc,fun x hx=>?_,fun x hx=>?_,fun v=>?_,fun v hv=>?_,fun m hm=>?_⟩
   ·by_cases hx1:x.1=w.2.1
    ·exact .inr (if_pos hx1)
    ·rcases Za hx with z | z
     ·rcases h.a x z with z | z
      ·exact .inl (grow x hx1 z)
      ·exact .inr (by rw [if_neg hx1]; exact z)
     ·have:=Zn z;subst this;left;intro b hb;rw [er] at hb ⊢;dsimp only at hb ⊢;rw [P8 hlf,if_neg hx1,ha] at hb;cases hb;exact ⟨_,by rw [P8 hlf,if_pos rfl],Rat.le_refl⟩
   ·by_cases hx1:x.1=w.2.1
    ·exact .inr (by rw [if_pos hx1]; omega)
    ·rcases h.b x (Zr _ hx) with z | z
     ·exact .inl (grow x hx1 z)
     ·exact .inr (by rw [if_neg hx1]; exact z)
   ·show (if v=w.2.1 then r else R v)<=r;split
    ·exact Zv _
    ·exact h.le v
   ·rw [er];show ∃ x,cmA (s.2.1.set w.2.1 (some w)) v=some x/\_;rw [B4z hlc];by_cases e:v=w.2.1
    ·rw [if_pos e,if_pos e];exact ⟨w,rfl,hw.1,e.symm,Zx rt (Nat.succ_le_succ (hR w.1))⟩
    ·rw [if_neg e] at hv ⊢;rw [if_neg e];obtain ⟨x,h1,h2,h3,h4⟩:=h.cm v hv;exact ⟨x,h1,h2,h3,Zx h4 (Nat.succ_le_succ (hR x.1))⟩
   ·rw [er] at hm;cases hm;exact ⟨if_pos rfl,hw.2.2⟩
  ·have ok:Okw s.1 w:=fun b hb=>by
    rw [ha] at hb;cases hb;cases e:fa s.1 w.2.1 with
    | none=>rw [e] at up; exact absurd rfl up
    | some c=>rw [e] at up; exact ⟨c,rfl,Rat.not_lt.mp fun z=>up (Zk z)⟩
   exact ⟨R,keep (by unfold rlx; rw [ha]; dsimp only; rw [if_neg up]) ok⟩
theorem Rgi.turn {ways:List Wy} {n r:Nat} (hr:1<=r) (hw:∀ w ∈ ways,w.1<=n/\w.2.1<=n):∀ {B A:List Wy} {s:Bst} {R:Nat->Nat},(∀ w ∈ B,w ∈ ways)->Rgi ways n r A B s R->∃ R',Rgi ways n r (A++B) [] (strF B s) R'
 | [],A,s,R,_,h=>⟨R,by rw [List.append_nil]; exact h⟩
 | w :: B,A,s,R,hB,h=>by
  obtain ⟨R1,h1⟩:=h.step hr ⟨hB w Zy,hw w (hB w Zy)⟩;obtain ⟨R2,h2⟩:=Rgi.turn hr hw (fun x hx=>hB x (Zr _ hx)) h1;exact ⟨R2,by rw [show A++w :: B=A++[w]++B by simp]; exact h2⟩
theorem B3x {ways:List Wy} {n:Nat} (hw:∀ w ∈ ways,w.1<=n/\w.2.1<=n):∀ k,∃ R,Rgi ways n (k + 1) ways [] (bsK ways n (k + 1)) R
 | 0=>by
  have h0:Rgi ways n 1 [] ways ((bs0 n).1,(bs0 n).2.1,none) (fun _=>0):=⟨(G4 (ways:=ways) 0).1,(G4 (ways:=ways) 0).2,fun w hw=>(nomatch hw),fun w _=>.inr (Zv _),fun v=>Nat.zero_le _,fun v hv=>absurd hv (by decide),fun m hm=>(nomatch hm)⟩;obtain ⟨R,h⟩:=h0.turn (by decide) hw (fun w h=>h);exact ⟨R,h⟩
 | k + 1=>by
  obtain ⟨R,h⟩:=B3x hw k;have h0:Rgi ways n (k + 2) [] ways ((bsK ways n (k + 1)).1,(bsK ways n (k + 1)).2.1,none) R:=⟨h.lf,h.lc,fun w hw=>(nomatch hw),fun w hw=>(h.a w hw).imp id fun z=>by omega,fun v=>Nat.le_succ_of_le (h.le v),h.cm,fun m hm=>(nomatch hm)⟩;obtain ⟨R',h'⟩:=h0.turn (by omega) hw (fun w h=>h);exact ⟨R',h'⟩
def nxt (c:List (Option Wy)) (v:Nat):Nat:=match cmA c v with
 | some w=>w.1
 | none=>0
def plc (c:List (Option Wy)) (m:Nat):Nat->Nat
 | 0=>m
 | k + 1=>nxt c (plc c m k)
theorem Z0 {c:List (Option Wy)} {m i j:Nat} (h:plc c m i=plc c m j):∀ k,plc c m (i + k)=plc c m (j + k)
 | 0=>h
 | k + 1=>by show nxt c (plc c m (i + k))=nxt c (plc c m (j + k)); rw [Z0 h k]
def Rnd (c:List (Option Wy)) (m L q:Nat):Prop:=1<=q/\q<=L/\(∀ x,x < L + q->∃ w,cmA c (plc c m x)=some w)/\plc c m (L + q)=plc c m L
theorem B1t {ways:List Wy} {n m:Nat} (hw:∀ w ∈ ways,w.1<=n/\w.2.1<=n) (hm:(bsK ways n (n + 1)).2.2=some m):m<=n/\∃ q,Rnd (bsK ways n (n + 1)).2.1 m (n + 1) q:=by
 obtain ⟨R,h⟩:=B3x hw n;obtain ⟨h1,h2⟩:=h.mv m hm;refine ⟨h2,?_⟩;obtain ⟨c,hc⟩:∃ c,(bsK ways n (n + 1)).2.1=c:=⟨_,rfl⟩;have hcm:=h.cm;rw [hc] at hcm ⊢;have key:∀ j,j<=n + 1->plc c m j<=n/\n + 1<=R (plc c m j) + j:=by
  intro j;induction j with
  | zero=>exact fun _=>⟨h2,by show n + 1<=R m + 0; omega⟩
  | succ j ih =>
   intro hj;obtain ⟨i1,i2⟩:=ih (by omega);obtain ⟨w,g1,g2,g3,g4⟩:=hcm (plc c m j) (by omega);have e:plc c m (j + 1)=w.1:=by show nxt c (plc c m j)=_; unfold nxt; rw [g1]
   rw [e];exact ⟨(hw w g2).1,by omega⟩
 have some':∀ j,j<=n->∃ w,cmA c (plc c m j)=some w:=fun j hj=>by
  obtain ⟨w,g1,_⟩:=hcm (plc c m j) (by have:=(key j (by omega)).2; omega);exact ⟨w,g1⟩
 obtain ⟨i,j,hij,hj,e⟩:=B9t (n:=n) (c:=plc c m) fun j hj=>(key j hj).1;refine ⟨j - i,by omega,by omega,fun x hx=>?_,?_⟩
 ·have all:∀ x,∃ w,cmA c (plc c m x)=some w:=by
   intro x;induction x using Nat.strongRecOn with
   | _ x ih =>
    rcases Nat.lt_or_ge x j with z | z
    ·exact some' x (by omega)
    ·have:=Z0 e (x - j);rw [show j + (x - j)=x by omega] at this;rw [<- this];exact ih _ (by omega)
  exact all x
 ·have:=Z0 e (n + 1 - i);rw [show i + (n + 1 - i)=n + 1 by omega,show j + (n + 1 - i)=n + 1 + (j - i) by omega] at this;exact this.symm
section
variable {ts:LQ} {ws:LW} {hs:LH} {ps:LR}
abbrev Ear (zB:ZB) (ts:LQ) (ws:LW) (hs:LH):Prop:=Fars zB (E9 ts ws hs none) ts.length (farS (E9 ts ws hs none) ts.length)
theorem A6j {zB:ZB} (h:Ear zB ts ws hs):(earS ts ws hs).length=ts.length:=by
 unfold earS;rw [Zl,List.length_take,h.ln]; omega
theorem A40 {zB:ZB} (h:Ear zB ts ws hs) {v:Nat} (hv:v < ts.length):∃ a,fa (farS (E9 ts ws hs none) ts.length) v=some a/\(earS ts ws hs)[v]?=some a:=by
 obtain ⟨a,ha⟩:=B0v h hv;refine ⟨a,ha,?_⟩;unfold earS;rw [Zh,List.getElem?_take,if_pos hv];unfold fa at ha;cases e:(farS (E9 ts ws hs none) ts.length)[v]? with
 | none=>rw [e] at ha; cases ha
 | some x=>rw [e] at ha; rw [show x=some a from ha]; rfl
theorem B0u {zB:ZB} (h:Ear zB ts ws hs):∀ q ∈ earS ts ws hs,On (LL * zB.1) (2 ^ 70) q:=fun q hq=>by
 obtain ⟨i,hi,e⟩:=List.getElem_of_mem hq;obtain ⟨a,ha,e2⟩:=A40 h (v:=i) (by rw [<- A6j h]; exact hi);rw [Zg hi,e] at e2;rw [Zj e2];exact (h.fb i a ha).mono (by decide)
def epl (ws:LW) (hs:LH) (ps:LR):LR:=ps.zipIdx.map fun z=>(rat (earS (ps.map (·.2)) ws hs) (z.2:Int),z.1.2)
theorem J3:(epl ws hs ps).length=ps.length:=by unfold epl; simp
theorem U5 {j:Nat} {p:Rat × Rat} (h:ps[j]?=some p):(epl ws hs ps)[j]?=some (rat (earS (ps.map (·.2)) ws hs) (j:Int),p.2):=by
 unfold epl;rw [Zh,List.getElem?_zipIdx,h]; simp
theorem W0:(epl ws hs ps).map (·.2)=ps.map (·.2):=by
 refine List.ext_getElem? fun j=>?_;rw [Zh,Zh];cases h:ps[j]? with
 | none=>rw [List.getElem?_eq_none (by rw [J3]; exact List.getElem?_eq_none_iff.mp h)]
 | some p=>rw [U5 h]; rfl
theorem B4v {zB:ZB} (fo:Ear zB (ps.map (·.2)) ws hs) {v:Nat} (hv:v<=ps.length):fa (farS (E9 (ps.map (·.2)) ws hs none) (ps.map (·.2)).length) v=some (pvS (epl ws hs ps) v):=by
 rcases Nat.lt_or_ge v ps.length with h | h
 ·obtain ⟨a,ha,hl⟩:=A40 fo (v:=v) (by rw [Zl]; exact h);rw [ha,A1x (U5 (Zg h))];show some a=some (rat (earS (ps.map (·.2)) ws hs) (v:Int));unfold rat;rw [List.getD_eq_getElem?_getD,Int.toNat_natCast,hl]; rfl
 ·rw [show v=ps.length by omega];have:=fo.rt;rw [Zl] at this;rw [Zl,this,<- J3 (ws:=ws) (hs:=hs) (ps:=ps),L5]
theorem B81 {zB:ZB} (fo:Ear zB (ps.map (·.2)) ws hs) (nk:NOk zB (ps.map (·.2)) ws hs):Kps ws hs (epl ws hs ps) none:=by
 refine Kps.of ?_;rw [W0,J3];refine ⟨by rw [<- J3 (ws:=ws) (hs:=hs) (ps:=ps),L5],fun w h=>?_⟩;obtain ⟨h1,h2,_⟩:=Q7 nk (W:=none) (fun _ e=>nomatch e) w h;rw [Zl] at h1 h2;obtain ⟨c,hc,l⟩:=fo.fx w h _ (B4v fo h1);rw [B4v fo h2] at hc;cases hc;exact l
theorem B0t {zB:ZB} {qs:LR} (ht:qs.map (·.2)=ts) (K:Kps ws hs qs none) (hk:∀ h ∈ hs,Hk h.1) (fo:Ear zB ts ws hs) (i:Nat) (x y:Rat) (hx:(earS ts ws hs)[i]?=some x) (hy:(qs.map (·.1))[i]?=some y):x<=y:=by
 subst ht;rw [Zh] at hy;obtain ⟨p,hp,rfl⟩:=Zo hy;have hi:=(Zs hp).1;obtain ⟨a,ha,e⟩:=A40 fo (v:=i) (by rw [Zl]; exact hi);rw [hx] at e;rw [Zj e];have:=fo.le _ (by rw [Zl]; exact K.pot hk) i a ha;rw [A1x hp] at this;exact this
theorem B4h {zB:ZB} {P:Nat->Rat} (nk:NOk zB ts ws hs) (hP:Pot (E9 ts ws hs none) ts.length P):¬ kst (E9 ts ws hs none) ts.length=none:=fun h=>by
 obtain ⟨k,hk⟩:=Y0 (fun w hw=>let z:=Q7 nk (W:=none) (fun _ e=>nomatch e) w hw; ⟨z.1,z.2.1⟩) hP;rw [h] at hk; cases hk
end
theorem Dr.noH {n:Nat} {ps:LR} {ws:LW} {hs:LH} (d:Dr n ps ws hs):Dr n ps ws [] :=
 ⟨d.n0,d.ln,⟨d.sz.b0,d.sz.b1,d.sz.a1,d.sz.ln,d.sz.wl,Nat.zero_le _,d.sz.p,d.sz.w,fun _ h=>(nomatch h)⟩,⟨d.nk.n0,d.nk.n1,d.nk.wl,Nat.zero_le _,d.nk.t,d.nk.w,fun _ h=>(nomatch h)⟩,⟨d.ix.w,fun _ h=>(nomatch h)⟩,fun W hW=>⟨(d.kp W hW).s,(d.kp W hW).w,fun _ h=>(nomatch h),hW⟩,d.s50⟩
theorem Dr.potN {n:Nat} {ps:LR} {ws:LW} {hs:LH} (d:Dr n ps ws hs):Pot (E9 (ps.map (·.2)) ws hs none) (ps.map (·.2)).length (pvS ps):=by rw [Zl]; exact (d.kp none fun V e=>nomatch e).pot fun h hh=>(d.sz.h h hh).1
theorem B85 {c:List (Option Wy)} {v:Nat} {w:Wy} (h:cmA c v=some w):v < c.length/\L2.atI (c.map cD) (v:Int)=some (wyD w):=by
 unfold cmA at h;cases e:c[v]? with
 | none=>rw [e] at h; cases h
 | some x =>
  rw [e] at h;have hv:=(Zs e).1;exact ⟨hv,M0 (by rw [Zh,e,show x=some w from h]; rfl)⟩
theorem X6 {c:List (Option Wy)} {m x:Nat} {w:Wy} (h:cmA c (plc c m x)=some w):plc c m (x + 1)=w.1:=by show nxt c (plc c m x)=_; unfold nxt; rw [h]
def rgW (c:List (Option Wy)) (v:Nat):PyData:=.tuple [qD (((cmA c v).map (·.2.2.2)).getD ("",0)),dq 1]
structure Tik (ways:List Wy) (n:Nat) (s:Bst) (T:Nat->Nat) (t:Nat):Prop where
 lf:s.1.length=n + 1
 lc:s.2.1.length=n + 1
 le:∀ v,T v<=t
 inj:∀ u v,1<=T u->T u=T v->u=v
 cm:∀ v w,cmA s.2.1 v=some w->1<=T v/\w ∈ ways/\w.2.1=v/\∃ a b,fa s.1 w.1=some a/\fa s.1 v=some b/\b<=a + w.2.2.1/\((T v < T w.1\/w.1=v)->b < a + w.2.2.1)
theorem Tik.rlx {ways:List Wy} {n t:Nat} {s:Bst} {T:Nat->Nat} {w:Wy} (hw:w ∈ ways/\w.1<=n/\w.2.1<=n) (h:Tik ways n s T t):∃ T' t',Tik ways n (rlx s w) T' t':=by
 have hlf:w.2.1 < s.1.length:=by rw [h.lf]; omega
 have hlc:w.2.1 < s.2.1.length:=by rw [h.lc]; omega
 cases ha:fa s.1 w.1 with
 | none=>exact ⟨T,t,by rw [show Prf.rlx s w=s by unfold Prf.rlx; rw [ha]]; exact h⟩
 | some a =>
  by_cases up:upB (fa s.1 w.2.1) (a + w.2.2.1)=true
  ·have er:Prf.rlx s w=(s.1.set w.2.1 (some (a + w.2.2.1)),s.2.1.set w.2.1 (some w),some w.2.1):=by
    unfold Prf.rlx; rw [ha]; dsimp only; rw [if_pos up]
   refine ⟨fun v=>if v=w.2.1 then t + 1 else T v,t + 1,rlx_len.1.trans h.lf,rlx_len.2.trans h.lc,fun v=>?_,fun u v hu e=>?_,fun v x hx=>?_⟩
   ·show (if v=w.2.1 then t + 1 else T v)<=t + 1;split
    ·exact Zv _
    ·exact Nat.le_succ_of_le (h.le v)
   ·have hu:1<=(if u=w.2.1 then t + 1 else T u):=hu;have e:(if u=w.2.1 then t + 1 else T u)=if v=w.2.1 then t + 1 else T v:=e;have lu:=h.le u;have lv:=h.le v;by_cases e1:u=w.2.1
    ·by_cases e2:v=w.2.1
     ·rw [e1,e2]
     ·rw [if_pos e1,if_neg e2] at e; omega
    ·by_cases e2:v=w.2.1
     ·rw [if_neg e1,if_pos e2] at e; omega
     ·rw [if_neg e1,if_neg e2] at e;rw [if_neg e1] at hu;exact h.inj u v hu e
   ·rw [er] at hx ⊢;dsimp only at hx ⊢;rw [B4z hlc] at hx;by_cases ev:v=w.2.1
    ·rw [if_pos ev] at hx;have:=Zj hx;subst this;refine ⟨by rw [if_pos ev]; omega,hw.1,ev.symm,?_⟩;rw [P8 hlf,P8 hlf,if_pos ev];by_cases e1:w.1=w.2.1
     ·rw [if_pos e1];rw [e1] at ha;rw [ha] at up;have lt:a < a + w.2.2.1:=of_decide_eq_true up;exact ⟨_,_,rfl,rfl,by grind,fun _=>by grind⟩
     ·rw [if_neg e1,ha];refine ⟨_,_,rfl,rfl,Rat.le_refl,fun z=>?_⟩;exfalso;rcases z with z | z
      ·rw [if_pos ev,if_neg e1] at z;have:=h.le w.1; omega
      ·exact e1 (z.trans ev)
    ·rw [if_neg ev] at hx;obtain ⟨c1,c2,c3,p,q,c4,c5,c6,c7⟩:=h.cm v x hx;refine ⟨by rw [if_neg ev]; exact c1,c2,c3,?_⟩;rw [P8 hlf,P8 hlf,if_neg ev];by_cases e1:x.1=w.2.1
     ·rw [if_pos e1];rw [e1] at c4;rw [c4] at up;have lt:p < a + w.2.2.1:=of_decide_eq_true up;exact ⟨_,_,rfl,c5,by grind,fun _=>by grind⟩
     ·rw [if_neg e1];refine ⟨p,q,c4,c5,c6,fun z=>c7 (z.imp (fun y=>?_) id)⟩
      rwa [if_neg ev,if_neg e1] at y
  ·exact ⟨T,t,by rw [show Prf.rlx s w=s by unfold Prf.rlx; rw [ha]; dsimp only; rw [if_neg up]]; exact h⟩
theorem Tik.turn {ways:List Wy} {n:Nat} (hw:∀ w ∈ ways,w.1<=n/\w.2.1<=n):∀ {B:List Wy} {s:Bst} {T:Nat->Nat} {t:Nat},(∀ w ∈ B,w ∈ ways)->Tik ways n s T t->∃ T' t',Tik ways n (strF B s) T' t'
 | [],s,T,t,_,h=>⟨T,t,h⟩
 | w :: B,s,T,t,hB,h=>by
  obtain ⟨T1,t1,h1⟩:=h.rlx ⟨hB w Zy,hw w (hB w Zy)⟩;show ∃ T' t',Tik ways n (strF B (Prf.rlx s w)) T' t';exact Tik.turn hw (fun x hx=>hB x (Zr _ hx)) h1
theorem A7z {ways:List Wy} {n:Nat} (hw:∀ w ∈ ways,w.1<=n/\w.2.1<=n):∀ k,∃ T t,Tik ways n (bsK ways n k) T t
 | 0=>⟨fun _=>0,0,⟨(G4 (ways:=ways) 0).1,(G4 (ways:=ways) 0).2,fun _=>Zv _,fun u v h=>absurd h (by decide),fun v w h=>by
  exfalso;have e:cmA (bsK ways n 0).2.1 v=none:=by
   show cmA (List.replicate (n + 1) none) v=none;unfold cmA;rw [List.getElem?_replicate];split <;> rfl
  rw [e] at h; cases h⟩⟩
 | k + 1=>by
  obtain ⟨T,t,h⟩:=A7z hw k;exact Tik.turn hw (fun w h=>h) (s:=((bsK ways n k).1,(bsK ways n k).2.1,none)) ⟨h.lf,h.lc,h.le,h.inj,h.cm⟩
structure Rng (ways:List Wy) (n s:Nat) (p:Nat->Nat) (w:Nat->Wy):Prop where
 s1:1<=s
 sn:s<=n + 1
 le:∀ i,p i<=n
 mem:∀ i,i < s->w i ∈ ways/\(w i).2.1=p i/\(w i).1=p (i + 1)
 round:p s=p 0
 dif:∀ i j,i < s->j < s->p i=p j->i=j
 pos:0 < My.S ((List.range s).map fun i=>(w i).2.2.1)
def wyA (c:List (Option Wy)) (v:Nat):Wy:=(cmA c v).getD (0,0,0,("",0))
theorem B54 {ways:List Wy} {n m q s:Nat} (hw:∀ w ∈ ways,w.1<=n/\w.2.1<=n) (hn:Rnd (bsK ways n (n + 1)).2.1 m (n + 1) q) (s1:1<=s) (sq:s<=q) (e:plc (bsK ways n (n + 1)).2.1 m (n + 1 + s)=plc (bsK ways n (n + 1)).2.1 m (n + 1)) (mn:∀ s',1<=s'->s' < s->plc (bsK ways n (n + 1)).2.1 m (n + 1 + s')≠plc (bsK ways n (n + 1)).2.1 m (n + 1)) :
  Rng ways n s (fun i=>plc (bsK ways n (n + 1)).2.1 m (n + 1 + i)) (fun i=>wyA (bsK ways n (n + 1)).2.1 (plc (bsK ways n (n + 1)).2.1 m (n + 1 + i))):=by
 obtain ⟨T,t,K⟩:=A7z hw (n + 1);obtain ⟨_,q2,hs,_⟩:=hn;generalize hc:(bsK ways n (n + 1)).2.1=c at hs e mn K;have per:∀ k,plc c m (n + 1 + s + k)=plc c m (n + 1 + k):=fun k=>Z0 e k;have sm:∀ i,∃ w,cmA c (plc c m (n + 1 + i))=some w:=by
  intro i;induction i using Nat.strongRecOn with
  | _ i ih =>
   rcases Nat.lt_or_ge i s with z | z
   ·exact hs _ (by omega)
   ·have:=per (i - s);rw [show n + 1 + s + (i - s)=n + 1 + i by omega] at this;rw [this]; exact ih (i - s) (by omega)
 have fact:∀ i,cmA c (plc c m (n + 1 + i))=some (wyA c (plc c m (n + 1 + i))):=fun i=>by
  obtain ⟨w,h⟩:=sm i;unfold wyA; rw [h]; rfl
 have nx:∀ i,(wyA c (plc c m (n + 1 + i))).1=plc c m (n + 1 + (i + 1)):=fun i=>(X6 (fact i)).symm;have dif:∀ i j,i < j->j < s->plc c m (n + 1 + i)=plc c m (n + 1 + j)->False:=fun i j hij hj h=>by
  have h2:=Z0 h (s - j);rw [show n + 1 + j + (s - j)=n + 1 + s by omega,e,show n + 1 + i + (s - j)=n + 1 + (i + (s - j)) by omega] at h2;exact mn (i + (s - j)) (by omega) (by omega) h2
 have inw:∀ i,wyA c (plc c m (n + 1 + i)) ∈ ways/\(wyA c (plc c m (n + 1 + i))).2.1=plc c m (n + 1 + i):=fun i=>by
  obtain ⟨_,k2,k3,_⟩:=K.cm _ _ (by rw [hc]; exact fact i);exact ⟨k2,k3⟩
 refine ⟨s1,by omega,fun i=>?_,fun i _=>⟨(inw i).1,(inw i).2,nx i⟩,e,fun i j hi hj h=>?_,?_⟩
 ·have:=(inw i);have:=(hw _ this.1).2;rw [(inw i).2] at this; exact this
 ·rcases Nat.lt_trichotomy i j with z | z | z
  ·exact (dif i j z hj h).elim
  ·exact z
  ·exact (dif j i z hi h.symm).elim
 ·-- the sum
  have tel:∀ k,k<=s->∃ b0 bk,fa (bsK ways n (n + 1)).1 (plc c m (n + 1))=some b0/\fa (bsK ways n (n + 1)).1 (plc c m (n + 1 + k))=some bk/\b0<=bk + My.S ((List.range k).map fun i=>(wyA c (plc c m (n + 1 + i))).2.2.1)/\(b0 < bk + My.S ((List.range k).map fun i=>(wyA c (plc c m (n + 1 + i))).2.2.1)\/(T (plc c m (n + 1 + k)) + k<=T (plc c m (n + 1)))):=by
   intro k;induction k with
   | zero =>
    intro _;obtain ⟨_,_,_,a,b,_,h2,_⟩:=K.cm _ _ (by rw [hc]; exact fact 0);exact ⟨b,b,h2,h2,by show b<=b + 0; grind,.inr (Zv _)⟩
   | succ k ih =>
    intro hk;obtain ⟨b0,bk,g1,g2,g3,g4⟩:=ih (by omega);obtain ⟨t1,_,_,a,b,h1,h2,h3,h4⟩:=K.cm _ _ (by rw [hc]; exact fact k);rw [g2] at h2;have eb:=Zj h2;subst eb;rw [nx k] at h1 h4;refine ⟨b0,a,g1,h1,?_,?_⟩
    ·rw [List.range_succ,Zc,My.A7t];show b0<=a + (_ + (_ + 0)); grind
    ·rw [List.range_succ,Zc,My.A7t];show b0 < a + (_ + (_ + 0))\/_;by_cases st:T (plc c m (n + 1 + k)) < T (plc c m (n + 1 + (k + 1)))\/plc c m (n + 1 + (k + 1))=plc c m (n + 1 + k)
     ·left; have:=h4 st; grind
     ·rcases g4 with g4 | g4
      ·left; grind
      ·right;have ne:T (plc c m (n + 1 + k))≠T (plc c m (n + 1 + (k + 1))):=fun z=>st (.inr (K.inj _ _ t1 z).symm);have:=fun z=>st (.inl z);omega
  obtain ⟨b0,bk,g1,g2,g3,g4⟩:=tel s (Zv _);rw [e,g1] at g2;have eb:=Zj g2;subst eb;rcases g4 with g4 | g4
  ·grind
  ·exfalso; rw [e] at g4; omega
def dl (a v:Nat):Rat:=if v=a then 1 else 0
def isTl (hs:LH) (w:Wy):Bool:=decide (w.2.2.2.1="hold") && decide (((hs[w.2.2.2.2.toNat]?).getD ("",0,0)).1="till")
def effF (hs:LH) (w:Wy) (F:Nat->Rat) (v:Nat):Rat:=F v + dl w.2.1 v - (if isTl hs w=true then dl w.1 v else 0)
def effG (hs:LH) (w:Wy) (G:Nat->Rat) (v:Nat):Rat:=G v + (if isTl hs w=true then 0 else dl w.1 v)
def flF (hs:LH) (w:Nat->Wy):Nat->Nat->Rat
 | 0=>fun _=>0
 | k + 1=>effF hs (w k) (flF hs w k)
def flG (hs:LH) (w:Nat->Wy):Nat->Nat->Rat
 | 0=>fun _=>0
 | k + 1=>effG hs (w k) (flG hs w k)
theorem B4n {hs:LH} {w:Nat->Wy} {p:Nat->Nat} {s:Nat} (h:∀ i,i < s->(w i).2.1=p i/\(w i).1=p (i + 1)):∀ k,k<=s->∀ v,flF hs w k v - flG hs w k v=dl (p 0) v - dl (p k) v
 | 0,_,v=>by show (0:Rat) - 0=_; grind
 | k + 1,hk,v=>by
  have ih:=B4n (hs:=hs) h k (by omega) v;obtain ⟨h1,h2⟩:=h k (by omega);show effF hs (w k) (flF hs w k) v - effG hs (w k) (flG hs w k) v=_;unfold effF effG;rw [h1,h2];split <;> grind
theorem B0o {hs:LH} {w:Nat->Wy}:∀ k v,0<=flG hs w k v
 | 0,_=>Rat.le_refl
 | k + 1,v=>by
  have:=B0o (hs:=hs) (w:=w) k v;show 0<=effG hs (w k) (flG hs w k) v;unfold effG dl;split
  ·grind
  ·split <;> grind
theorem Rng.bal {ways:List Wy} {n s:Nat} {p:Nat->Nat} {w:Nat->Wy} (R:Rng ways n s p w) (hs:LH) (v:Nat):flF hs w s v=flG hs w s v/\0<=flF hs w s v:=by
 have:=B4n (hs:=hs) (fun i hi=>(R.mem i hi).2) s (Zv _) v;rw [R.round] at this;have e:flF hs w s v=flG hs w s v:=by grind
 exact ⟨e,by rw [e]; exact B0o s v⟩
def sumV (f:Nat->Rat) (n:Nat):Rat:=My.S ((List.range n).map f)
theorem G2 {f:Nat->Rat} {n:Nat}:sumV f (n + 1)=sumV f n + f n:=by
 unfold sumV;rw [List.range_succ,Zc,My.A7t];show _ + (_ + 0)=_; rw [Rat.add_zero]
theorem A5l {f g:Nat->Rat}:∀ n,sumV (fun v=>f v + g v) n=sumV f n + sumV g n
 | 0=>by show (0:Rat)=0 + 0; grind
 | n + 1=>by rw [G2,G2,G2,A5l n]; grind
theorem A1q {t:Nat->Rat} {a:Nat}:∀ n,sumV (fun v=>dl a v * t v) n=if a < n then t a else 0
 | 0=>rfl
 | n + 1=>by
  rw [G2,A1q n];unfold dl;by_cases h:a < n
  ·rw [if_pos h,if_neg (by omega),if_pos (by omega)]; grind
  ·rw [if_neg h];by_cases e:n=a
   ·rw [if_pos e,if_pos (by omega),e]; grind
   ·rw [if_neg e,if_neg (by omega)]; grind
theorem I0 {f g:Nat->Rat}:∀ {n},(∀ v,v < n->f v=g v)->sumV f n=sumV g n
 | 0,_=>rfl
 | n + 1,h=>by rw [G2,G2,I0 fun v hv=>h v (by omega),h n (by omega)]
theorem lnS0 {ways:List Wy} {n k:Nat} (hw:∀ w ∈ ways,w.1<=n/\w.2.1<=n):∃ r,fa (bsK ways n k).1 n=some r/\0<=r:=by
 have h0:ole (some 0) (fa (bsK ways n k).1 n):=O3 (by
  have:=X8 (ways:=ways) (n:=n) (v:=n) (Nat.zero_le k)
  rwa [show lnK ways n 0 n=some 0 from if_pos rfl] at this) (A31 hw k n)
 exact h0 0 rfl
theorem A6h {zB:ZB} {ways:List Wy} {n k:Nat} (hw:∀ w ∈ ways,w.1<=n/\w.2.1<=n/\On (LL * zB.1) (1 * 2 ^ 60) w.2.2.1) (hk:kst ways n=some k) (hr:∀ v,v < n->∃ w ∈ ways,w.1=n/\w.2.1=v) (hl:ways.length<=100) (hn:n<=10):∃ P,Pot ways n P:=by
 have hw':∀ w ∈ ways,w.1<=n/\w.2.1<=n:=fun w h=>⟨(hw w h).1,(hw w h).2.1⟩;obtain ⟨h1,h2⟩:=A6d hk;have kp:=(B07 hw' h1).1;obtain ⟨r,er,_⟩:=lnS0 (k:=k) hw';have val:∀ v,v<=n->∃ a,fa (bsK ways n k).1 v=some a:=fun v hv=>by
  rcases Nat.lt_or_ge v n with z | z
  ·obtain ⟨w,hw1,e1,e2⟩:=hr v z;obtain ⟨b,hb,_⟩:=kp w hw1 r (by rw [e1]; exact er);rw [e2] at hb;exact ⟨b,hb⟩
  ·rw [show v=n by omega]; exact ⟨r,er⟩
 refine ⟨fun v=>(fa (bsK ways n k).1 v).getD 0 - r,by show (fa (bsK ways n k).1 n).getD 0 - r=0; rw [er]; show r - r=0; grind,fun w h=>?_⟩;obtain ⟨a,ha⟩:=val w.1 (hw' w h).1;obtain ⟨b,hb,l⟩:=kp w h a ha;show (fa (bsK ways n k).1 w.1).getD 0 - r + w.2.2.1<=(fa (bsK ways n k).1 w.2.1).getD 0 - r;rw [ha,hb];show a - r + w.2.2.1<=b - r;grind
theorem B1m {ts:LQ} {ws:LW} {hs:LH} {W:Option Rat}:∀ v,v < ts.length->∃ w ∈ E9 ts ws hs W,w.1=ts.length/\w.2.1=v:=fun v hv=>⟨_,Zt _ (Zt _ (Zt _ (List.mem_map.mpr ⟨v,List.mem_range.mpr hv,rfl⟩))),rfl,rfl⟩
theorem A5g {ts:LQ} {ws:LW} {hs:LH} {W:Rat} {x:Wy} (h:x ∈ E9 ts ws hs (some W)):(∃ j,j < ts.length/\x=(ts.length,j,0,(("start":Str),(j:Int))))\/(∃ j,j < ts.length/\x=(j,ts.length,rat ts (j:Int) - W,(("end":Str),(j:Int))))\/(∃ (k:Nat) (z:Int × Int × Rat),ws[k]?=some z/\x=(z.1.toNat,z.2.1.toNat,rat ts z.1 + z.2.2,(("wait":Str),(k:Int))))\/∃ (k:Nat) (z:Str × Int × Rat),hs[k]?=some z/\x=hoO ts z k:=by
 unfold E9 at h;rcases Za h with h | h
 ·rcases Za h with h | h
  ·rcases Za h with h | h
   ·obtain ⟨i,hi,rfl⟩:=List.mem_map.mp h;exact .inl ⟨i,List.mem_range.mp hi,rfl⟩
   ·obtain ⟨a,i,e,rfl⟩:=P9 h;have hi:=(Zs e).1;refine .inr (.inl ⟨i,hi,?_⟩);show (_,_,a - W,_)=_;rw [show rat ts (i:Int)=a by unfold rat; rw [Int.toNat_natCast,List.getD_eq_getElem?_getD,e]; rfl]
  ·obtain ⟨a,i,e,rfl⟩:=P9 h;exact .inr (.inr (.inl ⟨i,a,e,rfl⟩))
 ·obtain ⟨a,i,e,rfl⟩:=P9 h;exact .inr (.inr (.inr ⟨i,a,e,rfl⟩))
structure Rgn (ways:List Wy) (n s:Nat) (w:Nat->Wy):Prop where
 s1:1<=s
 sn:s<=n + 1
 mem:∀ i,i < s->w i ∈ ways
 bal:∀ hs v,flF hs w s v=flG hs w s v/\0<=flF hs w s v
 dif:∀ i j,i < s->j < s->w i=w j->i=j
 pos:0 < My.S ((List.range s).map fun i=>(w i).2.2.1)
theorem Rng.rgn {ways ways':List Wy} {n s:Nat} {p:Nat->Nat} {w:Nat->Wy} (R:Rng ways n s p w) (h:∀ x ∈ ways,x ∈ ways'):Rgn ways' n s w:=⟨R.s1,R.sn,fun i hi=>h _ (R.mem i hi).1,fun hs v=>R.bal hs v,fun i j hi hj e=>R.dif i j hi hj (by rw [<- (R.mem i hi).2.1,<- (R.mem j hj).2.1,e]),R.pos⟩
theorem B0n {hs:LH} {w:Nat->Wy} {p:Nat->Nat} {s:Nat} (h:∀ i,i < s->(w i).1=p i/\(w i).2.1=p (i + 1)):∀ k,k<=s->∀ v,flF hs w k v - flG hs w k v=dl (p k) v - dl (p 0) v
 | 0,_,v=>by show (0:Rat) - 0=_; grind
 | k + 1,hk,v=>by
  have ih:=B0n (hs:=hs) h k (by omega) v;obtain ⟨h1,h2⟩:=h k (by omega);show effF hs (w k) (flF hs w k) v - effG hs (w k) (flG hs w k) v=_;unfold effF effG;rw [h1,h2];split <;> grind
theorem Rng.rgnB {ways:List Wy} {n s:Nat} {p:Nat->Nat} {w:Nat->Wy} (R:Rng (ways.map swp) n s p w):Rgn ways n s fun i=>swp (w i):=⟨R.s1,R.sn,fun i hi=>by
  obtain ⟨x,hx,e⟩:=List.mem_map.mp (R.mem i hi).1;show swp (w i) ∈ ways;rw [<- e]; exact hx,fun hs v=>by
  have:=B0n (hs:=hs) (w:=fun i=>swp (w i)) (p:=p) (s:=s) (fun i hi=>⟨(R.mem i hi).2.1,(R.mem i hi).2.2⟩) s (Zv _) v;rw [R.round] at this;have e:flF hs (fun i=>swp (w i)) s v=flG hs (fun i=>swp (w i)) s v:=by grind
  exact ⟨e,by rw [e]; exact B0o s v⟩,fun i j hi hj e=>R.dif i j hi hj (by
  have:(swp (w i)).1=(swp (w j)).1:=by rw [show swp (w i)=swp (w j) from e]
  rw [<- (R.mem i hi).2.1,<- (R.mem j hj).2.1]; exact this),R.pos⟩
theorem C3c {ts:LQ} {z:Str × Int × Rat} {m:Nat}:(hoO ts z m).2.2.2=(("hold":Str),(m:Int)):=by
 unfold hoO;split
 ·rfl
 ·split <;> rfl
theorem B9m {ts:LQ} {ws:LW} {hs:LH} {W:Rat} {x:Wy} (h:x ∈ E9 ts ws hs (some W)):∃ (c:Str) (m:Nat),x.2.2.2=(c,(m:Int))/\((c="start"/\m < ts.length/\x=(ts.length,m,0,(("start":Str),(m:Int))))\/(c="end"/\m < ts.length/\x=(m,ts.length,rat ts (m:Int) - W,(("end":Str),(m:Int))))\/(c="wait"/\m < ws.length/\∀ z,ws[m]?=some z->x=(z.1.toNat,z.2.1.toNat,rat ts z.1 + z.2.2,(("wait":Str),(m:Int))))\/(c="hold"/\m < hs.length/\∀ z,hs[m]?=some z->x=hoO ts z m)):=by
 rcases A5g h with ⟨j,hj,rfl⟩ | ⟨j,hj,rfl⟩ | ⟨k,z,ez,rfl⟩ | ⟨k,z,ez,rfl⟩
 ·exact ⟨_,j,rfl,.inl ⟨rfl,hj,rfl⟩⟩
 ·exact ⟨_,j,rfl,.inr (.inl ⟨rfl,hj,rfl⟩)⟩
 ·exact ⟨_,k,rfl,.inr (.inr (.inl ⟨rfl,(Zs ez).1,fun z' e=>by rw [ez] at e; cases e; rfl⟩))⟩
 ·exact ⟨_,k,C3c,.inr (.inr (.inr ⟨rfl,(Zs ez).1,fun z' e=>by rw [ez] at e; cases e; rfl⟩))⟩
theorem B9n {ts:LQ} {ws:LW} {hs:LH} {W:Rat} {x y:Wy} (hx:x ∈ E9 ts ws hs (some W)) (hy:y ∈ E9 ts ws hs (some W)) (e:x.2.2.2=y.2.2.2):x=y:=by
 obtain ⟨c,m,e1,h1⟩:=B9m hx;obtain ⟨d,k,e2,h2⟩:=B9m hy;rw [e1,e2] at e;have ec:c=d:=congrArg Prod.fst e;have em:m=k:=by have:(m:Int)=(k:Int):=congrArg Prod.snd e; omega
 subst ec em;rcases h1 with ⟨rfl,_,a⟩ | ⟨rfl,_,a⟩ | ⟨rfl,l,a⟩ | ⟨rfl,l,a⟩
 ·rcases h2 with ⟨_,_,b⟩ | ⟨z,_⟩ | ⟨z,_⟩ | ⟨z,_⟩
  ·rw [a,b]
  all_goals exact absurd z (by decide +kernel)
 ·rcases h2 with ⟨z,_⟩ | ⟨_,_,b⟩ | ⟨z,_⟩ | ⟨z,_⟩
  ·exact absurd z (by decide +kernel)
  ·rw [a,b]
  all_goals exact absurd z (by decide +kernel)
 ·rcases h2 with ⟨z,_⟩ | ⟨z,_⟩ | ⟨_,_,b⟩ | ⟨z,_⟩
  ·exact absurd z (by decide +kernel)
  ·exact absurd z (by decide +kernel)
  ·rw [a _ (Zg l),b _ (Zg l)]
  ·exact absurd z (by decide +kernel)
 ·rcases h2 with ⟨z,_⟩ | ⟨z,_⟩ | ⟨z,_⟩ | ⟨_,_,b⟩
  ·exact absurd z (by decide +kernel)
  ·exact absurd z (by decide +kernel)
  ·exact absurd z (by decide +kernel)
  ·rw [a _ (Zg l),b _ (Zg l)]
def rgA (w:Wy):PyData:=.tuple [qD w.2.2.2,dq 1]
def rgL (s:Nat) (w:Nat->Wy):LP:=(List.range s).map fun i=>rgA (w i)
theorem B97 {c:List (Option Wy)} {m L s:Nat}:((List.range s).map fun i=>rgW c (plc c m (L + i)))=rgL s fun i=>wyA c (plc c m (L + i)):=by
 unfold rgL;congr 1
 funext i
 unfold rgW rgA wyA;dsimp only;cases cmA c (plc c m (L + i)) <;> rfl
theorem A78 {ts:LQ} {ws:LW} {hs:LH} {W:Rat}:∀ v,v < ts.length->∃ w ∈ bkL ts ws hs W,w.1=ts.length/\w.2.1=v:=fun v hv=>⟨swp (v,ts.length,ts[v] - W,(("end":Str),(v:Int))),List.mem_map.mpr ⟨_,Zt _ (Zt _ (Zw _ (List.mem_map.mpr ⟨(ts[v],v),List.mem_iff_getElem?.mpr ⟨v,by rw [List.getElem?_zipIdx,Zg hv]; simp⟩,rfl⟩))),rfl⟩,rfl,rfl⟩
theorem B8o {zB:ZB} {ws:LW} {hs:LH} {qs:LR} {ts:LQ} {V:Rat} (ht:qs.map (·.2)=ts) (K:Kps ws hs qs (some V)) (hk:∀ h ∈ hs,Hk h.1) (fo:Fars zB (bkL ts ws hs V) ts.length (farS (bkL ts ws hs V) ts.length)) (i:Nat) (x y:Rat) (hx:(qs.map (·.1))[i]?=some x) (hy:(latS ts ws hs V)[i]?=some y):x<=y:=by
 subst ht;rw [Zh] at hx;obtain ⟨p,hp,rfl⟩:=Zo hx;have hi:=(Zs hp).1;obtain ⟨a,ha,e⟩:=A4u fo (v:=i) (by rw [Zl]; exact hi);rw [hy] at e;rw [Zj e];have:=fo.le _ (by rw [Zl]; exact A11 (K.pot hk)) i a ha;rw [A1x hp] at this;grind
theorem A56 {kd:Str} {cs:LR} {t:Rat} (hk:Kd kd) (h1:1<=cs.length) (h:offB kd cs t=true):Off kd cs t:=by
 unfold offB at h;rcases hk with z | z
 ·have z:kd="straight":=z;subst z;rw [if_neg (Ne.symm B0a),Bool.and_eq_true] at h;refine ⟨fun e=>absurd e.symm B0a,fun _=>⟨_,_,B0l h1,A9v h1,?_,?_⟩⟩
  ·simpa using h.1
  ·simpa using h.2
 ·have z:kd="steps":=z;subst z;rw [if_pos rfl] at h;obtain ⟨c,hc,e⟩:=List.any_eq_true.mp h;exact ⟨fun _=>⟨c,hc,of_decide_eq_true e⟩,fun e=>absurd e B0a⟩
theorem C4s {B k a b:Nat} {q:Rat} (hB:0 < B) (h:On B k q) (h1:k * B < 2 ^ a) (h2:B < 2 ^ b):SmR a b q:=by
 obtain ⟨z,rfl,g⟩:=h;exact SmR.low (Nat.lt_of_le_of_lt g h1) (by unfold Sm; rw [Int.natAbs_natCast]; exact h2) (by omega)
theorem A55 {kd:Str} {cs:LR} {t:Rat} (hk:Kd kd) (h1:1<=cs.length) (h:Off kd cs t):offB kd cs t=true:=by
 unfold offB;rcases hk with z | z
 ·have z:kd="straight":=z;subst z;rw [if_neg (Ne.symm B0a),Bool.and_eq_true];obtain ⟨c0,cl,e0,el,q1,q2⟩:=h.sr rfl;rw [B0l h1] at e0; rw [A9v h1] at el;cases e0; cases el;simp;exact ⟨q1,q2⟩
 ·have z:kd="steps":=z;subst z;rw [if_pos rfl];obtain ⟨c,hc,e⟩:=h.st rfl;exact List.any_eq_true.mpr ⟨c,hc,Zk e⟩
theorem A9d {kd:Str} {cs:LR} {t p:Rat} {D:Nat} (hk:Kd kd) (h1:1<=cs.length) (dc:Dec cs) (hD:0 < D) (oc:OnC cs) (op:kd="straight"->OnP cs) (ot:On (LL * D) (2 ^ 72) t) (of:offB kd cs t=true) (h:Price cs t p):On (LL * (LL * D)) (2 ^ 120) p:=by
 have hLD:0 < LL * D:=Nat.mul_pos C7 hD;have hB:0 < LL * (LL * D):=Nat.mul_pos C7 hLD;have two:∀ c ∈ cs,On (LL * (LL * D)) (2 ^ 90) c.2:=fun c hc=>by rw [<- Nat.mul_assoc]; exact (oc c hc).2.up hD
 obtain ⟨A,b,r,e,f,hb,h⟩:=h;have eb:cs[A.length]?=some b:=by rw [e]; exact A8a
 rcases h with ⟨h1,rfl⟩ | ⟨h1',A',l,eA,rfl⟩
 ·exact (two b (Zm eb)).p2 (by decide)
 ·have el:cs[A'.length]?=some l:=by rw [e,eA]; exact A97
  have eb':cs[A'.length + 1]?=some b:=by rw [<- eb,eA]; simp
  have st:kd="straight":=by
   rcases hk with z | z
   ·exact z
   ·exfalso;obtain ⟨c,hc,ec⟩:=(A56 (.inr z) h1 of).st z;obtain ⟨j,hj⟩:=List.mem_iff_getElem?.mp hc;rcases Nat.lt_trichotomy j A.length with q | q | q
    ·have:c ∈ A:=by rw [e,List.getElem?_append_left q] at hj; exact Zm hj
     have:c ∈ cs.filter fun c=>decide (t < c.1):=by rw [f]; exact this
     have:=(List.mem_filter.mp this).2;simp at this;grind
    ·subst q; rw [eb] at hj; cases hj; grind
    ·have:=dc.get eb hj q;grind
  have o1:=op st _ l b el eb';have o2:On (LL * D) (2 ^ 73) (l.1 - t):=(((oc l (Zm el)).1.up hD).p2 (b:=72) (by decide)).sub2 hLD ot (by decide);have o3:=o1.mul o2;rw [<- Nat.pow_add] at o3;exact ((two l (Zm el)).p2 (b:=118) (by decide)).add2 hB o3 (by decide)
section
variable (n:Nat) (vs:List (Int × Int)) (us:List (Str × Int))
def arT (a:Str × Int):Nat:=if a.1="start" then n else if a.1="end" then a.2.toNat else if a.1="wait" then ((vs[a.2.toNat]?).getD (0,0)).1.toNat else if ((us[a.2.toNat]?).getD ("",0)).1="from" then n else ((us[a.2.toNat]?).getD ("",0)).2.toNat
def arH (a:Str × Int):Nat:=if a.1="start" then a.2.toNat else if a.1="end" then n else if a.1="wait" then ((vs[a.2.toNat]?).getD (0,0)).2.toNat else if ((us[a.2.toNat]?).getD ("",0)).1="from" then ((us[a.2.toNat]?).getD ("",0)).2.toNat else n
def arL (a:Str × Int):Bool:=decide (a.1="hold") && decide (((us[a.2.toNat]?).getD ("",0)).1="till")
def dfA (a:Str × Int) (v:Nat):Rat:=dl (arH n vs us a) v - dl (arT n vs us a) v
def inA (a:Str × Int) (v:Nat):Rat:=dl (arH n vs us a) v - (if arL us a=true then dl (arT n vs us a) v else 0)
def ofA (a:Str × Int) (v:Nat):Rat:=if arL us a=true then 0 else dl (arT n vs us a) v
def sA (pa:List ((Str × Int) × Rat)) (f:Str × Int->Rat):Rat:=My.S (pa.map fun p=>p.2 * f p.1)
def FI (pa:List ((Str × Int) × Rat)) (v:Nat):Rat:=sA pa fun a=>inA n vs us a v
def FO (pa:List ((Str × Int) × Rat)) (v:Nat):Rat:=sA pa fun a=>ofA n vs us a v
end
theorem C3b {n:Nat} {vs:List (Int × Int)} {us:List (Str × Int)} (a:Str × Int) (v:Nat):inA n vs us a v=ofA n vs us a v + dfA n vs us a v:=by
 unfold inA ofA dfA;split <;> grind
theorem A07 {f:Str × Int->Rat}:sA [] f=0:=rfl
theorem F7 {p:(Str × Int) × Rat} {pa:List ((Str × Int) × Rat)} {f:Str × Int->Rat}:sA (p :: pa) f=p.2 * f p.1 + sA pa f:=rfl
theorem A2x {f:Str × Int->Rat}:∀ {pa pb:List ((Str × Int) × Rat)},sA (pa++pb) f=sA pa f + sA pb f
 | [],pb=>by rw [List.nil_append,A07,Rat.zero_add]
 | p :: r,pb=>by rw [List.cons_append,F7,F7,A2x]; grind
theorem A8e {f g:Str × Int->Rat}:∀ {pa:List ((Str × Int) × Rat)},sA pa (fun a=>f a + g a)=sA pa f + sA pa g
 | []=>by rw [A07,A07,A07,Rat.zero_add]
 | p :: r=>by rw [F7,F7,F7,A8e]; grind
theorem Q8 {f g:Str × Int->Rat}:∀ {pa:List ((Str × Int) × Rat)},(∀ p ∈ pa,f p.1=g p.1)->sA pa f=sA pa g
 | [],_=>rfl
 | p :: r,h=>by rw [F7,F7,h p Zy,Q8 fun q hq=>h q (Zr _ hq)]
theorem B5z {f:Str × Int->Rat}:∀ {pa:List ((Str × Int) × Rat)},(∀ p ∈ pa,0<=p.2/\0<=f p.1)->0<=sA pa f
 | [],_=>Rat.le_refl
 | p :: r,h=>by
  rw [F7];have h1:=h p Zy;have h2:=B5z fun q hq=>h q (Zr _ hq);have:=Rat.mul_nonneg h1.1 h1.2;grind
theorem A1u {f:Str × Int->Nat->Rat} {g:Nat->Rat} {m:Nat}:∀ {pa:List ((Str × Int) × Rat)},sumV (fun v=>sA pa (fun a=>f a v) * g v) m=sA pa fun a=>sumV (fun v=>f a v * g v) m
 | []=>by
  rw [A07];induction m with
  | zero=>rfl
  | succ k ih=>rw [G2,ih,A07]; grind
 | p :: r=>by
  rw [F7,<- A1u (pa:=r)];have:sumV (fun v=>sA (p :: r) (fun a=>f a v) * g v) m=sumV (fun v=>p.2 * (f p.1 v * g v) + sA r (fun a=>f a v) * g v) m:=I0 fun v _=>by rw [F7]; grind
  rw [this,A5l];have mul:∀ m,sumV (fun v=>p.2 * (f p.1 v * g v)) m=p.2 * sumV (fun v=>f p.1 v * g v) m:=fun m=>by
   induction m with
   | zero=>show (0:Rat)=p.2 * 0; grind
   | succ k ih=>rw [G2,G2,ih]; grind
  rw [mul]
structure PB (n:Nat) (vs:List (Int × Int)) (us:List (Str × Int)) (pa:List ((Str × Int) × Rat)):Prop where
 ln:pa.length<=48
 ar:∀ p ∈ pa,ArOk n vs.length us.length p.1/\On LL (2 ^ 51) p.2/\0 < p.2
 nd:(pa.map (·.1)).Nodup
 bal:∀ v,v < n->sA pa (fun a=>dfA n vs us a v)=0
theorem PB.eq {n:Nat} {vs:List (Int × Int)} {us:List (Str × Int)} {pa:List ((Str × Int) × Rat)} (h:PB n vs us pa) {v:Nat} (hv:v < n):FI n vs us pa v=FO n vs us pa v:=by
 unfold FI FO;rw [Q8 (g:=fun a=>ofA n vs us a v + dfA n vs us a v) fun p _=>C3b p.1 v,A8e,h.bal v hv,Rat.add_zero]
theorem PB.nn {n:Nat} {vs:List (Int × Int)} {us:List (Str × Int)} {pa:List ((Str × Int) × Rat)} (h:PB n vs us pa) {v:Nat}:0<=FO n vs us pa v:=by
 unfold FO;refine B5z fun p hp=>⟨Rat.le_of_lt (h.ar p hp).2.2,?_⟩;unfold ofA dl;split
 ·exact Rat.le_refl
 ·split
  ·decide
  ·exact Rat.le_refl
theorem tel {T H:Str × Int->Nat} {v:Nat}:∀ {l:List (Str × Int)} {nd:Nat->Nat},(∀ i a,l[i]?=some a->T a=nd i/\H a=nd (i + 1))->My.S (l.map fun a=>dl (H a) v - dl (T a) v)=dl (nd l.length) v - dl (nd 0) v
 | [],nd,_=>by show (0:Rat)=_; rw [List.length_nil]; grind
 | a :: r,nd,h=>by
  obtain ⟨h1,h2⟩:=h 0 a rfl;have ih:=tel (v:=v) (l:=r) (nd:=fun i=>nd (i + 1)) fun i b hb=>h (i + 1) b hb;show dl (H a) v - dl (T a) v + My.S (r.map fun a=>dl (H a) v - dl (T a) v)=_;rw [ih,h1,h2,List.length_cons];grind
def wtA (ws:LW) (hs:LH) (a:Str × Int):Rat:=if a.1="wait" then ((ws[a.2.toNat]?).getD (0,0,0)).2.2 else if a.1="hold" then (if ((hs[a.2.toNat]?).getD ("",0,0)).1="from" then ((hs[a.2.toNat]?).getD ("",0,0)).2.2 else 0 - ((hs[a.2.toNat]?).getD ("",0,0)).2.2) else 0
def rtA (a:Str × Int):Rat:=if a.1="end" then 1 else 0
theorem w_es:¬ (Str.ofString "end"=Str.ofString "start"):=by decide +kernel
theorem w_ws:¬ (Str.ofString "wait"=Str.ofString "start"):=by decide +kernel
theorem w_we:¬ (Str.ofString "wait"=Str.ofString "end"):=by decide +kernel
theorem w_hs:¬ (Str.ofString "hold"=Str.ofString "start"):=by decide +kernel
theorem w_he:¬ (Str.ofString "hold"=Str.ofString "end"):=by decide +kernel
theorem w_hw:¬ (Str.ofString "hold"=Str.ofString "wait"):=by decide +kernel
theorem w_se:¬ (Str.ofString "start"=Str.ofString "end"):=by decide +kernel
theorem w_sw:¬ (Str.ofString "start"=Str.ofString "wait"):=by decide +kernel
theorem w_sh:¬ (Str.ofString "start"=Str.ofString "hold"):=by decide +kernel
theorem w_ew:¬ (Str.ofString "end"=Str.ofString "wait"):=by decide +kernel
theorem w_eh:¬ (Str.ofString "end"=Str.ofString "hold"):=by decide +kernel
theorem w_wh:¬ (Str.ofString "wait"=Str.ofString "hold"):=by decide +kernel
theorem w_tf:¬ (Str.ofString "till"=Str.ofString "from"):=by decide +kernel
theorem w_bf:¬ (Str.ofString "by"=Str.ofString "from"):=by decide +kernel
theorem w_bt:¬ (Str.ofString "by"=Str.ofString "till"):=by decide +kernel
theorem w_ft:¬ (Str.ofString "from"=Str.ofString "till"):=by decide +kernel
structure ArV (n:Nat) (vs:List (Int × Int)) (us:List (Str × Int)) (ws:LW) (hs:LH) (a:Str × Int) (t h:Nat) (l:Bool) (wt rt:Rat):Prop where
 t:arT n vs us a=t
 h:arH n vs us a=h
 l:arL us a=l
 wt:wtA ws hs a=wt
 rt:rtA a=rt
theorem M6 {n:Nat} {vs:List (Int × Int)} {us:List (Str × Int)} {ws:LW} {hs:LH} {a:Str × Int} (ok:ArOk n vs.length us.length a) (ev:ws.map (fun w=>(w.1,w.2.1))=vs) (eu:hs.map (fun h=>(h.1,h.2.1))=us) (hk:∀ h ∈ hs,Hk h.1) :
  (∃ k:Nat,a=(Str.ofString "start",(k:Int))/\k < n/\ArV n vs us ws hs a n k false 0 0)\/(∃ k:Nat,a=(Str.ofString "end",(k:Int))/\k < n/\ArV n vs us ws hs a k n false 0 1) \/
  (∃ (k:Nat) (w:Int × Int × Rat),a=(Str.ofString "wait",(k:Int))/\ws[k]?=some w/\ArV n vs us ws hs a w.1.toNat w.2.1.toNat false w.2.2 0) \/
  ∃ (k:Nat) (h:Str × Int × Rat),a=(Str.ofString "hold",(k:Int))/\hs[k]?=some h/\((h.1="from"/\ArV n vs us ws hs a n h.2.1.toNat false h.2.2 0)\/(h.1="till"/\ArV n vs us ws hs a h.2.1.toNat n true (0 - h.2.2) 0)\/(h.1="by"/\ArV n vs us ws hs a h.2.1.toNat n false (0 - h.2.2) 0)):=by
 obtain ⟨c,m⟩:=a;obtain ⟨m0,ok⟩:=ok;obtain ⟨m,rfl⟩:=Zi (show 0<=m from m0);rcases ok with ⟨e,h⟩ | ⟨e,h⟩ | ⟨e,h⟩ | ⟨e,h⟩
 ·have e:c=Str.ofString "start":=e;subst e;refine .inl ⟨m,rfl,by have:(m:Int) < (n:Int):=h; omega,?_,?_,?_,?_,?_⟩
  ·exact if_pos rfl
  ·exact if_pos rfl
  ·unfold arL; rw [show decide ((Str.ofString "start",(m:Int)).1="hold")=false from Zd w_sh]; rfl
  ·exact (if_neg w_sw).trans (if_neg w_sh)
  ·exact if_neg w_se
 ·have e:c=Str.ofString "end":=e;subst e;refine .inr (.inl ⟨m,rfl,by have:(m:Int) < (n:Int):=h; omega,?_,?_,?_,?_,?_⟩)
  ·exact (if_neg w_es).trans (if_pos rfl)
  ·exact (if_neg w_es).trans (if_pos rfl)
  ·unfold arL; rw [show decide ((Str.ofString "end",(m:Int)).1="hold")=false from Zd w_eh]; rfl
  ·exact (if_neg w_ew).trans (if_neg w_eh)
  ·exact if_pos rfl
 ·have e:c=Str.ofString "wait":=e;subst e;have hm:m < ws.length:=by rw [<- ev,Zl] at h; have:(m:Int) < (ws.length:Int):=h; omega
  obtain ⟨w,ew⟩:∃ w,ws[m]?=some w:=⟨_,Zg hm⟩;have e1:(vs[m]?).getD (0,0)=(w.1,w.2.1):=by rw [<- ev,Zh,ew]; rfl
  refine .inr (.inr (.inl ⟨m,w,rfl,ew,?_,?_,?_,?_,?_⟩))
  ·refine (if_neg w_ws).trans ((if_neg w_we).trans ((if_pos rfl).trans ?_));show ((vs[m]?).getD (0,0)).1.toNat=_;rw [e1]
  ·refine (if_neg w_ws).trans ((if_neg w_we).trans ((if_pos rfl).trans ?_));show ((vs[m]?).getD (0,0)).2.toNat=_;rw [e1]
  ·unfold arL; rw [show decide ((Str.ofString "wait",(m:Int)).1="hold")=false from Zd w_wh]; rfl
  ·refine (if_pos rfl).trans ?_;show ((ws[m]?).getD (0,0,0)).2.2=_;rw [ew]; rfl
  ·exact if_neg w_we
 ·have e:c=Str.ofString "hold":=e;subst e;have hm:m < hs.length:=by rw [<- eu,Zl] at h; have:(m:Int) < (hs.length:Int):=h; omega
  obtain ⟨z,ez⟩:∃ w,hs[m]?=some w:=⟨_,Zg hm⟩;have e1:(us[m]?).getD ("",0)=(z.1,z.2.1):=by rw [<- eu,Zh,ez]; rfl
  have e2:(hs[m]?).getD ("",0,0)=z:=by rw [ez]; rfl
  have kz:z.1="from"\/z.1="till"\/z.1="by":=hk z (Zm ez);have tT:arT n vs us (Str.ofString "hold",(m:Int))=if z.1="from" then n else z.2.1.toNat:=by
   refine (if_neg w_hs).trans ((if_neg w_he).trans ((if_neg w_hw).trans ?_));show (if ((us[m]?).getD ("",0)).1="from" then n else ((us[m]?).getD ("",0)).2.toNat)=_;rw [e1]
  have tH:arH n vs us (Str.ofString "hold",(m:Int))=if z.1="from" then z.2.1.toNat else n:=by
   refine (if_neg w_hs).trans ((if_neg w_he).trans ((if_neg w_hw).trans ?_));show (if ((us[m]?).getD ("",0)).1="from" then ((us[m]?).getD ("",0)).2.toNat else n)=_;rw [e1]
  have tL:arL us (Str.ofString "hold",(m:Int))=decide (z.1="till"):=by
   unfold arL;rw [show decide ((Str.ofString "hold",(m:Int)).1="hold")=true from Zk rfl,Bool.true_and];show decide (((us[m]?).getD ("",0)).1="till")=_;rw [e1]
  have tW:wtA ws hs (Str.ofString "hold",(m:Int))=if z.1="from" then z.2.2 else 0 - z.2.2:=by
   refine (if_neg w_hw).trans ((if_pos rfl).trans ?_);show (if ((hs[m]?).getD ("",0,0)).1="from" then ((hs[m]?).getD ("",0,0)).2.2 else 0 - ((hs[m]?).getD ("",0,0)).2.2)=_;rw [e2]
  have tR:rtA (Str.ofString "hold",(m:Int))=0:=if_neg w_he;refine .inr (.inr (.inr ⟨m,z,rfl,ez,?_⟩));rcases kz with kz | kz | kz
  ·exact .inl ⟨kz,tT.trans (if_pos kz),tH.trans (if_pos kz),tL.trans (Zd (by rw [kz]; exact w_ft)),tW.trans (if_pos kz),tR⟩
  ·exact .inr (.inl ⟨kz,tT.trans (if_neg (by rw [kz]; exact w_tf)),tH.trans (if_neg (by rw [kz]; exact w_tf)),tL.trans (Zk kz),tW.trans (if_neg (by rw [kz]; exact w_tf)),tR⟩)
  ·exact .inr (.inr ⟨kz,tT.trans (if_neg (by rw [kz]; exact w_bf)),tH.trans (if_neg (by rw [kz]; exact w_bf)),tL.trans (Zd (by rw [kz]; exact w_bt)),tW.trans (if_neg (by rw [kz]; exact w_bf)),tR⟩)
def tmA (n:Nat) (vs:List (Int × Int)) (us:List (Str × Int)) (t:Nat->Rat) (a:Str × Int):Rat:=if arL us a=true then 0 else if arT n vs us a < n then t (arT n vs us a) else 0
theorem C3s {n:Nat} {vs:List (Int × Int)} {us:List (Str × Int)} {ws:LW} {hs:LH} {ps:LR} {W:Rat} {a:Str × Int} (ok:ArOk n vs.length us.length a) (ev:ws.map (fun w=>(w.1,w.2.1))=vs) (eu:hs.map (fun h=>(h.1,h.2.1))=us) (hk:∀ h ∈ hs,Hk h.1)
  (pl:ps.length=n) (K:Kps ws hs ps (some W)) (wk:∀ w ∈ ws,(0<=w.1/\w.1 < (n:Int))/\(0<=w.2.1/\w.2.1 < (n:Int))) (hk2:∀ h ∈ hs,0<=h.2.1/\h.2.1 < (n:Int)) :
  0<=pvS ps (arH n vs us a) - pvS ps (arT n vs us a) - tmA n vs us (fun v=>(sat ps (v:Int)).2) a + rtA a * W - wtA ws hs a:=by
 have pn:pvS ps n=0:=by rw [<- pl]; exact L5
 have pv:∀ {o:Nat},o < n->pvS ps o=(sat ps (o:Int)).1:=fun h=>by rw [A1x (M8 (by omega))]
 have mem:∀ {o:Nat},o < n->sat ps (o:Int) ∈ ps:=fun h=>Zm (M8 (by omega));unfold tmA;rcases M6 ok ev eu hk with ⟨k,rfl,hk',V⟩ | ⟨k,rfl,hk',V⟩ | ⟨k,w,rfl,ew,V⟩ | ⟨k,h,rfl,eh,V⟩
 ·rw [V.t,V.h,V.l,V.wt,V.rt,if_neg (by decide),if_neg (Nat.lt_irrefl n),pn,pv hk'];have:=K.s _ (mem hk');grind
 ·rw [V.t,V.h,V.l,V.wt,V.rt,if_neg (by decide),if_pos hk',pn,pv hk'];have:=K.e W rfl _ (mem hk');unfold enD at this;grind
 ·obtain ⟨⟨a0,a1⟩,b0,b1⟩:=wk w (Zm ew);have:=K.w w (Zm ew);have ta:w.1.toNat < n:=by omega
  have tb:w.2.1.toNat < n:=by omega
  rw [V.t,V.h,V.l,V.wt,V.rt,if_neg (by decide),if_pos ta,pv ta,pv tb,show ((w.1.toNat:Nat):Int)=w.1 by omega,show ((w.2.1.toNat:Nat):Int)=w.2.1 by omega];unfold wSl enD at this;grind
 ·obtain ⟨o0,o1⟩:=hk2 h (Zm eh);have:=K.h h (Zm eh);have to:h.2.1.toNat < n:=by omega
  have eo:((h.2.1.toNat:Nat):Int)=h.2.1:=by omega
  unfold hSl at this;rcases V with ⟨kz,V⟩ | ⟨kz,V⟩ | ⟨kz,V⟩
  ·rw [if_pos kz] at this;rw [V.t,V.h,V.l,V.wt,V.rt,if_neg (by decide),if_neg (Nat.lt_irrefl n),pn,pv to,eo];grind
  ·rw [if_neg (by rw [kz]; exact w_tf),if_pos kz] at this;rw [V.t,V.h,V.l,V.wt,V.rt,if_pos rfl,pn,pv to,eo];grind
  ·rw [if_neg (by rw [kz]; exact w_bf),if_neg (by rw [kz]; exact w_bt)] at this;rw [V.t,V.h,V.l,V.wt,V.rt,if_neg (by decide),if_pos to,pn,pv to,eo];unfold enD at this;grind
theorem Y1 {ds:List (PyData × PyData)} {c:Str} {z:PyData} (h:(PyData.str c,z) ∈ ds):hasD ds c=true:=List.any_eq_true.mpr ⟨(PyData.str c,z),h,Zk rfl⟩
theorem Y5 {F G:Nat->Rat} {n j:Nat} {c:Rat} (h:∀ v,v < n->G v=F v + (if v=j then c else 0)):((List.range n).map F).set j (F j + c)=(List.range n).map G:=by
 apply List.ext_getElem?;intro v;rw [List.getElem?_set,Zl,List.length_range];by_cases hv:v < n
 ·rw [Zh,Zh,List.getElem?_range hv];show _=some (G v);rw [h v hv];by_cases e:j=v
  ·subst e; rw [if_pos rfl,if_pos hv,if_pos rfl]
  ·rw [if_neg e,if_neg (fun z=>e z.symm)]; show some (F v)=some (F v + 0); rw [Rat.add_zero]
 ·rw [List.getElem?_eq_none (by simp; omega),List.getElem?_eq_none (by simp; omega)];split
  ·rw [if_neg (by omega)]
  ·rfl
theorem Y6 {F G:Nat->Rat} {n:Nat} (h:∀ v,v < n->G v=F v):(List.range n).map F=(List.range n).map G:=List.map_congr_left fun v hv=>(h v (List.mem_range.mp hv)).symm
theorem A6z {F:Nat->Rat} {n j:Nat} (h:j < n):((List.range n).map F)[j]?=some (F j):=by rw [Zh,List.getElem?_range h]; rfl
theorem C3i (a v:Nat):dl a v=0\/dl a v=1:=by
 unfold dl;split
 ·exact .inr rfl
 ·exact .inl rfl
theorem B26 {n:Nat} {vs:List (Int × Int)} {us:List (Str × Int)} (a:Str × Int) (v:Nat):(∃ z:Int,inA n vs us a v=(z:Rat)/\z.natAbs<=1)/\∃ z:Int,ofA n vs us a v=(z:Rat)/\z.natAbs<=1:=by
 unfold inA ofA;have p:=C3i (arH n vs us a) v;have q:=C3i (arT n vs us a) v;constructor
 ·split
  ·rcases p with p | p <;> rcases q with q | q <;> rw [p,q]
   ·exact ⟨0,by grind,by decide⟩
   ·exact ⟨-1,by grind,by decide⟩
   ·exact ⟨1,by grind,by decide⟩
   ·exact ⟨0,by grind,by decide⟩
  ·rcases p with p | p <;> rw [p]
   ·exact ⟨0,by grind,by decide⟩
   ·exact ⟨1,by grind,by decide⟩
 ·split
  ·exact ⟨0,rfl,by decide⟩
  ·rcases q with q | q <;> rw [q]
   ·exact ⟨0,rfl,by decide⟩
   ·exact ⟨1,rfl,by decide⟩
theorem A8d {f:Str × Int->Rat} {b:Nat}:∀ {pa:List ((Str × Int) × Rat)},(∀ p ∈ pa,On LL (2 ^ b) p.2)->(∀ a,∃ z:Int,f a=(z:Rat)/\z.natAbs<=1)->On LL (pa.length * 2 ^ b) (sA pa f)
 | [],_,_=>On.zero.mono (Nat.zero_le _)
 | p :: r,h,hf=>by
  rw [F7,List.length_cons];obtain ⟨z,ez,hz⟩:=hf p.1;have h1:=On.mul (h p Zy) (B4e (B:=1) (k:=1) (n:=z) (by decide) (by omega));rw [<- ez,Nat.mul_one,Nat.mul_one] at h1;exact (On.add C7 h1 (A8d (fun q hq=>h q (Zr _ hq)) hf)).mono (by rw [Nat.add_mul,Nat.one_mul,Nat.add_comm]; exact Zv _)
theorem A4e {f:Str × Int->Rat} {pa:List ((Str × Int) × Rat)} {i:Nat} {p:(Str × Int) × Rat} (h:pa[i]?=some p):sA (pa.take (i + 1)) f=sA (pa.take i) f + p.2 * f p.1:=by
 rw [List.take_add_one,h,A2x];show _ + (p.2 * f p.1 + 0)=_;rw [Rat.add_zero]
structure NP (n:Nat) (ws:LW) (hs:LH):Prop where
 n1:n<=10
 wl:ws.length<=40
 hl:hs.length<=40
 w:∀ w ∈ ws,(0<=w.1/\w.1 < (n:Int))/\(0<=w.2.1/\w.2.1 < (n:Int))/\O4 w.2.2
 h:∀ h ∈ hs,Hk h.1/\(0<=h.2.1/\h.2.1 < (n:Int))/\O4 h.2.2
abbrev vsO (ws:LW):List (Int × Int):=ws.map fun w=>(w.1,w.2.1)
abbrev usO (hs:LH):List (Str × Int):=hs.map fun h=>(h.1,h.2.1)
theorem A6k {q:Rat} {a v:Nat}:q * dl a v=if v=a then q else 0:=by
 unfold dl;split <;> grind
theorem A3r {n v:Nat} (h:v < n):dl n v=0:=if_neg (by omega)
theorem dl_m {q:Rat} {a v:Nat} {x:Rat} (e:x=dl a v - 0):q * x=if v=a then q else 0:=by rw [e,show dl a v - 0=dl a v by grind,A6k]
theorem S_on {B k:Nat} (hB:0 < B):∀ {qs:LQ},(∀ q ∈ qs,On B k q)->On B (qs.length * k) (My.S qs)
 | [],_=>On.zero.mono (Nat.zero_le _)
 | q :: r,h=>by
  show On B _ (q + My.S r);rw [List.length_cons];exact (On.add hB (h q Zy) (S_on hB fun x hx=>h x (Zr _ hx))).mono (by rw [Nat.add_mul,Nat.one_mul,Nat.add_comm]; exact Zv _)
def A00 (pa:List ((Str × Int) × Rat)):LQ:=(pa.filter fun p:(Str × Int) × Rat=>decide (p.1.1="end")).map (·.2)
theorem B4w:∀ {pa:List ((Str × Int) × Rat)},My.S (A00 pa)=sA pa rtA
 | []=>rfl
 | p :: r=>by
  rw [F7,<- B4w (pa:=r)];unfold A00 rtA;rw [List.filter_cons];by_cases h:p.1.1="end"
  ·rw [if_pos (Zk h),if_pos h];show p.2 + _=p.2 * 1 + _;grind
  ·rw [if_neg (by rw [Zd h]; decide),if_neg h];grind
theorem A3q {pa:List ((Str × Int) × Rat)} {i:Nat} {p:(Str × Int) × Rat} (h:pa[i]?=some p):A00 (pa.take (i + 1))=A00 (pa.take i)++(if p.1.1="end" then [p.2] else []):=by
 unfold A00;rw [List.take_add_one,h,List.filter_append,Zc];congr 1
 show List.map _ (List.filter _ [p])=_;rw [List.filter_cons];by_cases z:p.1.1="end"
 ·rw [if_pos (Zk z),if_pos z]; rfl
 ·rw [if_neg (by rw [Zd z]; decide),if_neg z]; rfl
theorem ArOk.wl {n v u:Nat} {a:Str × Int} (h:ArOk n v u a):(PyData.str a.1).canLay0=true:=by
 rcases h.2 with ⟨e,_⟩ | ⟨e,_⟩ | ⟨e,_⟩ | ⟨e,_⟩ <;> (rw [e]; decide +kernel)
abbrev B5:Nat:=LL * LL * 4
def lsV (xs:List Wk) (F:Nat->Rat) (v:Nat):Rat:=let cs:=((xs[v]?).getD ("","",[])).2.2; lm (cs.map (val (F v))) (val (F v) ((cs[0]?).getD (0,0)))
def quV (xs:List Wk) (v:Nat):Rat:=((((xs[v]?).getD ("","",[])).2.2.getLast?).getD (0,0)).1
theorem A6o {α β:Type} {f:α->PyData} {g:β->PyData} {xs:List α} {zs:List β} {pg:PyData->PEnv->(PEnv->Prop)->Prop} {pt:PTt} {pd:PDt} {e0:PEnv} {Fin:LP->Prop} (Pv:Nat->PEnv->LP->Prop) (h0:Pv 0 e0 [])
  (hs:∀ (i:Nat) a b e ys,xs[i]?=some a->zs[i]?=some b->Pv i e ys->pg (.tuple [f a,g b]) e fun e2=>pt e2 fun t e3=>if t=true then pd e3 fun x e4=>Pv (i + 1) e4 (ys++[x]) else Pv (i + 1) e3 ys) (hd:∀ e ys,Pv (min xs.length zs.length) e ys->Fin ys):O8 (zipD (xs.map f) (zs.map g)) pg pt pd e0 Fin:=by
 refine ⟨Pv,h0,fun i x e ys hx hi=>?_,fun e ys h=>hd e ys (by rwa [S7,List.length_map,List.length_map] at h)⟩;obtain ⟨a,b,ha,hb,rfl⟩:=A5f hx;rw [Zh] at ha hb;obtain ⟨a',ha',rfl⟩:=Zo ha;obtain ⟨b',hb',rfl⟩:=Zo hb;exact hs i a' b' e ys ha' hb' hi
theorem C3r {n:Nat} {ws:LW} {hs:LH} {a:Str × Int} (np:NP n ws hs) (h:ArOk n (vsO ws).length (usO hs).length a):O4 (wtA ws hs a):=by
 have z0:O4 0:=On.zero.mono (Nat.zero_le _);have neg:∀ {x:Rat},O4 x->O4 (0 - x):=fun {x} h=>by
  have:=(On.zero.mono (Nat.zero_le 0)).sub (B:=LL * 4) (by decide) h;exact this.mono (by rw [Nat.zero_add]; exact Zv _)
 rcases M6 (ws:=ws) (hs:=hs) h rfl rfl (fun h hh=>(np.h h hh).1) with ⟨m,ea,hm,V⟩ | ⟨m,ea,hm,V⟩ | ⟨m,w,ea,ew,V⟩ | ⟨m,h,ea,eh,V⟩
 ·rw [V.wt]; exact z0
 ·rw [V.wt]; exact z0
 ·rw [V.wt]; exact (np.w w (Zm ew)).2.2
 ·have oh:=(np.h h (Zm eh)).2.2;rcases V with ⟨_,V⟩ | ⟨_,V⟩ | ⟨_,V⟩
  ·rw [V.wt]; exact oh
  ·rw [V.wt]; exact neg oh
  ·rw [V.wt]; exact neg oh
theorem B9o {n:Nat} {ws:LW} {hs:LH} (np:NP n ws hs):∀ {pa:List ((Str × Int) × Rat)},(∀ p ∈ pa,ArOk n (vsO ws).length (usO hs).length p.1/\On LL (2 ^ 51) p.2)->On B5 (pa.length * 2 ^ 109) (sA pa (wtA ws hs))
 | [],_=>On.zero.mono (Nat.zero_le _)
 | p :: r,h=>by
  rw [F7,List.length_cons];obtain ⟨h1,h2⟩:=h p Zy;have h3:On B5 (2 ^ 109) (p.2 * wtA ws hs p.1):=by
   have:=On.mul h2 (C3r np h1);rw [<- Nat.mul_assoc] at this;exact this.mono (by decide)
  exact (On.add (by decide) h3 (B9o np fun q hq=>h q (Zr _ hq))).mono (by rw [Nat.add_mul,Nat.one_mul,Nat.add_comm]; exact Zv _)
def OnD (cs:LR):Prop:=∀ c ∈ cs,On (LL * 4) (2 ^ 50) c.1/\On B5 (2 ^ 120) c.2
theorem C2o {xs:List Wk} {F:Nat->Rat} {v:Nat} (hv:v < xs.length) (of:∀ x ∈ xs,1<=x.2.2.length/\x.2.2.length<=100/\OnD x.2.2) (oF:On LL (2 ^ 57) (F v)):On B5 (2 ^ 121) (lsV xs F v)/\On B5 (2 ^ 121) (F v * quV xs v):=by
 obtain ⟨x,hx⟩:∃ x,xs[v]?=some x:=⟨_,Zg hv⟩;obtain ⟨l1,_,oc⟩:=of x (Zm hx);have vo:∀ c ∈ x.2.2,On B5 (2 ^ 121) (val (F v) c)/\On B5 (2 ^ 121) (F v * c.1):=fun c hc=>by
  obtain ⟨o1,o2⟩:=oc c hc;have om:=On.mul oF o1;rw [<- Nat.mul_assoc] at om;exact ⟨(o2.add (by decide) om).mono (by decide),om.mono (by decide)⟩
 obtain ⟨c0,e0⟩:∃ c,x.2.2[0]?=some c:=⟨_,Zg (by omega)⟩;obtain ⟨c,ec⟩:∃ c,x.2.2.getLast?=some c:=⟨_,List.getLast?_eq_some_getLast (by intro z; rw [z] at l1; simp at l1)⟩;constructor
 ·unfold lsV;rw [hx];show On B5 _ (lm (x.2.2.map (val (F v))) (val (F v) ((x.2.2[0]?).getD (0,0))));rw [e0];rcases A3j (x.2.2.map (val (F v))) (val (F v) c0) with z | z
  ·show On B5 _ (lm _ (val (F v) c0));rw [z]; exact (vo c0 (Zm e0)).1
  ·obtain ⟨c,hc,e⟩:=List.mem_map.mp z;show On B5 _ (lm _ (val (F v) c0));rw [<- e]; exact (vo c hc).1
 ·unfold quV;rw [hx];show On B5 _ (F v * ((x.2.2.getLast?).getD (0,0)).1);rw [ec];exact (vo c (List.mem_of_getLast? ec)).2
section
variable {n:Nat} {vs:List (Int × Int)} {us:List (Str × Int)}
end
theorem onR {B k a b:Nat} {q:Rat} (h:On B k q) (hB:0 < B) (g:k * B < 2 ^ a) (g2:B < 2 ^ b):SmR a b q:=by
 obtain ⟨z,rfl,bb⟩:=h;exact SmR.low (n:=a) (d:=b) (t:=z) (b:=(B:Int)) (Nat.lt_of_le_of_lt bb g) (by unfold Sm; rw [Int.natAbs_natCast]; exact g2) (by omega)
theorem C4o {n:Nat} {ws:LW} {hs:LH} {a:Str × Int} (np:NP n ws hs) (h:ArOk n (vsO ws).length (usO hs).length a):arT n (vsO ws) (usO hs) a<=n/\arH n (vsO ws) (usO hs) a<=n:=by
 rcases M6 (ws:=ws) (hs:=hs) h rfl rfl (fun h hh=>(np.h h hh).1) with ⟨m,ea,hm,V⟩ | ⟨m,ea,hm,V⟩ | ⟨m,w,ea,ew,V⟩ | ⟨m,h,ea,eh,V⟩
 ·rw [V.t,V.h]; omega
 ·rw [V.t,V.h]; omega
 ·have:=np.w w (Zm ew);rw [V.t,V.h]; omega
 ·have:=(np.h h (Zm eh)).2.1;rcases V with ⟨_,V⟩ | ⟨_,V⟩ | ⟨_,V⟩ <;> (rw [V.t,V.h]; omega)
theorem B30 {ps:LR} {n a:Nat} (pl:ps.length=n) (h:a<=n):pvS ps a=sumV (fun v=>dl a v * pvS ps v) n:=by
 rw [A1q (t:=pvS ps)];split
 ·rfl
 ·rw [show a=n by omega,<- pl]; exact L5
theorem S9 {f:Nat->Rat}:∀ {n:Nat},(∀ v,v < n->f v=0)->sumV f n=0
 | 0,_=>rfl
 | n + 1,h=>by rw [G2,S9 fun v hv=>h v (by omega),h n (by omega)]; grind
theorem dual {n:Nat} {ws:LW} {hs:LH} {pa:List ((Str × Int) × Rat)} {ps:LR} {W:Rat} (np:NP n ws hs) (pb:PB n (vsO ws) (usO hs) pa) (pl:ps.length=n) (K:Kps ws hs ps (some W)) :
  sA pa (wtA ws hs) + sumV (fun v=>FI n (vsO ws) (usO hs) pa v * (sat ps (v:Int)).2) n<=sA pa rtA * W:=by
 have nn:=B5z (pa:=pa) (f:=fun a=>pvS ps (arH n (vsO ws) (usO hs) a) - pvS ps (arT n (vsO ws) (usO hs) a) - tmA n (vsO ws) (usO hs) (fun v=>(sat ps (v:Int)).2) a + rtA a * W - wtA ws hs a) fun p hp=>⟨Rat.le_of_lt (pb.ar p hp).2.2,C3s (pb.ar p hp).1 rfl rfl (fun h hh=>(np.h h hh).1) pl K (fun w hw=>⟨(np.w w hw).1,(np.w w hw).2.1⟩) fun h hh=>(np.h h hh).2.1⟩;have e1:sA pa (fun a=>pvS ps (arH n (vsO ws) (usO hs) a) - pvS ps (arT n (vsO ws) (usO hs) a))=0:=by
  rw [Q8 (g:=fun a=>sumV (fun v=>dfA n (vsO ws) (usO hs) a v * pvS ps v) n) fun p hp=>by
   obtain ⟨l1,l2⟩:=C4o np (pb.ar p hp).1;rw [B30 pl l2,B30 pl l1];have:∀ m,sumV (fun v=>dl (arH n (vsO ws) (usO hs) p.1) v * pvS ps v) m - sumV (fun v=>dl (arT n (vsO ws) (usO hs) p.1) v * pvS ps v) m=sumV (fun v=>dfA n (vsO ws) (usO hs) p.1 v * pvS ps v) m:=fun m=>by
    induction m with
    | zero=>show (0:Rat) - 0=0; grind
    | succ k ih=>rw [G2,G2,G2,<- ih]; unfold dfA; grind
   exact this n,<- A1u]
  exact S9 fun v hv=>by rw [pb.bal v hv]; grind
 have e2:sA pa (tmA n (vsO ws) (usO hs) fun v=>(sat ps (v:Int)).2)=sumV (fun v=>FI n (vsO ws) (usO hs) pa v * (sat ps (v:Int)).2) n:=by
  rw [I0 (g:=fun v=>FO n (vsO ws) (usO hs) pa v * (sat ps (v:Int)).2) fun v hv=>by rw [pb.eq hv]];unfold FO;rw [A1u];refine Q8 fun p hp=>?_;unfold tmA ofA;by_cases z:arL (usO hs) p.1=true
  ·rw [if_pos z];exact (S9 fun v _=>by rw [if_pos z]; grind).symm
  ·rw [if_neg z,<- A1q (t:=fun v=>(sat ps (v:Int)).2)];exact I0 fun v _=>by rw [if_neg z]
 have e3:sA pa (fun a=>pvS ps (arH n (vsO ws) (usO hs) a) - pvS ps (arT n (vsO ws) (usO hs) a) - tmA n (vsO ws) (usO hs) (fun v=>(sat ps (v:Int)).2) a + rtA a * W - wtA ws hs a)=0 - sumV (fun v=>FI n (vsO ws) (usO hs) pa v * (sat ps (v:Int)).2) n + sA pa rtA * W - sA pa (wtA ws hs):=by
  rw [<- e2,<- e1];clear e1 e2 nn;induction pa with
  | nil=>show (0:Rat)=0 - 0 + 0 * W - 0; grind
  | cons p r ih =>
   have pb':PB n (vsO ws) (usO hs) r->True:=fun _=>True.intro;clear ih pb';have go:∀ r:List ((Str × Int) × Rat),sA r (fun a=>pvS ps (arH n (vsO ws) (usO hs) a) - pvS ps (arT n (vsO ws) (usO hs) a) - tmA n (vsO ws) (usO hs) (fun v=>(sat ps (v:Int)).2) a + rtA a * W - wtA ws hs a)=sA r (fun a=>pvS ps (arH n (vsO ws) (usO hs) a) - pvS ps (arT n (vsO ws) (usO hs) a)) - sA r (tmA n (vsO ws) (usO hs) fun v=>(sat ps (v:Int)).2) + sA r rtA * W - sA r (wtA ws hs):=fun r=>by
    induction r with
    | nil=>show (0:Rat)=0 - 0 + 0 * W - 0; grind
    | cons p r ih=>rw [F7,F7,F7,F7,F7,ih]; grind
   exact go (p :: r)
 rw [e3] at nn;grind
def ltr3:Str:=Str.ofString "dbeca"
theorem A2a:ltr3.length=5:=by decide +kernel
theorem B20:ltr3.cps.toList.all (fun c=>decide (c < 128))=true:=by decide +kernel
theorem B8z {α β:Type} {f:α->PyData} {g:β->PyData} {xs:List α} {zs:List β} {pg:PyData->PEnv->(PEnv->Prop)->Prop} {pb:PSt} {D:PEnds} {env:PEnv} (Iv:Nat->PEnv->Prop) (h0:Iv 0 env)
  (hs:∀ (i:Nat) a b e,xs[i]?=some a->zs[i]?=some b->Iv i e->pg (.tuple [f a,g b]) e fun e2=>pb ⟨Iv (i + 1),D.rt,D.nx,Iv (i + 1)⟩ e2) (hd:∀ e,Iv (min xs.length zs.length) e->D.nx e):A3c (zipD (xs.map f) (zs.map g)) pg pb D env:=by
 refine ⟨Iv,h0,fun i x e hx hi=>?_,fun e h=>hd e (by rwa [S7,List.length_map,List.length_map] at h)⟩;obtain ⟨a,b,ha,hb,rfl⟩:=A5f hx;rw [Zh] at ha hb;obtain ⟨a',ha',rfl⟩:=Zo ha;obtain ⟨b',hb',rfl⟩:=Zo hb;exact hs i a' b' e ha' hb' hi
theorem C34 {B k l:Nat} {p q:Rat} (hB:0 < B) (h:On B k q) (g:On B l p) (h0:0<=q) (h1:q<=p):On B l q:=by
 have h2:0<=p - q:=by grind
 obtain ⟨z,rfl,_⟩:=h;obtain ⟨y,rfl,b⟩:=g;refine ⟨z,rfl,?_⟩;have hB':(0:Int) < (B:Int):=by omega
 have z0:=(Rat.divInt_nonneg_iff_of_pos_right hB').mp h0;have e:Rat.divInt y (B:Int) - Rat.divInt z (B:Int)=Rat.divInt (y - z) (B:Int):=by
  rw [Rat.divInt_sub_divInt _ _ (by omega) (by omega),<- Int.sub_mul];exact (Rat.divInt_eq_divInt_iff (by have:=Int.mul_pos hB' hB'; omega) (by omega)).mpr (by rw [Int.mul_assoc])
 rw [e] at h2;have z1:=(Rat.divInt_nonneg_iff_of_pos_right hB').mp h2;omega
theorem B5d {hs:LH} {a b:Nat} {q:Rat} {c:Str} {m:Int} (h:c≠"hold"):isTl hs (a,b,q,(c,m))=false:=by
 unfold isTl;rw [show decide (c="hold")=false from Zd h]; rfl
theorem B5e {hs:LH} {a b m:Nat} {q:Rat} {z:Str × Int × Rat} (ez:hs[m]?=some z):isTl hs (a,b,q,(("hold":Str),(m:Int)))=decide (z.1="till"):=by
 unfold isTl;dsimp only;rw [Int.toNat_natCast,ez];show (decide (("hold":Str)="hold") && _)=_;rw [show decide (("hold":Str)="hold")=true from Zk rfl]; rfl
theorem B46 {ts:LQ} {ws:LW} {hs:LH} {W:Rat} {x:Wy} (np:NP ts.length ws hs) (hx:x ∈ E9 ts ws hs (some W)):ArOk ts.length (vsO ws).length (usO hs).length x.2.2.2/\arT ts.length (vsO ws) (usO hs) x.2.2.2=x.1/\arH ts.length (vsO ws) (usO hs) x.2.2.2=x.2.1/\arL (usO hs) x.2.2.2=isTl hs x/\x.2.2.1=tmA ts.length (vsO ws) (usO hs) (fun v=>rat ts (v:Int)) x.2.2.2 + wtA ws hs x.2.2.2 - rtA x.2.2.2 * W:=by
 have hk:∀ h ∈ hs,Hk h.1:=fun h hh=>(np.h h hh).1;rcases A5g hx with ⟨j,hj,rfl⟩ | ⟨j,hj,rfl⟩ | ⟨k,z,ez,rfl⟩ | ⟨k,z,ez,e⟩
 ·have ok:ArOk ts.length (vsO ws).length (usO hs).length (("start":Str),(j:Int)):=⟨Int.natCast_nonneg _,.inl ⟨rfl,by show (j:Int) < _; omega⟩⟩;rcases M6 (ws:=ws) (hs:=hs) ok rfl rfl hk with ⟨m,e,hm,V⟩ | ⟨m,e,hm,V⟩ | ⟨m,w,e,ew,V⟩ | ⟨m,h,e,eh,V⟩
  ·have em:j=m:=by have:(j:Int)=(m:Int):=congrArg Prod.snd e; omega
   subst em;refine ⟨ok,V.t,V.h,V.l.trans (B5d (by decide +kernel)).symm,?_⟩;unfold tmA;dsimp only;rw [V.l,V.t,V.wt,V.rt,if_neg (by decide),if_neg (Nat.lt_irrefl _)];grind
  ·exact absurd (congrArg Prod.fst e) w_se
  ·exact absurd (congrArg Prod.fst e) w_sw
  ·exact absurd (congrArg Prod.fst e) w_sh
 ·have ok:ArOk ts.length (vsO ws).length (usO hs).length (("end":Str),(j:Int)):=⟨Int.natCast_nonneg _,.inr (.inl ⟨rfl,by show (j:Int) < _; omega⟩)⟩;rcases M6 (ws:=ws) (hs:=hs) ok rfl rfl hk with ⟨m,e,hm,V⟩ | ⟨m,e,hm,V⟩ | ⟨m,w,e,ew,V⟩ | ⟨m,h,e,eh,V⟩
  ·exact absurd (congrArg Prod.fst e) w_es
  ·have em:j=m:=by have:(j:Int)=(m:Int):=congrArg Prod.snd e; omega
   subst em;refine ⟨ok,V.t,V.h,V.l.trans (B5d (by decide +kernel)).symm,?_⟩;unfold tmA;dsimp only;rw [V.l,V.t,V.wt,V.rt,if_neg (by decide),if_pos hj];grind
  ·exact absurd (congrArg Prod.fst e) w_ew
  ·exact absurd (congrArg Prod.fst e) w_eh
 ·have kl:=(Zs ez).1;have ok:ArOk ts.length (vsO ws).length (usO hs).length (("wait":Str),(k:Int)):=⟨Int.natCast_nonneg _,.inr (.inr (.inl ⟨rfl,by show (k:Int) < ((ws.map _).length:Int); rw [Zl]; omega⟩))⟩;obtain ⟨⟨a0,a1⟩,b,_⟩:=np.w z (Zm ez);rcases M6 (ws:=ws) (hs:=hs) ok rfl rfl hk with ⟨m,e,hm,V⟩ | ⟨m,e,hm,V⟩ | ⟨m,w,e,ew,V⟩ | ⟨m,h,e,eh,V⟩
  ·exact absurd (congrArg Prod.fst e) w_ws
  ·exact absurd (congrArg Prod.fst e) w_we
  ·have em:k=m:=by have:(k:Int)=(m:Int):=congrArg Prod.snd e; omega
   subst em;rw [ez] at ew; cases ew;refine ⟨ok,V.t,V.h,V.l.trans (B5d (by decide +kernel)).symm,?_⟩;unfold tmA;dsimp only;rw [V.l,V.t,V.wt,V.rt,if_neg (by decide),if_pos (by omega),show ((z.1.toNat:Nat):Int)=z.1 by omega];grind
  ·exact absurd (congrArg Prod.fst e) w_wh
 ·have kl:=(Zs ez).1;have ok:ArOk ts.length (vsO ws).length (usO hs).length (("hold":Str),(k:Int)):=⟨Int.natCast_nonneg _,.inr (.inr (.inr ⟨rfl,by show (k:Int) < ((hs.map _).length:Int); rw [Zl]; omega⟩))⟩;obtain ⟨_,⟨a0,a1⟩,_⟩:=np.h z (Zm ez);rcases M6 (ws:=ws) (hs:=hs) ok rfl rfl hk with ⟨m,e',hm,V⟩ | ⟨m,e',hm,V⟩ | ⟨m,w,e',ew,V⟩ | ⟨m,h,e',eh,V⟩
  ·exact absurd (congrArg Prod.fst e') w_hs
  ·exact absurd (congrArg Prod.fst e') w_he
  ·exact absurd (congrArg Prod.fst e') w_hw
  ·have em:k=m:=by have:(k:Int)=(m:Int):=congrArg Prod.snd e'; omega
   subst em;rw [ez] at eh; cases eh;unfold hoO at e;unfold tmA;rcases V with ⟨kz,V⟩ | ⟨kz,V⟩ | ⟨kz,V⟩
   ·rw [if_pos kz] at e;subst e;refine ⟨ok,V.t,V.h,V.l.trans ((B5e ez).trans (Zd (by rw [kz]; exact w_ft))).symm,?_⟩;dsimp only;rw [V.l,V.t,V.wt,V.rt,if_neg (by decide),if_neg (Nat.lt_irrefl _)];grind
   ·rw [if_neg (by rw [kz]; exact w_tf),if_pos kz] at e;subst e;refine ⟨ok,V.t,V.h,V.l.trans ((B5e ez).trans (Zk kz)).symm,?_⟩;dsimp only;rw [V.l,V.wt,V.rt,if_pos rfl];grind
   ·rw [if_neg (by rw [kz]; exact w_bf),if_neg (by rw [kz]; exact w_bt)] at e;subst e;refine ⟨ok,V.t,V.h,V.l.trans ((B5e ez).trans (Zd (by rw [kz]; exact w_bt))).symm,?_⟩;dsimp only;rw [V.l,V.t,V.wt,V.rt,if_neg (by decide),if_pos (by omega),show ((z.2.1.toNat:Nat):Int)=z.2.1 by omega];grind
def rgP (s:Nat) (w:Nat->Wy):List ((Str × Int) × Rat):=(List.range s).map fun i=>((w i).2.2.2,(1:Rat))
theorem A8f {s:Nat} {w:Nat->Wy}:rgL s w=(rgP s w).map paD:=by unfold rgL rgP; rw [List.map_map]; rfl
theorem A5t {s:Nat} {w:Nat->Wy}:rgP (s + 1) w=rgP s w++[((w s).2.2.2,1)]:=by unfold rgP; rw [List.range_succ,Zc]; rfl
theorem B55 {s:Nat} {w:Nat->Wy}:rgP s (fun i=>swp (w i))=rgP s w:=rfl
theorem B5y {f:Str × Int->Rat} {g:Nat->Rat} {w:Nat->Wy}:∀ {s:Nat},(∀ i,i < s->f (w i).2.2.2=g i)->sA (rgP s w) f=My.S ((List.range s).map g)
 | 0,_=>rfl
 | s + 1,h=>by
  rw [A5t,A2x,B5y fun i hi=>h i (by omega),List.range_succ,Zc,My.A7t];show _ + (1 * f (w s).2.2.2 + 0)=_ + (g s + 0);rw [h s (by omega)]; grind
theorem C3p {ts:LQ} {ws:LW} {hs:LH} {W:Rat} {w:Nat->Wy} (np:NP ts.length ws hs) (v:Nat):∀ {s:Nat},(∀ i,i < s->w i ∈ E9 ts ws hs (some W))->FI ts.length (vsO ws) (usO hs) (rgP s w) v=flF hs w s v/\FO ts.length (vsO ws) (usO hs) (rgP s w) v=flG hs w s v
 | 0,_=>⟨rfl,rfl⟩
 | s + 1,h=>by
  obtain ⟨i1,i2⟩:=C3p np v (s:=s) fun i hi=>h i (by omega);obtain ⟨_,a1,a2,a3,_⟩:=B46 np (h s (by omega));unfold FI at i1 ⊢;unfold FO at i2 ⊢;rw [A5t,A2x,A2x,i1,i2];show _ + (1 * inA ts.length (vsO ws) (usO hs) (w s).2.2.2 v + 0)=effF hs (w s) (flF hs w s) v/\_ + (1 * ofA ts.length (vsO ws) (usO hs) (w s).2.2.2 v + 0)=effG hs (w s) (flG hs w s) v;unfold inA ofA effF effG;rw [a1,a2,a3];constructor <;> grind
theorem B61 {ts:LQ} {ws:LW} {hs:LH} {W:Rat} {w:Nat->Wy} {s:Nat} (np:NP ts.length ws hs) (R:Rgn (E9 ts ws hs (some W)) ts.length s w):PB ts.length (vsO ws) (usO hs) (rgP s w):=by
 have n1:=np.n1;have sn:=R.sn;refine ⟨by unfold rgP; rw [Zl,List.length_range]; omega,fun p hp=>?_,?_,fun v hv=>?_⟩
 ·obtain ⟨i,hi,rfl⟩:=List.mem_map.mp hp;exact ⟨(B46 np (R.mem i (List.mem_range.mp hi))).1,(B4e (n:=1) (k:=1) C7 (by decide)).mono (by decide),by show (0:Rat) < 1; decide⟩
 ·unfold rgP;rw [List.map_map];unfold List.Nodup;rw [List.pairwise_iff_getElem];intro i j hi hj hij e;rw [Zl,List.length_range] at hi hj;simp only [List.getElem_map,List.getElem_range,Function.comp] at e;have:=R.dif i j hi hj (B9n (R.mem i hi) (R.mem j hj) e);omega
 ·have h1:=C3p np v R.mem;have h2:=(R.bal hs v).1;have h3:FI ts.length (vsO ws) (usO hs) (rgP s w) v=FO ts.length (vsO ws) (usO hs) (rgP s w) v + sA (rgP s w) (fun a=>dfA ts.length (vsO ws) (usO hs) a v):=by
   unfold FI FO;rw [Q8 (g:=fun a=>ofA ts.length (vsO ws) (usO hs) a v + dfA ts.length (vsO ws) (usO hs) a v) fun p _=>C3b p.1 v,A8e]
  rw [h1.1,h1.2,h2] at h3;grind
theorem B9u {n:Nat} {ws:LW} {hs:LH} {pa:List ((Str × Int) × Rat)} {t:Nat->Rat} (pb:PB n (vsO ws) (usO hs) pa):sA pa (tmA n (vsO ws) (usO hs) t)=sumV (fun v=>FI n (vsO ws) (usO hs) pa v * t v) n:=by
 rw [I0 (g:=fun v=>FO n (vsO ws) (usO hs) pa v * t v) fun v hv=>by rw [pb.eq hv]];unfold FO;rw [A1u];refine Q8 fun p hp=>?_;unfold tmA ofA;by_cases z:arL (usO hs) p.1=true
 ·rw [if_pos z];exact (S9 fun v _=>by rw [if_pos z]; grind).symm
 ·rw [if_neg z,<- A1q (t:=t)];exact I0 fun v _=>by rw [if_neg z]
theorem A5s {ts:LQ} {ws:LW} {hs:LH} {W:Rat} {w:Nat->Wy} {s:Nat} (np:NP ts.length ws hs) (R:Rgn (E9 ts ws hs (some W)) ts.length s w):sA (rgP s w) rtA * W < sA (rgP s w) (wtA ws hs) + sumV (fun v=>FI ts.length (vsO ws) (usO hs) (rgP s w) v * rat ts (v:Int)) ts.length:=by
 have h:=R.pos;rw [<- B5y (f:=fun a=>tmA ts.length (vsO ws) (usO hs) (fun v=>rat ts (v:Int)) a + wtA ws hs a - rtA a * W) fun i hi=>(B46 np (R.mem i hi)).2.2.2.2.symm] at h;rw [<- B9u (B61 np R)];have e:∀ pa:List ((Str × Int) × Rat),sA pa (fun a=>tmA ts.length (vsO ws) (usO hs) (fun v=>rat ts (v:Int)) a + wtA ws hs a - rtA a * W)=sA pa (tmA ts.length (vsO ws) (usO hs) fun v=>rat ts (v:Int)) + sA pa (wtA ws hs) - sA pa rtA * W:=fun pa=>by
  induction pa with
  | nil=>show (0:Rat)=0 + 0 - 0 * W; grind
  | cons p r ih=>rw [F7,F7,F7,F7,ih]; grind
 rw [e] at h;grind
theorem B52 {ts:LQ} {ws:LW} {hs:LH} {x:Wy} (h:x ∈ E9 ts ws hs none):rtA x.2.2.2=0:=by
 unfold E9 at h;unfold rtA;rcases Za h with h | h
 ·rcases Za h with h | h
  ·rcases Za h with h | h
   ·obtain ⟨i,hi,rfl⟩:=List.mem_map.mp h;exact if_neg w_se
   ·cases h
  ·obtain ⟨a,i,e,rfl⟩:=P9 h;exact if_neg w_we
 ·obtain ⟨a,i,e,rfl⟩:=P9 h;show (if (hoO ts a i).2.2.2.1="end" then (1:Rat) else 0)=0;rw [C3c];exact if_neg w_he
theorem A4f {ss:LQ} {i:Nat} (h:i < ss.length):ss[i]?=some (rat ss (i:Int)):=by
 unfold rat;rw [Int.toNat_natCast,List.getD_eq_getElem?_getD,Zg h]; rfl
theorem B1s {ts:LQ} {ws:LW} {hs:LH} {s:Nat} {p:Nat->Nat} {w:Nat->Wy} (R:Rng (E9 ts ws hs none) ts.length s p w):Rgn (E9 ts ws hs (some 0)) ts.length s w/\sA (rgP s w) rtA=0:=by
 refine ⟨R.rgn A2q,?_⟩;rw [B5y (g:=fun _=>0) fun i hi=>B52 (R.mem i hi).1];have:∀ k,My.S ((List.range k).map fun _=>(0:Rat))=0:=fun k=>by
  induction k with
  | zero=>rfl
  | succ k ih=>rw [List.range_succ,Zc,My.A7t,ih]; show (0:Rat) + (0 + 0)=0; grind
 exact this s
theorem zup {zz:ZB} {q:Rat} (h4:4 ∣ zz.1) (h:O4 q):OB zz q:=by
 obtain ⟨c,hc⟩:=h4;have c0:0 < c:=by have:=zz.2.1; omega
 have:On (LL * 4 * c) (2 ^ 58) q:=On.up c0 h;unfold OB;rw [hc,<- Nat.mul_assoc]; exact this
structure TW (xs ys:List Wk) (ts:LQ):Prop where
 ln:ys.length=ts.length
 at_:∀ (i:Nat) t,ts[i]?=some t->∃ nm p,ys[i]?=some (nm,Str.ofString "straight",[(t,p)])/\On B5 (2 ^ 120) p
theorem TW.of2 {xs ys:List Wk} {ts:LQ} (h:TW xs ys ts) (ot:∀ t ∈ ts,On (LL * 4) (2 ^ 50) t):∀ y ∈ ys,1<=y.2.2.length/\y.2.2.length<=100/\OnD y.2.2:=fun y hy=>by
 obtain ⟨i,hi,e⟩:=List.getElem_of_mem hy;obtain ⟨t,et⟩:∃ t,ts[i]?=some t:=⟨_,Zg (by rw [<- h.ln]; exact hi)⟩;obtain ⟨nm,p,e1,op⟩:=h.at_ i t et;rw [Zg hi,e] at e1;rw [Zj e1];refine ⟨Zv _,by show 1<=100; decide,fun c hc=>?_⟩;rw [Zn hc];exact ⟨ot t (Zm et),op⟩
theorem TW.qu {xs ys:List Wk} {ts:LQ} (h:TW xs ys ts) {v:Nat} (hv:v < ts.length):quV ys v=rat ts (v:Int):=by
 have et:ts[v]?=some (rat ts (v:Int)):=by
  unfold rat;rw [Int.toNat_natCast,List.getD_eq_getElem?_getD,Zg hv]; rfl
 obtain ⟨nm,p,e1,op⟩:=h.at_ v _ et;unfold quV;rw [e1]; rfl
section
variable {P:Program} {w:World} {K:PySem.W.Frag} {mg:Str->Option Value} {base:Heap} {D:Adr}
def A65:Pu.PSp:=fun as Q=>∃ i:Int,as=[.d (.int i)]/\Q (.d (.bool true))
theorem V5 (T:Txt K mg D):FnOk P w K mg base CX0 1 D.a_c1 D.d_c1 ["thing"] (Pu.spOf K [.dat] A65):=by
 refine T.B.F_c1.ok sc_c1 (Zz rfl) (fun cdv A outer s H vs Q E hr h=>?_);refine ⟨_,(QSs.out (A6 (B0 (L8 (J5 (Q6 (K:=K) rfl) (by rfl) T.z_isinstance (by rfl) (A0 (qpv 0) (A0 (T9 (v:=.ty "int") rfl T.z_int (by rfl) rfl) A3))) (N0 (A4h (J5 (Q6 (K:=K) rfl) (by rfl) T.z_isinstance (by rfl) (A0 (qpv 0) (A0 (T9 (v:=.ty "bool") rfl T.z_bool (by rfl) rfl) A3))))))))),?_⟩;refine Pu.D6 h ?_;rintro as Qp ⟨i,rfl,k⟩;trivial;exact k
def A24:Pu.PSp:=fun as Q=>∃ a b:PyData,as=[.d (.tuple [a,b]),.d (.int 2)]/\Q (.d (.bool true))
theorem Q4 (T:Txt K mg D):FnOk P w K mg base CX0 1 D.a_b1 D.d_b1 ["thing","many"] (Pu.spOf K [.dat,.dat] A24):=by
 refine T.B.F_b1.ok sc_b1 (Zz rfl) (fun cdv A outer s H vs Q E hr h=>?_);refine ⟨_,(QSs.out (A6 (B0 (L8 (J5 (Q6 (K:=K) rfl) (by rfl) T.z_isinstance (by rfl) (A0 (qpv 0) (A0 (T9 (v:=.ty "tuple") rfl T.z_tuple (by rfl) rfl) A3))) (N0 (G8 (C8 (K:=K) rfl hr.units) (qln K T.z_len (qpv 0)) (qpv 1) (C1 _))))))),?_⟩;refine Pu.D6 h ?_;rintro as Qp ⟨a,b,rfl,k⟩;trivial;exact k
theorem K5 (T:Txt K mg D):FnOk P w K mg base CX0 1 D.a_aa D.d_aa ["one","other"] (Pu.spOf K [.dat,.dat] C0m):=by
 refine T.B.F_aa.ok sc_aa (Zz rfl) (fun cdv A outer s H vs Q E hr h=>?_);refine ⟨_,(QSs.out (A4 (R7 (i:=0) (j:=1) rfl sc_aa.nd rfl rfl (by decide) rfl rfl (A0 (J5 A30 (by rfl) T.z_abs (by rfl) (A0 (qpv 0) A3)) (A0 (J5 A30 (by rfl) T.z_abs (by rfl) (A0 (qpv 1) A3)) A3)) rfl)
   (A4 (T6 Zf (B1 (N2 (K:=K) rfl hr.units) (qpv 1) A5 (C1 _))
    (A6 (R7 (i:=0) (j:=1) rfl sc_aa.nd rfl rfl (by decide) rfl rfl (A0 (qpv 1) (A0 (C2 Q3 (qpv 0) (qpv 1)) A3)) rfl)))
   (A6 (B0 (qpv 0)))))),?_⟩
 refine Pu.D6 h ?_;rintro as Qp ⟨a,b,rfl,k⟩;trivial;refine ⟨fun m e=>∃ x y:Int,e=[some (.d (.int x)),some (.d (.int y))]/\0<=x/\0<=y/\m=y.toNat/\Int.gcd x y=Int.gcd a b,⟨_,_,_,rfl,by split <;> omega,by split <;> omega,rfl,B8x a b⟩,?_⟩
 rintro m e ⟨x,y,rfl,hx,hy,rfl,hg⟩;trivial;refine ite2 (fun e=>?_) (fun hn=>?_)
 ·subst e;have:=A6f x hx;rw [hg] at this;rw [<- this]; exact k
 ·have h1:=Int.emod_lt_of_pos x (show 0 < y by omega);have h2:=Int.emod_nonneg x hn;exact ⟨by omega,(x % y).toNat,by omega,y,x % y,rfl,hy,h2,rfl,by rw [B0k,hg]⟩
def A66:Pu.PSp:=fun as Q=>∃ q:Rat,as=[.d (dq q)]/\SmQ 3900 q/\Q (.d (.bool true))
theorem A7e (T:Txt K mg D):FnOk P w K mg base CX0 2 D.a_c0 D.d_c0 ["thing"] (Pu.spOf K [.dat] A66):=by
 refine T.B.F_c0.ok sc_c0 (Zz rfl) (fun cdv A outer s H vs Q E hr h=>?_);refine ⟨_,(QSs.out (A4 (C3 (M9 (F8 (qcK (Q4 (K:=K) T) hr.mo (S6 T) (A0 (qpv 0) (A0 A5 A3)))))
    (A6 (B0 J2))
    B8)
   (A4 (C4 (qpv 0) (B3 (K:=K) (n:=2) rfl rfl (A7 (qgn 1 sc_c0) (A7 (qgn 2 sc_c0) B2)) rfl rfl))
   (A4 (C3 (QW.pt (T4 (M9 (F8 (qcK (V5 (K:=K) T) hr.mo (A0m T) (A0 (qpv 1) A3)))) (Q1 (M9 (F8 (qcK (V5 (K:=K) T) hr.mo (A0m T) (A0 (qpv 2) A3)))))))
    (A6 (B0 J2))
    B8)
   (A6 (B0 (L8 (G8 C15 (qpv 2) A5 (C1 _)) (N0 (G8 (C8 (K:=K) rfl hr.units) (qcK (K5 (K:=K) T) hr.mo (L6 T) (A0 (qpv 1) (A0 (qpv 2) A3))) A5 (C1 _)))))))))),?_⟩
 refine Pu.D6 h ?_;rintro as Qp ⟨q,rfl,sq,k⟩;trivial;refine ⟨_,_,rfl,?_⟩;trivial;refine ⟨_,rfl,?_⟩;trivial;refine ⟨_,rfl,?_⟩;trivial;refine ite2 (fun _=>?_) (fun z=>absurd (by have:=q.den_pos; omega) z);refine ⟨_,_,rfl,?_⟩;have e1:Int.gcd q.num (q.den:Int)=1:=q.reduced;rw [e1];trivial;exact k
theorem G7 (T:Txt K mg D):FnOk P w K mg base CX0 2 D.a_e5 D.d_e5 ["one","other"] (Pu.spOf K [.dat,.dat] (A1a (·+·))):=by
 refine T.B.F_e5.ok sc_e5 (Zz rfl) (fun cdv A outer s H vs Q E hr h=>?_);refine ⟨_,(QSs.out (A4 (qst 2 sc_e5 (qcK (K5 (K:=K) T) hr.mo (L6 T) (A0 (qix K (qpv 0) A5) (A0 (qix K (qpv 1) A5) A3))))
   (A4 (R7 (i:=3) (j:=4) rfl sc_e5.nd rfl rfl (by decide) rfl rfl (A0 (C2 J9 (qix K (qpv 0) A5) (qpv 2)) (A0 (C2 J9 (qix K (qpv 1) A5) (qpv 2)) A3)) rfl)
   (A4 (qst 5 sc_e5 (C2 G3 (C2 F0 (qix K (qpv 0) A5) (qpv 4)) (C2 F0 (qix K (qpv 1) A5) (qpv 3))))
   (A4 (qst 6 sc_e5 (qcK (K5 (K:=K) T) hr.mo (L6 T) (A0 (qpv 5) (A0 (qpv 2) A3))))
   (A6 (B0 (B7 (A0 (C2 J9 (qpv 5) (qpv 6)) (A0 (C2 F0 (qpv 3) (C2 J9 (qix K (qpv 1) A5) (qpv 6))) A3)))))))))),?_⟩
 refine Pu.D6 h ?_;rintro as Qp ⟨p,q,rfl,sp,sq,k⟩;trivial;refine ⟨_,_,rfl,?_⟩;trivial;have p2:=sp.2.mono (l:=8000) (by decide);have q2:=sq.2.mono (l:=8000) (by decide);have g0:=V9 (t:=(p.den:Int)) q;have gs:=A2v (t:=(p.den:Int)) q2 (den0 q);have gn:(0:Int)<=((Int.gcd (p.den:Int) (q.den:Int):Nat):Int):=Int.natCast_nonneg _;refine ⟨⟨g0,gs⟩,⟨g0,gs⟩,⟨sp.1.mono (by decide),A3o q2 gn⟩,⟨sq.1.mono (by decide),A3o p2 gn⟩,_,_,rfl,?_⟩;trivial;refine ⟨⟨A6g g0,A2v gs g0⟩,⟨A6g g0,A2v gs g0⟩,⟨A3o p2 gn,A3o q2 (Int.natCast_nonneg _)⟩,?_⟩;obtain ⟨e1,e2⟩:=B6r p q _ _ rfl rfl;rw [e1,e2]; exact k
theorem G0 (T:Txt K mg D):FnOk P w K mg base CX0 3 D.a_e0 D.d_e0 ["one","other"] (Pu.spOf K [.dat,.dat] (A1a (·-·))):=by
 refine T.B.F_e0.ok sc_e0 (Zz rfl) (fun cdv A outer s H vs Q E hr h=>?_);refine ⟨_,(QSs.out (A6 (B0 (qcK (G7 (K:=K) T) hr.mo (K7 T) (A0 (qpv 0) (A0 (B7 (A0 (A08 A03 (qix K (qpv 1) A5)) (A0 (qix K (qpv 1) A5) A3))) A3)))))),?_⟩;refine Pu.D6 h ?_;rintro as Qp ⟨p,q,rfl,sp,sq,k⟩;trivial;rw [C3g];refine ⟨_,_,rfl,sp,⟨by have:=sq.1; unfold Sm at *; show (-q.num).natAbs < _; omega,sq.2⟩,?_⟩;show Qp (.d (dq (p + -q)));rw [<- Rat.sub_eq_add_neg]; exact k
theorem K8 (T:Txt K mg D):FnOk P w K mg base CX0 2 D.a_c2 D.d_c2 ["one","other"] (Pu.spOf K [.dat,.dat] (A1a (·*·))):=by
 refine T.B.F_c2.ok sc_c2 (Zz rfl) (fun cdv A outer s H vs Q E hr h=>?_);refine ⟨_,(QSs.out (A4 (R7 (i:=2) (j:=3) rfl sc_c2.nd rfl rfl (by decide) rfl rfl (A0 (qcK (K5 (K:=K) T) hr.mo (L6 T) (A0 (qix K (qpv 0) A5) (A0 (qix K (qpv 1) A5) A3))) (A0 (qcK (K5 (K:=K) T) hr.mo (L6 T) (A0 (qix K (qpv 1) A5) (A0 (qix K (qpv 0) A5) A3))) A3)) rfl)
   (A6 (B0 (B7 (A0 (C2 F0 (C2 J9 (qix K (qpv 0) A5) (qpv 2)) (C2 J9 (qix K (qpv 1) A5) (qpv 3))) (A0 (C2 F0 (C2 J9 (qix K (qpv 0) A5) (qpv 3)) (C2 J9 (qix K (qpv 1) A5) (qpv 2))) A3))))))),?_⟩
 refine Pu.D6 h ?_;rintro as Qp ⟨p,q,rfl,sp,sq,k⟩;trivial;refine ⟨_,_,rfl,?_⟩;trivial;refine ⟨_,_,rfl,?_⟩;trivial;have p1:=sp.1.mono (l:=8000) (by decide);have q1:=sq.1.mono (l:=8000) (by decide);have p2:=sp.2.mono (l:=8000) (by decide);have q2:=sq.2.mono (l:=8000) (by decide);have g0:=V9 (t:=p.num) q;have gs:=A2v (t:=p.num) q2 (den0 q);have h0:=V9 (t:=q.num) p;have hs:=A2v (t:=q.num) p2 (den0 p);refine ⟨⟨g0,gs⟩,⟨h0,hs⟩,⟨A3o p1 (Int.natCast_nonneg _),A3o q1 (Int.natCast_nonneg _)⟩,⟨h0,hs⟩,⟨g0,gs⟩,⟨A3o p2 (Int.natCast_nonneg _),A3o q2 (Int.natCast_nonneg _)⟩,?_⟩;rw [C2m,C2n]; exact k
theorem A9g (T:Txt K mg D):FnOk P w K mg base CX0 3 D.a_d5 D.d_d5 ["one","other"] (Pu.spOf K [.dat,.dat] A8p):=by
 refine T.B.F_d5.ok sc_d5 (Zz rfl) (fun cdv A outer s H vs Q E hr h=>?_);refine ⟨_,(QSs.out (A4 (C4 (qpv 1) (B3 (K:=K) (n:=2) rfl rfl (A7 (qgn 2 sc_d5) (A7 (qgn 3 sc_d5) B2)) rfl rfl))
   (A4 (C3 (B1 (C8 (K:=K) rfl hr.units) (qpv 2) A5 (C1 _))
    (A6 O2)
    B8)
   (A6 (B0 (qcK (K8 (K:=K) T) hr.mo (N6 T) (A0 (qpv 0) (A0 (Y7 (B1 Z6 (qpv 2) A5 (C1 _)) (B7 (A0 (qpv 3) (A0 (qpv 2) A3))) (B7 (A0 (A08 A03 (qpv 3)) (A0 (A08 A03 (qpv 2)) A3)))) A3)))))))),?_⟩
 refine Pu.D6 h ?_;rintro as Qp ⟨p,q,rfl,sp,sq,hq,k⟩;trivial;rw [if_neg (A9s hq)];have e:=B0g hq;have kk:Qp (.d (dq (p * q⁻¹))):=by rw [<- Rat.div_def]; exact k
 refine ite2 (fun h=>?_) (fun h=>?_)
 ·rw [if_pos h,if_pos h] at e;trivial;rw [<- e];exact ⟨_,_,rfl,sp,B4j sq hq,kk⟩
 ·rw [if_neg h,if_neg h] at e;trivial;rw [<- e];exact ⟨_,_,rfl,sp,B4j sq hq,kk⟩
theorem K4 (T:Txt K mg D):FnOk P w K mg base CX0 1 D.a_d3 D.d_d3 ["one","other"] (Pu.spOf K [.dat,.dat] A8q):=by
 refine T.B.F_d3.ok sc_d3 (Zz rfl) (fun cdv A outer s H vs Q E hr h=>?_);refine ⟨_,(QSs.out (A6 (B0 (G8 A9c (C2 F0 (qix K (qpv 0) A5) (qix K (qpv 1) A5)) (C2 F0 (qix K (qpv 1) A5) (qix K (qpv 0) A5)) (C1 _))))),?_⟩;refine Pu.D6 h ?_;rintro as Qp ⟨p,q,rfl,sp,sq,k⟩;trivial;have p1:=sp.1.mono (l:=8000) (by decide);have p2:=sp.2.mono (l:=8000) (by decide);have q1:=sq.1.mono (l:=8000) (by decide);have q2:=sq.2.mono (l:=8000) (by decide);refine ⟨⟨p1,q2⟩,⟨q1,p2⟩,?_⟩;rw [A6c]; exact k
def A62:Pu.PSp:=fun as Q=>∃ p q:Rat,as=[.d (dq p),.d (dq q)]/\SmQ 3900 p/\SmQ 3900 q/\Q (.d (dq (if q < p then q else p)))
theorem V4 (T:Txt K mg D):FnOk P w K mg base CX0 2 D.a_c4 D.d_c4 ["one","other"] (Pu.spOf K [.dat,.dat] A62):=by
 refine T.B.F_c4.ok sc_c4 (Zz rfl) (fun cdv A outer s H vs Q E hr h=>?_);refine ⟨_,(QSs.out (A6 (B0 (Y7 (F8 (qcK (K4 (K:=K) T) hr.mo (M5 T) (A0 (qpv 1) (A0 (qpv 0) A3)))) (qpv 1) (qpv 0))))),?_⟩;refine Pu.D6 h ?_;rintro as Qp ⟨p,q,rfl,sp,sq,k⟩;trivial;refine ⟨q,p,rfl,sq,sp,?_⟩;trivial;refine ite2 (fun h=>?_) (fun h=>?_)
 ·rw [if_pos h] at k; exact k
 ·rw [if_neg h] at k; exact k
def B12:Pu.PSp:=fun as Q=>∃ qs:LQ,as=[.d (.list (qs.map dq))]/\(∀ i:Nat,SmQ 3900 (My.S (qs.take i)))/\(∀ q ∈ qs,SmQ 3900 q)/\Q (.d (dq (My.S qs)))
theorem A16 (T:Txt K mg D):FnOk P w K mg base CX0 3 D.a_e1 D.d_e1 ["some"] (Pu.spOf K [.dat] B12):=by
 refine T.B.F_e1.ok sc_e1 (Zz rfl) (fun cdv A outer s H vs Q E hr h=>?_);refine ⟨_,(QSs.out (A4 (qst 1 sc_e1 (J7 (v:=.ref D.k_NOUGHT) rfl T.c_NOUGHT rfl))
   (A4 (D3 Zf rfl (D1 (K:=K) rfl (qpv 0)) (qgn 2 sc_e1)
    (A6 (qst 1 sc_e1 (qcK (G7 (K:=K) T) hr.mo (K7 T) (A0 (qpv 1) (A0 (qpv 2) A3))))))
   (A6 (B0 (qpv 1)))))),?_⟩
 haveI:=T.c2_NOUGHT
 refine Pu.D6 h ?_;rintro as Qp ⟨qs,rfl,h1,h2,k⟩;trivial;refine K9 (f:=dq) (xs:=qs) (fun i e=>∃ o:Option SV,e=[some (.d (.list (qs.map dq))),some (.d (dq (My.S (qs.take i)))),o]) ⟨_,rfl⟩ ?_ ?_
 ·rintro i q e hq ⟨o,rfl⟩;trivial;refine ⟨_,_,rfl,h1 i,h2 q (Zm hq),?_⟩;trivial;exact ⟨_,by rw [A5c hq]⟩
 rintro e ⟨o,rfl⟩;rw [List.take_length];trivial;exact k
def A0s:Pu.PSp:=fun as Q=>∃ c d:Rat × Rat,as=[.d (dcn c),.d (dcn d)]/\d.1 < c.1/\SmR 161 85 c.1/\SmR 285 151 c.2/\SmR 161 85 d.1/\SmR 285 151 d.2/\Q (.d (dq (K2 c d)))
theorem A0w (T:Txt K mg D):FnOk P w K mg base CX0 4 D.a_a8 D.d_a8 ["longer","quicker"] (Pu.spOf K [.dat,.dat] A0s):=by
 refine T.B.F_a8.ok sc_a8 (Zz rfl) (fun cdv A outer s H vs Q E hr h=>?_);refine ⟨_,(QSs.out (A6 (B0 (qcK (A9g (K:=K) T) hr.mo (B3m T) (A0 (qcK (G0 (K:=K) T) hr.mo (J4 T) (A0 (qix K (qpv 1) A5) (A0 (qix K (qpv 0) A5) A3))) (A0 (qcK (G0 (K:=K) T) hr.mo (J4 T) (A0 (qix K (qpv 0) A5) (A0 (qix K (qpv 1) A5) A3))) A3)))))),?_⟩;refine Pu.D6 h ?_;rintro as Qp ⟨c,d,rfl,h,h1,h2,h3,h4,k⟩;trivial;refine ⟨_,_,rfl,h4.q (by decide) (by decide),h2.q (by decide) (by decide),?_⟩;trivial;refine ⟨_,_,rfl,h1.q (by decide) (by decide),h3.q (by decide) (by decide),?_⟩;trivial;exact ⟨_,_,rfl,(h4.sub h2).q (by decide) (by decide),(h1.sub h3).q (by decide) (by decide),by grind,k⟩
def A25:Pu.PSp:=fun as Q=>∃ (kd:Str) (cs:LR) (t:Rat),as=[.d (offD kd cs),.d (dq t)]/\Kd kd/\OfOk cs 100 54 244 130/\SmQ 3900 t/\Q (.d (.bool (offB kd cs t)))
theorem W3 (T:Txt K mg D):FnOk P w K mg base CX0 2 D.a_b0 D.d_b0 ["offer","time"] (Pu.spOf K [.dat,.dat] A25):=by
 refine T.B.F_b0.ok sc_b0 (Zz rfl) (fun cdv A outer s H vs Q E hr h=>?_);refine ⟨_,(QSs.out (A4 (C4 (qpv 0) (B3 (K:=K) (n:=2) rfl rfl (A7 (qgn 2 sc_b0) (A7 (qgn 3 sc_b0) B2)) rfl rfl))
   (A4 (C3 (B1 (C8 (K:=K) rfl hr.units) (qpv 2) C0 (C1 _))
    (A6 (B0 (G8 (A14 (K:=K) rfl hr.units) (qpv 1) (J8 rfl (C5 ["corner"] [none]) (D1 (K:=K) rfl (qpv 3)) (fun _ _ _=>(qgc 0 ["corner"])) (fun _ _ _=>D8) (fun _ _ _=>(qix K (qpv 0) A5))) (by with_unfolding_all rfl))))
    B8)
   (A6 (B0 (L8 (A4h (qcK (K4 (K:=K) T) hr.mo (M5 T) (A0 (qpv 1) (A0 (qix K (qix K (qpv 3) (A08 A03 A5)) A5) A3)))) (N0 (A4h (qcK (K4 (K:=K) T) hr.mo (M5 T) (A0 (qix K (qix K (qpv 3) A5) A5) (A0 (qpv 1) A3))))))))))),?_⟩
 refine Pu.D6 h ?_;rintro as Qp ⟨kd,cs,t,rfl,hk,ok,st,k⟩;unfold offD;have n1:=ok.ne;have n5:=ok.le;trivial;refine ⟨hk.lay,A93,?_⟩;rcases hk with hk | hk
 ·have hk':kd="straight":=hk;subst hk';have e0:=B0l n1;have el:=A9v n1;have s0:=(ok.sm _ (Zm e0)).1;have sl:=(ok.sm _ (Zm el)).1;unfold offB at k;rw [if_neg (Ne.symm B0a)] at k;rw [C3f,if_neg (by decide)];refine Z5 (xs:=cs) el (by omega) ?_;trivial;refine ⟨_,_,rfl,st,sl.q (by decide) (by decide),?_⟩;by_cases h1:t < (lstC cs).1
  ·rw [Zk h1] at k ⊢;trivial;exact k
  rw [Zd h1] at k ⊢;trivial;refine A9 (n:=0) e0 ?_;trivial;refine ⟨_,_,rfl,s0.q (by decide) (by decide),st,?_⟩;by_cases h2:(fstC cs).1 < t
  ·rw [Zk h2] at k ⊢;trivial;exact k
  ·rw [Zd h2] at k ⊢;trivial;exact k
 ·have hk':kd="steps":=hk;subst hk';unfold offB at k;rw [if_pos rfl] at k;rw [B4p,if_pos rfl];refine ⟨by omega,⟨fun i e ys=>∃ o:Option SV,e=[o]/\ys=((cs.take i).map fun c=>dq c.1),⟨_,rfl,rfl⟩,?_,?_⟩⟩
  ·rintro i x e ys hx ⟨o,rfl,rfl⟩;rw [Zh] at hx;obtain ⟨b,hb,rfl⟩:=Zo hx;trivial;refine ⟨_,rfl,?_⟩;rw [List.take_succ,hb,Zc]; rfl
  ·rintro e ys ⟨o,rfl,rfl⟩;rw [Zl,List.take_length];trivial;refine ⟨A94 cs,?_⟩;rw [B9g];exact k
def Y9:Pu.PSp:=fun as Q=>∃ (cs:LR) (t:Rat),as=[.d (.list (cs.map dcn)),.d (dq t)]/\OfOk cs 161 85 285 151/\SmR 400 300 t/\Q (.own ((cs.filter fun c=>decide (t < c.1)).map dcn))
theorem A0a (T:Txt K mg D):FnOk P w K mg base CX0 2 D.a_a3 D.d_a3 ["corners","time"] (Pu.spOf K [.dat,.dat] Y9):=by
 refine T.B.F_a3.ok sc_a3 (Zz rfl) (fun cdv A outer s H vs Q E hr h=>?_);refine ⟨_,(QSs.out (A6 (B0 (J8 rfl (C5 ["time","corner"] [some 1,none]) (D1 (K:=K) rfl (qpv 0)) (fun _ _ _=>(qgc 1 ["time","corner"])) (fun _ _ _=>(Q9 (F8 (qcK (K4 (K:=K) T) hr.mo (M5 T) (A0 (qpv 0) (A0 (qix K (qpv 1) A5) A3)))))) (fun _ _ _=>(qpv 1)))))),?_⟩;refine Pu.D6 h ?_;rintro as Qp ⟨cs,t,rfl,ok,st,k⟩;trivial;refine ⟨by have:=ok.le; omega,?_⟩;refine F4 (fun i e ys=>∃ o1:Option SV,e=[some (.d (dq t)),o1]/\ys=(((cs.take i).filter fun c=>decide (t < c.1)).map dcn)) ⟨_,rfl,rfl⟩ ?_ ?_
 ·rintro i c e ys hc ⟨o1,rfl,rfl⟩;obtain ⟨s1,s2⟩:=ok.sm c (Zm hc);trivial;refine ⟨_,_,rfl,st.q (by decide) (by decide),s1.q (by decide) (by decide),?_⟩;trivial;refine ite2 (fun h=>?_) (fun h=>?_)
  ·exact ⟨_,rfl,by rw [List.take_add_one,hc,List.filter_append,Zc]; simp [h]⟩
  ·exact ⟨_,rfl,by rw [List.take_add_one,hc,List.filter_append,Zc]; simp [h]⟩
 ·rintro e ys ⟨o1,rfl,rfl⟩;rw [List.take_length];trivial;exact k
def A0t:Pu.PSp:=fun as Q=>∃ (kd:Str) (cs:LR) (t:Rat),as=[.d (offD kd cs),.d (dq t)]/\Kd kd/\OfOk cs 100 54 244 130/\SmR 339 261 t/\offB kd cs t=true/\∀ p,Price cs t p->Q (.d (dq p))
theorem A0x (T:Txt K mg D):FnOk P w K mg base CX0 5 D.a_a7 D.d_a7 ["offer","time"] (Pu.spOf K [.dat,.dat] A0t):=by
 refine T.B.F_a7.ok sc_a7 (Zz rfl) (fun cdv A outer s H vs Q E hr h=>?_);refine ⟨_,(QSs.out (A4 (C3 (M9 (F8 (qcK (W3 (K:=K) T) hr.mo (A0n T) (A0 (qpv 0) (A0 (qpv 1) A3)))))
    (A6 O2)
    B8)
   (A4 (qst 2 sc_a7 (qix K (qpv 0) A5))
   (A4 (qst 3 sc_a7 (qln K T.z_len (qcK (A0a (K:=K) T) hr.mo (A02 T) (A0 (qpv 2) (A0 (qpv 1) A3)))))
   (A4 (C3 (B1 (C8 (K:=K) rfl hr.units) (qix K (qix K (qpv 2) (qpv 3)) A5) (qpv 1) (C1 _))
    (A6 (B0 (qix K (qix K (qpv 2) (qpv 3)) A5)))
    B8)
   (A4 (qst 4 sc_a7 (qix K (qpv 2) (C2 U1 (qpv 3) A5)))
   (A6 (B0 (qcK (G7 (K:=K) T) hr.mo (K7 T) (A0 (qix K (qpv 4) A5) (A0 (qcK (K8 (K:=K) T) hr.mo (N6 T) (A0 (qcK (A0w (K:=K) T) hr.mo (A2h T) (A0 (qpv 4) (A0 (qix K (qpv 2) (qpv 3)) A3))) (A0 (qcK (G0 (K:=K) T) hr.mo (J4 T) (A0 (qix K (qpv 4) A5) (A0 (qpv 1) A3))) A3))) A3))))))))))),?_⟩
 refine Pu.D6 h ?_;rintro as Qp ⟨kd,cs,t,rfl,hk,ok0,st,ofb,k⟩;have of:=A56 hk ok0.ne ofb;have ok:=ok0.up (a':=161) (b':=85) (c':=285) (d':=151) (by decide) (by decide) (by decide) (by decide);trivial;refine ⟨kd,cs,t,rfl,hk,ok0,st.q (by decide) (by decide),?_⟩;rw [ofb];unfold offD;trivial;obtain ⟨A,B,e,fA,hA,hB⟩:=part t ok.dec;obtain ⟨b,r,eB,hbt,hst⟩:∃ b r,B=b :: r/\b.1<=t/\(b.1 < t->∃ A' l,A=A'++[l]):=by
  rcases hB with ⟨rfl,_⟩ | ⟨b,r,eB,hb,_⟩
  ·exfalso;rw [List.append_nil] at e;rcases hk with hk | hk
   ·obtain ⟨c0,cl,e0,el,h1,h2⟩:=of.sr hk;exact h1 (hA cl (by rw [<- e]; exact Zm el))
   ·obtain ⟨c,hc,ec⟩:=of.st hk;have:=hA c (by rw [<- e]; exact hc);grind
  ·refine ⟨b,r,eB,hb,fun hl=>?_⟩;cases q:A with
   | nil =>
    exfalso;have dB:=ok.dec;rw [e,q,eB,List.nil_append] at dB;rcases hk with hk | hk
    ·obtain ⟨c0,cl,e0,el,h1,h2⟩:=of.sr hk;rw [e,q,eB] at e0; cases e0; exact h2 hl
    ·obtain ⟨c,hc,ec⟩:=of.st hk;rw [e,q,eB,List.nil_append] at hc;rcases List.mem_cons.mp hc with z | z
     ·subst z; grind
     ·have:=dB.lt c z; grind
   | cons x y=>exact ⟨(x :: y).dropLast,(x :: y).getLast (by simp),(List.dropLast_concat_getLast _).symm⟩
 subst eB;have eb:cs[A.length]?=some b:=by rw [e]; exact A8a
 have sb:=ok.sm b (Zm eb);refine ⟨cs,t,rfl,ok,st.mono (by decide) (by decide),?_⟩;trivial;rw [fA];refine A9 eb ?_;trivial;refine ite2 (fun hb=>?_) (fun hb=>?_)
 ·refine A9 eb ?_;trivial;exact k _ ⟨A,b,r,e,fA,hbt,.inl ⟨hb,rfl⟩⟩
 ·have hbl:b.1 < t:=by grind
  obtain ⟨A',l,eA⟩:=hst hbl;have el':cs[A'.length]?=some l:=by rw [e,eA]; exact A97
  have hl:=hA l (by rw [eA]; simp);have sl:=ok.sm l (Zm el');have en:((A.length:Nat):Int) - 1=((A'.length:Nat):Int):=by rw [eA]; simp
  try simp only [List.length_map]
  rw [en];refine A9 el' ?_;trivial;refine A9 eb ?_;trivial;refine ⟨l,b,rfl,by grind,sl.1,sl.2,sb.1,sb.2,?_⟩;trivial;refine ⟨_,_,rfl,sl.1.q (by decide) (by decide),st.q (by decide) (by decide),?_⟩;trivial;have ss:=A5o (c:=l) (d:=b) (by grind) sl.1 sl.2 sb.1 sb.2;refine ⟨_,_,rfl,ss.q (by decide) (by decide),(sl.1.sub st).q (by decide) (by decide),?_⟩;trivial;refine ⟨_,_,rfl,sl.2.q (by decide) (by decide),(ss.mul (sl.1.sub st)).q (by decide) (by decide),?_⟩;exact k _ ⟨A,b,r,e,fA,hbt,.inr ⟨hbl,A',l,eA,rfl⟩⟩
def A23:Pu.PSp:=fun as Q=>∃ (kd:Str) (cs:LR) (q:Rat) (c0:Rat × Rat),as=[.d (offD kd cs),.d (dq q)]/\cs.length<=1000/\OnD cs/\On LL (2 ^ 60) q/\cs[0]?=some c0/\Q (.d (dq (lm (cs.map (val q)) (val q c0))))
theorem A3g (T:Txt K mg D):FnOk P w K mg base CX0 3 D.a_b2 D.d_b2 ["offer","rate"] (Pu.spOf K [.dat,.dat] A23):=by
 refine T.B.F_b2.ok sc_b2 (Zz rfl) (fun cdv A outer s H vs Q E hr h=>?_);refine ⟨_,(QSs.out (A4 (C9 (i:=2) rfl sc_b2.nd rfl rfl (C5 ["rate","time","price"] [some 1,none,none]) (D1 (K:=K) rfl (qix K (qpv 0) A5)) (fun _ _ _=>(B3 (K:=K) (n:=2) rfl rfl (A7 (qgc 1 ["rate","time","price"]) (A7 (qgc 2 ["rate","time","price"]) B2)) rfl rfl)) (fun _ _ _=>D8) (fun _ _ _=>(qcK (G7 (K:=K) T) hr.mo (K7 T) (A0 (qpv 2) (A0 (qcK (K8 (K:=K) T) hr.mo (N6 T) (A0 (qpv 0) (A0 (qpv 1) A3))) A3)))) rfl)
   (A4 (qst 3 sc_b2 (qix K (qpv 2) A5))
   (A4 (D3 Zf rfl (D1 (K:=K) rfl (qpv 2)) (qgn 4 sc_b2)
    (A6 (qst 3 sc_b2 (qcK (V4 (K:=K) T) hr.mo (A0l T) (A0 (qpv 3) (A0 (qpv 4) A3))))))
   (A6 (B0 (qpv 3))))))),?_⟩
 refine Pu.D6 h ?_;rintro as Qp ⟨kd,cs,q,c0,rfl,n5,oc,orr,e0,k⟩;have sq:SmQ 3900 q:=orr.q C7 (by decide +kernel) (by decide +kernel);have hv:∀ c ∈ cs,SmQ 3900 c.1/\SmQ 3900 c.2/\SmQ 3900 (q * c.1)/\SmQ 3900 (val q c):=fun c hc=>by
  obtain ⟨o1,o2⟩:=oc c hc;have om:=orr.mul o1;rw [<- Nat.mul_assoc] at om;have B50:0 < B5:=by decide
  have ov:=o2.add B50 om;have B51:B5<=2 ^ 1000:=L1 (a:=200) (by decide +kernel) (by decide);have up:(2 ^ 60 * 2 ^ 50:Nat)<=2 ^ 1000:=Zx (show (2 ^ 60 * 2 ^ 50:Nat)<=2 ^ 120 by decide) (Zp (by decide) (by decide));have up2:(2 ^ 120 + 2 ^ 60 * 2 ^ 50:Nat)<=2 ^ 1000:=Zx (show (2 ^ 120 + 2 ^ 60 * 2 ^ 50:Nat)<=2 ^ 121 by decide) (Zp (by decide) (by decide));exact ⟨onB o1 (by decide) (L1 A5e (by decide)) (by decide),onB o2 B50 B51 (by decide),onQ om B50 B51 up,onQ ov B50 B51 up2⟩
 unfold offD;trivial;refine ⟨by omega,F4 (fun i e ys=>∃ o1 o2:Option SV,e=[some (.d (dq q)),o1,o2]/\ys=(((cs.map (val q)).take i).map dq)) ⟨_,_,rfl,rfl⟩ ?_ ?_⟩
 ·rintro i c e ys hc ⟨o1,o2,rfl,rfl⟩;obtain ⟨s1,s2,s3,_⟩:=hv c (Zm hc);trivial;refine ⟨_,_,rfl,sq,s1,?_⟩;trivial;refine ⟨_,_,rfl,s2,s3,?_⟩;trivial;exact ⟨_,_,rfl,by rw [A19 hc,Zc]; rfl⟩
 ·rintro e ys ⟨o1,o2,rfl,rfl⟩;rw [List.take_of_length_le (by rw [Zl]; exact Zv _)];trivial;have e1:(cs.map (val q))[0]?=some (val q c0):=by rw [Zh,e0]; rfl
  have sv:∀ v ∈ cs.map (val q),SmQ 3900 v:=fun v hv'=>by
   obtain ⟨c,hc,rfl⟩:=List.mem_map.mp hv';exact (hv c hc).2.2.2
  have sl:∀ vs:LQ,(∀ v ∈ vs,v ∈ cs.map (val q))->SmQ 3900 (lm vs (val q c0)):=fun vs h=>by
   rcases A3j vs (val q c0) with z | z
   ·rw [z]; exact (hv c0 (Zm e0)).2.2.2
   ·exact sv _ (h _ z)
  refine A9 (n:=0) e1 ?_;trivial;refine K9 (fun i e=>∃ o1:Option SV,e=[some (.d (.tuple [.str kd,.list (cs.map dcn)])),some (.d (dq q)),some (.d (.list ((cs.map (val q)).map dq))),some (.d (dq (lm ((cs.map (val q)).take i) (val q c0)))),o1]) ⟨_,rfl⟩ ?_ ?_
  ·rintro i v e hv ⟨o1,rfl⟩;trivial;refine ⟨_,_,rfl,sl _ (fun v h=>List.mem_of_mem_take h),sv v (Zm hv),?_⟩;trivial;exact ⟨_,by rw [List.take_add_one,hv,Option.toList_some,B8i]⟩
  ·rintro e ⟨o1,rfl⟩;rw [List.take_length];trivial;exact k
def A67:Pu.PSp:=fun as Q=>∃ (h:Str × Int × Rat) (ts:LQ) (arc:PyData),as=[.d (hD h),.bor (ts.map dq),.d arc]/\Hk h.1/\(0<=h.2.1/\h.2.1 < (ts.length:Int))/\SmQ 3900 h.2.2/\(∀ t ∈ ts,SmQ 3900 t)/\Q (.d (.tuple (if h.1="from" then [.int (ts.length:Int),.int h.2.1,dq h.2.2,arc] else if h.1="till" then [.int h.2.1,.int (ts.length:Int),dq (0 - h.2.2),arc] else [.int h.2.1,.int (ts.length:Int),dq (rat ts h.2.1 - h.2.2),arc])))
theorem A7f (T:Txt K mg D):FnOk P w K mg base CX0 4 D.a_be D.d_be ["hold","times","arc"] (Pu.spOf K [.dat,.vw,.dat] A67):=by
 refine T.B.F_be.ok sc_be (Zz rfl) (fun cdv A outer s H vs Q E hr h=>?_);refine ⟨_,(QSs.out (A4 (C4 (qpv 0) (B3 (K:=K) (n:=3) rfl rfl (A7 (qgn 3 sc_be) (A7 (qgn 4 sc_be) (A7 (qgn 5 sc_be) B2))) rfl rfl))
   (A4 (qst 6 sc_be (qln K T.z_len (qpv 1)))
   (A4 (C3 (B1 (C8 (K:=K) rfl hr.units) (qpv 3) C0 (C1 _))
    (A6 (B0 (B7 (A0 (qpv 6) (A0 (qpv 4) (A0 (qpv 5) (A0 (qpv 2) A3)))))))
    B8)
   (A4 (C3 (B1 (C8 (K:=K) rfl hr.units) (qpv 3) C0 (C1 _))
    (A6 (B0 (B7 (A0 (qpv 4) (A0 (qpv 6) (A0 (qcK (G0 (K:=K) T) hr.mo (J4 T) (A0 (J7 (v:=.ref D.k_NOUGHT) rfl T.c_NOUGHT rfl) (A0 (qpv 5) A3))) (A0 (qpv 2) A3)))))))
    B8)
   (A6 (B0 (B7 (A0 (qpv 4) (A0 (qpv 6) (A0 (qcK (G0 (K:=K) T) hr.mo (J4 T) (A0 (qix K (qpv 1) (qpv 4)) (A0 (qpv 5) A3))) (A0 (qpv 2) A3)))))))))))),?_⟩
 haveI:=T.c2_NOUGHT
 refine Pu.D6 h ?_;rintro as Qp ⟨⟨kd,b,l⟩,ts,arc,rfl,hk,hb,sl,st,k⟩;have eb:=T3 hb.1 hb.2;unfold hD;trivial;refine ⟨hk.lay,A95,?_⟩;rcases hk with hk | hk | hk
 ·have hk':kd="from":=hk;subst hk';rw [B4r,if_pos rfl];trivial;rw [if_pos rfl] at k;exact k
 ·have hk':kd="till":=hk;subst hk';rw [B4o,if_neg (by decide)];refine ⟨A1f,A1f,?_⟩;rw [B4q,if_pos rfl];trivial;refine ⟨0,l,rfl,smq0,sl,?_⟩;trivial;rw [if_neg B8c,if_pos rfl] at k;exact k
 ·have hk':kd="by":=hk;subst hk';rw [B4u,if_neg (by decide)];refine ⟨C2u,A1f,?_⟩;rw [B4t,if_neg (by decide)];refine D4 eb ?_;trivial;refine ⟨_,l,rfl,st _ (O0 hb.1 hb.2),sl,?_⟩;trivial;rw [if_neg B8e,if_neg B8d] at k;exact k
def A8m:Pu.PSp:=fun as Q=>∃ (zB:ZB) (t:OT) (ts:LQ) (ws:LW) (hs:LH) (W:Option Rat),as=[.bt t,.bor (ts.map dq),.d (vD W)]/\NetB t ws hs/\NOk zB ts ws hs/\(∀ w,W=some w->OB zB w)/\Q (.own ((E9 ts ws hs W).map wyD))
theorem A3d (T:Txt K mg D):FnOk P w K mg base CX0 5 D.a_d7 D.d_d7 ["net","times","whole"] (Pu.spOf K [.bt,.vw,.dat] A8m):=by
 refine T.B.F_d7.ok sc_d7 (Zz rfl) (fun cdv A outer s H vs Q E hr h=>?_);refine ⟨_,(QSs.out (A4 (O7 (i:=3) sc_d7.nd rfl (Or.inr rfl) (qln K T.z_len (qpv 1)))
   (A4 (C9 (i:=4) rfl sc_d7.nd rfl rfl (C5 ["root","work"] [some 3,none]) (E6 rfl T.z_range (A0 (qpv 3) A3)) (fun _ _ _=>(qgc 1 ["root","work"])) (fun _ _ _=>D8) (fun _ _ _=>(B7 (A0 (qpv 0) (A0 (qpv 1) (A0 (J7 (v:=.ref D.k_NOUGHT) rfl T.c_NOUGHT rfl) (A0 (B7 (A0 C0 (A0 (qpv 1) A3))) A3)))))) rfl)
   (A4 (C3 (B1 O9 (qpv 2) F2 (C1 _))
    (A6 (D3 Zf rfl (K3 (K:=K) rfl rfl T.z_enumerate (A0 (qpv 1) A3)) (B3 (K:=K) (n:=2) rfl rfl (A7 (qgn 5 sc_d7) (A7 (qgn 6 sc_d7) B2)) rfl rfl)
     (A6 (D9 (F9 (K:=K) rfl Z1 Z2 Z3 E5 (qpv 4) (A0 (B7 (A0 (qpv 5) (A0 (qpv 3) (A0 (qcK (G0 (K:=K) T) hr.mo (J4 T) (A0 (qpv 6) (A0 (qpv 2) A3))) (A0 (B7 (A0 C0 (A0 (qpv 5) A3))) A3))))) A3))))))
    B8)
   (A4 (D3 Zf rfl (K3 (K:=K) rfl rfl T.z_enumerate (A0 (qPth (qix K (qpv 0) A5)) A3)) (B3 (K:=K) (n:=2) rfl rfl (A7 (qgn 7 sc_d7) (A7 (B3 (K:=K) (n:=3) rfl rfl (A7 (qgn 8 sc_d7) (A7 (qgn 9 sc_d7) (A7 (qgn 10 sc_d7) B2))) rfl rfl) B2)) rfl rfl)
    (A6 (D9 (F9 (K:=K) rfl Z1 Z2 Z3 E5 (qpv 4) (A0 (B7 (A0 (qpv 8) (A0 (qpv 9) (A0 (qcK (G7 (K:=K) T) hr.mo (K7 T) (A0 (qix K (qpv 1) (qpv 8)) (A0 (qpv 10) A3))) (A0 (B7 (A0 C0 (A0 (qpv 7) A3))) A3))))) A3)))))
   (A4 (D3 Zf rfl (K3 (K:=K) rfl rfl T.z_enumerate (A0 (qPth (qix K (qpv 0) A5)) A3)) (B3 (K:=K) (n:=2) rfl rfl (A7 (qgn 7 sc_d7) (A7 (qgn 11 sc_d7) B2)) rfl rfl)
    (A6 (D9 (F9 (K:=K) rfl Z1 Z2 Z3 E5 (qpv 4) (A0 (qcK (A7f (K:=K) T) hr.mo (B1g T) (A0 (qpv 11) (A0 (qpv 1) (A0 (B7 (A0 C0 (A0 (qpv 7) A3))) A3)))) A3)))))
   (A6 (B0 (qpv 4))))))))),?_⟩
 haveI:=T.c2_NOUGHT
 refine Pu.D6 h ?_;rintro as Qp ⟨zB,t,ts,ws,hs,W,rfl,⟨u1,u2,p1,s1,p2,s2⟩,ok,hW,k⟩;have n1:=ok.n1;have wl:=ok.wl;have hl:=ok.hl;refine hd fun R hR=>?_;trivial;subst hR;refine hd fun R hR=>?_;trivial;refine ⟨by omega,by rw [J0]; omega,N8 (fun i e ys=>∃ o:Option SV,e=[some (.d (.int (ts.length:Int))),o]/\ys=((stW ts.length).take i).map wyD) ⟨_,rfl,rfl⟩ ?_ ?_⟩
 ·rintro i e ys hi ⟨o,rfl,rfl⟩;have hi':i < ts.length:=by omega
  trivial;refine ⟨_,rfl,?_⟩;unfold stW;rw [List.take_add_one,Zh,List.getElem?_range hi',Zc];rfl
 rintro e ys ⟨o,rfl,rfl⟩;rw [show (stW ts.length).take (ts.length:Int).toNat=stW ts.length from List.take_of_length_le (by simp [stW])];trivial;subst hR;refine A4d (fun e=>∃ o5 o6:Option SV,e=[some (.bt t),some (.bor (ts.map dq)),some (.d (vD W)),some (.d (.int (ts.length:Int))),some (.own ((stW ts.length++enO ts W).map wyD)),o5,o6,none,none,none,none,none]) (fun R hR=>?_) ?_
 ·rcases W with _ | W
  ·trivial;refine ite2 (fun z=>absurd z (fun z=>nomatch z)) (fun _=>?_);refine hR _ ⟨_,_,by rw [show enO ts none=[] from rfl,List.append_nil]⟩
  ·have oW:=hW W rfl;rw [show vD (some W)=dq W from rfl];trivial;refine M3 (f:=dq) (xs:=ts) (fun i e=>∃ o5 o6:Option SV,e=[some (.bt t),some (.bor (ts.map dq)),some (.d (dq W)),some (.d (.int (ts.length:Int))),some (.own ((stW ts.length++(enO ts (some W)).take i).map wyD)),o5,o6,none,none,none,none,none]) ⟨_,_,by rw [List.take_zero,List.append_nil]⟩ ?_ ?_
   ·rintro i q e hi ⟨o5,o6,rfl⟩;have oq:=ok.t q (Zm hi);trivial;refine ⟨q,W,rfl,oq.q,oW.q,?_⟩;trivial;rw [A4q (show (enO ts (some W)).take (i + 1)=(enO ts (some W)).take i++[(i,ts.length,q - W,(("end":Str),(i:Int)))] from A39 _ hi)];exact ⟨by have:=A4z (ts:=ts) (W:=some W); rw [Ze,A1s,List.length_take]; omega,_,_,rfl⟩
   ·rintro e ⟨o5,o6,rfl⟩;rw [show (enO ts (some W)).take ts.length=enO ts (some W) from A7u _];exact hR _ ⟨_,_,rfl⟩
 rintro e ⟨o5,o6,rfl⟩;have le:=A4z (ts:=ts) (W:=W);refine hd fun R hR=>?_;trivial;refine ⟨u1,p1,_,s1,?_⟩;trivial;refine M3 (f:=wD) (xs:=ws) (fun i e=>∃ o5 o6 o7 o8 o9 o10:Option SV,e=[some (.bt t),some (.bor (ts.map dq)),some (.d (vD W)),some (.d (.int (ts.length:Int))),some (.own ((stW ts.length++enO ts W++(waW ts ws).take i).map wyD)),o5,o6,o7,o8,o9,o10,none]) ⟨_,_,_,_,_,_,by rw [List.take_zero,List.append_nil]⟩ ?_ ?_
 ·rintro i x e hi ⟨o5,o6,o7,o8,o9,o10,rfl⟩;obtain ⟨ha,hb,hx⟩:=ok.w x (Zm hi);have hil:i < ws.length:=(Zs hi).1;have ez:(waW ts ws).take (i + 1)=(waW ts ws).take i++[(x.1.toNat,x.2.1.toNat,rat ts x.1 + x.2.2,(("wait":Str),(i:Int)))]:=A39 _ hi;rw [A4q ez];obtain ⟨a,b,l⟩:=x;obtain ⟨a,rfl⟩:=Zi ha.1;obtain ⟨b,rfl⟩:=Zi hb.1;unfold wD;trivial;refine D4 (T3 (o:=(a:Int)) ha.1 ha.2) ?_;trivial;refine ⟨_,l,rfl,(ok.t _ (O0 ha.1 ha.2)).q,hx.q,?_⟩;trivial;exact ⟨by rw [Ze,Ze,A1s,List.length_take]; omega,_,_,_,_,_,_,rfl⟩
 rintro e ⟨o5,o6,o7,o8,o9,o10,rfl⟩;rw [show (waW ts ws).take ws.length=waW ts ws from A7u _];subst hR;trivial;refine ⟨u2,p2,_,s2,?_⟩;trivial;refine M3 (f:=hD) (xs:=hs) (fun i e=>∃ o5 o6 o7 o8 o9 o10 o11:Option SV,e=[some (.bt t),some (.bor (ts.map dq)),some (.d (vD W)),some (.d (.int (ts.length:Int))),some (.own ((stW ts.length++enO ts W++waW ts ws++(hoW ts hs).take i).map wyD)),o5,o6,o7,o8,o9,o10,o11]) ⟨_,_,_,_,_,_,_,by rw [List.take_zero,List.append_nil]⟩ ?_ ?_
 ·rintro i x e hi ⟨o5,o6,o7,o8,o9,o10,o11,rfl⟩;obtain ⟨hk,hb,hx⟩:=ok.h x (Zm hi);have hil:i < hs.length:=(Zs hi).1;have ez:(hoW ts hs).take (i + 1)=(hoW ts hs).take i++[hoO ts x i]:=A39 _ hi;rw [A4q ez];trivial;refine ⟨x,ts,_,rfl,hk,hb,hx.q,fun q hq=>(ok.t q hq).q,?_⟩;trivial;have ew:wyD (hoO ts x i)=PyData.tuple (if x.1="from" then [.int (ts.length:Int),.int x.2.1,dq x.2.2,.tuple [.str "hold",.int (i:Int)]] else if x.1="till" then [.int x.2.1,.int (ts.length:Int),dq (0 - x.2.2),.tuple [.str "hold",.int (i:Int)]] else [.int x.2.1,.int (ts.length:Int),dq (rat ts x.2.1 - x.2.2),.tuple [.str "hold",.int (i:Int)]]):=by
   obtain ⟨kd,b,l⟩:=x;obtain ⟨b,rfl⟩:=Zi hb.1;unfold hoO;dsimp only;split
   ·rfl
   ·split <;> rfl
  exact ⟨by rw [Ze,Ze,Ze,A1s,A7v,List.length_take]; omega,_,_,_,_,_,_,_,by rw [ew]⟩
 rintro e ⟨o5,o6,o7,o8,o9,o10,o11,rfl⟩;rw [show (hoW ts hs).take hs.length=hoW ts hs from A7u _];trivial;exact k
def A61:Pu.PMu:=fun xs ys zs Q=>∃ (zB:ZB) (ways:List Wy) (f:List (Option Rat)) (c:List (Option Wy)) (m:Nat),xs=[.list (ways.map wyD)]/\ys=f.map vD/\zs=c.map cD/\(∀ w ∈ ways,w.1 < f.length/\w.2.1 < f.length/\On (LL * zB.1) (1 * 2 ^ 60) w.2.2.1)/\c.length=f.length/\FB zB m f/\m + ways.length<=2 ^ 12/\Q (mD (strF ways (f,c,none)).2.2) ((strF ways (f,c,none)).1.map vD) ((strF ways (f,c,none)).2.1.map cD)
theorem A7c (T:Txt K mg D):FnOk P w K mg base CX0 3 D.a_c5 D.d_c5 ["ways","far","came"] (Pu.spMu K 1 A61):=by
 refine T.B.F_c5.ok sc_c5 (Pu.spMu.len rfl) (fun cdv A outer s H vs Q E hr h=>?_);refine ⟨_,(QSs.out (A4 (qst 3 sc_c5 F2)
   (A4 (D3 Zf rfl (D1 (K:=K) rfl (qpv 0)) (qgn 4 sc_c5)
    (A4 (C4 (qpv 4) (B3 (K:=K) (n:=4) rfl rfl (A7 (qgn 5 sc_c5) (A7 (qgn 6 sc_c5) (A7 (qgn 7 sc_c5) (A7 (qgn 8 sc_c5) B2)))) rfl rfl))
    (A6 (C3 (B1 O9 (qix K (qMu (qpv 1)) (qpv 5)) F2 (C1 _))
     (A4 (qst 9 sc_c5 (qcK (G7 (K:=K) T) hr.mo (K7 T) (A0 (qix K (qMu (qpv 1)) (qpv 5)) (A0 (qpv 7) A3))))
     (A6 (C3 (QW.pt (T4 (B1 R9 (qix K (qMu (qpv 1)) (qpv 6)) F2 (C1 _)) (Q1 (F8 (qcK (K4 (K:=K) T) hr.mo (M5 T) (A0 (qix K (qMu (qpv 1)) (qpv 6)) (A0 (qpv 9) A3)))))))
      (A4 (C4 (qpv 9) (G9 (qMu (qpv 1)) (qpv 6) E8))
      (A4 (C4 (qpv 4) (G9 (qMu (qpv 2)) (qpv 6) E8))
      (A6 (qst 3 sc_c5 (qpv 6)))))
      B8)))
     B8))))
   (A6 (B0 (qpv 3)))))),?_⟩
 refine Pu.B0r h ?_;rintro xs ys zs p q Qp hpq ⟨zB,ways,f,c,m,rfl,rfl,rfl,hw,hl,fb,hm,k⟩;trivial;refine K9 (f:=wyD) (xs:=ways) (fun i e=>∃ o4 o5 o6 o7 o8 o9:Option SV,e=[some (.d (.list (ways.map wyD))),some (.tr (.nd true p (E7 ((strF (ways.take i) (f,c,none)).1.map vD)))),some (.tr (.nd true q (E7 ((strF (ways.take i) (f,c,none)).2.1.map cD)))),some (.d (mD (strF (ways.take i) (f,c,none)).2.2)),o4,o5,o6,o7,o8,o9]) ⟨_,_,_,_,_,_,rfl⟩ ?_ ?_
 ·rintro i w e hi ⟨o4,o5,o6,o7,o8,o9,rfl⟩;have hil:i < ways.length:=(Zs hi).1;obtain ⟨h1,h2,h3⟩:=hw w (Zm hi);have hb:FB zB (m + i) (strF (ways.take i) (f,c,none)).1:=by
   have:=FB.strF (ways:=ways.take i) (s:=(f,c,none)) fb (fun x hx=>(hw x (List.mem_of_mem_take hx)).2)
   rwa [List.length_take,Nat.min_eq_left (by omega)] at this
  have es:=A77 (s:=(f,c,none)) hi;have hlf:(strF (ways.take i) (f,c,none)).1.length=f.length:=strF_len.1;have hlc:(strF (ways.take i) (f,c,none)).2.1.length=f.length:=strF_len.2.trans hl;generalize strF (ways.take i) (f,c,none)=s at *;rw [es];obtain ⟨t,h,l,ar⟩:=w;rw [show wyD (t,h,l,ar)=PyData.tuple [.int (t:Int),.int (h:Int),dq l,qD ar] from rfl];have h1':t < s.1.length:=by rw [hlf]; exact h1
  have h2':h < s.1.length:=by rw [hlf]; exact h2
  trivial;refine D4 (B3a h1') ?_;trivial;refine ite2 (fun hn=>?_) (fun hn=>?_)
  ·cases ha:fa s.1 t with
   | none=>rw [ha] at hn; cases hn
   | some a =>
    refine D4 (B3a h1') ?_;rw [ha,show vD (some a)=dq a from rfl];trivial;have oa:=B9q zB.2.1 (hb _ _ ha) h3 (Zv _);refine ⟨a,l,rfl,zQ (hb _ _ ha) (by omega),zQ h3 (by decide),?_⟩;trivial;refine D4 (B3a h2') ?_;trivial;have er:rlx s (t,h,l,ar)=if upB (fa s.1 h) (a + l) then (s.1.set h (some (a + l)),s.2.1.set h (some (t,h,l,ar)),some h) else s:=by
     show (match fa s.1 t with | none=>s | some a=>if upB (fa s.1 h) (a + l) then (s.1.set h (some (a + l)),s.2.1.set h (some (t,h,l,ar)),some h) else s)=_;rw [ha]
    have ix1:ixN s.1.length (h:Int)=some h:=N7 (o:=(h:Int)) (by omega) (by omega);have ix2:ixN s.2.1.length (h:Int)=some h:=N7 (o:=(h:Int)) (by omega) (by omega);cases hh:fa s.1 h with
    | none =>
     rw [hh,show upB none (a + l)=true from rfl,if_pos rfl] at er;rw [er];trivial;refine ite2 (fun _=>?_) (fun z=>absurd rfl z);exact ⟨h,ix1,h,ix2,_,_,_,_,_,_,by rw [List.map_set,List.map_set]; rfl⟩
    | some b =>
     rw [hh,show upB (some b) (a + l)=decide (b < a + l) from rfl] at er;trivial;refine ite2 (fun z=>absurd z (by show ¬ isNo (dq b)=true; exact fun z=>nomatch z)) (fun _=>?_);refine D4 (B3a h2') ?_;rw [hh,show vD (some b)=dq b from rfl];trivial;refine ⟨b,a + l,rfl,zQ (hb _ _ hh) (by omega),zQ oa (by omega),?_⟩;trivial;refine ite2 (fun z=>?_) (fun z=>?_)
     ·rw [if_pos (Zk z)] at er;rw [er];exact ⟨h,ix1,h,ix2,_,_,_,_,_,_,by rw [List.map_set,List.map_set]; rfl⟩
     ·rw [if_neg (fun y=>z (of_decide_eq_true y))] at er;rw [er];exact ⟨_,_,_,_,_,_,rfl⟩
  ·cases ha:fa s.1 t with
   | none =>
    have er:rlx s (t,h,l,ar)=s:=by
     show (match fa s.1 t with | none=>s | some a=>if upB (fa s.1 h) (a + l) then (s.1.set h (some (a + l)),s.2.1.set h (some (t,h,l,ar)),some h) else s)=_;rw [ha]
    rw [er];exact ⟨_,_,_,_,_,_,rfl⟩
   | some a=>rw [ha] at hn; exact absurd rfl hn
 ·rintro e ⟨o4,o5,o6,o7,o8,o9,rfl⟩;rw [List.take_length];trivial;exact ⟨_,_,rfl,rfl,k⟩
def A22:Pu.PSp:=fun as Q=>∃ (c:List (Option Wy)) (m q:Nat),as=[.d (.list (c.map cD)),.d (.int (m:Int))]/\c.length<=11/\Rnd c m c.length q/\∀ s,1<=s->s<=q->plc c m (c.length + s)=plc c m c.length->(∀ s',1<=s'->s' < s->plc c m (c.length + s')≠plc c m c.length)->Q (.own ((List.range s).map fun i=>rgW c (plc c m (c.length + i))))
theorem A3f (T:Txt K mg D):FnOk P w K mg base CX0 1 D.a_b3 D.d_b3 ["came","moved"] (Pu.spOf K [.dat,.dat] A22):=by
 refine T.B.F_b3.ok sc_b3 (Zz rfl) (fun cdv A outer s H vs Q E hr h=>?_);refine ⟨_,(QSs.out (A4 (qst 2 sc_b3 (qpv 1))
   (A4 (D3 Zf rfl (E6 rfl T.z_range (A0 (qln K T.z_len (qpv 0)) A3)) (qgn 3 sc_b3)
    (A6 (qst 2 sc_b3 (qix K (qix K (qpv 0) (qpv 2)) A5))))
   (A4 (qst 4 sc_b3 (D2 A3))
   (A4 (qst 5 sc_b3 (qpv 2))
   (A4 (T6 Zf (QW.pt (T4 (B1 (C8 (K:=K) rfl hr.units) (qln K T.z_len (qpv 4)) A5 (C1 _)) (Q1 (B1 (N2 (K:=K) rfl hr.units) (qpv 5) (qpv 2) (C1 _)))))
    (A4 (C4 (qix K (qpv 0) (qpv 5)) (B3 (K:=K) (n:=4) rfl rfl (A7 (qgn 6 sc_b3) (A7 (qgn 7 sc_b3) (A7 (qgn 8 sc_b3) (A7 (qgn 9 sc_b3) B2)))) rfl rfl))
    (A4 (D9 (F9 (K:=K) rfl Z1 Z2 Z3 E5 (qpv 4) (A0 (B7 (A0 (qpv 9) (A0 (J7 (v:=.ref D.k_ONE) rfl T.c_ONE rfl) A3))) A3)))
    (A6 (qst 5 sc_b3 (qpv 6))))))
   (A6 (B0 (qpv 4))))))))),?_⟩
 haveI:=T.c2_ONE
 refine Pu.D6 h ?_;rintro as Qp ⟨c,m,q,rfl,hl,⟨q1,q2,hs,hq⟩,k⟩;refine hd fun R hR=>?_;trivial;subst hR;refine hd fun R hR=>?_;trivial;refine ⟨by omega,P4 (fun i e=>∃ o3:Option SV,e=[some (.d (.list (c.map cD))),some (.d (.int (m:Int))),some (.d (.int (plc c m i:Int))),o3,none,none,none,none,none,none]) ⟨_,rfl⟩ ?_ ?_⟩
 ·rintro i e hi ⟨o3,rfl⟩;obtain ⟨w,hw⟩:=hs i (by omega);trivial;refine D4 (B85 hw).2 ?_;rw [show wyD w=PyData.tuple [.int (w.1:Int),.int (w.2.1:Int),dq w.2.2.1,qD w.2.2.2] from rfl];trivial;exact ⟨_,by rw [X6 hw]⟩
 rintro e ⟨o3,rfl⟩;rw [Int.toNat_natCast];subst hR;dsimp only;refine hd fun R hR=>?_;trivial;subst hR;refine hd fun R hR=>?_;trivial;subst hR;trivial;refine ⟨fun μ e=>∃ (s:Nat) (o6 o7 o8 o9:Option SV),e=[some (.d (.list (c.map cD))),some (.d (.int (m:Int))),some (.d (.int (plc c m c.length:Int))),o3,some (.own ((List.range s).map fun i=>rgW c (plc c m (c.length + i)))),some (.d (.int (plc c m (c.length + s):Int))),o6,o7,o8,o9]/\s<=q/\μ=q - s/\∀ s',1<=s'->s' < s->plc c m (c.length + s')≠plc c m c.length,⟨q,0,_,_,_,_,rfl,Nat.zero_le _,rfl,fun s' h1 h2=>by omega⟩,?_⟩;rintro μ e ⟨s,o6,o7,o8,o9,rfl,sq,rfl,hn⟩;trivial;rw [List.length_range];refine ite2 (fun z=>?_) (fun z=>ite2 (fun y=>?_) (fun y=>?_))
 ·have z':s=0:=by omega
  obtain ⟨w,hw⟩:=hs (c.length + s) (by omega);refine D4 (B85 hw).2 ?_;rw [show wyD w=PyData.tuple [.int (w.1:Int),.int (w.2.1:Int),dq w.2.2.1,qD w.2.2.2] from rfl];trivial;have er:(List.range (s + 1)).map (fun i=>rgW c (plc c m (c.length + i)))=(List.range s).map (fun i=>rgW c (plc c m (c.length + i)))++[PyData.tuple [qD w.2.2.2,dq 1]]:=by
   rw [List.range_succ,List.map_append,show List.map (fun i=>rgW c (plc c m (c.length + i))) [s]=[PyData.tuple [qD w.2.2.2,dq 1]] by show [rgW c (plc c m (c.length + s))]=_; unfold rgW; rw [hw]; rfl]
  have ep:plc c m (c.length + (s + 1))=w.1:=X6 hw;exact ⟨by rw [List.length_range]; omega,q - (s + 1),by omega,s + 1,_,_,_,_,by rw [er,ep],by omega,rfl,fun s' h1 h2=>by omega⟩
 ·exact k s (by omega) sq (by omega) hn
 ·have y':plc c m (c.length + s)≠plc c m c.length:=fun e=>y (by rw [e]);have sl:s < q:=by
   rcases Nat.lt_or_ge s q with h | h
   ·exact h
   ·exact absurd (by rw [show s=q by omega]; exact hq) y'
  obtain ⟨w,hw⟩:=hs (c.length + s) (by omega);refine D4 (B85 hw).2 ?_;rw [show wyD w=PyData.tuple [.int (w.1:Int),.int (w.2.1:Int),dq w.2.2.1,qD w.2.2.2] from rfl];trivial;have er:(List.range (s + 1)).map (fun i=>rgW c (plc c m (c.length + i)))=(List.range s).map (fun i=>rgW c (plc c m (c.length + i)))++[PyData.tuple [qD w.2.2.2,dq 1]]:=by
   rw [List.range_succ,List.map_append,show List.map (fun i=>rgW c (plc c m (c.length + i))) [s]=[PyData.tuple [qD w.2.2.2,dq 1]] by show [rgW c (plc c m (c.length + s))]=_; unfold rgW; rw [hw]; rfl]
  have ep:plc c m (c.length + (s + 1))=w.1:=X6 hw;exact ⟨by rw [List.length_range]; omega,q - (s + 1),by omega,s + 1,_,_,_,_,by rw [er,ep],by omega,rfl,fun s' h1 h2=>by by_cases e:s'=s; (rw [e]; exact y'); exact hn s' h1 (by omega)⟩
def A4k:Pu.PSp:=fun as Q=>∃ (zB:ZB) (ways:List Wy) (n:Nat),as=[.d (.list (ways.map wyD)),.d (.int (n:Int))]/\n<=10/\ways.length<=100/\(∀ w ∈ ways,w.1<=n/\w.2.1<=n/\On (LL * zB.1) (1 * 2 ^ 60) w.2.2.1)/\(kst ways n=none->∀ s p w,Rng ways n s p w->Q (.d (.tuple [.none,.list (rgL s w)])))/\∀ k,kst ways n=some k->Q (.d (.tuple [.list (((bsK ways n k).1.take n).map vD),.none]))
theorem Z9 (T:Txt K mg D):FnOk P w K mg base CX0 4 D.a_b9 D.d_b9 ["ways","many"] (Pu.spOf K [.dat,.dat] A4k):=by
 refine T.B.F_b9.ok sc_b9 (Zz rfl) (fun cdv A outer s H vs Q E hr h=>?_);refine ⟨_,(QSs.out (A4 (qst 2 sc_b9 (C2 (S1 (K:=K) rfl) (J8 rfl (C5 ["work"] [none]) (E6 rfl T.z_range (A0 (qpv 1) A3)) (fun _ _ _=>(qgc 0 ["work"])) (fun _ _ _=>D8) (fun _ _ _=>F2)) (D2 (A0 (J7 (v:=.ref D.k_NOUGHT) rfl T.c_NOUGHT rfl) A3))))
   (A4 (C9 (i:=3) rfl sc_b9.nd rfl rfl (C5 ["place"] [none]) (D1 (K:=K) rfl (qKp (qpv 2))) (fun _ _ _=>(qgc 0 ["place"])) (fun _ _ _=>D8) (fun _ _ _=>F2) rfl)
   (A4 (qst 4 sc_b9 F2)
   (A4 (D3 Zf rfl (E6 rfl T.z_range (A0 (C2 G3 (qpv 1) A5) A3)) (qgn 5 sc_b9)
    (A4 (qst 4 sc_b9 (qcK (A7c (K:=K) T) hr.mo (B1d T) (A0 (qpv 0) (A0 (qpv 2) (A0 (qpv 3) A3)))))
    (A6 (C3 (B1 R9 (qpv 4) F2 (C1 _))
     (A6 (B0 (B7 (A0 (Q2 (X3 (K:=K) rfl) (qpv 2) T8 (T7 (qpv 1))) (A0 F2 A3)))))
     B8))))
   (A6 (B0 (B7 (A0 F2 (A0 (qcK (A3f (K:=K) T) hr.mo (A48 T) (A0 (qpv 3) (A0 (qpv 4) A3))) A3)))))))))),?_⟩
 haveI:=T.c2_NOUGHT
 refine Pu.D6 h ?_;rintro as Qp ⟨zB,ways,n,rfl,hn,hl,hw,kr,k⟩;refine hd fun R hR=>?_;trivial;refine ⟨by omega,by rw [J0]; omega,N8 (fun i e ys=>∃ o:Option SV,e=[o]/\ys=(List.replicate i (none:Option Rat)).map vD) ⟨_,rfl,rfl⟩ ?_ ?_⟩
 ·rintro i e ys hi ⟨o,rfl,rfl⟩;trivial;exact ⟨_,rfl,by rw [<- List.map_cons,<- List.replicate_succ,List.replicate_succ',Zc]; rfl⟩
 rintro e ys ⟨o,rfl,rfl⟩;have e0:List.map vD (List.replicate (n:Int).toNat none)++[dq 0]=(bs0 n).1.map vD:=by
  unfold bs0;dsimp only;rw [Zc,Int.toNat_natCast]; rfl
 trivial;refine ⟨by rw [List.length_replicate]; omega,?_⟩;rw [e0];subst hR;refine hd fun R hR=>?_;trivial;refine ⟨by rw [show (bs0 n).1.length=n + 1 from (G4 (ways:=ways) (n:=n) 0).1]; omega,F4 (f:=vD) (xs:=(bs0 n).1) (fun i e ys=>∃ o:Option SV,e=[o]/\ys=(List.replicate i (none:Option Wy)).map cD) ⟨_,rfl,rfl⟩ ?_ ?_⟩
 ·rintro i x e ys hi ⟨o,rfl,rfl⟩;trivial;exact ⟨_,rfl,by rw [<- List.map_cons,<- List.replicate_succ,List.replicate_succ',Zc]; rfl⟩
 rintro e ys ⟨o,rfl,rfl⟩;rw [show (List.replicate (bs0 n).1.length (none:Option Wy)).map cD=(bs0 n).2.1.map cD by rw [show (bs0 n).1.length=n + 1 from (G4 (ways:=ways) (n:=n) 0).1]; rfl];trivial;subst hR;refine hd fun R hR=>?_;trivial;subst hR;trivial;refine ⟨by omega,P4 (fun i e=>∃ o5:Option SV,e=[some (.d (.list (ways.map wyD))),some (.d (.int (n:Int))),some (.own ((bsK ways n i).1.map vD)),some (.own ((bsK ways n i).2.1.map cD)),some (.d (mD (bsK ways n i).2.2)),o5]/\∀ j,j < i->(bsK ways n (j + 1)).2.2≠none) ⟨_,rfl,fun j hj=>absurd hj (Nat.not_lt_zero _)⟩ ?_ ?_⟩
 ·rintro i e hi ⟨o5,rfl,hj⟩;have hi':i < n + 1:=by omega
  trivial;refine ⟨by decide,zB,ways,(bsK ways n i).1,(bsK ways n i).2.1,i * ways.length,rfl,rfl,rfl,fun w h=>?_,by rw [(G4 i).1,(G4 i).2],B09 hw i,?_,?_⟩
  ·rw [(G4 i).1]; have:=hw w h; exact ⟨by omega,by omega,this.2.2⟩
  ·have:=Nat.mul_le_mul (show i<=10 by omega) hl; omega
  rw [show strF ways ((bsK ways n i).1,(bsK ways n i).2.1,none)=bsK ways n (i + 1) from rfl];trivial;refine ite2 (fun z=>?_) (fun z=>?_)
  ·have hm:(bsK ways n (i + 1)).2.2=none:=by
    cases hq:(bsK ways n (i + 1)).2.2 with
    | none=>rfl
    | some v=>rw [hq] at z; cases z
   rw [(B07 (fun w h=>⟨(hw w h).1,(hw w h).2.1⟩) hm).2,B4y (f:=vD) (by rw [(G4 i).1]; omega)];refine k i ?_;unfold kst;rw [List.find?_range_eq_some];refine ⟨by rw [hm]; rfl,List.mem_range.mpr hi',fun j h=>?_⟩;cases hq:(bsK ways n (j + 1)).2.2 with
   | none=>exact absurd hq (hj j h)
   | some v=>rfl
  ·refine ⟨_,rfl,fun j hj'=>?_⟩;by_cases h:j < i
   ·exact hj j h
   ·rw [show j=i by omega];intro hq;rw [hq] at z;exact z rfl
 ·rintro e ⟨o5,rfl,hj⟩;rw [show ((n:Int) + 1).toNat=n + 1 by omega] at hj ⊢;have hw':∀ w ∈ ways,w.1<=n/\w.2.1<=n:=fun w h=>⟨(hw w h).1,(hw w h).2.1⟩;cases hm:(bsK ways n (n + 1)).2.2 with
  | none=>exact absurd hm (hj n (by omega))
  | some m =>
   obtain ⟨_,q,hq⟩:=B1t hw' hm;have hk:kst ways n=none:=by
    unfold kst;rw [List.find?_eq_none];intro x hx;rw [List.mem_range] at hx;cases e:(bsK ways n (x + 1)).2.2 with
    | none=>exact absurd e (hj x hx)
    | some v=>exact fun z=>nomatch z
   rw [show mD (some m)=PyData.int (m:Int) from rfl];trivial;refine ⟨_,m,q,rfl,by rw [(G4 (n + 1)).2]; omega,by rw [(G4 (n + 1)).2]; exact hq,fun s s1 s2 s3 s4=>?_⟩;rw [(G4 (n + 1)).2] at s3 s4 ⊢;have rg:=B54 hw' hq s1 s2 s3 s4;rw [B97];trivial;exact kr hk _ _ _ rg
def A4l:Pu.PSp:=fun as Q=>∃ (zB:ZB) (t:OT) (ts:LQ) (ws:LW) (hs:LH),as=[.bt t,.bor (ts.map dq)]/\NetB t ws hs/\NOk zB ts ws hs/\(∀ s p w,Rng (E9 ts ws hs none) ts.length s p w->kst (E9 ts ws hs none) ts.length=none->Q (.d (.tuple [.str "ring",.list (rgL s w)])))/\∀ P,Pot (E9 ts ws hs none) ts.length P->Ear zB ts ws hs->Q (.d (.tuple [.str "starts",.list ((earS ts ws hs).map dq)]))
theorem S3 (T:Txt K mg D):FnOk P w K mg base CX0 6 D.a_b8 D.d_b8 ["net","times"] (Pu.spOf K [.bt,.vw] A4l):=by
 refine T.B.F_b8.ok sc_b8 (Zz rfl) (fun cdv A outer s H vs Q E hr h=>?_);refine ⟨_,(QSs.out (A4 (C4 (qcK (Z9 (K:=K) T) hr.mo (A1j T) (A0 (qcK (A3d (K:=K) T) hr.mo (A6r T) (A0 (qpv 0) (A0 (qpv 1) (A0 F2 A3)))) (A0 (qln K T.z_len (qpv 1)) A3))) (B3 (K:=K) (n:=2) rfl rfl (A7 (qgn 2 sc_b8) (A7 (qgn 3 sc_b8) B2)) rfl rfl))
   (A4 (C3 (B1 O9 (qpv 3) F2 (C1 _))
    (A6 (B0 (B7 (A0 C0 (A0 (qpv 3) A3)))))
    B8)
   (A6 (B0 (B7 (A0 C0 (A0 (qpv 2) A3)))))))),?_⟩
 refine Pu.D6 h ?_;rintro as Qp ⟨zB,t,ts,ws,hs,rfl,hb,ok,kr,k⟩;have hw:=Q7 ok (W:=none) (fun _ e=>nomatch e);have hl:=S8 (W:=none) ok;refine hd fun R hR=>?_;trivial;refine ⟨zB,t,ts,ws,hs,none,rfl,hb,ok,(fun _ e=>nomatch e),?_⟩;trivial;refine ⟨zB,_,ts.length,rfl,ok.n1,hl,hw,fun hk s p w rg=>?_,fun j hj=>?_⟩
 ·trivial;subst hR;trivial;exact kr s p w rg hk
 obtain ⟨P,hP⟩:=A6h hw hj B1m hl ok.n1;have fo:=A4w hw hP hl ok.n1;rw [<- A4x hj,A70 (by rw [fo.ln]; omega) (fun v hv=>B0v fo hv)];trivial;subst hR;trivial;exact k P hP fo
def A8r:Pu.PSp:=fun as Q=>∃ (zB:ZB) (t:OT) (ts:LQ) (ws:LW) (hs:LH) (W:Rat),as=[.bt t,.bor (ts.map dq),.d (dq W)]/\NetB t ws hs/\NOk zB ts ws hs/\OB zB W/\(∃ P,Pot (E9 ts ws hs none) ts.length P)/\(∀ s p w,Rng (bkL ts ws hs W) ts.length s p w->kst (bkL ts ws hs W) ts.length=none->Q (.d (.tuple [.str "bar",.list (rgL s w)])))/\∀ P,Pot (bkL ts ws hs W) ts.length P->Fars zB (bkL ts ws hs W) ts.length (farS (bkL ts ws hs W) ts.length)->Q (.d (.tuple [.str "starts",.list ((latS ts ws hs W).map dq)]))
theorem Z7 (T:Txt K mg D):FnOk P w K mg base CX0 7 D.a_d4 D.d_d4 ["net","times","whole"] (Pu.spOf K [.bt,.vw,.dat] A8r):=by
 refine T.B.F_d4.ok sc_d4 (Zz rfl) (fun cdv A outer s H vs Q E hr h=>?_);refine ⟨_,(QSs.out (A4 (C4 (qcK (S3 (K:=K) T) hr.mo (W1 T) (A0 (qpv 0) (A0 (qpv 1) A3))) (B3 (K:=K) (n:=2) rfl rfl (A7 (qgn 3 sc_d4) (A7 (qgn 4 sc_d4) B2)) rfl rfl))
   (A4 (C3 (B1 (C8 (K:=K) rfl hr.units) (qpv 3) C0 (C1 _))
    (A6 (B0 (B7 (A0 C0 (A0 (qpv 4) A3)))))
    B8)
   (A4 (C9 (i:=5) rfl sc_d4.nd rfl rfl (C5 ["tail","head","length","arc"] [none,none,none,none]) (D1 (K:=K) rfl (qcK (A3d (K:=K) T) hr.mo (A6r T) (A0 (qpv 0) (A0 (qpv 1) (A0 (qpv 2) A3))))) (fun _ _ _=>(B3 (K:=K) (n:=4) rfl rfl (A7 (qgc 0 ["tail","head","length","arc"]) (A7 (qgc 1 ["tail","head","length","arc"]) (A7 (qgc 2 ["tail","head","length","arc"]) (A7 (qgc 3 ["tail","head","length","arc"]) B2)))) rfl rfl)) (fun _ _ _=>D8) (fun _ _ _=>(B7 (A0 (qpv 1) (A0 (qpv 0) (A0 (qpv 2) (A0 (qpv 3) A3)))))) rfl)
   (A4 (C4 (qcK (Z9 (K:=K) T) hr.mo (A1j T) (A0 (qpv 5) (A0 (qln K T.z_len (qpv 1)) A3))) (B3 (K:=K) (n:=2) rfl rfl (A7 (qgn 6 sc_d4) (A7 (qgn 7 sc_d4) B2)) rfl rfl))
   (A4 (C3 (B1 O9 (qpv 7) F2 (C1 _))
    (A6 (B0 (B7 (A0 C0 (A0 (qpv 7) A3)))))
    B8)
   (A6 (B0 (B7 (A0 C0 (A0 (J8 rfl (C5 ["lead"] [none]) (D1 (K:=K) rfl (qpv 6)) (fun _ _ _=>(qgc 0 ["lead"])) (fun _ _ _=>D8) (fun _ _ _=>(qcK (G0 (K:=K) T) hr.mo (J4 T) (A0 (J7 (v:=.ref D.k_NOUGHT) rfl T.c_NOUGHT rfl) (A0 (qpv 0) A3))))) A3))))))))))),?_⟩
 haveI:=T.c2_NOUGHT
 refine Pu.D6 h ?_;rintro as Qp ⟨zB,t,ts,ws,hs,W,rfl,hb,ok,oW,⟨P0,hP0⟩,kr,k⟩;have hw:=A1h ok oW;have hl:(bkL ts ws hs W).length<=100:=by unfold bkL; rw [Zl]; exact S8 ok
 refine hd fun R hR=>?_;trivial;refine ⟨zB,t,ts,ws,hs,rfl,hb,ok,fun s p w rg hk=>?_,fun P1 hP1 fo1=>?_⟩
 ·exact absurd hk (B4h ok hP0)
 trivial;subst hR;refine hd fun R hR=>?_;trivial;refine ⟨by decide +kernel,by decide +kernel,?_⟩;refine ite2 (fun h=>absurd h (by decide +kernel)) (fun _=>?_);subst hR;refine hd fun R hR=>?_;trivial;refine ⟨zB,t,ts,ws,hs,some W,rfl,hb,ok,(fun _ e=>by cases e; exact oW),?_⟩;trivial;refine ⟨by have:=S8 (W:=some W) ok; omega,F4 (f:=wyD) (xs:=E9 ts ws hs (some W)) (fun i e ys=>∃ o1 o2 o3 o4:Option SV,e=[o1,o2,o3,o4]/\ys=((bkL ts ws hs W).take i).map wyD) ⟨_,_,_,_,rfl,rfl⟩ ?_ ?_⟩
 ·rintro i x e ys hi ⟨o1,o2,o3,o4,rfl,rfl⟩;rw [show wyD x=PyData.tuple [.int (x.1:Int),.int (x.2.1:Int),dq x.2.2.1,qD x.2.2.2] from rfl];trivial;refine ⟨_,_,_,_,rfl,?_⟩;unfold bkL;rw [List.take_add_one,Zh,hi,Zc];rfl
 rintro e ys ⟨o1,o2,o3,o4,rfl,rfl⟩;rw [show (bkL ts ws hs W).take (E9 ts ws hs (some W)).length=bkL ts ws hs W from List.take_of_length_le (by unfold bkL; rw [Zl]; exact Zv _)];trivial;subst hR;refine hd fun R hR=>?_;trivial;refine ⟨zB,_,ts.length,rfl,ok.n1,hl,hw,fun hk s p w rg=>?_,fun j hj=>?_⟩
 ·trivial;subst hR;trivial;exact kr s p w rg hk
 obtain ⟨P,hP'⟩:=A6h hw hj A78 hl ok.n1;have fo:=A4w hw hP' hl ok.n1;rw [<- A4x hj,A70 (by rw [fo.ln]; omega) (fun v hv=>A45 fo hv)];trivial;subst hR;trivial;have hx:∀ (i:Nat) a,(((farS (bkL ts ws hs W) ts.length).take ts.length).map fun x=>x.getD 0)[i]?=some a->SmQ 3900 a:=fun i a h=>by
  rw [Zh] at h;obtain ⟨x,hx,rfl⟩:=Zo h;have hi:=(Zs hx).1;rw [List.length_take] at hi;rw [List.getElem?_take] at hx;split at hx
  ·rename_i hi';obtain ⟨b,hb⟩:=A45 fo hi';have:=fo.fb i b hb;unfold fa at hb;rw [hx] at hb;rw [show x=some b from hb];exact zQ this (by decide)
  ·cases hx
 refine ⟨by rw [List.length_take]; have:=ok.n1; omega,F4 (f:=dq) (xs:=((farS (bkL ts ws hs W) ts.length).take ts.length).map fun x=>x.getD 0) (fun i e ys=>∃ o1:Option SV,e=[o1]/\ys=((latS ts ws hs W).take i).map dq) ⟨_,rfl,rfl⟩ ?_ ?_⟩
 ·rintro i x e ys hi ⟨o1,rfl,rfl⟩;trivial;refine ⟨0,x,rfl,smq0,hx i x hi,?_⟩;trivial;refine ⟨_,rfl,?_⟩;rw [Zh] at hi;obtain ⟨y,hy,rfl⟩:=Zo hi;rw [List.take_add_one,Zc];unfold latS;rw [Zh,hy];rfl
 rintro e ys ⟨o1,rfl,rfl⟩;rw [show (latS ts ws hs W).take (((farS (bkL ts ws hs W) ts.length).take ts.length).map fun x=>x.getD 0).length=latS ts ws hs W from List.take_of_length_le (by unfold latS; rw [Zl,Zl]; exact Zv _)];trivial;exact k P hP' fo
def W7:Pu.PSp:=fun as Q=>∃ i m:Int,as=[.d (.int i),.d (.int m)]/\0<=i/\i < m/\Q (.d (.bool true))
theorem W9 (T:Txt K mg D):FnOk P w K mg base CX0 2 D.a_a2 D.d_a2 ["thing","many"] (Pu.spOf K [.dat,.dat] W7):=by
 refine T.B.F_a2.ok sc_a2 (Zz rfl) (fun cdv A outer s H vs Q E hr h=>?_);refine ⟨_,(QSs.out (A6 (B0 (L8 (qcK (V5 (K:=K) T) hr.mo (A0m T) (A0 (qpv 0) A3)) (N0 (A8j C33 A9c A5 (qpv 0) (qpv 1))))))),?_⟩;refine Pu.D6 h ?_;rintro as Qp ⟨i,m,rfl,i0,i1,k⟩;trivial;refine ⟨i,rfl,?_⟩;trivial;refine ite2 (fun _=>?_) (fun z=>absurd i0 z);rw [Zk i1];exact k
def B14:Pu.PSp:=fun as Q=>∃ (xs:List Wk) (ws:LW) (hs:LH) (gs:LP) (a:Str × Int),as=[.d (netD xs ws hs gs),.d (qD a)]/\ArOk xs.length ws.length hs.length a/\Q (.d (.bool true))
theorem B2p (T:Txt K mg D):FnOk P w K mg base CX0 3 D.a_df D.d_df ["net","thing"] (Pu.spOf K [.dat,.dat] B14):=by
 refine T.B.F_df.ok sc_df (Zz rfl) (fun cdv A outer s H vs Q E hr h=>?_);refine ⟨_,(QSs.out (A4 (C3 (M9 (F8 (qcK (Q4 (K:=K) T) hr.mo (S6 T) (A0 (qpv 1) (A0 A5 A3)))))
    (A6 (B0 J2))
    B8)
   (A4 (A5v (i:=2) (j:=3) (k:=4) rfl sc_df.nd rfl rfl rfl (by decide) (by decide) (by decide) rfl rfl rfl (A0 (qix K (qpv 0) A5) (A0 (qix K (qpv 0) A5) (A0 (qix K (qpv 0) A5) A3))) rfl rfl)
   (A4 (qst 5 sc_df (B1w (X4 C0 (qln K T.z_len (qpv 2)) (X4 C0 (qln K T.z_len (qpv 2)) (X4 C0 (qln K T.z_len (qpv 3)) (X4 C0 (qln K T.z_len (qpv 4)) B6a)))) (by rfl) (by rfl) (by decide) (by decide)))
   (A4 (C4 (qpv 1) (B3 (K:=K) (n:=2) rfl rfl (A7 (qgn 6 sc_df) (A7 (qgn 7 sc_df) B2)) rfl rfl))
   (A6 (B0 (L8 (J5 (Q6 (K:=K) rfl) (by rfl) T.z_isinstance (by rfl) (A0 (qpv 6) (A0 (T9 (v:=.ty "str") rfl T.z_str (by rfl) rfl) A3))) (L8 (B6b (u1 hr.units) (qpv 6) (qpv 5) (by with_unfolding_all rfl)) (N0 (qcK (W9 (K:=K) T) hr.mo (A0o T) (A0 (qpv 7) (A0 (B1x (u1 hr.units) (qpv 5) (qpv 6) (fun _ _=>rfl)) A3))))))))))))),?_⟩
 refine Pu.D6 h ?_;rintro as Qp ⟨xs,ws,hs,gs,a,rfl,ok,k⟩;unfold netD;refine hd fun R hR=>?_;trivial;refine ⟨.str a.1,.int a.2,rfl,?_⟩;trivial;subst hR;refine hd fun R hR=>?_;trivial;subst hR;refine hd fun R hR=>?_;trivial;refine ⟨by decide +kernel,?_⟩;subst hR;refine hd fun R hR=>?_;rw [show qD a=.tuple [.str a.1,.int a.2] from rfl];trivial;subst hR;trivial;obtain ⟨c,m⟩:=a;obtain ⟨m0,ok⟩:=ok;dsimp only;rcases ok with ⟨e,h⟩ | ⟨e,h⟩ | ⟨e,h⟩ | ⟨e,h⟩
 ·have e:c=Str.ofString "start":=e;subst e;refine ite2 (fun _=>⟨_,if_pos rfl,m,_,rfl,m0,h,?_⟩) (fun z=>absurd (Y1 (Zy)) z);trivial;exact k
 ·have e:c=Str.ofString "end":=e;subst e;refine ite2 (fun _=>⟨_,(if_neg w_se).trans (if_pos rfl),m,_,rfl,m0,h,?_⟩) (fun z=>absurd (Y1 (Zr _ Zy)) z);trivial;exact k
 ·have e:c=Str.ofString "wait":=e;subst e;refine ite2 (fun _=>⟨_,(if_neg w_sw).trans ((if_neg w_ew).trans (if_pos rfl)),m,_,rfl,m0,h,?_⟩) (fun z=>absurd (Y1 (Zr _ (Zr _ Zy))) z);trivial;exact k
 ·have e:c=Str.ofString "hold":=e;subst e;refine ite2 (fun _=>⟨_,(if_neg w_sh).trans ((if_neg w_eh).trans ((if_neg w_wh).trans (if_pos rfl))),m,_,rfl,m0,h,?_⟩) (fun z=>absurd (Y1 (Zr _ (Zr _ (Zr _ Zy)))) z);trivial;exact k
def A26:Pu.PSp:=fun as Q=>∃ (xs:List Wk) (ws:LW) (hs:LH) (gs:LP) (p:(Str × Int) × Rat),as=[.d (netD xs ws hs gs),.d (paD p)]/\ArOk xs.length ws.length hs.length p.1/\SmQ 3900 p.2/\0 < p.2/\Q (.d (.bool true))
theorem A3h (T:Txt K mg D):FnOk P w K mg base CX0 4 D.a_af D.d_af ["net","thing"] (Pu.spOf K [.dat,.dat] A26):=by
 refine T.B.F_af.ok sc_af (Zz rfl) (fun cdv A outer s H vs Q E hr h=>?_);refine ⟨_,(QSs.out (A4 (C3 (M9 (F8 (qcK (Q4 (K:=K) T) hr.mo (S6 T) (A0 (qpv 1) (A0 A5 A3)))))
    (A6 (B0 J2))
    B8)
   (A4 (C4 (qpv 1) (B3 (K:=K) (n:=2) rfl rfl (A7 (qgn 2 sc_af) (A7 (qgn 3 sc_af) B2)) rfl rfl))
   (A6 (B0 (L8 (qcK (B2p (K:=K) T) hr.mo (B9a T) (A0 (qpv 0) (A0 (qpv 2) A3))) (L8 (qcK (A7e (K:=K) T) hr.mo (B1f T) (A0 (qpv 3) A3)) (N0 (qcK (K4 (K:=K) T) hr.mo (M5 T) (A0 (J7 (v:=.ref D.k_NOUGHT) rfl T.c_NOUGHT rfl) (A0 (qpv 3) A3))))))))))),?_⟩
 haveI:=T.c2_NOUGHT
 refine Pu.D6 h ?_;rintro as Qp ⟨xs,ws,hs,gs,p,rfl,ok,sp,p0,k⟩;refine hd fun R hR=>?_;trivial;refine ⟨qD p.1,dq p.2,rfl,?_⟩;trivial;subst hR;refine hd fun R hR=>?_;rw [show paD p=.tuple [qD p.1,dq p.2] from rfl];trivial;subst hR;trivial;refine ⟨xs,ws,hs,gs,p.1,rfl,ok,?_⟩;trivial;refine ⟨p.2,rfl,sp,?_⟩;trivial;refine ⟨0,p.2,rfl,smq0,sp,?_⟩;rw [Zk p0];trivial;exact k
def A1y:Pu.PSp:=fun as Q=>∃ (xs:List Wk) (ws:LW) (hs:LH) (gs:LP) (pa:List ((Str × Int) × Rat)),as=[.d (netD xs ws hs gs),.d (.list (pa.map paD))]/\(∀ p ∈ pa,ArOk xs.length ws.length hs.length p.1/\SmQ 3900 p.2/\0 < p.2)/\(pa.map (·.1)).Nodup/\pa.length<=1000/\Q (.d .none)
theorem A17 (T:Txt K mg D):FnOk P w K mg base CX0 5 D.a_ac D.d_ac ["net","thing"] (Pu.spOf K [.dat,.dat] A1y):=by
 refine T.B.F_ac.ok sc_ac (Zz rfl) (fun cdv A outer s H vs Q E hr h=>?_);refine ⟨_,(QSs.out (A4 (C3 (M9 (F8 (J5 (Q6 (K:=K) rfl) (by rfl) T.z_isinstance (by rfl) (A0 (qpv 1) (A0 (T9 (v:=.ty "list") rfl T.z_list (by rfl) rfl) A3)))))
    (A6 O2)
    B8)
   (A4 (qst 2 sc_ac A8i)
   (A6 (D3 Zf rfl (K3 (K:=K) rfl rfl T.z_enumerate (A0 (qpv 1) A3)) (B3 (K:=K) (n:=2) rfl rfl (A7 (qgn 3 sc_ac) (A7 (qgn 4 sc_ac) B2)) rfl rfl)
    (A4 (C3 (QW.pt (T4 (M9 (F8 (qcK (A3h (K:=K) T) hr.mo (A5a T) (A0 (qpv 0) (A0 (qpv 4) A3))))) (Q1 (B59 (u1 hr.units) (qix K (qpv 4) A5) (qpv 2) (by with_unfolding_all rfl)))))
     (A6 O2)
     B8)
    (A6 (B1v (u1 hr.units) (qpv 2) (qix K (qpv 4) A5) J2 (by rfl))))))))),?_⟩
 refine Pu.D6 h ?_;rintro as Qp ⟨xs,ws,hs,gs,pa,rfl,ar,nd,ln,k⟩;refine hd fun R hR=>?_;trivial;subst hR;refine hd fun R hR=>?_;trivial;subst hR;trivial;refine M3 (f:=paD) (xs:=pa) (fun i e=>∃ o3 o4:Option SV,e=[some (.d (netD xs ws hs gs)),some (.d (.list (pa.map paD))),some (.dk ((pa.take i).map (·.1))),o3,o4]) ⟨_,_,rfl⟩ ?_ ?_
 ·rintro i p e hi ⟨o3,o4,rfl⟩;have hil:=(Zs hi).1;obtain ⟨h1,h2,h3⟩:=ar p (Zm hi);have nin:p.1 ∉ (pa.take i).map (·.1):=fun z=>by
   rw [List.map_take] at z;obtain ⟨j,hj,e⟩:=List.getElem_of_mem z;rw [List.length_take,Zl] at hj;rw [List.getElem_take] at e;have hp:(pa.map (·.1))[i]?=some p.1:=by rw [Zh,hi]; rfl
   obtain ⟨hi',ei⟩:=Zs hp;have:=(List.getElem_inj nd).mp (e.trans ei.symm);omega
  rw [show paD p=.tuple [qD p.1,dq p.2] from rfl];simp only [A1w,A8k,B3z,B6d,List.set_cons_succ,List.set_cons_zero,List.length_cons,List.length_nil,Nat.zero_add,Nat.reduceAdd,true_and];refine hd fun R hR=>?_;trivial;refine ⟨xs,ws,hs,gs,p,rfl,h1,h2,h3,?_⟩;trivial;show if p.1 ∈ List.map (fun x=>x.1) (List.take i pa) then _ else _;rw [if_neg nin];subst hR;trivial;show p.1 ∉ List.map (fun x=>x.1) (List.take i pa)/\_/\_;exact ⟨nin,by rw [List.length_take]; omega,_,_,by rw [List.take_add_one,hi,Zc]; rfl⟩
 rintro e ⟨o3,o4,rfl⟩;exact k
def A69:Pu.PMu:=fun xs ys zs Q=>∃ (h:Str × Int × Rat) (q:Rat) (is os:LQ) (o:Nat) (a b:Rat),xs=[hD h,dq q]/\ys=is.map dq/\zs=os.map dq/\Hk h.1/\h.2.1=(o:Int)/\is[o]?=some a/\os[o]?=some b/\SmQ 3900 q/\SmQ 3900 a/\SmQ 3900 b/\(h.1="from"->Q .none ((is.set o (a + q)).map dq) (os.map dq))/\(h.1="till"->Q .none ((is.set o (a - q)).map dq) (os.map dq))/\(h.1="by"->Q .none (is.map dq) ((os.set o (b + q)).map dq))
theorem A7h (T:Txt K mg D):FnOk P w K mg base CX0 4 D.a_bc D.d_bc ["hold","amount","amounts","offs"] (Pu.spMu K 2 A69):=by
 refine T.B.F_bc.ok sc_bc (Pu.spMu.len rfl) (fun cdv A outer s H vs Q E hr h=>?_);refine ⟨_,(QSs.out (A4 (C4 (qpv 0) (B3 (K:=K) (n:=3) rfl rfl (A7 (qgn 4 sc_bc) (A7 (qgn 5 sc_bc) (A7 (qgn 6 sc_bc) B2))) rfl rfl))
   (A6 (C3 (B1 (C8 (K:=K) rfl hr.units) (qpv 4) C0 (C1 _))
    (A6 (C4 (qcK (G7 (K:=K) T) hr.mo (K7 T) (A0 (qix K (qMu (qpv 2)) (qpv 5)) (A0 (qpv 1) A3))) (G9 (qMu (qpv 2)) (qpv 5) E8)))
    (A6 (C3 (B1 (C8 (K:=K) rfl hr.units) (qpv 4) C0 (C1 _))
     (A6 (C4 (qcK (G0 (K:=K) T) hr.mo (J4 T) (A0 (qix K (qMu (qpv 2)) (qpv 5)) (A0 (qpv 1) A3))) (G9 (qMu (qpv 2)) (qpv 5) E8)))
     (A6 (C4 (qcK (G7 (K:=K) T) hr.mo (K7 T) (A0 (qix K (qMu (qpv 3)) (qpv 5)) (A0 (qpv 1) A3))) (G9 (qMu (qpv 3)) (qpv 5) E8))))))))),?_⟩
 refine Pu.B0r h ?_;rintro xs ys zs p1 p2 Qp hpq ⟨h,q,is,os,o,a,b,rfl,rfl,rfl,hk,ho,ei,eo,sq,sa,sb,k1,k2,k3⟩;obtain ⟨kd,w,m⟩:=h;have ho:w=(o:Int):=ho;subst ho;rw [show hD (kd,(o:Int),m)=PyData.tuple [.str kd,.int (o:Int),dq m] from rfl];refine hd fun R hR=>?_;trivial;subst hR;trivial;have hk:kd="from"\/kd="till"\/kd="by":=hk;refine ⟨Hk.lay hk,by decide +kernel,ite2 (fun z=>?_) (fun z=>⟨Hk.lay hk,by decide +kernel,ite2 (fun y=>?_) (fun y=>?_)⟩)⟩
 ·have e:kd="from":=by rw [M4] at z; exact of_decide_eq_true z
  refine A9 ei ?_;trivial;refine ⟨_,_,rfl,sa,sq,?_⟩;trivial;refine ⟨o,N7 (o:=(o:Int)) (by omega) (by have:=(Zs ei).1; omega),?_⟩;rw [<- List.map_set];exact ⟨_,_,rfl,rfl,k1 e⟩
 ·have e:kd="till":=by rw [M4] at y; exact of_decide_eq_true y
  refine A9 ei ?_;trivial;refine ⟨_,_,rfl,sa,sq,?_⟩;trivial;refine ⟨o,N7 (o:=(o:Int)) (by omega) (by have:=(Zs ei).1; omega),?_⟩;rw [<- List.map_set];exact ⟨_,_,rfl,rfl,k2 e⟩
 ·have e:kd="by":=by
   rcases hk with h | h | h
   ·exact absurd (by rw [M4]; exact Zk h) z
   ·exact absurd (by rw [M4]; exact Zk h) y
   ·exact h
  refine A9 eo ?_;trivial;refine ⟨_,_,rfl,sb,sq,?_⟩;trivial;refine ⟨o,N7 (o:=(o:Int)) (by omega) (by have:=(Zs eo).1; omega),?_⟩;rw [<- List.map_set];exact ⟨_,_,rfl,rfl,k3 e⟩
def A68:Pu.PSp:=fun as Q=>∃ (xs:List Wk) (ws:LW) (hs:LH) (gs:LP) (pa:List ((Str × Int) × Rat)),as=[.d (netD xs ws hs gs),.d (.list (pa.map paD))]/\NP xs.length ws hs/\PB xs.length (vsO ws) (usO hs) pa/\Q (.d (.tuple [.list (((List.range xs.length).map (FI xs.length (vsO ws) (usO hs) pa)).map dq),.list (((List.range xs.length).map (FO xs.length (vsO ws) (usO hs) pa)).map dq)]))
theorem A7g (T:Txt K mg D):FnOk P w K mg base CX0 5 D.a_bd D.d_bd ["net","paper"] (Pu.spOf K [.dat,.dat] A68):=by
 refine T.B.F_bd.ok sc_bd (Zz rfl) (fun cdv A outer s H vs Q E hr h=>?_);refine ⟨_,(QSs.out (A4 (R7 (i:=2) (j:=3) rfl sc_bd.nd rfl rfl (by decide) rfl rfl (A0 (qix K (qpv 0) A5) (A0 (qix K (qpv 0) A5) A3)) rfl)
   (A4 (C9 (i:=4) rfl sc_bd.nd rfl rfl (C5 ["work"] [none]) (D1 (K:=K) rfl (qix K (qpv 0) A5)) (fun _ _ _=>(qgc 0 ["work"])) (fun _ _ _=>D8) (fun _ _ _=>(J7 (v:=.ref D.k_NOUGHT) rfl T.c_NOUGHT rfl)) rfl)
   (A4 (C9 (i:=5) rfl sc_bd.nd rfl rfl (C5 ["work"] [none]) (D1 (K:=K) rfl (qix K (qpv 0) A5)) (fun _ _ _=>(qgc 0 ["work"])) (fun _ _ _=>D8) (fun _ _ _=>(J7 (v:=.ref D.k_NOUGHT) rfl T.c_NOUGHT rfl)) rfl)
   (A4 (D3 Zf rfl (D1 (K:=K) rfl (qpv 1)) (B3 (K:=K) (n:=2) rfl rfl (A7 (B3 (K:=K) (n:=2) rfl rfl (A7 (qgn 6 sc_bd) (A7 (qgn 7 sc_bd) B2)) rfl rfl) (A7 (qgn 8 sc_bd) B2)) rfl rfl)
    (A6 (C3 (B1 (C8 (K:=K) rfl hr.units) (qpv 6) C0 (C1 _))
     (A6 (C4 (qcK (G7 (K:=K) T) hr.mo (K7 T) (A0 (qix K (qpv 4) (qpv 7)) (A0 (qpv 8) A3))) (G9 (qpv 4) (qpv 7) E8)))
     (A6 (C3 (B1 (C8 (K:=K) rfl hr.units) (qpv 6) C0 (C1 _))
      (A6 (C4 (qcK (G7 (K:=K) T) hr.mo (K7 T) (A0 (qix K (qpv 5) (qpv 7)) (A0 (qpv 8) A3))) (G9 (qpv 5) (qpv 7) E8)))
      (A6 (C3 (B1 (C8 (K:=K) rfl hr.units) (qpv 6) C0 (C1 _))
       (A4 (C4 (qix K (qpv 2) (qpv 7)) (B3 (K:=K) (n:=3) rfl rfl (A7 (qgn 9 sc_bd) (A7 (qgn 10 sc_bd) (A7 (qgn 11 sc_bd) B2))) rfl rfl))
       (A4 (C4 (qcK (G7 (K:=K) T) hr.mo (K7 T) (A0 (qix K (qpv 5) (qpv 9)) (A0 (qpv 8) A3))) (G9 (qpv 5) (qpv 9) E8))
       (A6 (C4 (qcK (G7 (K:=K) T) hr.mo (K7 T) (A0 (qix K (qpv 4) (qpv 10)) (A0 (qpv 8) A3))) (G9 (qpv 4) (qpv 10) E8)))))
       (A6 (D9 (qcK (A7h (K:=K) T) hr.mo (B1i T) (A0 (qix K (qpv 3) (qpv 7)) (A0 (qpv 8) (A0 (qpv 4) (A0 (qpv 5) A3))))))))))))))
   (A6 (B0 (B7 (A0 (qpv 4) (A0 (qpv 5) A3)))))))))),?_⟩
 haveI:=T.c2_NOUGHT
 refine Pu.D6 h ?_;rintro as Qp ⟨xs,ws,hs,gs,pa,rfl,np,pb,k⟩;have n1:=np.n1;have wl:=np.wl;have hl:=np.hl;have pl:=pb.ln;unfold netD;refine hd fun R hR=>?_;trivial;subst hR;refine hd fun R hR=>?_;trivial;refine ⟨by omega,F4 (f:=kD) (xs:=xs) (fun i e ys=>∃ o:Option SV,e=[o]/\ys=((List.range i).map fun _=>(0:Rat)).map dq) ⟨_,rfl,rfl⟩ ?_ ?_⟩
 ·rintro i x e ys hx ⟨o,rfl,rfl⟩;trivial;exact ⟨_,rfl,by rw [List.range_succ,Zc,Zc]; rfl⟩
 rintro e ys ⟨o,rfl,rfl⟩;trivial;subst hR;refine hd fun R hR=>?_;trivial;refine ⟨by omega,F4 (f:=kD) (xs:=xs) (fun i e ys=>∃ o:Option SV,e=[o]/\ys=((List.range i).map fun _=>(0:Rat)).map dq) ⟨_,rfl,rfl⟩ ?_ ?_⟩
 ·rintro i x e ys hx ⟨o,rfl,rfl⟩;trivial;exact ⟨_,rfl,by rw [List.range_succ,Zc,Zc]; rfl⟩
 rintro e ys ⟨o,rfl,rfl⟩;trivial;subst hR;refine hd fun R hR=>?_;trivial;have sm:∀ {f:Str × Int->Rat} {i:Nat},(∀ a,∃ z:Int,f a=(z:Rat)/\z.natAbs<=1)->SmQ 3900 (sA (pa.take i) f):=fun hf=>onL ((A8d (b:=51) (fun p hp=>(pb.ar p (List.mem_of_mem_take hp)).2.1) hf).mono (show _<=2 ^ 57 from Zx (Zu _ (show _<=64 by rw [List.length_take]; omega)) (by decide))) (by decide);refine K9 (f:=paD) (xs:=pa) (fun i e=>∃ (is os:LQ) (o6 o7 o8 o9 o10 o11:Option SV),e=[some (.d (.tuple [.list (xs.map kD),.list (ws.map wD),.list (hs.map hD),.list gs])),some (.d (.list (pa.map paD))),some (.d (.list (ws.map wD))),some (.d (.list (hs.map hD))),some (.own (is.map dq)),some (.own (os.map dq)),o6,o7,o8,o9,o10,o11]/\is=(List.range xs.length).map (FI xs.length (vsO ws) (usO hs) (pa.take i))/\os=(List.range xs.length).map (FO xs.length (vsO ws) (usO hs) (pa.take i))) ⟨_,_,_,_,_,_,_,_,rfl,rfl,rfl⟩ ?_ ?_
 ·rintro i p e hi ⟨is,os,o6,o7,o8,o9,o10,o11,rfl,hI,hO⟩;obtain ⟨h1,h2,h3⟩:=pb.ar p (Zm hi);have sq:SmQ 3900 p.2:=onL h2 (by decide);have sI:∀ v,SmQ 3900 (FI xs.length (vsO ws) (usO hs) (pa.take i) v):=fun v=>sm fun a=>(B26 a v).1;have sO:∀ v,SmQ 3900 (FO xs.length (vsO ws) (usO hs) (pa.take i) v):=fun v=>sm fun a=>(B26 a v).2;have li:is.length=xs.length:=by rw [hI]; simp
  have lo:os.length=xs.length:=by rw [hO]; simp
  have iI:∀ v,FI xs.length (vsO ws) (usO hs) (pa.take (i + 1)) v=FI xs.length (vsO ws) (usO hs) (pa.take i) v + p.2 * inA xs.length (vsO ws) (usO hs) p.1 v:=fun v=>A4e hi;have iO:∀ v,FO xs.length (vsO ws) (usO hs) (pa.take (i + 1)) v=FO xs.length (vsO ws) (usO hs) (pa.take i) v + p.2 * ofA xs.length (vsO ws) (usO hs) p.1 v:=fun v=>A4e hi;unfold inA at iI;unfold ofA at iO;generalize hF:FI xs.length (vsO ws) (usO hs) (pa.take i)=F at *;generalize hG:FO xs.length (vsO ws) (usO hs) (pa.take i)=G at *;generalize hF1:FI xs.length (vsO ws) (usO hs) (pa.take (i + 1))=F1 at *;generalize hG1:FO xs.length (vsO ws) (usO hs) (pa.take (i + 1))=G1 at *;have atI:∀ {o:Nat},o < xs.length->is[o]?=some (F o):=fun h=>by rw [hI]; exact A6z h
  have atO:∀ {o:Nat},o < xs.length->os[o]?=some (G o):=fun h=>by rw [hO]; exact A6z h
  have ixi:∀ {o:Nat},o < xs.length->ixN is.length (o:Int)=some o:=fun h=>N7 (o:=(_:Int)) (by omega) (by rw [li]; omega);have ixo:∀ {o:Nat},o < xs.length->ixN os.length (o:Int)=some o:=fun h=>N7 (o:=(_:Int)) (by omega) (by rw [lo]; omega);rcases M6 (ws:=ws) (hs:=hs) h1 rfl rfl (fun h hh=>(np.h h hh).1) with ⟨m,ea,hm,V⟩ | ⟨m,ea,hm,V⟩ | ⟨m,w,ea,ew,V⟩ | ⟨m,h,ea,eh,V⟩
  ·rw [V.h,V.l] at iI;rw [V.t,V.l] at iO;rw [show paD p=.tuple [.tuple [.str p.1.1,.int p.1.2],dq p.2] from rfl,ea];trivial;refine ⟨by decide +kernel,by decide +kernel,?_⟩;refine A9 (atI hm) ?_;trivial;refine ⟨_,_,rfl,sI m,sq,?_⟩;trivial;exact ⟨m,ixi hm,is.set m (F m + p.2),os,_,_,_,_,_,_,by rw [List.map_set],by rw [hI]; exact Y5 fun v hv=>by rw [iI v,if_neg (by decide),dl_m rfl],by rw [hO]; exact Y6 fun v hv=>by rw [iO v,if_neg (by decide),A3r hv]; grind⟩
  ·rw [V.h,V.l] at iI;rw [V.t,V.l] at iO;rw [show paD p=.tuple [.tuple [.str p.1.1,.int p.1.2],dq p.2] from rfl,ea];trivial;refine ⟨by decide +kernel,by decide +kernel,ite2 (fun h=>absurd h (by decide +kernel)) (fun _=>⟨by decide +kernel,by decide +kernel,?_⟩)⟩;refine A9 (atO hm) ?_;trivial;refine ⟨_,_,rfl,sO m,sq,?_⟩;trivial;exact ⟨m,ixo hm,is,os.set m (G m + p.2),_,_,_,_,_,_,by rw [List.map_set],by rw [hI]; exact Y6 fun v hv=>by rw [iI v,if_neg (by decide),A3r hv]; grind,by rw [hO]; exact Y5 fun v hv=>by rw [iO v,if_neg (by decide),A6k]⟩
  ·rw [V.h,V.l] at iI;rw [V.t,V.l] at iO;obtain ⟨⟨a0,a1⟩,⟨b0,b1⟩,_⟩:=np.w w (Zm ew);obtain ⟨wa,wb,wq⟩:=w;obtain ⟨wa,rfl⟩:=Zi (show 0<=wa from a0);obtain ⟨wb,rfl⟩:=Zi (show 0<=wb from b0);have la:wa < xs.length:=by have:(wa:Int) < (xs.length:Int):=a1; omega
   have lb:wb < xs.length:=by have:(wb:Int) < (xs.length:Int):=b1; omega
   rw [show paD p=.tuple [.tuple [.str p.1.1,.int p.1.2],dq p.2] from rfl,ea];trivial;refine ⟨by decide +kernel,by decide +kernel,ite2 (fun h=>absurd h (by decide +kernel)) (fun _=>⟨by decide +kernel,by decide +kernel,ite2 (fun h=>absurd h (by decide +kernel)) (fun _=>⟨by decide +kernel,by decide +kernel,?_⟩)⟩)⟩;refine A9 ew ?_;rw [show wD ((wa:Int),(wb:Int),wq)=PyData.tuple [.int (wa:Int),.int (wb:Int),dq wq] from rfl];trivial;refine A9 (atO la) ?_;trivial;refine ⟨_,_,rfl,sO wa,sq,?_⟩;trivial;refine ⟨wa,ixo la,?_⟩;refine A9 (atI lb) ?_;trivial;refine ⟨_,_,rfl,sI wb,sq,?_⟩;trivial;exact ⟨wb,ixi lb,is.set wb (F wb + p.2),os.set wa (G wa + p.2),_,_,_,_,_,_,by rw [List.map_set,List.map_set],by rw [hI]; exact Y5 fun v hv=>by rw [iI v,if_neg (by decide),dl_m rfl]; rfl,by rw [hO]; exact Y5 fun v hv=>by rw [iO v,if_neg (by decide),A6k]; rfl⟩
  ·obtain ⟨hk,⟨o0,o1⟩,_⟩:=np.h h (Zm eh);obtain ⟨kd,ho,hm⟩:=h;obtain ⟨ho,rfl⟩:=Zi (show 0<=ho from o0);have lo1:ho < xs.length:=by have:(ho:Int) < (xs.length:Int):=o1; omega
   rw [show paD p=.tuple [.tuple [.str p.1.1,.int p.1.2],dq p.2] from rfl,ea];trivial;refine ⟨by decide +kernel,by decide +kernel,ite2 (fun h=>absurd h (by decide +kernel)) (fun _=>⟨by decide +kernel,by decide +kernel,ite2 (fun h=>absurd h (by decide +kernel)) (fun _=>⟨by decide +kernel,by decide +kernel,ite2 (fun h=>absurd h (by decide +kernel)) (fun _=>?_)⟩)⟩)⟩;refine A9 eh ?_;trivial;refine ⟨by decide,(kd,(ho:Int),hm),p.2,is,os,ho,F ho,G ho,rfl,rfl,rfl,hk,rfl,atI lo1,atO lo1,sq,sI ho,sO ho,fun e=>?_,fun e=>?_,fun e=>?_⟩
   ·have e:kd="from":=e;rcases V with ⟨_,V⟩ | ⟨z,_⟩ | ⟨z,_⟩
    ·rw [V.h,V.l] at iI;rw [V.t,V.l] at iO;exact ⟨_,_,_,_,_,_,_,_,rfl,by rw [hI]; exact Y5 fun v hv=>by rw [iI v,if_neg (by decide),dl_m rfl]; rfl,by rw [hO]; exact Y6 fun v hv=>by rw [iO v,if_neg (by decide),A3r hv]; grind⟩
    ·exact absurd (e.symm.trans z) w_ft
    ·exact absurd (z.symm.trans e) w_bf
   ·have e:kd="till":=e;rcases V with ⟨z,_⟩ | ⟨_,V⟩ | ⟨z,_⟩
    ·exact absurd (z.symm.trans e) w_ft
    ·rw [V.h,V.t,V.l] at iI;rw [V.t,V.l] at iO;refine ⟨_,_,_,_,_,_,_,_,rfl,?_,by rw [hO]; exact Y6 fun v hv=>by rw [iO v,if_pos rfl]; grind⟩;rw [hI,show F ho - p.2=F ho + (-p.2) by grind];refine Y5 fun v hv=>?_;rw [iI v,if_pos rfl,A3r hv];show F v + p.2 * (0 - dl ho v)=_;unfold dl;split <;> grind
    ·exact absurd (z.symm.trans e) w_bt
   ·have e:kd="by":=e;rcases V with ⟨z,_⟩ | ⟨z,_⟩ | ⟨_,V⟩
    ·exact absurd (e.symm.trans z) w_bf
    ·exact absurd (e.symm.trans z) w_bt
    ·rw [V.h,V.l] at iI;rw [V.t,V.l] at iO;exact ⟨_,_,_,_,_,_,_,_,rfl,by rw [hI]; exact Y6 fun v hv=>by rw [iI v,if_neg (by decide),A3r hv]; grind,by rw [hO]; exact Y5 fun v hv=>by rw [iO v,if_neg (by decide),A6k]; rfl⟩
 rintro e ⟨is,os,o6,o7,o8,o9,o10,o11,rfl,rfl,rfl⟩;rw [List.take_length];subst hR;trivial;exact k
def A28:Pu.PSp:=fun as Q=>∃ (xs:List Wk) (ws:LW) (hs:LH) (gs:LP) (pa:List ((Str × Int) × Rat)),as=[.d (netD xs ws hs gs),.d (.list (pa.map paD))]/\NP xs.length ws hs/\PB xs.length (vsO ws) (usO hs) pa/\Q (.d (.list (((List.range xs.length).map (FI xs.length (vsO ws) (usO hs) pa)).map dq)))
theorem W5 (T:Txt K mg D):FnOk P w K mg base CX0 6 D.a_ad D.d_ad ["net","paper"] (Pu.spOf K [.dat,.dat] A28):=by
 refine T.B.F_ad.ok sc_ad (Zz rfl) (fun cdv A outer s H vs Q E hr h=>?_);refine ⟨_,(QSs.out (A4 (D9 (qcK (A17 (K:=K) T) hr.mo (A37 T) (A0 (qpv 0) (A0 (qpv 1) A3))))
   (A4 (C4 (qcK (A7g (K:=K) T) hr.mo (B1h T) (A0 (qpv 0) (A0 (qpv 1) A3))) (B3 (K:=K) (n:=2) rfl rfl (A7 (qgn 2 sc_ad) (A7 (qgn 3 sc_ad) B2)) rfl rfl))
   (A4 (D3 Zf rfl (K3 (K:=K) rfl rfl T.z_enumerate (A0 (qpv 2) A3)) (B3 (K:=K) (n:=2) rfl rfl (A7 (qgn 4 sc_ad) (A7 (qgn 5 sc_ad) B2)) rfl rfl)
    (A6 (C3 (QW.pt (T4 (F8 (qcK (K4 (K:=K) T) hr.mo (M5 T) (A0 (qpv 5) (A0 (J7 (v:=.ref D.k_NOUGHT) rfl T.c_NOUGHT rfl) A3)))) (Q1 (B1 (N2 (K:=K) rfl hr.units) (qpv 5) (qix K (qpv 3) (qpv 4)) (C1 _)))))
     (A6 O2)
     B8)))
   (A6 (B0 (qpv 2))))))),?_⟩
 haveI:=T.c2_NOUGHT
 refine Pu.D6 h ?_;rintro as Qp ⟨xs,ws,hs,gs,pa,rfl,np,pb,k⟩;have n1:=np.n1;have pl:=pb.ln;refine hd fun R hR=>?_;trivial;refine ⟨xs,ws,hs,gs,pa,rfl,fun p hp=>?_,pb.nd,by omega,?_⟩
 ·obtain ⟨h1,h2,h3⟩:=pb.ar p hp;rw [Zl,Zl] at h1;exact ⟨h1,onL h2 (by decide),h3⟩
 trivial;subst hR;refine hd fun R hR=>?_;trivial;refine ⟨xs,ws,hs,gs,pa,rfl,np,pb,?_⟩;trivial;subst hR;refine hd fun R hR=>?_;trivial;have sI:∀ v,SmQ 3900 (FI xs.length (vsO ws) (usO hs) pa v):=fun v=>onL ((A8d (b:=51) (fun p hp=>(pb.ar p hp).2.1) fun a=>(B26 a v).1).mono (show _<=2 ^ 57 from Zx (Zu _ (show _<=64 by omega)) (by decide))) (by decide);refine M3 (f:=dq) (xs:=(List.range xs.length).map (FI xs.length (vsO ws) (usO hs) pa)) (fun i e=>∃ o4 o5:Option SV,e=[some (.d (netD xs ws hs gs)),some (.d (.list (pa.map paD))),some (.d (.list (((List.range xs.length).map (FI xs.length (vsO ws) (usO hs) pa)).map dq))),some (.d (.list (((List.range xs.length).map (FO xs.length (vsO ws) (usO hs) pa)).map dq))),o4,o5]) ⟨_,_,rfl⟩ ?_ ?_
 ·rintro i x e hx ⟨o4,o5,rfl⟩;have hil:i < xs.length:=by have:=(Zs hx).1; rwa [List.length_map,List.length_range] at this
  have ex:x=FI xs.length (vsO ws) (usO hs) pa i:=by rw [A6z hil] at hx; exact (Zj hx).symm
  have e2:=pb.eq hil;have nn:¬ x < 0:=by rw [ex,e2]; exact Rat.not_lt.mpr pb.nn
  trivial;refine ⟨x,0,rfl,by rw [ex]; exact sI i,smq0,?_⟩;rw [Zd nn];trivial;refine A9 (f:=dq) (n:=i) (A6z hil) ?_;rw [<- e2,<- ex];trivial;exact ⟨_,_,rfl⟩
 rintro e ⟨o4,o5,rfl⟩;subst hR;trivial;exact k
def A8o:Pu.PSp:=fun as Q=>∃ (n v u:Nat) (pa:List ((Str × Int) × Rat)),as=[.d (.list (pa.map paD))]/\pa.length<=48/\(∀ p ∈ pa,ArOk n v u p.1/\On LL (2 ^ 51) p.2)/\Q (.d (dq (sA pa rtA)))
theorem A9f (T:Txt K mg D):FnOk P w K mg base CX0 4 D.a_d6 D.d_d6 ["paper"] (Pu.spOf K [.dat] A8o):=by
 refine T.B.F_d6.ok sc_d6 (Zz rfl) (fun cdv A outer s H vs Q E hr h=>?_);refine ⟨_,(QSs.out (A6 (B0 (qcK (A16 (K:=K) T) hr.mo (A46 T) (A0 (J8 rfl (C5 ["word","number","amount"] [none,none,none]) (D1 (K:=K) rfl (qpv 0)) (fun _ _ _=>(B3 (K:=K) (n:=2) rfl rfl (A7 (B3 (K:=K) (n:=2) rfl rfl (A7 (qgc 0 ["word","number","amount"]) (A7 (qgc 1 ["word","number","amount"]) B2)) rfl rfl) (A7 (qgc 2 ["word","number","amount"]) B2)) rfl rfl)) (fun _ _ _=>(Q9 (B1 (C8 (K:=K) rfl hr.units) (qpv 0) C0 (C1 _)))) (fun _ _ _=>(qpv 2))) A3))))),?_⟩;refine Pu.D6 h ?_;rintro as Qp ⟨n,v,u,pa,rfl,pl,ar,k⟩;have el:∀ {pa:List ((Str × Int) × Rat)},(A00 pa).length<=pa.length:=fun {pa}=>by unfold A00; rw [Zl]; exact List.length_filter_le _ _
 have eo:∀ q ∈ A00 pa,On LL (2 ^ 51) q:=fun q hq=>by
  obtain ⟨p,hp,rfl⟩:=List.mem_map.mp hq;exact (ar p (List.mem_filter.mp hp).1).2
 trivial;refine ⟨by omega,F4 (f:=paD) (xs:=pa) (fun i e ys=>∃ o1 o2 o3:Option SV,e=[o1,o2,o3]/\ys=(A00 (pa.take i)).map dq) ⟨_,_,_,rfl,rfl⟩ ?_ ?_⟩
 ·rintro i p e ys hi ⟨o1,o2,o3,rfl,rfl⟩;obtain ⟨h1,h2⟩:=ar p (Zm hi);rw [show paD p=.tuple [.tuple [.str p.1.1,.int p.1.2],dq p.2] from rfl];trivial;refine ⟨h1.wl,by decide +kernel,ite2 (fun z=>?_) (fun z=>?_)⟩
  ·rw [M4] at z;exact ⟨_,_,_,rfl,by rw [A3q hi,if_pos (of_decide_eq_true z),Zc]; rfl⟩
  ·exact ⟨_,_,_,rfl,by rw [A3q hi,if_neg (fun e=>z (by rw [M4]; exact Zk e)),List.append_nil]⟩
 rintro e ys ⟨o1,o2,o3,rfl,rfl⟩;rw [List.take_length];trivial;refine ⟨A00 pa,rfl,fun i=>?_,fun q hq=>onL (eo q hq) (by decide),?_⟩
 ·have:=el (pa:=pa);exact onL ((S_on C7 fun q hq=>eo q (List.mem_of_mem_take hq)).mono (show _<=2 ^ 57 from Zx (Zu _ (show _<=64 by rw [List.length_take]; omega)) (by decide))) (by decide)
 ·rw [B4w]; exact k
def A0u:Pu.PSp:=fun as Q=>∃ (xs:List Wk) (ws:LW) (hs:LH) (gs:LP) (pa:List ((Str × Int) × Rat)),as=[.d (netD xs ws hs gs),.d (.list (pa.map paD))]/\NP xs.length ws hs/\PB xs.length (vsO ws) (usO hs) pa/\Q (.d .none)
theorem A0y (T:Txt K mg D):FnOk P w K mg base CX0 7 D.a_a6 D.d_a6 ["net","thing"] (Pu.spOf K [.dat,.dat] A0u):=by
 refine T.B.F_a6.ok sc_a6 (Zz rfl) (fun cdv A outer s H vs Q E hr h=>?_);refine ⟨_,(QSs.out (A6 (D9 (qcK (W5 (K:=K) T) hr.mo (A0q T) (A0 (qpv 0) (A0 (qpv 1) A3)))))),?_⟩;refine Pu.D6 h ?_;rintro as Qp ⟨xs,ws,hs,gs,pa,rfl,np,pb,k⟩;trivial;refine ⟨xs,ws,hs,gs,pa,rfl,np,pb,?_⟩;trivial;exact k
def B15:Pu.PSp:=fun as Q=>∃ p:Rat × Rat,as=[.d (dcn p)]/\PlSm p/\Q (.d (dq (enD p)))
theorem X7 (T:Txt K mg D):FnOk P w K mg base CX0 3 D.a_de D.d_de ["step"] (Pu.spOf K [.dat] B15):=by
 refine T.B.F_de.ok sc_de (Zz rfl) (fun cdv A outer s H vs Q E hr h=>?_);refine ⟨_,(QSs.out (A6 (B0 (qcK (G7 (K:=K) T) hr.mo (K7 T) (A0 (qix K (qpv 0) A5) (A0 (qix K (qpv 0) A5) A3)))))),?_⟩;refine Pu.D6 h ?_;rintro as Qp ⟨p,rfl,hp,k⟩;trivial;exact ⟨p.1,p.2,rfl,hp.s,hp.t,k⟩
def A20:Pu.PSp:=fun as Q=>∃ (w:Int × Int × Rat) (ps:LR),as=[.d (wD w),.bor (ps.map dcn)]/\(0<=w.1/\w.1 < (ps.length:Int))/\(0<=w.2.1/\w.2.1 < (ps.length:Int))/\PlSm (sat ps w.1)/\PlSm (sat ps w.2.1)/\SmQ 3900 w.2.2/\SmQ 3900 (enD (sat ps w.1) + w.2.2)/\Q (.d (dq (wSl ps w)))
theorem W2 (T:Txt K mg D):FnOk P w K mg base CX0 4 D.a_b5 D.d_b5 ["wait","plan"] (Pu.spOf K [.dat,.vw] A20):=by
 refine T.B.F_b5.ok sc_b5 (Zz rfl) (fun cdv A outer s H vs Q E hr h=>?_);refine ⟨_,(QSs.out (A4 (C4 (qpv 0) (B3 (K:=K) (n:=3) rfl rfl (A7 (qgn 2 sc_b5) (A7 (qgn 3 sc_b5) (A7 (qgn 4 sc_b5) B2))) rfl rfl))
   (A6 (B0 (qcK (G0 (K:=K) T) hr.mo (J4 T) (A0 (qix K (qix K (qpv 1) (qpv 3)) A5) (A0 (qcK (G7 (K:=K) T) hr.mo (K7 T) (A0 (qcK (X7 (K:=K) T) hr.mo (A2m T) (A0 (qix K (qpv 1) (qpv 2)) A3)) (A0 (qpv 4) A3))) A3))))))),?_⟩
 refine Pu.D6 h ?_;rintro as Qp ⟨⟨a,b,l⟩,ps,rfl,ha,hb,pa,pb,sl,se,k⟩;have ea:=A5q ha.1 ha.2;have eb:=A5q hb.1 hb.2;unfold wD;trivial;refine D4 eb ?_;trivial;refine D4 ea ?_;trivial;refine ⟨_,rfl,pa,?_⟩;trivial;refine ⟨_,_,rfl,pa.e,sl,?_⟩;trivial;exact ⟨_,_,rfl,pb.s,se,k⟩
def A27:Pu.PSp:=fun as Q=>∃ (h:Str × Int × Rat) (ps:LR),as=[.d (hD h),.bor (ps.map dcn)]/\Hk h.1/\(0<=h.2.1/\h.2.1 < (ps.length:Int))/\PlSm (sat ps h.2.1)/\SmQ 3900 h.2.2/\Q (.d (dq (hSl ps h)))
theorem W4 (T:Txt K mg D):FnOk P w K mg base CX0 4 D.a_ae D.d_ae ["hold","plan"] (Pu.spOf K [.dat,.vw] A27):=by
 refine T.B.F_ae.ok sc_ae (Zz rfl) (fun cdv A outer s H vs Q E hr h=>?_);refine ⟨_,(QSs.out (A4 (C4 (qpv 0) (B3 (K:=K) (n:=3) rfl rfl (A7 (qgn 2 sc_ae) (A7 (qgn 3 sc_ae) (A7 (qgn 4 sc_ae) B2))) rfl rfl))
   (A4 (C3 (B1 (C8 (K:=K) rfl hr.units) (qpv 2) C0 (C1 _))
    (A6 (B0 (qcK (G0 (K:=K) T) hr.mo (J4 T) (A0 (qix K (qix K (qpv 1) (qpv 3)) A5) (A0 (qpv 4) A3)))))
    B8)
   (A4 (C3 (B1 (C8 (K:=K) rfl hr.units) (qpv 2) C0 (C1 _))
    (A6 (B0 (qcK (G0 (K:=K) T) hr.mo (J4 T) (A0 (qpv 4) (A0 (qix K (qix K (qpv 1) (qpv 3)) A5) A3)))))
    B8)
   (A6 (B0 (qcK (G0 (K:=K) T) hr.mo (J4 T) (A0 (qpv 4) (A0 (qcK (X7 (K:=K) T) hr.mo (A2m T) (A0 (qix K (qpv 1) (qpv 3)) A3)) A3))))))))),?_⟩
 refine Pu.D6 h ?_;rintro as Qp ⟨⟨kd,b,l⟩,ps,rfl,hk,hb,pb,sl,k⟩;have eb:=A5q hb.1 hb.2;unfold hD;trivial;refine ⟨hk.lay,A95,?_⟩;rcases hk with hk | hk | hk
 ·have hk':kd="from":=hk;subst hk';rw [B4r,if_pos rfl];refine D4 eb ?_;trivial;exact ⟨_,_,rfl,pb.s,sl,k⟩
 ·have hk':kd="till":=hk;subst hk';rw [B4o,if_neg (by decide)];refine ⟨A1f,A1f,?_⟩;rw [B4q,if_pos rfl];refine D4 eb ?_;trivial;refine ⟨_,_,rfl,sl,pb.s,?_⟩;unfold hSl at k;rw [if_neg B8c,if_pos rfl] at k;exact k
 ·have hk':kd="by":=hk;subst hk';rw [B4u,if_neg (by decide)];refine ⟨by decide +kernel,A1f,?_⟩;rw [B4t,if_neg (by decide)];refine D4 eb ?_;trivial;refine ⟨_,rfl,pb,?_⟩;trivial;refine ⟨_,_,rfl,sl,pb.e,?_⟩;unfold hSl at k;rw [if_neg B8e,if_neg B8d] at k;exact k
def A1z:Pu.PSp:=fun as Q=>∃ (w:Str) (qs:LQ),as=[.d (.str w),.bor (qs.map dq)]/\qs.length<=1000/\(∀ q ∈ qs,SmQ 3900 q/\¬ q < 0)/\Q (.d .none)
theorem M2 (T:Txt K mg D):FnOk P w K mg base CX0 2 D.a_ab D.d_ab ["word","slacks"] (Pu.spOf K [.dat,.vw] A1z):=by
 refine T.B.F_ab.ok sc_ab (Zz rfl) (fun cdv A outer s H vs Q E hr h=>?_);refine ⟨_,(QSs.out (A4 (D3 Zf rfl (K3 (K:=K) rfl rfl T.z_enumerate (A0 (qpv 1) A3)) (B3 (K:=K) (n:=2) rfl rfl (A7 (qgn 2 sc_ab) (A7 (qgn 3 sc_ab) B2)) rfl rfl)
    (A6 (C3 (F8 (qcK (K4 (K:=K) T) hr.mo (M5 T) (A0 (qpv 3) (A0 (J7 (v:=.ref D.k_NOUGHT) rfl T.c_NOUGHT rfl) A3))))
     (A6 (B0 (B7 (A0 (qpv 0) (A0 (qpv 2) A3)))))
     B8)))
   (A6 (B0 F2)))),?_⟩
 haveI:=T.c2_NOUGHT
 refine Pu.D6 h ?_;rintro as Qp ⟨w,qs,rfl,hl,hs,k⟩;trivial;refine M3 (f:=dq) (xs:=qs) (fun i e=>∃ o1 o2:Option SV,e=[some (.d (.str w)),some (.bor (qs.map dq)),o1,o2]) ⟨_,_,rfl⟩ ?_ ?_
 ·rintro i q e hq ⟨o1,o2,rfl⟩;obtain ⟨s1,s2⟩:=hs q (Zm hq);trivial;refine ⟨q,0,rfl,s1,smq0,?_⟩;trivial;exact ite2 (fun h=>absurd h s2) (fun _=>⟨_,_,rfl⟩)
 ·rintro e ⟨o1,o2,rfl⟩;trivial;exact k
def Y8:Pu.PSp:=fun as Q=>∃ (xs:List Wk) (ps:LR),as=[.d (.list (xs.map kD)),.d (.list []),.d (.list (ps.map dcn))]/\xs.length=ps.length/\xs.length<=10/\(∀ x ∈ xs,Kd x.2.1/\OfOk x.2.2 100 54 244 130)/\(∀ p ∈ ps,SmQ 3900 p.2)/\(∀ (j:Nat) x p,xs[j]?=some x->ps[j]?=some p->offB x.2.1 x.2.2 p.2=true)/\Q (.d .none)
theorem Z8 (T:Txt K mg D):FnOk P w K mg base CX0 3 D.a_a4 D.d_a4 ["works","groups","plan"] (Pu.spOf K [.dat,.dat,.dat] Y8):=by
 refine T.B.F_a4.ok sc_a4 (Zz rfl) (fun cdv A outer s H vs Q E hr h=>?_);refine ⟨_,(QSs.out (A4 (D3 Zf rfl (K3 (K:=K) rfl rfl T.z_enumerate (A0 (qpv 0) A3)) (B3 (K:=K) (n:=2) rfl rfl (A7 (qgn 3 sc_a4) (A7 (qgn 4 sc_a4) B2)) rfl rfl)
    (A6 (C3 (M9 (F8 (qcK (W3 (K:=K) T) hr.mo (A0n T) (A0 (qix K (qpv 4) A5) (A0 (qix K (qix K (qpv 2) (qpv 3)) A5) A3)))))
     (A6 (B0 (B7 (A0 C0 (A0 (qpv 3) A3)))))
     B8)))
   (A4 (D3 Zf rfl (K3 (K:=K) rfl rfl T.z_enumerate (A0 (qpv 1) A3)) (B3 (K:=K) (n:=2) rfl rfl (A7 (qgn 3 sc_a4) (A7 (qgn 5 sc_a4) B2)) rfl rfl)
    (A6 O2))
   (A6 (B0 F2))))),?_⟩
 refine Pu.D6 h ?_;rintro as Qp ⟨xs,ps,rfl,hl,h10,hx,hp,ho,k⟩;refine hd fun R hR=>?_;trivial;refine M3 (f:=kD) (xs:=xs) (fun i e=>∃ o1 o2 o3:Option SV,e=[some (.d (.list (xs.map kD))),some (.d (.list [])),some (.d (.list (ps.map dcn))),o1,o2,o3]) ⟨_,_,_,rfl⟩ ?_ ?_
 ·rintro i q e hq ⟨o1,o2,o3,rfl⟩;have hi:i < ps.length:=by rw [<- hl]; exact (Zs hq).1
  have hpi:ps[i]?=some ps[i]:=Zg hi;obtain ⟨hkq,hoq⟩:=hx q (Zm hq);rw [show kD q=PyData.tuple [.str q.1,offD q.2.1 q.2.2] from rfl];trivial;refine A9 (n:=i) hpi ?_;trivial;refine ⟨_,_,_,rfl,hkq,hoq,hp _ (Zm hpi),?_⟩;rw [ho i q _ hq hpi];trivial;exact ⟨_,_,_,rfl⟩
 ·rintro e ⟨o1,o2,o3,rfl⟩;subst hR;trivial;refine M3 (f:=fun x:PyData=>x) (xs:=[]) (fun i e=>∃ o1 o2 o3:Option SV,e=[some (.d (.list (xs.map kD))),some (.d (.list [])),some (.d (.list (ps.map dcn))),o1,o2,o3]) ⟨_,_,_,rfl⟩ ?_ ?_
  ·rintro i q e hq;cases hq
  ·rintro e ⟨o1,o2,o3,rfl⟩;trivial;exact k
def A0v:Pu.PSp:=fun as Q=>∃ (xs:List Wk) (ws:LW) (hs:LH) (ps:LR) (v:Rat) (B a:Nat),as=[.d (netD xs ws hs []),.d (.list (ps.map dcn)),.d (dq v)]/\xs.length=ps.length/\(∀ x ∈ xs,Kd x.2.1/\OfOk x.2.2 100 54 244 130)/\(∀ (j:Nat) x p,xs[j]?=some x->ps[j]?=some p->offB x.2.1 x.2.2 p.2=true)/\PSz B a ws hs ps/\On B (2 ^ (a + 1)) v/\Kps ws hs ps (some v)/\Q (.d .none)
theorem A0z (T:Txt K mg D):FnOk P w K mg base CX0 5 D.a_a5 D.d_a5 ["net","plan","whole"] (Pu.spOf K [.dat,.dat,.dat] A0v):=by
 refine T.B.F_a5.ok sc_a5 (Zz rfl) (fun cdv A outer s H vs Q E hr h=>?_);refine ⟨_,(QSs.out (A4 (C4 (qpv 0) (B3 (K:=K) (n:=4) rfl rfl (A7 (qgn 3 sc_a5) (A7 (qgn 4 sc_a5) (A7 (qgn 5 sc_a5) (A7 (qgn 6 sc_a5) B2)))) rfl rfl))
   (A4 (qst 7 sc_a5 (qcK (Z8 (K:=K) T) hr.mo (A01 T) (A0 (qpv 3) (A0 (qpv 6) (A0 (qpv 1) A3)))))
   (A4 (C3 (B1 R9 (qpv 7) F2 (C1 _))
    (A6 (qst 7 sc_a5 (qcK (M2 (K:=K) T) hr.mo (N9 T) (A0 C0 (A0 (J8 rfl (C5 ["start","time"] [none,none]) (D1 (K:=K) rfl (qpv 1)) (fun _ _ _=>(B3 (K:=K) (n:=2) rfl rfl (A7 (qgc 0 ["start","time"]) (A7 (qgc 1 ["start","time"]) B2)) rfl rfl)) (fun _ _ _=>D8) (fun _ _ _=>(qpv 0))) A3)))))
    B8)
   (A4 (C3 (B1 R9 (qpv 7) F2 (C1 _))
    (A6 (qst 7 sc_a5 (qcK (M2 (K:=K) T) hr.mo (N9 T) (A0 C0 (A0 (J8 rfl (C5 ["plan","wait"] [some 1,none]) (D1 (K:=K) rfl (qpv 4)) (fun _ _ _=>(qgc 1 ["plan","wait"])) (fun _ _ _=>D8) (fun _ _ _=>(qcK (W2 (K:=K) T) hr.mo (A0k T) (A0 (qpv 1) (A0 (qpv 0) A3))))) A3)))))
    B8)
   (A4 (C3 (B1 R9 (qpv 7) F2 (C1 _))
    (A6 (qst 7 sc_a5 (qcK (M2 (K:=K) T) hr.mo (N9 T) (A0 C0 (A0 (J8 rfl (C5 ["plan","hold"] [some 1,none]) (D1 (K:=K) rfl (qpv 5)) (fun _ _ _=>(qgc 1 ["plan","hold"])) (fun _ _ _=>D8) (fun _ _ _=>(qcK (W4 (K:=K) T) hr.mo (A0p T) (A0 (qpv 1) (A0 (qpv 0) A3))))) A3)))))
    B8)
   (A4 (C3 (QW.pt (V1 (B1 R9 (qpv 7) F2 (C1 _)) (T5 (B1 O9 (qpv 2) F2 (C1 _)))))
    (A6 (qst 7 sc_a5 (qcK (M2 (K:=K) T) hr.mo (N9 T) (A0 C0 (A0 (J8 rfl (C5 ["whole","step"] [some 2,none]) (D1 (K:=K) rfl (qpv 1)) (fun _ _ _=>(qgc 1 ["whole","step"])) (fun _ _ _=>D8) (fun _ _ _=>(qcK (G0 (K:=K) T) hr.mo (J4 T) (A0 (qpv 0) (A0 (qcK (X7 (K:=K) T) hr.mo (A2m T) (A0 (qpv 1) A3)) A3))))) A3)))))
    B8)
   (A6 (B0 (qpv 7)))))))))),?_⟩
 refine Pu.D6 h ?_;rintro as Qp ⟨xs,ws,hs,ps,v,B,a,rfl,hl,hx,ho,ok,ov,K,k⟩;have pl:=ok.ln;have wl:=ok.wl;have hll:=ok.hl;have pm:∀ p ∈ ps,PlSm p:=fun p hp=>⟨ok.sm (ok.p p hp).1 (by omega),ok.sm (ok.p p hp).2 (by omega),ok.sm ((ok.p p hp).1.add2 (b:=a + 1) ok.b0 (ok.p p hp).2 (by omega)) (by omega)⟩;have nl:∀ {q:Rat},0<=q->¬ q < 0:=fun h=>Rat.not_lt.mpr h;unfold netD;refine hd fun R hR=>?_;trivial;subst hR;refine hd fun R hR=>?_;trivial;refine ⟨xs,ps,rfl,hl,by omega,hx,fun p hp=>(pm p hp).t,ho,?_⟩;trivial;subst hR;refine hd fun R hR=>?_;trivial;refine ⟨by omega,F4 (f:=dcn) (xs:=ps) (fun i e ys=>∃ o1 o2:Option SV,e=[o1,o2]/\ys=((ps.map (·.1)).take i).map dq) ⟨_,_,rfl,rfl⟩ ?_ ?_⟩
 ·rintro i p e ys hp ⟨o1,o2,rfl,rfl⟩;trivial;refine ⟨_,_,rfl,?_⟩;rw [List.take_add_one,Zh,hp,Zc]; rfl
 rintro e ys ⟨o1,o2,rfl,rfl⟩;rw [show (ps.map (·.1)).take ps.length=ps.map (·.1) from List.take_of_length_le (by rw [Zl]; exact Zv _)];trivial;refine ⟨"start",ps.map (·.1),rfl,by rw [Zl]; omega,fun q hq=>?_,?_⟩
 ·obtain ⟨p,hp,rfl⟩:=List.mem_map.mp hq;exact ⟨(pm p hp).s,nl (K.s p hp)⟩
 trivial;subst hR;refine hd fun R hR=>?_;trivial;refine ⟨by omega,F4 (f:=wD) (xs:=ws) (fun i e ys=>∃ o:Option SV,e=[some (.d (.list (ps.map dcn))),o]/\ys=((ws.map (wSl ps)).take i).map dq) ⟨_,rfl,rfl⟩ ?_ ?_⟩
 ·rintro i w e ys hw ⟨o,rfl,rfl⟩;have hm:=Zm hw;obtain ⟨w1,w2,w3⟩:=ok.w w hm;trivial;refine ⟨w,ps,rfl,w1,w2,pm _ (U9 w1.1 w1.2),pm _ (U9 w2.1 w2.2),ok.sm w3 (by omega),ok.sm (ok.wS hm).2 (by omega),?_⟩;trivial;refine ⟨_,rfl,?_⟩;rw [List.take_add_one,Zh,hw,Zc]; rfl
 rintro e ys ⟨o,rfl,rfl⟩;rw [show (ws.map (wSl ps)).take ws.length=ws.map (wSl ps) from List.take_of_length_le (by rw [Zl]; exact Zv _)];trivial;refine ⟨"wait",ws.map (wSl ps),rfl,by rw [Zl]; omega,fun q hq=>?_,?_⟩
 ·obtain ⟨w,hw,rfl⟩:=List.mem_map.mp hq;exact ⟨ok.sm (ok.wS hw).1 (by omega),nl (K.w w hw)⟩
 trivial;subst hR;refine hd fun R hR=>?_;trivial;refine ⟨by omega,F4 (f:=hD) (xs:=hs) (fun i e ys=>∃ o:Option SV,e=[some (.d (.list (ps.map dcn))),o]/\ys=((hs.map (hSl ps)).take i).map dq) ⟨_,rfl,rfl⟩ ?_ ?_⟩
 ·rintro i h e ys hh ⟨o,rfl,rfl⟩;have hm:=Zm hh;obtain ⟨w1,w2,w3⟩:=ok.h h hm;trivial;refine ⟨h,ps,rfl,w1,w2,pm _ (U9 w2.1 w2.2),ok.sm w3 (by omega),?_⟩;trivial;refine ⟨_,rfl,?_⟩;rw [List.take_add_one,Zh,hh,Zc]; rfl
 rintro e ys ⟨o,rfl,rfl⟩;rw [show (hs.map (hSl ps)).take hs.length=hs.map (hSl ps) from List.take_of_length_le (by rw [Zl]; exact Zv _)];trivial;refine ⟨"hold",hs.map (hSl ps),rfl,by rw [Zl]; omega,fun q hq=>?_,?_⟩
 ·obtain ⟨h,hh,rfl⟩:=List.mem_map.mp hq;exact ⟨ok.sm (ok.hS hh) (by omega),nl (K.h h hh)⟩
 trivial;subst hR;refine hd fun R hR=>?_;trivial;refine ⟨by omega,F4 (f:=dcn) (xs:=ps) (fun i e ys=>∃ o:Option SV,e=[some (.d (dq v)),o]/\ys=((ps.map fun p=>v - enD p).take i).map dq) ⟨_,rfl,rfl⟩ ?_ ?_⟩
 ·rintro i p e ys hp ⟨o,rfl,rfl⟩;have pp:=pm p (Zm hp);trivial;refine ⟨p,rfl,pp,?_⟩;trivial;refine ⟨v,enD p,rfl,ok.sm ov (by omega),pp.e,?_⟩;trivial;refine ⟨_,rfl,?_⟩;rw [List.take_add_one,Zh,hp,Zc]; rfl
 rintro e ys ⟨o,rfl,rfl⟩;rw [show (ps.map fun p=>v - enD p).take ps.length=ps.map fun p=>v - enD p from List.take_of_length_le (by rw [Zl]; exact Zv _)];trivial;refine ⟨"whole",ps.map (fun p=>v - enD p),rfl,by rw [Zl]; omega,fun q hq=>?_,?_⟩
 ·obtain ⟨p,hp,rfl⟩:=List.mem_map.mp hq;exact ⟨ok.sm (ov.sub2 (b:=a + 2) ok.b0 ((ok.p p hp).1.add2 (b:=a + 1) ok.b0 (ok.p p hp).2 (by omega)) (by omega)) (by omega),nl (by have:=K.e v rfl p hp; grind)⟩
 trivial;subst hR;trivial;exact k
def A4j:Pu.PSp:=fun as Q=>∃ (xs:List Wk) (ws:LW) (hs:LH) (gs:LP) (pa:List ((Str × Int) × Rat)),as=[.d (netD xs ws hs gs),.d (.list (pa.map paD))]/\NP xs.length ws hs/\pa.length<=48/\(∀ p ∈ pa,ArOk xs.length (vsO ws).length (usO hs).length p.1/\On LL (2 ^ 51) p.2)/\Q (.d (dq (sA pa (wtA ws hs))))
theorem A4o (T:Txt K mg D):FnOk P w K mg base CX0 4 D.a_ba D.d_ba ["net","paper"] (Pu.spOf K [.dat,.dat] A4j):=by
 refine T.B.F_ba.ok sc_ba (Zz rfl) (fun cdv A outer s H vs Q E hr h=>?_);refine ⟨_,(QSs.out (A4 (R7 (i:=2) (j:=3) rfl sc_ba.nd rfl rfl (by decide) rfl rfl (A0 (qix K (qpv 0) A5) (A0 (qix K (qpv 0) A5) A3)) rfl)
   (A4 (qst 4 sc_ba (J7 (v:=.ref D.k_NOUGHT) rfl T.c_NOUGHT rfl))
   (A4 (D3 Zf rfl (D1 (K:=K) rfl (qpv 1)) (B3 (K:=K) (n:=2) rfl rfl (A7 (B3 (K:=K) (n:=2) rfl rfl (A7 (qgn 5 sc_ba) (A7 (qgn 6 sc_ba) B2)) rfl rfl) (A7 (qgn 7 sc_ba) B2)) rfl rfl)
    (A6 (C3 (B1 (C8 (K:=K) rfl hr.units) (qpv 5) C0 (C1 _))
     (A6 (qst 4 sc_ba (qcK (G7 (K:=K) T) hr.mo (K7 T) (A0 (qpv 4) (A0 (qcK (K8 (K:=K) T) hr.mo (N6 T) (A0 (qpv 7) (A0 (qix K (qix K (qpv 2) (qpv 6)) A5) A3))) A3)))))
     (A6 (C3 (B1 (C8 (K:=K) rfl hr.units) (qpv 5) C0 (C1 _))
      (A4 (C4 (qix K (qpv 3) (qpv 6)) (B3 (K:=K) (n:=3) rfl rfl (A7 (qgn 8 sc_ba) (A7 (qgn 9 sc_ba) (A7 (qgn 10 sc_ba) B2))) rfl rfl))
      (A4 (qst 11 sc_ba (qcK (K8 (K:=K) T) hr.mo (N6 T) (A0 (qpv 7) (A0 (qpv 10) A3))))
      (A6 (qst 4 sc_ba (Y7 (B1 (C8 (K:=K) rfl hr.units) (qpv 8) C0 (C1 _)) (qcK (G7 (K:=K) T) hr.mo (K7 T) (A0 (qpv 4) (A0 (qpv 11) A3))) (qcK (G0 (K:=K) T) hr.mo (J4 T) (A0 (qpv 4) (A0 (qpv 11) A3))))))))
      B8)))))
   (A6 (B0 (qpv 4))))))),?_⟩
 haveI:=T.c2_NOUGHT
 refine Pu.D6 h ?_;rintro as Qp ⟨xs,ws,hs,gs,pa,rfl,np,pl,ar,k⟩;unfold netD;refine hd fun R hR=>?_;trivial;subst hR;refine hd fun R hR=>?_;trivial;subst hR;refine hd fun R hR=>?_;trivial;have B5:0 < LL * (LL * 4):=by decide
 have B6:LL * (LL * 4)<=2 ^ 1000:=L1 (a:=200) (by decide +kernel) (by decide);have sA':∀ {i:Nat} {A:Rat},i<=64->On (LL * (LL * 4)) (i * 2 ^ 109) A->SmQ 3900 A:=fun hi h=>onQ h B5 B6 (Zx (Zu _ hi) (by decide));have up:∀ {i:Nat} {A x:Rat},On (LL * (LL * 4)) (i * 2 ^ 109) A->On (LL * (LL * 4)) (2 ^ 109) x->On (LL * (LL * 4)) ((i + 1) * 2 ^ 109) (A + x):=fun h g=>(h.add B5 g).mono (by rw [Nat.add_mul,Nat.one_mul]; exact Zv _);refine K9 (f:=paD) (xs:=pa) (fun i e=>∃ (A:Rat) (o5 o6 o7 o8 o9 o10 o11:Option SV),e=[some (.d (.tuple [.list (xs.map kD),.list (ws.map wD),.list (hs.map hD),.list gs])),some (.d (.list (pa.map paD))),some (.d (.list (ws.map wD))),some (.d (.list (hs.map hD))),some (.d (dq A)),o5,o6,o7,o8,o9,o10,o11]/\A=sA (pa.take i) (wtA ws hs)/\On (LL * (LL * 4)) (i * 2 ^ 109) A) ⟨0,_,_,_,_,_,_,_,rfl,rfl,On.zero.mono (Nat.zero_le _)⟩ ?_ ?_
 ·rintro i p e hi ⟨A,o5,o6,o7,o8,o9,o10,o11,rfl,eA,oA⟩;have hil:=(Zs hi).1;obtain ⟨h1,h2⟩:=ar p (Zm hi);have sq:SmQ 3900 p.2:=onL h2 (by decide);have tk:=A4e (f:=wtA ws hs) hi;rw [<- eA] at tk;have oA1:On (LL * (LL * 4)) ((i + 1) * 2 ^ 109) A:=oA.mono (Zu _ (by omega));have pr:∀ {x:Rat},O4 x->On (LL * (LL * 4)) (2 ^ 109) (p.2 * x):=fun h=>(On.mul h2 h).mono (by decide);rw [show paD p=.tuple [.tuple [.str p.1.1,.int p.1.2],dq p.2] from rfl];rcases M6 (ws:=ws) (hs:=hs) h1 rfl rfl (fun h hh=>(np.h h hh).1) with ⟨m,ea,hm,V⟩ | ⟨m,ea,hm,V⟩ | ⟨m,w,ea,ew,V⟩ | ⟨m,h,ea,eh,V⟩
  ·rw [V.wt] at tk;rw [ea];trivial;refine ⟨by decide +kernel,by decide +kernel,ite2 (fun h=>absurd h (by decide +kernel)) (fun _=>⟨by decide +kernel,by decide +kernel,ite2 (fun h=>absurd h (by decide +kernel)) (fun _=>?_)⟩)⟩;exact ⟨A,_,_,_,_,_,_,_,rfl,by rw [tk]; grind,oA1⟩
  ·rw [V.wt] at tk;rw [ea];trivial;refine ⟨by decide +kernel,by decide +kernel,ite2 (fun h=>absurd h (by decide +kernel)) (fun _=>⟨by decide +kernel,by decide +kernel,ite2 (fun h=>absurd h (by decide +kernel)) (fun _=>?_)⟩)⟩;exact ⟨A,_,_,_,_,_,_,_,rfl,by rw [tk]; grind,oA1⟩
  ·rw [V.wt] at tk;have ow:=(np.w w (Zm ew)).2.2;rw [ea];trivial;refine ⟨by decide +kernel,by decide +kernel,?_⟩;refine A9 ew ?_;rw [show wD w=PyData.tuple [.int w.1,.int w.2.1,dq w.2.2] from rfl];trivial;refine ⟨_,_,rfl,sq,ow.q,?_⟩;trivial;refine ⟨_,_,rfl,sA' (by omega) oA,onQ (pr ow) B5 B6 (by decide),?_⟩;trivial;exact ⟨_,_,_,_,_,_,_,_,rfl,tk.symm,up oA (pr ow)⟩
  ·have oh:=(np.h h (Zm eh)).2.2;have hk:h.1="from"\/h.1="till"\/h.1="by":=(np.h h (Zm eh)).1;rw [ea];trivial;refine ⟨by decide +kernel,by decide +kernel,ite2 (fun h=>absurd h (by decide +kernel)) (fun _=>⟨by decide +kernel,by decide +kernel,?_⟩)⟩;refine A9 eh ?_;rw [show hD h=PyData.tuple [.str h.1,.int h.2.1,dq h.2.2] from rfl];trivial;refine ⟨_,_,rfl,sq,oh.q,?_⟩;trivial;refine ⟨Hk.lay hk,by decide +kernel,ite2 (fun z=>?_) (fun z=>?_)⟩
   ·have e:h.1="from":=by rw [M4] at z; exact of_decide_eq_true z
    refine ⟨_,_,rfl,sA' (by omega) oA,onQ (pr oh) B5 B6 (by decide),?_⟩;trivial;rcases V with ⟨_,V⟩ | ⟨y,_⟩ | ⟨y,_⟩
    ·rw [V.wt] at tk;exact ⟨_,_,_,_,_,_,_,_,rfl,tk.symm,up oA (pr oh)⟩
    ·exact absurd (e.symm.trans y) w_ft
    ·exact absurd (y.symm.trans e) w_bf
   ·have ne:h.1≠"from":=fun e=>z (by rw [M4]; exact Zk e);refine ⟨_,_,rfl,sA' (by omega) oA,onQ (pr oh) B5 B6 (by decide),?_⟩;trivial;have ew:wtA ws hs p.1=0 - h.2.2:=by
     rcases V with ⟨y,_⟩ | ⟨_,V⟩ | ⟨_,V⟩
     ·exact absurd y ne
     ·exact V.wt
     ·exact V.wt
    rw [ew] at tk;refine ⟨_,_,_,_,_,_,_,_,rfl,?_,(oA.sub B5 (pr oh)).mono (by rw [Nat.add_mul,Nat.one_mul]; exact Zv _)⟩;rw [tk]; grind
 rintro e ⟨A,o5,o6,o7,o8,o9,o10,o11,rfl,eA,oA⟩;rw [List.take_length] at eA;subst hR;trivial;rw [eA]; exact k
def A4m:Pu.PSp:=fun as Q=>∃ (xs:List Wk) (ws:LW) (hs:LH) (gs:LP) (pa:List ((Str × Int) × Rat)),as=[.d (netD xs ws hs gs),.d (.list (pa.map paD))]/\NP xs.length ws hs/\PB xs.length (vsO ws) (usO hs) pa/\(∀ x ∈ xs,1<=x.2.2.length/\x.2.2.length<=100/\OnD x.2.2)/\∀ P R L,P=sA pa (wtA ws hs) + sumV (lsV xs (FI xs.length (vsO ws) (usO hs) pa)) xs.length->R=sA pa rtA->L=sA pa (wtA ws hs) + sumV (fun v=>FI xs.length (vsO ws) (usO hs) pa v * quV xs v) xs.length->On B5 (2 ^ 128) P->On LL (2 ^ 57) R->On B5 (2 ^ 128) L->Q (.d (.tuple [dq P,dq R,dq L]))
theorem A0b (T:Txt K mg D):FnOk P w K mg base CX0 7 D.a_b7 D.d_b7 ["net","paper"] (Pu.spOf K [.dat,.dat] A4m):=by
 refine T.B.F_b7.ok sc_b7 (Zz rfl) (fun cdv A outer s H vs Q E hr h=>?_);refine ⟨_,(QSs.out (A4 (qst 2 sc_b7 (qcK (W5 (K:=K) T) hr.mo (A0q T) (A0 (qpv 0) (A0 (qpv 1) A3))))
   (A4 (C9 (i:=3) rfl sc_b7.nd rfl rfl (C5 ["name","offer"] [none,none]) (D1 (K:=K) rfl (qix K (qpv 0) A5)) (fun _ _ _=>(B3 (K:=K) (n:=2) rfl rfl (A7 (qgc 0 ["name","offer"]) (A7 (qgc 1 ["name","offer"]) B2)) rfl rfl)) (fun _ _ _=>D8) (fun _ _ _=>(qpv 1)) rfl)
   (A4 (qst 4 sc_b7 (qcK (A4o (K:=K) T) hr.mo (A7p T) (A0 (qpv 0) (A0 (qpv 1) A3))))
   (A4 (C9 (i:=5) rfl sc_b7.nd rfl rfl (C5 ["offer","amount"] [none,none]) (A1v (K:=K) rfl rfl T.z_zip (A0 (qpv 3) (A0 (qpv 2) A3))) (fun _ _ _=>(B3 (K:=K) (n:=2) rfl rfl (A7 (qgc 0 ["offer","amount"]) (A7 (qgc 1 ["offer","amount"]) B2)) rfl rfl)) (fun _ _ _=>D8) (fun _ _ _=>(qcK (A3g (K:=K) T) hr.mo (A49 T) (A0 (qpv 0) (A0 (qpv 1) A3)))) rfl)
   (A4 (C9 (i:=6) rfl sc_b7.nd rfl rfl (C5 ["offer","amount"] [none,none]) (A1v (K:=K) rfl rfl T.z_zip (A0 (qpv 3) (A0 (qpv 2) A3))) (fun _ _ _=>(B3 (K:=K) (n:=2) rfl rfl (A7 (qgc 0 ["offer","amount"]) (A7 (qgc 1 ["offer","amount"]) B2)) rfl rfl)) (fun _ _ _=>D8) (fun _ _ _=>(qcK (K8 (K:=K) T) hr.mo (N6 T) (A0 (qpv 1) (A0 (qix K (qix K (qix K (qpv 0) A5) (A08 A03 A5)) A5) A3)))) rfl)
   (A6 (B0 (B7 (A0 (qcK (G7 (K:=K) T) hr.mo (K7 T) (A0 (qpv 4) (A0 (qcK (A16 (K:=K) T) hr.mo (A46 T) (A0 (qpv 5) A3)) A3))) (A0 (qcK (A9f (K:=K) T) hr.mo (B3l T) (A0 (qpv 1) A3)) (A0 (qcK (G7 (K:=K) T) hr.mo (K7 T) (A0 (qpv 4) (A0 (qcK (A16 (K:=K) T) hr.mo (A46 T) (A0 (qpv 6) A3)) A3))) A3)))))))))))),?_⟩
 refine Pu.D6 h ?_;rintro as Qp ⟨xs,ws,hs,gs,pa,rfl,np,pb,of,k⟩;have n1:=np.n1;refine hd fun R hR=>?_;trivial;refine ⟨xs,ws,hs,gs,pa,rfl,np,pb,?_⟩;trivial;subst hR;refine hd fun R hR=>?_;unfold netD;trivial;refine ⟨by omega,F4 (f:=kD) (xs:=xs) (fun i e ys=>∃ o1 o2:Option SV,e=[o1,o2]/\ys=(xs.take i).map fun x=>offD x.2.1 x.2.2) ⟨_,_,rfl,rfl⟩ ?_ ?_⟩
 ·rintro i x e ys hi ⟨o1,o2,rfl,rfl⟩;rw [show kD x=PyData.tuple [.str x.1,offD x.2.1 x.2.2] from rfl];trivial;exact ⟨_,_,rfl,by rw [List.take_add_one,hi,Zc]; rfl⟩
 rintro e ys ⟨o1,o2,rfl,rfl⟩;rw [List.take_length];trivial;subst hR;refine hd fun R hR=>?_;trivial;refine ⟨xs,ws,hs,gs,pa,rfl,np,pb.ln,fun p hp=>⟨(pb.ar p hp).1,(pb.ar p hp).2.1⟩,?_⟩;trivial;subst hR;refine hd fun R hR=>?_;trivial;obtain ⟨F,hF⟩:∃ F,F=FI xs.length (vsO ws) (usO hs) pa:=⟨_,rfl⟩;have pl:=pb.ln;have oF:∀ v,On LL (2 ^ 57) (F v):=fun v=>by rw [hF]; exact (A8d (b:=51) (fun p hp=>(pb.ar p hp).2.1) fun a=>(B26 a v).1).mono (show _<=2 ^ 57 from Zx (Zu _ (show _<=64 by omega)) (by decide))
 rw [<- hF] at k ⊢;refine ⟨by rw [S7]; simp; omega,A6o (f:=fun x:Wk=>offD x.2.1 x.2.2) (g:=dq) (xs:=xs) (zs:=(List.range xs.length).map F) (fun i e ys=>∃ o1 o2:Option SV,e=[o1,o2]/\ys=((List.range i).map (lsV xs F)).map dq) ⟨_,_,rfl,rfl⟩ ?_ ?_⟩
 ·rintro i x b e ys hx hb ⟨o1,o2,rfl,rfl⟩;have hil:=(Zs hx).1;have eb:b=F i:=by rw [A6z hil] at hb; exact (Zj hb).symm
  subst eb;obtain ⟨l1,l2,oc⟩:=of x (Zm hx);obtain ⟨c0,e0⟩:∃ c,x.2.2[0]?=some c:=⟨_,Zg (by omega)⟩;trivial;refine ⟨x.2.1,x.2.2,F i,c0,rfl,by omega,oc,(oF i).p2 (by decide),e0,?_⟩;trivial;refine ⟨_,_,rfl,?_⟩;rw [List.range_succ,Zc,Zc];congr 1
  show [dq _]=[dq (lsV xs F i)];unfold lsV;rw [hx];show _=[dq (lm (x.2.2.map (val (F i))) (val (F i) ((x.2.2[0]?).getD (0,0))))];rw [e0]; rfl
 rintro e ys ⟨o1,o2,rfl,rfl⟩;rw [Zl,List.length_range,Nat.min_self];trivial;subst hR;refine hd fun R hR=>?_;trivial;refine ⟨by rw [S7]; simp; omega,A6o (f:=fun x:Wk=>offD x.2.1 x.2.2) (g:=dq) (xs:=xs) (zs:=(List.range xs.length).map F) (fun i e ys=>∃ o1 o2:Option SV,e=[o1,o2]/\ys=((List.range i).map fun v=>F v * quV xs v).map dq) ⟨_,_,rfl,rfl⟩ ?_ ?_⟩
 ·rintro i x b e ys hx hb ⟨o1,o2,rfl,rfl⟩;have hil:=(Zs hx).1;have eb:b=F i:=by rw [A6z hil] at hb; exact (Zj hb).symm
  subst eb;obtain ⟨l1,l2,oc⟩:=of x (Zm hx);obtain ⟨c,ec⟩:∃ c,x.2.2.getLast?=some c:=⟨_,List.getLast?_eq_some_getLast (by intro z; rw [z] at l1; simp at l1)⟩;have ecm:c ∈ x.2.2:=List.mem_of_getLast? ec;rw [show offD x.2.1 x.2.2=.tuple [.str x.2.1,.list (x.2.2.map dcn)] from rfl];trivial;refine Z5 (by rw [<- List.getLast?_eq_getElem?]; exact ec) l1 ?_;trivial;refine ⟨_,_,rfl,onL (oF i) (by decide),onB (oc c ecm).1 (by decide) (L1 A5e (by decide)) (by decide),?_⟩;trivial;refine ⟨_,_,rfl,?_⟩;rw [List.range_succ,Zc,Zc];congr 1
  show [dq _]=[dq (F i * quV xs i)];unfold quV;rw [hx];show _=[dq (F i * ((x.2.2.getLast?).getD (0,0)).1)];rw [ec]; rfl
 rintro e ys ⟨o1,o2,rfl,rfl⟩;rw [Zl,List.length_range,Nat.min_self];trivial;subst hR;have B50:0 < B5:=by decide
 have B51:B5<=2 ^ 1000:=L1 (a:=200) (by decide +kernel) (by decide);have sums:∀ {f:Nat->Rat},(∀ v,v < xs.length->On B5 (2 ^ 121) (f v))->(∀ i,On B5 (2 ^ 125) (My.S (((List.range xs.length).map f).take i)))/\∀ q ∈ (List.range xs.length).map f,On B5 (2 ^ 121) q:=fun {f} hf=>by
  have all:∀ q ∈ (List.range xs.length).map f,On B5 (2 ^ 121) q:=fun q hq=>by
   obtain ⟨v,hv,rfl⟩:=List.mem_map.mp hq;exact hf v (List.mem_range.mp hv)
  exact ⟨fun i=>(S_on B50 fun q hq=>all q (List.mem_of_mem_take hq)).mono (Zx (Zu _ (show _<=16 by rw [List.length_take,Zl,List.length_range]; omega)) (by decide)),all⟩
 obtain ⟨a1,a2⟩:=sums (f:=lsV xs F) fun v hv=>(C2o hv of (oF v)).1;obtain ⟨b1,b2⟩:=sums (f:=fun v=>F v * quV xs v) fun v hv=>(C2o hv of (oF v)).2;have wo:=(B9o np (pa:=pa) fun p hp=>⟨(pb.ar p hp).1,(pb.ar p hp).2.1⟩).mono (show _<=2 ^ 115 from Zx (Zu _ (show _<=64 by omega)) (by decide));have sB:∀ {a:Nat} {q:Rat},On B5 (2 ^ a) q->a<=1000->SmQ 3900 q:=fun h g=>onQ h B50 B51 (Zp (by decide) g);have A1:=a1 xs.length;have A2:=b1 xs.length;rw [List.take_of_length_le (by simp)] at A1 A2;trivial;refine ⟨(List.range xs.length).map (lsV xs F),rfl,fun i=>sB (a1 i) (by decide),fun q hq=>sB (a2 q hq) (by decide),?_⟩;trivial;refine ⟨_,_,rfl,sB wo (by decide),sB A1 (by decide),?_⟩;trivial;refine ⟨xs.length,(vsO ws).length,(usO hs).length,pa,rfl,pl,fun p hp=>⟨(pb.ar p hp).1,(pb.ar p hp).2.1⟩,?_⟩;trivial;refine ⟨(List.range xs.length).map (fun v=>F v * quV xs v),rfl,fun i=>sB (b1 i) (by decide),fun q hq=>sB (b2 q hq) (by decide),?_⟩;trivial;refine ⟨_,_,rfl,sB wo (by decide),sB A2 (by decide),?_⟩;trivial;exact k _ _ _ rfl rfl rfl ((wo.add B50 A1).mono (by decide)) ((A8d (b:=51) (fun p hp=>(pb.ar p hp).2.1) fun a=>by
  unfold rtA;split
  ·exact ⟨1,rfl,by decide⟩
  ·exact ⟨0,rfl,by decide⟩).mono (show _<=2 ^ 57 from Zx (Zu _ (show _<=64 by omega)) (by decide))) ((wo.add B50 A2).mono (by decide))
def A8s:Pu.PSp:=fun as Q=>∃ (xs:List Wk) (ws:LW) (hs:LH) (gs:LP) (pa:List ((Str × Int) × Rat)) (W:Rat) (Bw:Nat),as=[.d (netD xs ws hs gs),.d (.list (pa.map paD)),.d (dq W)]/\NP xs.length ws hs/\PB xs.length (vsO ws) (usO hs) pa/\(∀ x ∈ xs,1<=x.2.2.length/\x.2.2.length<=100/\OnD x.2.2)/\0 < Bw/\Bw<=2 ^ 300/\On Bw (2 ^ 80) W/\Q (.d (.bool (decide (sA pa rtA * W < sA pa (wtA ws hs) + sumV (fun v=>FI xs.length (vsO ws) (usO hs) pa v * quV xs v) xs.length))))
theorem A9h (T:Txt K mg D):FnOk P w K mg base CX0 8 D.a_e4 D.d_e4 ["net","paper","whole"] (Pu.spOf K [.dat,.dat,.dat] A8s):=by
 refine T.B.F_e4.ok sc_e4 (Zz rfl) (fun cdv A outer s H vs Q E hr h=>?_);refine ⟨_,(QSs.out (A4 (C4 (qcK (A0b (K:=K) T) hr.mo (A1k T) (A0 (qpv 0) (A0 (qpv 1) A3))) (B3 (K:=K) (n:=3) rfl rfl (A7 (qgn 3 sc_e4) (A7 (qgn 4 sc_e4) (A7 (qgn 5 sc_e4) B2))) rfl rfl))
   (A6 (B0 (qcK (K4 (K:=K) T) hr.mo (M5 T) (A0 (qcK (K8 (K:=K) T) hr.mo (N6 T) (A0 (qpv 4) (A0 (qpv 2) A3))) (A0 (qpv 5) A3))))))),?_⟩
 refine Pu.D6 h ?_;rintro as Qp ⟨xs,ws,hs,gs,pa,W,Bw,rfl,np,pb,of,bw0,bw1,oW,k⟩;refine hd fun R hR=>?_;trivial;refine ⟨xs,ws,hs,gs,pa,rfl,np,pb,of,fun P R' L eP eR eL oP oR oL=>?_⟩;trivial;subst hR;trivial;have B50:0 < B5:=by decide
 have B51:B5<=2 ^ 1000:=L1 (a:=200) (by decide +kernel) (by decide);have om:On (LL * Bw) (2 ^ 57 * 2 ^ 80) (R' * W):=On.mul oR oW;have bw2:LL * Bw<=2 ^ 1000:=Zx (Nat.mul_le_mul (show LL<=2 ^ 100 by decide +kernel) bw1) (by rw [<- Nat.pow_add]; exact Zp (by decide) (by decide));refine ⟨_,_,rfl,onL oR (by decide),onQ oW bw0 (L1 bw1 (by decide)) (Zp (by decide) (by decide)),?_⟩;trivial;refine ⟨_,_,rfl,onQ om (Nat.mul_pos C7 bw0) bw2 (by rw [<- Nat.pow_add]; exact Zp (by decide) (by decide)),onQ oL B50 B51 (Zp (by decide) (by decide)),?_⟩;rw [eR,eL];exact k
def A21:Pu.PSp:=fun as Q=>∃ (t:OT) (ws:LW) (hs:LH) (ps:LR) (W:Rat) (n B a:Nat),as=[.bt t,.bor (ps.map dcn),.d (dq W),.d (.int (n:Int))]/\NetB t ws hs/\PSz B a ws hs ps/\On B (2 ^ a) W/\n < ps.length/\∀ q:Rat,Q (.d (dq q))
theorem A3e (T:Txt K mg D):FnOk P w K mg base CX0 5 D.a_b4 D.d_b4 ["net","plan","whole","work"] (Pu.spOf K [.bt,.vw,.dat,.dat] A21):=by
 refine T.B.F_b4.ok sc_b4 (Zz rfl) (fun cdv A outer s H vs Q E hr h=>?_);refine ⟨_,(QSs.out (A4 (qst 4 sc_b4 (qcK (G0 (K:=K) T) hr.mo (J4 T) (A0 (qpv 2) (A0 (qcK (X7 (K:=K) T) hr.mo (A2m T) (A0 (qix K (qpv 1) (qpv 3)) A3)) A3))))
   (A4 (D3 Zf rfl (D1 (K:=K) rfl (qPth (qix K (qpv 0) A5))) (qgn 5 sc_b4)
    (A6 (C3 (B1 (C8 (K:=K) rfl hr.units) (qix K (qpv 5) A5) (qpv 3) (C1 _))
     (A6 (qst 4 sc_b4 (qcK (V4 (K:=K) T) hr.mo (A0l T) (A0 (qpv 4) (A0 (qcK (W2 (K:=K) T) hr.mo (A0k T) (A0 (qpv 5) (A0 (qpv 1) A3))) A3)))))
     B8)))
   (A4 (D3 Zf rfl (D1 (K:=K) rfl (qPth (qix K (qpv 0) A5))) (qgn 6 sc_b4)
    (A6 (C3 (QW.pt (V1 (B1 (C8 (K:=K) rfl hr.units) (qix K (qpv 6) A5) (qpv 3) (C1 _)) (T5 (B1 (N2 (K:=K) rfl hr.units) (qix K (qpv 6) A5) C0 (C1 _)))))
     (A6 (qst 4 sc_b4 (qcK (V4 (K:=K) T) hr.mo (A0l T) (A0 (qpv 4) (A0 (qcK (W4 (K:=K) T) hr.mo (A0p T) (A0 (qpv 6) (A0 (qpv 1) A3))) A3)))))
     B8)))
   (A6 (B0 (qpv 4))))))),?_⟩
 refine Pu.D6 h ?_;rintro as Qp ⟨t,ws,hs,ps,W,n,B,a,rfl,⟨u1,u2,p1,s1,p2,s2⟩,ok,oW,hn,k⟩;have n0:(0:Int)<=(n:Int):=by omega
 have n1:(n:Int) < (ps.length:Int):=by omega
 have sn:=ok.st n0 n1;have o0:On B (2 ^ (a + 3)) (W - enD (sat ps (n:Int))):=((oW.p2 (b:=a + 1) (by omega)).sub2 ok.b0 sn.2.2 (show a + 1 + 1<=a + 2 by omega)).p2 (by omega);have sml:∀ {p q:Rat},On B (2 ^ (a + 3)) p->On B (2 ^ (a + 3)) q->On B (2 ^ (a + 3)) (if q < p then q else p):=fun h g=>by split <;> assumption
 refine hd fun R hR=>?_;trivial;refine D4 (A5q n0 n1) ?_;trivial;refine ⟨_,rfl,ok.pl n0 n1,?_⟩;trivial;refine ⟨W,_,rfl,ok.sm oW (by omega),ok.sm sn.2.2 (by omega),?_⟩;trivial;subst hR;refine hd fun R hR=>?_;trivial;refine ⟨u1,p1,_,s1,?_⟩;trivial;refine K9 (f:=wD) (xs:=ws) (fun i e=>∃ (q:Rat) (o5:Option SV),e=[some (.bt t),some (.bor (ps.map dcn)),some (.d (dq W)),some (.d (.int (n:Int))),some (.d (dq q)),o5,none]/\On B (2 ^ (a + 3)) q) ⟨_,_,rfl,o0⟩ ?_ ?_
 ·rintro i x e hi ⟨q,o5,rfl,om⟩;have hx:=Zm hi;have ex:wD x=PyData.tuple [.int x.1,.int x.2.1,dq x.2.2]:=rfl;obtain ⟨ha,hb,hl⟩:=ok.w x hx;trivial;rw [ex];trivial;refine ite2 (fun z=>?_) (fun z=>⟨q,_,rfl,om⟩);refine ⟨x,ps,rfl,ha,hb,ok.pl ha.1 ha.2,ok.pl hb.1 hb.2,ok.sm hl (by omega),ok.sm (ok.wS hx).2 (by omega),?_⟩;trivial;refine ⟨_,_,rfl,ok.sm om (by omega),ok.sm (ok.wS hx).1 (by omega),?_⟩;trivial;exact ⟨_,_,rfl,sml om ((ok.wS hx).1.p2 (by omega))⟩
 rintro e ⟨q,o5,rfl,o1⟩;subst hR;trivial;refine ⟨u2,p2,_,s2,?_⟩;trivial;refine K9 (f:=hD) (xs:=hs) (fun i e=>∃ (q:Rat) (o5 o6:Option SV),e=[some (.bt t),some (.bor (ps.map dcn)),some (.d (dq W)),some (.d (.int (n:Int))),some (.d (dq q)),o5,o6]/\On B (2 ^ (a + 3)) q) ⟨q,_,_,rfl,o1⟩ ?_ ?_
 ·rintro i x e hi ⟨q,o5,o6,rfl,om⟩;have hx:=Zm hi;have ex:hD x=PyData.tuple [.str x.1,.int x.2.1,dq x.2.2]:=rfl;obtain ⟨hk,hb,hl⟩:=ok.h x hx;trivial;rw [ex];trivial;refine ite2 (fun z=>?_) (fun z=>⟨q,_,_,rfl,om⟩);refine ⟨hk.lay,A95,?_⟩;rw [M4];trivial;refine ite2 (fun y=>⟨q,_,_,rfl,om⟩) (fun y=>?_);refine ⟨x,ps,rfl,hk,hb,ok.pl hb.1 hb.2,ok.sm hl (by omega),?_⟩;trivial;refine ⟨_,_,rfl,ok.sm om (by omega),ok.sm (ok.hS hx) (by omega),?_⟩;trivial;exact ⟨_,_,_,rfl,sml om ((ok.hS hx).p2 (by omega))⟩
 rintro e ⟨q,o5,o6,rfl,_⟩;trivial;exact k q
def A63:Pu.PSp:=fun as Q=>∃ (t:OT) (ws:LW) (hs:LH) (ps:LR) (W:Rat) (B a:Nat),as=[.bt t,.bor (ps.map dcn),.d (dq W)]/\NetB t ws hs/\PSz B a ws hs ps/\On B (2 ^ a) W/\NOk z4 (ps.map (·.2)) ws hs/\OB z4 W/\(∃ P,Pot (E9 (ps.map (·.2)) ws hs (some W)) ps.length P)/\∀ sl:LR,sl.length=ps.length->(∀ (i:Nat) p,ps[i]?=some p->∃ q,sl[i]?=some (q,rat (latS (ps.map (·.2)) ws hs W) (i:Int) - p.1))->Q (.own (sl.map dcn))
theorem A7d (T:Txt K mg D):FnOk P w K mg base CX0 8 D.a_c3 D.d_c3 ["net","plan","whole"] (Pu.spOf K [.bt,.vw,.dat] A63):=by
 refine T.B.F_c3.ok sc_c3 (Zz rfl) (fun cdv A outer s H vs Q E hr h=>?_);refine ⟨_,(QSs.out (A4 (qst 3 sc_c3 (qix K (qcK (Z7 (K:=K) T) hr.mo (A2k T) (A0 (qpv 0) (A0 (J8 rfl (C5 ["start","time"] [none,none]) (D1 (K:=K) rfl (qpv 1)) (fun _ _ _=>(B3 (K:=K) (n:=2) rfl rfl (A7 (qgc 0 ["start","time"]) (A7 (qgc 1 ["start","time"]) B2)) rfl rfl)) (fun _ _ _=>D8) (fun _ _ _=>(qpv 1))) (A0 (qpv 2) A3)))) A5))
   (A4 (qst 4 sc_c3 (D2 A3))
   (A4 (D3 Zf rfl (K3 (K:=K) rfl rfl T.z_enumerate (A0 (qpv 1) A3)) (B3 (K:=K) (n:=2) rfl rfl (A7 (qgn 5 sc_c3) (A7 (qgn 6 sc_c3) B2)) rfl rfl)
    (A6 (D9 (F9 (K:=K) rfl Z1 Z2 Z3 E5 (qpv 4) (A0 (B7 (A0 (qcK (A3e (K:=K) T) hr.mo (A47 T) (A0 (qpv 0) (A0 (qpv 1) (A0 (qpv 2) (A0 (qpv 5) A3))))) (A0 (qcK (G0 (K:=K) T) hr.mo (J4 T) (A0 (qix K (qpv 3) (qpv 5)) (A0 (qix K (qpv 6) A5) A3))) A3))) A3)))))
   (A6 (B0 (qpv 4))))))),?_⟩
 refine Pu.D6 h ?_;rintro as Qp ⟨t,ws,hs,ps,W,B,a,rfl,hb,ok,oW,nk,oW4,⟨P,hP⟩,k⟩;have hP1:Pot (E9 (ps.map (·.2)) ws hs (some W)) (ps.map (·.2)).length P:=by rw [Zl]; exact hP
 have fo:=A4w (A1h nk oW4) (A11 hP1) (by unfold bkL; rw [Zl]; exact S8 nk) nk.n1;refine hd fun R hR=>?_;trivial;refine ⟨by have:=ok.ln; omega,F4 (f:=dcn) (xs:=ps) (fun i e ys=>∃ o1 o2:Option SV,e=[o1,o2]/\ys=((ps.map (·.2)).take i).map dq) ⟨_,_,rfl,rfl⟩ ?_ ?_⟩
 ·rintro i x e ys hi ⟨o1,o2,rfl,rfl⟩;trivial;refine ⟨_,_,rfl,?_⟩;rw [List.take_add_one,Zh,hi,Zc];rfl
 rintro e ys ⟨o1,o2,rfl,rfl⟩;rw [show (ps.map (·.2)).take ps.length=ps.map (·.2) from List.take_of_length_le (by rw [Zl]; exact Zv _)];trivial;refine ⟨z4,t,ps.map (·.2),ws,hs,W,rfl,hb,nk,oW4,⟨P,B6n hP1 A2q⟩,fun s p w rg kz=>absurd kz (by rw [show kst (bkL (ps.map (·.2)) ws hs W) (ps.map (·.2)).length=some _ from (Y0 (fun w h=>⟨(A1h nk oW4 w h).1,(A1h nk oW4 w h).2.1⟩) (A11 hP1)).choose_spec]; exact fun z=>nomatch z),fun _ _ _=>?_⟩;trivial;subst hR;refine hd fun R hR=>?_;trivial;subst hR;trivial;refine M3 (f:=dcn) (xs:=ps) (fun i e=>∃ (sl:LR) (o5 o6:Option SV),e=[some (.bt t),some (.bor (ps.map dcn)),some (.d (dq W)),some (.d (.list ((latS (ps.map (·.2)) ws hs W).map dq))),some (.own (sl.map dcn)),o5,o6]/\sl.length=i/\∀ (j:Nat) p,j < i->ps[j]?=some p->∃ q,sl[j]?=some (q,rat (latS (ps.map (·.2)) ws hs W) (j:Int) - p.1)) ⟨[],_,_,rfl,rfl,fun j p h=>absurd h (Nat.not_lt_zero _)⟩ ?_ ?_
 ·rintro i x e hi ⟨sl,o5,o6,rfl,ll,hsl⟩;have hil:i < ps.length:=(Zs hi).1;have hr0:(0:Int)<=(i:Int):=by omega
  have hr1:(i:Int) < ((latS (ps.map (·.2)) ws hs W).length:Int):=by rw [A2e fo,Zl]; omega
  trivial;refine ⟨t,ws,hs,ps,W,i,B,a,rfl,hb,ok,oW,hil,fun q=>?_⟩;trivial;refine D4 (T3 hr0 hr1) ?_;trivial;refine ⟨_,x.1,rfl,onB (A96 fo _ (O0 hr0 hr1)) (by decide) (Zx (by decide +kernel:LL * 4<=2 ^ 100) (Zp (by decide) (by decide))) (by decide),ok.sm (ok.p x (Zm hi)).1 (by omega),?_⟩;trivial;refine ⟨by have:=ok.ln; omega,sl++[(q,rat (latS (ps.map (·.2)) ws hs W) (i:Int) - x.1)],_,_,by rw [Zc]; rfl,by rw [Ze,ll]; rfl,fun j p hj hp=>?_⟩;by_cases h:j < i
  ·obtain ⟨q',e⟩:=hsl j p h hp;exact ⟨q',by rw [List.getElem?_append_left (by omega)]; exact e⟩
  ·have:j=i:=by omega
   subst this;rw [hi] at hp; cases hp;exact ⟨q,by rw [List.getElem?_append_right (by omega),show j - sl.length=0 by omega]; rfl⟩
 rintro e ⟨sl,o5,o6,rfl,ll,hsl⟩;trivial;exact k sl ll fun i p hp=>hsl i p (Zs hp).1 hp
theorem A7i (T:Txt K mg D):FnOk P w K mg base CX0 1 D.a_c6 D.d_c6 ["_law_script","_law_k"] (B3v K):=by
 refine T.B.F_c6.ok sc_c6 (fun vs H Q E h=>?_) (fun cdv A outer s H vs Q E hr h=>?_)
 ·obtain ⟨a,ns,k,rfl,_⟩:=h; rfl
 ·obtain ⟨a,ns,k,rfl,ha,k0,k1,kk⟩:=h;refine ⟨_,(L3 (A09 (i:=2) sc_c6.nd rfl (Or.inl rfl) F6)
   (L3 (B6j (A8l (N2 (K:=K) rfl hr.units) (pv 0) (A85 A1b) (C1 _))
    (V3 (A09 (i:=2) sc_c6.nd rfl (Or.inl rfl) (A12 (B23 (K:=K) rfl) (pv 0) (N1 Q3 (pv 1) (A51 call_len_seq (by rfl) T.z_len PySem.boot_len (R8 (pv 0) A1b))) (fun _ _=>rfl))))
    A4i)
   (V3 (A5y (A85 (R8 (pv 2) (R8 (N1 Q3 (N1 G3 (N1 G3 (N1 Q3 (pv 2) F6) (N1 F0 (N1 F0 F6 (pv 1)) (pv 1))) F6) F6) (R8 (A13 C15 (pv 2) (N1 A53 F6 F6) (C1 _)) A1b)))))))),?_⟩
  have fin:∀ (c:Int) (H:Hp),(∀ p H',H p=none->StAt H' p->Kp p H H'->Q (.ref p) H')->∃ v,([some (V.ref a),some (V.int k),some (V.int c)]:St)[2]?=some (some v) /\
    (O1 (tOp (rI (fun _ j=>0 < j) fun i j=>.int (i % j)) (tOp (rI0 fun i j=>.int (i + j)) (tOp (rI0 fun i j=>.int (i + j)) (tOp (rI (fun _ j=>0 < j) fun i j=>.int (i % j)) (tVar 2) (tC (.int 2147483587)))
     (tOp (rI B9k fun i j=>.int (i * j)) (tOp (rI B9k fun i j=>.int (i * j)) (tC (.int 104729)) (tVar 1)) (tVar 1))) (tC (.int 7))) (tC (.int 2147483587)))
     (O1 (tOp (rI0 fun i j=>.bl (decide (j<=i))) (tVar 2) (tOp (rI CPow fun i j=>.int (i ^ j.toNat)) (tC (.int 10)) (tC (.int 18)))) tNil)) [some (V.ref a),some (V.int k),some (V.int c)] H
     fun xs H1=>(v :: xs).length<=sizeLine/\∀ p,H1 p=none->Q (.ref p) (upd H1 p (.lst (v :: xs))):=by
   intro c H kk;refine ⟨_,rfl,_,rfl,_,_,rfl,rfl,(by show (0:Int) < 2147483587; decide),_,rfl,_,_,rfl,rfl,⟨A05 0,sm32 k0 (by omega)⟩,_,rfl,_,_,rfl,rfl,⟨(Sm.mul (k:=20) (l:=20) (by unfold Sm; decide) (by unfold Sm; omega)).mono (by decide),sm32 k0 (by omega)⟩,
    _,_,rfl,rfl,_,_,rfl,rfl,_,_,rfl,rfl,(by show (0:Int) < 2147483587; decide),_,rfl,_,_,rfl,rfl,A6n 18,_,_,rfl,rfl,by show 3<=sizeLine; decide,fun p hp=>?_⟩
   have e1:=Int.emod_nonneg (c % 2147483587 + 104729 * k * k + 7) (show (2147483587:Int)≠0 by decide);have e2:=Int.emod_lt_of_pos (c % 2147483587 + 104729 * k * k + 7) (show (0:Int) < 2147483587 by decide);exact kk p _ hp ⟨_,_,_,D5,e1,by omega⟩ (Same.upd hp).kp
  refine ⟨_,rfl,Nat.zero_le _,fun p hp=>?_⟩;have sm:=Same.upd (H:=H) (o:=.lst []) hp;have ha':SqL K (upd H p (.lst [])) a (ns.map V.int):=Pu.B1n sm ha;have kk':∀ q H',(upd H p (.lst [])) q=none->StAt H' q->Kp q (upd H p (.lst [])) H'->Q (.ref q) H':=fun q H' hq hs kp=>kk q H' (by
   by_cases z:q=p
   ·rw [z]; exact hp
   ·rw [D7 z] at hq; exact hq) hs (fun b o nb e=>kp b o nb (sm b o e))
  refine ⟨.list (ns.map .int),.list [],.lst ha' (A6m ns),.lst (.inl (.inl D5)) .nil,X9 ns,rfl,A3s ns,_,rfl,?_⟩;rw [A6i];cases ns with
  | nil=>exact fin 0 _ kk'
  | cons c r =>
   obtain ⟨m,hm,hml⟩:∃ m:Nat,k % (((c :: r).map V.int).length:Int)=(m:Int)/\m < ((c :: r).map V.int).length:=by
    have h0:(0:Int) < (((c :: r).map V.int).length:Int):=by first | (simp; done) | (simp; omega)
    have h1:=Int.emod_nonneg k (Int.ne_of_gt h0);have h2:=Int.emod_lt_of_pos k h0;exact ⟨(k % (((c :: r).map V.int).length:Int)).toNat,by omega,by omega⟩
   obtain ⟨z,hz⟩:∃ z,((c :: r).map V.int)[m]?=some (V.int z):=by
    have:m < (c :: r).length:=by simpa using hml
    exact ⟨(c :: r)[m],by rw [Zh,Zg this]; rfl⟩
   refine ⟨_,rfl,_,rfl,_,rfl,a,_,rfl,.inl ha',k,_,rfl,rfl,(by first | (simp; done) | (simp; omega)),a,_,_,_,rfl,rfl,ha',by rw [hm]; exact M0 hz,?_⟩;exact fin z _ kk'
theorem N4 (T:Txt K mg D):FnOk P w K mg base CX0 1 D.a_c6 D.d_c6 ["_law_script","_law_k"] (Pu.spOf K [.vw,.dat] B33):=FnOk.imp (A7i T) C3o
theorem A9i (T:Txt K mg D):FnOk P w K mg base CX0 1 D.a_db D.d_db ["_law_state","_law_many"] A79:=by
 refine T.B.F_db.ok sc_db (fun vs H Q E h=>?_) (fun cdv A outer s H vs Q E hr h=>?_)
 ·obtain ⟨p,n,rfl,_⟩:=h; rfl
 ·obtain ⟨p,n,rfl,S0,n0,sn,k⟩:=h;refine ⟨_,(L3 (B6j (B31 (A12 ix_list (pv 0) F6 (fun _ _=>rfl)))
    (L3 (A09 (i:=2) sc_db.nd rfl (Or.inl rfl) (N1 Q3 (A12 ix_list (pv 0) F6 (fun _ _=>rfl)) (pv 1)))
    (L3 (A5z (N1 J9 (A12 ix_list (pv 0) F6 (fun _ _=>rfl)) (pv 1)) (A50 (pv 0) F6 E8))
    (L3 (A5z (A13 Z6 (A12 ix_list (pv 0) F6 (fun _ _=>rfl)) F6 (C1 _)) (A50 (pv 0) F6 E8))
    (V3 (A5y (pv 2))))))
    A4i)
   (L3 (A09 (i:=3) sc_db.nd rfl (Or.inl rfl) F6)
   (L3 (B32 Zf rfl (A3a rfl T.z_range (R8 (N1 G3 F6 (N1 F0 F6 (A3b A3z (by rfl) T.z_int (by rfl) (R8 (A13 Z6 (pv 1) (N1 A53 F6 F6) (C1 _)) A1b)))) A1b)) (A84 (i:=4) sc_db.nd rfl (Or.inl rfl) (Or.inl rfl))
    (L3 (A5z (N1 Q3 (N1 G3 (N1 F0 (A12 ix_list (pv 0) F6 (fun _ _=>rfl)) F6) F6) F6) (A50 (pv 0) F6 E8))
    (V3 (A09 (i:=3) sc_db.nd rfl (Or.inl rfl) (N1 G3 (N1 F0 (pv 3) F6) (N1 Q3 (N1 F0 (A12 ix_list (pv 0) F6 (fun _ _=>rfl)) (A12 ix_list (pv 0) F6 (fun _ _=>rfl))) F6))))))
   (V3 (A5y (N1 Q3 (N1 J9 (pv 3) F6) (pv 1))))))),?_⟩
  obtain ⟨c,m,f,hp,m0,m1⟩:=S0.ex;refine ⟨_,rfl,p,_,_,_,rfl,rfl,SqL.of hp,at2,f,rfl,?_⟩;have s8:Sm 8000 n:=sn.mono (by decide);cases f with
  | true =>
   refine iteT ?_;refine ⟨_,rfl,p,_,_,_,rfl,rfl,SqL.of hp,at0,_,rfl,_,_,rfl,rfl,n0,?_⟩;refine ⟨_,rfl,p,_,_,_,rfl,rfl,SqL.of hp,at0,_,rfl,_,_,rfl,rfl,⟨by omega,s8⟩,_,rfl,p,_,_,0,rfl,rfl,hp,rfl,?_⟩;refine ⟨_,rfl,p,_,_,_,rfl,rfl,SqL.of D5,at0,_,_,rfl,rfl,_,rfl,p,_,_,2,rfl,rfl,D5,rfl,?_⟩;refine ⟨_,rfl,?_⟩;exact k _ _ (Int.emod_nonneg c (by omega)) (Int.emod_lt_of_pos c n0) ⟨_,_,_,D5,m0,m1⟩ (Kp.upd.trans Kp.upd)
  | false =>
   refine iteF ?_;refine ⟨_,rfl,_,_,rfl,rfl,A6n 6,_,_,rfl,rfl,.inr ⟨_,rfl,_,_,rfl,rfl,⟨A05 0,B9x _⟩,_,_,rfl,rfl,_,rfl,?_,?_,B0m (lo:=0)
    (fun i σ H'=>∃ (m' md:Int) (x:Option V),σ=[some (V.ref p),some (V.int n),none,some (V.int md),x]/\H' p=some (.lst [.int c,.int m',.bl false])/\0<=m'/\m' < 2147483648/\Kp p H H'/\Sm (40 * i + 1) md)
    ⟨m,0,none,rfl,hp,m0,m1,Kp.refl,by unfold Sm; decide⟩ ?_ ?_⟩⟩
   ·split <;> omega
   ·split <;> omega
   ·rintro i σ H' hi ⟨m',md,x,rfl,hp',h0,h1,kk,sd⟩;have hi9:i < 9:=by
     refine Nat.lt_of_lt_of_le hi ?_;split <;> decide
    refine ⟨_,rfl,p,_,_,_,rfl,rfl,SqL.of hp',at1,_,_,rfl,rfl,⟨sm32 h0 h1,A05 0⟩,_,_,rfl,rfl,_,_,rfl,rfl,(by show (0:Int) < 2147483647; decide),_,rfl,p,_,_,1,rfl,rfl,hp',rfl,?_⟩;have e1:=Int.emod_nonneg (m' * 39373 + 17) (show (2147483647:Int)≠0 by decide);have e2:=Int.emod_lt_of_pos (m' * 39373 + 17) (show (0:Int) < 2147483647 by decide);have sm:=sm32 e1 (by omega);refine ⟨_,rfl,_,_,rfl,rfl,⟨sd.mono (by omega),A05 0⟩,_,rfl,p,_,_,_,rfl,rfl,SqL.of D5,at1,_,rfl,p,_,_,_,rfl,rfl,SqL.of D5,at1,_,_,rfl,rfl,⟨sm,sm⟩,_,_,rfl,rfl,(by show (0:Int) < 2147483587; decide),_,_,rfl,rfl,?_⟩;have g1:=Int.emod_nonneg ((m' * 39373 + 17) % 2147483647 * ((m' * 39373 + 17) % 2147483647)) (show (2147483587:Int)≠0 by decide);have g2:=Int.emod_lt_of_pos ((m' * 39373 + 17) % 2147483647 * ((m' * 39373 + 17) % 2147483647)) (show (0:Int) < 2147483587 by decide);refine ⟨_,_,_,rfl,D5,e1,by omega,kk.trans Kp.upd,?_⟩;refine Sm.mono (k:=40 * i + 1 + 32 + 1) (Sm.add (sd.mul (l:=32) (by unfold Sm; decide)) ?_) (by omega);exact Sm.mono (k:=32) (by unfold Sm; omega) (by omega)
   ·rintro σ H' ⟨m',md,x,rfl,hp',h0,h1,kk,sd⟩;refine ⟨_,rfl,_,_,rfl,rfl,⟨by decide,A05 0⟩,_,rfl,_,_,rfl,rfl,n0,?_⟩;exact k _ _ (Int.emod_nonneg _ (by omega)) (Int.emod_lt_of_pos _ n0) ⟨_,_,_,hp',h0,h1⟩ kk
theorem C6 (T:Txt K mg D):FnOk P w K mg base CX0 1 D.a_db D.d_db ["_law_state","_law_many"] (Pu.spOf K [.st,.dat] Pu.A8n):=FnOk.imp (A9i T) Pu.B5f
theorem V6 (T:Txt K mg D):FnOk P w K mg base CX0 1 D.a_e3 D.d_e3 ["_law_top","_law_bottom"] (Pu.spOf K [.dat,.dat] B6i):=by
 refine T.B.F_e3.ok sc_e3 (Zz rfl) (fun cdv A outer s H vs Q E hr h=>?_);refine ⟨_,(QSs.out (A4 (qst 2 sc_e3 (qpv 0))
   (A4 (qst 3 sc_e3 (qpv 1))
   (A4 (T6 Zf (B1 (N2 (K:=K) rfl hr.units) (qpv 3) A5 (C1 _))
    (A6 (R7 (i:=2) (j:=3) rfl sc_e3.nd rfl rfl (by decide) rfl rfl (A0 (qpv 3) (A0 (C2 Q3 (qpv 2) (qpv 3)) A3)) rfl)))
   (A6 (B0 (B7 (A0 (C2 J9 (qpv 0) (qpv 2)) (A0 (C2 J9 (qpv 1) (qpv 2)) A3))))))))),?_⟩
 refine Pu.D6 h ?_;rintro as Qp ⟨t,b,rfl,hb,st,sb,k⟩;trivial;refine ⟨fun m e=>∃ x y:Int,e=[some (.d (.int t)),some (.d (.int b)),some (.d (.int x)),some (.d (.int y))]/\0<=y/\(y=0->0 < x)/\m=y.toNat/\Int.gcd x y=Int.gcd t b,⟨_,_,_,rfl,by omega,fun e=>by omega,rfl,rfl⟩,?_⟩;rintro m e ⟨x,y,rfl,hy,hx,rfl,hg⟩;trivial;refine ite2 (fun e=>?_) (fun hn=>?_)
 ·subst e;have hx0:=hx rfl;have e1:x=sh t b:=by
   have:=A6f x (by omega);rw [hg] at this;unfold sh; rw [if_neg (by omega)]; exact this.symm
  subst e1;have hb0:b≠0:=by omega
  refine ⟨⟨B9z hb0,B9w sb hb0⟩,⟨B9z hb0,B9w sb hb0⟩,?_⟩;rw [A9y hb0,B8g hb0]; exact k
 ·have h1:=Int.emod_lt_of_pos x (show 0 < y by omega);have h2:=Int.emod_nonneg x hn;exact ⟨by omega,(x % y).toNat,by omega,y,x % y,rfl,h2,fun _=>by omega,rfl,by rw [B0k,hg]⟩
theorem F3 (T:Txt K mg D):FnOk P w K mg base CX0 2 D.a_d9 D.d_d9 ["_law_one","_law_other"] (Pu.spOf K [.dat,.dat] (A1a (·+·))):=by
 refine T.B.F_d9.ok sc_d9 (Zz rfl) (fun cdv A outer s H vs Q E hr h=>?_);refine ⟨_,(QSs.out (A6 (B0 (qcK (V6 (K:=K) T) hr.mo (A1l T) (A0 (C2 G3 (C2 F0 (qix K (qpv 0) A5) (qix K (qpv 1) A5)) (C2 F0 (qix K (qpv 1) A5) (qix K (qpv 0) A5))) (A0 (C2 F0 (qix K (qpv 0) A5) (qix K (qpv 1) A5)) A3)))))),?_⟩;refine Pu.D6 h ?_;rintro as Qp ⟨p,q,rfl,sp,sq,k⟩;trivial;have p1:=sp.1.mono (l:=8000) (by decide);have p2:=sp.2.mono (l:=8000) (by decide);have q1:=sq.1.mono (l:=8000) (by decide);have q2:=sq.2.mono (l:=8000) (by decide);refine ⟨⟨p1,q2⟩,⟨q1,p2⟩,⟨p2,q2⟩,_,_,rfl,Int.mul_pos (denp p) (denp q),((sp.1.mul sq.2).add (sq.1.mul sp.2)).mono (by decide),(sp.2.mul sq.2).mono (by decide),?_⟩;rw [C0g]; exact k
theorem J6 (T:Txt K mg D):FnOk P w K mg base CX0 2 D.a_ca D.d_ca ["_law_one","_law_other"] (Pu.spOf K [.dat,.dat] (A1a (·-·))):=by
 refine T.B.F_ca.ok sc_ca (Zz rfl) (fun cdv A outer s H vs Q E hr h=>?_);refine ⟨_,(QSs.out (A6 (B0 (qcK (V6 (K:=K) T) hr.mo (A1l T) (A0 (C2 U1 (C2 F0 (qix K (qpv 0) A5) (qix K (qpv 1) A5)) (C2 F0 (qix K (qpv 1) A5) (qix K (qpv 0) A5))) (A0 (C2 F0 (qix K (qpv 0) A5) (qix K (qpv 1) A5)) A3)))))),?_⟩;refine Pu.D6 h ?_;rintro as Qp ⟨p,q,rfl,sp,sq,k⟩;trivial;have p1:=sp.1.mono (l:=8000) (by decide);have p2:=sp.2.mono (l:=8000) (by decide);have q1:=sq.1.mono (l:=8000) (by decide);have q2:=sq.2.mono (l:=8000) (by decide);refine ⟨⟨p1,q2⟩,⟨q1,p2⟩,⟨p2,q2⟩,_,_,rfl,Int.mul_pos (denp p) (denp q),((sp.1.mul sq.2).sub (sq.1.mul sp.2)).mono (by decide),(sp.2.mul sq.2).mono (by decide),?_⟩;rw [C0d]; exact k
theorem Q5 (T:Txt K mg D):FnOk P w K mg base CX0 2 D.a_d1 D.d_d1 ["_law_one","_law_other"] (Pu.spOf K [.dat,.dat] (A1a (·*·))):=by
 refine T.B.F_d1.ok sc_d1 (Zz rfl) (fun cdv A outer s H vs Q E hr h=>?_);refine ⟨_,(QSs.out (A6 (B0 (qcK (V6 (K:=K) T) hr.mo (A1l T) (A0 (C2 F0 (qix K (qpv 0) A5) (qix K (qpv 1) A5)) (A0 (C2 F0 (qix K (qpv 0) A5) (qix K (qpv 1) A5)) A3)))))),?_⟩;refine Pu.D6 h ?_;rintro as Qp ⟨p,q,rfl,sp,sq,k⟩;trivial;have p1:=sp.1.mono (l:=8000) (by decide);have p2:=sp.2.mono (l:=8000) (by decide);have q1:=sq.1.mono (l:=8000) (by decide);have q2:=sq.2.mono (l:=8000) (by decide);refine ⟨⟨p1,q1⟩,⟨p2,q2⟩,_,_,rfl,Int.mul_pos (denp p) (denp q),(sp.1.mul sq.1).mono (by decide),(sp.2.mul sq.2).mono (by decide),?_⟩;rw [C0e]; exact k
theorem U2 (T:Txt K mg D):FnOk P w K mg base CX0 1 D.a_d2 D.d_d2 ["_law_one","_law_other"] (Pu.spOf K [.dat,.dat] A8q):=by
 refine T.B.F_d2.ok sc_d2 (Zz rfl) (fun cdv A outer s H vs Q E hr h=>?_);refine ⟨_,(QSs.out (A6 (B0 (G8 A9c (C2 F0 (qix K (qpv 0) A5) (qix K (qpv 1) A5)) (C2 F0 (qix K (qpv 1) A5) (qix K (qpv 0) A5)) (C1 _))))),?_⟩;refine Pu.D6 h ?_;rintro as Qp ⟨p,q,rfl,sp,sq,k⟩;trivial;have p1:=sp.1.mono (l:=8000) (by decide);have p2:=sp.2.mono (l:=8000) (by decide);have q1:=sq.1.mono (l:=8000) (by decide);have q2:=sq.2.mono (l:=8000) (by decide);refine ⟨⟨p1,q2⟩,⟨q1,p2⟩,?_⟩;rw [A6c]; exact k
theorem J1 (T:Txt K mg D):FnOk P w K mg base CX0 2 D.a_bb D.d_bb ["_law_state","_law_plain","_law_least_here"] (Pu.spOf K [.st,.dat,.dat] A8t):=by
 refine T.B.F_bb.ok sc_bb (Zz rfl) (fun cdv A outer s H vs Q E hr h=>?_);refine ⟨_,(QSs.out (A4 (qst 3 sc_bb (qcK (C6 (K:=K) T) hr.mo (D0 T) (A0 (qpv 0) (A0 A5 A3))))
   (A4 (C3 (F8 (qpv 1))
    (A6 (B0 (B7 (A0 (C2 G3 (qpv 2) (qcK (C6 (K:=K) T) hr.mo (D0 T) (A0 (qpv 0) (A0 (qix K (D2 (A0 A5 (A0 A5 (A0 A5 (A0 A5 (A0 A5 (A0 A5 A3))))))) (qpv 3)) A3)))) (A0 A5 A3)))))
    B8)
   (A4 (qst 4 sc_bb (C2 G3 A5 (qcK (C6 (K:=K) T) hr.mo (D0 T) (A0 (qpv 0) (A0 (qix K (D2 (A0 A5 (A0 A5 (A0 A5 (A0 A5 (A0 A5 (A0 A5 A3))))))) (qpv 3)) A3)))))
   (A6 (B0 (qcK (V6 (K:=K) T) hr.mo (A1l T) (A0 (C2 G3 (qpv 2) (qcK (C6 (K:=K) T) hr.mo (D0 T) (A0 (qpv 0) (A0 (qix K (D2 (A0 A5 (A0 A5 (A0 A5 (A0 A5 (A0 (C2 A53 A5 A5) (A0 A5 A3))))))) (qpv 3)) A3)))) (A0 (qpv 4) A3))))))))),?_⟩
 refine Pu.D6 h ?_;rintro as Qp ⟨pl,le,rfl,hle,k⟩;trivial;refine ⟨6,rfl,by decide,sm4 6,fun d d0 d6=>?_⟩;trivial;refine ite2 (fun hp=>?_) (fun hp=>?_)
 ·obtain ⟨z,hz,e⟩:=B2z (xs:=[2,3,3,4,5,6]) d0 d6;have hb:2<=z/\z<=6:=by simp at hz; omega
  refine D4 e ?_;trivial;refine ⟨z,rfl,by omega,A8b (by omega) (by omega),fun d2 g0 g1=>?_⟩;trivial;rw [C3h];have s3:Sm 3 (le + d2):=M1 (B:=7) (by omega) (by omega) (by decide);exact k _ (C3a (by omega)) (fun h1=>C29 (by omega)) ((A4c s3).mono (by decide) (by decide)) fun _=>⟨A4c s3,B5u (A4c s3)⟩
 ·obtain ⟨x,hx,ex⟩:=B2z (xs:=[1,1,2,4,12,60]) d0 d6;have hbx:1<=x/\x<=60:=by simp at hx; omega
  obtain ⟨z,hz,ez⟩:=B2z (xs:=[3,9,12,30,1000000000000,90]) d0 d6;have hbz:3<=z/\z<=1000000000000:=by simp at hz; omega
  refine D4 ex ?_;trivial;refine ⟨x,rfl,by omega,A8b (by omega) (by omega),fun d1 f0 f1=>?_⟩;trivial;refine ⟨A6n 12,D4 ez ?_⟩;trivial;refine ⟨z,rfl,by omega,A8b (by omega) (by omega),fun d2 g0 g1=>?_⟩;trivial;have st:Sm 41 (le + d2):=M1 (B:=1000000000000) (by omega) (by omega) (by decide);have sb:Sm 6 (1 + d1):=M1 (B:=60) (by omega) (by omega) (by decide);refine ⟨_,_,rfl,by omega,st.mono (by decide),sb.mono (by decide),?_⟩;exact k _ (U0 (by omega) (by omega)) (fun h1=>C3t (by omega) (by omega)) (SmR.low st sb (by omega)) fun h=>absurd h hp
def A8y:Pu.PSp:=fun as Q=>∃ (kd:Str) (mo:Int),as=[.st,.d (.str kd),.d (.int mo),.d (.bool false)]/\0 < mo/\mo<=5/\Kd kd/\∀ cs,OfG kd cs 100 54 244 130->OnC cs->(kd="straight"->OnP cs)->cs.length<=mo.toNat->Q (.d (offD kd cs))
theorem A9m (T:Txt K mg D):FnOk P w K mg base CX0 3 D.a_cc D.d_cc ["_law_state","_law_kind","_law_most","_law_plain"] (Pu.spOf K [.st,.dat,.dat,.dat] A8y):=by
 refine T.B.F_cc.ok sc_cc (Zz rfl) (fun cdv A outer s H vs Q E hr h=>?_);refine ⟨_,(QSs.out (A4 (qst 4 sc_cc (C2 G3 A5 (qcK (C6 (K:=K) T) hr.mo (D0 T) (A0 (qpv 0) (A0 (qpv 2) A3)))))
   (A4 (qst 5 sc_cc (qcK (J1 (K:=K) T) hr.mo (K6 T) (A0 (qpv 0) (A0 (qpv 3) (A0 A5 A3)))))
   (A4 (qst 6 sc_cc (qcK (J1 (K:=K) T) hr.mo (K6 T) (A0 (qpv 0) (A0 (qpv 3) (A0 A5 A3)))))
   (A4 (C9 (i:=7) rfl sc_cc.nd rfl rfl (C5 ["_law_state","_law_plain","_law_k"] [some 0,some 3,none]) (E6 rfl T.z_range (A0 (C2 U1 (qpv 4) A5) A3)) (fun _ _ _=>(qgc 2 ["_law_state","_law_plain","_law_k"])) (fun _ _ _=>D8) (fun _ _ _=>(qcK (J1 (K:=K) T) hr.mo (K6 T) (A0 (qpv 0) (A0 (qpv 1) (A0 A5 A3))))) rfl)
   (A4 (D3 Zf rfl (D1 (K:=K) rfl (qpv 7)) (qgn 8 sc_cc)
    (A6 (qst 5 sc_cc (qcK (F3 (K:=K) T) hr.mo (G6 T) (A0 (qpv 5) (A0 (qpv 8) A3))))))
   (A4 (qst 9 sc_cc (D2 (A0 (B7 (A0 (qpv 5) (A0 (qpv 6) A3))) A3)))
   (A4 (qst 10 sc_cc (B7 (A0 A5 (A0 A5 A3))))
   (A4 (D3 Zf rfl (D1 (K:=K) rfl (qpv 7)) (qgn 8 sc_cc)
    (A4 (qst 11 sc_cc (qcK (J1 (K:=K) T) hr.mo (K6 T) (A0 (qpv 0) (A0 (qpv 3) (A0 A5 A3)))))
    (A4 (qst 5 sc_cc (qcK (J6 (K:=K) T) hr.mo (L4 T) (A0 (qpv 5) (A0 (qpv 8) A3))))
    (A4 (qst 10 sc_cc (qcK (F3 (K:=K) T) hr.mo (G6 T) (A0 (qpv 10) (A0 (qpv 11) A3))))
    (A4 (C3 (B1 (C8 (K:=K) rfl hr.units) (qpv 1) C0 (C1 _))
     (A6 (qst 11 sc_cc (qcK (Q5 (K:=K) T) hr.mo (U6 T) (A0 (qpv 10) (A0 (qpv 8) A3)))))
     B8)
    (A4 (qst 6 sc_cc (qcK (F3 (K:=K) T) hr.mo (G6 T) (A0 (qpv 6) (A0 (qpv 11) A3))))
    (A6 (D9 (F9 (K:=K) rfl Z1 Z2 Z3 E5 (qpv 9) (A0 (B7 (A0 (qpv 5) (A0 (qpv 6) A3))) A3))))))))))
   (A6 (B0 (B7 (A0 (qpv 1) (A0 (qpv 9) A3)))))))))))))),?_⟩
 refine Pu.D6 h ?_;rintro as Qp ⟨kd,mo,rfl,m0,m5,hk,k⟩;trivial;refine ⟨mo,rfl,m0,M1 (B:=5) (by omega) (by omega) (by decide),fun d d0 d1=>?_⟩;trivial;refine ⟨_,_,rfl,.inl rfl,fun q1 q10 _ s1 _=>?_⟩;trivial;refine ⟨_,_,rfl,.inl rfl,fun q2 q20 _ s2 _=>?_⟩;trivial;refine ⟨by omega,by rw [J0]; omega,?_⟩;refine N8 (fun i e ys=>∃ (qs:LQ) (o:Option SV),e=[some .st,some (.d (.bool false)),o]/\ys=qs.map dq/\qs.length=i/\∀ q ∈ qs,0 < q/\SmR 41 6 q) ⟨[],_,rfl,rfl,rfl,fun _ z=>nomatch z⟩ ?_ ?_
 ·rintro i e ys hi ⟨qs,o,rfl,rfl,hl,hq⟩;trivial;refine ⟨_,_,rfl,.inr rfl,fun q _ qp sq _=>?_⟩;trivial;refine ⟨qs++[q],_,rfl,by rw [Zc]; rfl,by simp [hl],fun c z=>(Za z).elim (hq c) fun z=>?_⟩;simp at z; subst z; exact ⟨qp rfl,sq⟩
 ·rintro e ys ⟨qs,o,rfl,rfl,hl,hq⟩;have hm:qs.length<=4:=by omega
  trivial;refine K9 (fun i e=>∃ (o8:Option SV) (T':Rat),e=[some .st,some (.d (.str kd)),some (.d (.int mo)),some (.d (.bool false)),some (.d (.int (1 + d))),some (.d (dq T')),some (.d (dq q2)),some (.d (.list (qs.map dq))),o8,none,none,none]/\SmR (41 + 7 * i) (6 + 6 * i) T'/\T'=q1 + sumR (qs.take i)/\On LL ((1 + i) * 2 ^ 41) T') ⟨_,_,rfl,s1,by show q1=q1 + 0; grind,(P7 s1).mono (Nat.le_of_ble_eq_true rfl)⟩ ?_ ?_
  ·rintro i q e hqi ⟨o8,T',rfl,sT,eT,oT⟩;have hil:i < qs.length:=(Zs hqi).1;have sg:=(hq q (Zm hqi)).2;trivial;refine ⟨_,_,rfl,sT.q (by omega) (by omega),sg.q (by decide) (by decide),?_⟩;trivial;exact ⟨_,_,rfl,(sT.add sg).mono (by omega) (by omega),by rw [List.take_add_one,hqi,Option.toList_some,A2s,eT]; grind,(oT.add C7 (P7 sg)).mono (by rw [show 1 + (i + 1)=(1 + i) + 1 by omega,Nat.add_mul (1 + i) 1,Nat.one_mul]; exact Zv _)⟩
  ·rintro e ⟨o8,T0,rfl,sT0,eT0,oT0⟩;try rw [Zl] at oT0
   try rw [Zl] at eT0
   rw [List.take_length] at eT0;have hq0:∀ q ∈ qs,0 < q:=fun q hq'=>(hq q hq').1;have sT0:SmR 69 30 T0:=sT0.mono (by omega) (by omega);trivial;refine K9 (fun i e=>∃ (o8 o11:Option SV) (T' P' R':Rat) (cs:LR),e=[some .st,some (.d (.str kd)),some (.d (.int mo)),some (.d (.bool false)),some (.d (.int (1 + d))),some (.d (dq T')),some (.d (dq P')),some (.d (.list (qs.map dq))),o8,some (.own ((cs++[(T',P')]).map dcn)),some (.d (dq R')),o11] /\
    SmR (69 + 7 * i) (30 + 6 * i) T'/\SmR (116 + 32 * i) (6 + 31 * i) P'/\SmR (41 + 7 * i) (1 + 6 * i) R'/\(On LL ((6 + i) * 2 ^ 41) T'/\On (LL * LL) ((1 + i) * 2 ^ 85) P'/\On LL (i * 2 ^ 41) R'/\OnC cs/\(kd="straight"->OnP (cs++[(T',P')])))/\(T'=q1 + sumR (qs.drop i)/\0<=P'/\0<=R'/\RiseO (cs++[(T',P')])/\∀ c ∈ cs,0<=c.1/\0<=c.2)/\(kd="straight"->CvR (cs++[(T',P')]) R')/\Dec (cs++[(T',P')])/\cs.length=i/\∀ c ∈ cs,SmR 100 54 c.1/\SmR 244 130 c.2)
    ⟨_,_,T0,q2,0,[],rfl,sT0,s2.mono (by decide) (by decide),sm_zero.mono (by decide) (by decide),⟨oT0.mono (Zu _ (by omega)),((P7 s2).up C7).mono (Nat.le_of_ble_eq_true rfl),On.zero.mono (Nat.zero_le _),(fun _ z=>nomatch z),fun _=>OnP.one _⟩,⟨eT0,q20,Rat.le_refl,RiseO.one _,fun _ z=>nomatch z⟩,fun _=>CvR.one _,True.intro,rfl,fun _ z=>nomatch z⟩ ?_ ?_
   ·rintro i q e hqi ⟨o8,o11,T',P',R',cs,rfl,sT,sP,sR,⟨oT,oP,oR,oC,oS⟩,⟨eT,P0,R0,up,nn⟩,cv,dec,hcl,hcs⟩;have hil:i < qs.length:=(Zs hqi).1;obtain ⟨qp,sg⟩:=hq q (Zm hqi);have ed:qs.drop i=q :: qs.drop (i + 1):=by rw [List.drop_eq_getElem_cons hil]; congr 1; exact (Zs hqi).2
    have eT2:T' - q=q1 + sumR (qs.drop (i + 1)):=by
     rw [ed] at eT;have:sumR (q :: qs.drop (i + 1))=q + sumR (qs.drop (i + 1)):=rfl;rw [this] at eT; grind
    have nT2:=A1r (qs:=qs.drop (i + 1)) fun x hx=>hq0 x (List.mem_of_mem_drop hx);have nT:=A1r (qs:=qs.drop i) fun x hx=>hq0 x (List.mem_of_mem_drop hx);trivial;refine ⟨_,_,rfl,.inr rfl,fun v1 _ vp sv1 _=>?_⟩;have v0:=vp rfl;have nn':∀ c ∈ cs++[(T',P')],0<=c.1/\0<=c.2:=fun c hc=>by
     rcases Za hc with z | z
     ·exact nn c z
     ·cases Zn z;exact ⟨by show 0<=T'; rw [eT]; grind,P0⟩
    trivial;refine ⟨_,_,rfl,sT.q (by omega) (by omega),sg.q (by decide) (by decide),?_⟩;trivial;refine ⟨_,_,rfl,sR.q (by omega) (by omega),sv1.q (by decide) (by decide),?_⟩;trivial;have hi4:i < 4:=by omega
    have oT2:On LL ((6 + (i + 1)) * 2 ^ 41) (T' - q):=(oT.sub C7 (P7 sg)).mono (by rw [show 6 + (i + 1)=(6 + i) + 1 by omega,Nat.add_mul (6 + i) 1,Nat.one_mul]; exact Zv _);have oR2:On LL ((i + 1) * 2 ^ 41) (R' + v1):=(oR.add C7 (P7 sv1)).mono (by rw [Nat.add_mul,Nat.one_mul]; exact Zv _);have oC2:OnC (cs++[(T',P')]):=fun c hc=>by
     rcases Za hc with z | z
     ·exact oC c z
     ·cases Zn z;exact ⟨oT.mono (Zx (Zu _ (show 6 + i<=16 by omega)) (Nat.le_of_ble_eq_true rfl)),oP.mono (Zx (Zu _ (show 1 + i<=16 by omega)) (Nat.le_of_ble_eq_true rfl))⟩
    have sT2:SmR (69 + 7 * (i + 1)) (30 + 6 * (i + 1)) (T' - q):=(sT.sub sg).mono (by omega) (by omega);have sR2:SmR (41 + 7 * (i + 1)) (1 + 6 * (i + 1)) (R' + v1):=(sR.add sv1).mono (by omega) (by omega);refine ⟨hk.lay,A92,?_⟩;refine ite2 (fun h2=>?_) (fun h2=>?_);case' refine_1 =>
     refine ⟨_,_,rfl,sR2.q (by omega) (by omega),sg.q (by decide) (by decide),?_⟩;trivial;have sv2:SmR 110 31 ((R' + v1) * q):=(sR2.mul sg).mono (by omega) (by omega);obtain ⟨v2,ev2⟩:∃ v2,v2=(R' + v1) * q:=⟨_,rfl⟩;rw [<- ev2] at sv2 ⊢;have hv:kd="straight"->v2=(R' + v1) * q:=fun _=>ev2;have ov:On (LL * LL) (2 ^ 85) v2:=by rw [ev2]; exact (oR2.mul (P7 sg)).mono (Zx (Zu _ (Zu _ (show i + 1<=8 by omega))) (Nat.le_of_ble_eq_true rfl))
     have w0:0 < v2:=by rw [ev2]; exact Rat.mul_pos (by grind) qp
    case' refine_2 =>
     have sv2:SmR 110 31 v1:=sv1.mono (by decide) (by decide);have hv:kd="straight"->v1=(R' + v1) * q:=fun z=>absurd (by rw [z]; exact C3e) h2;have ov:On (LL * LL) (2 ^ 85) v1:=((P7 sv1).up C7).mono (Nat.le_of_ble_eq_true rfl);have w0:0 < v1:=v0
    all_goals
     refine ⟨_,_,rfl,sP.q (by omega) (by omega),sv2.q (by decide) (by decide),?_⟩;trivial;refine ⟨by simp; omega,_,_,_,_,_,cs++[(T',P')],by simp only [List.map_append]; rfl,sT2,(sP.add sv2).mono (by omega) (by omega),sR2,⟨oT2,(oP.add (Nat.mul_pos C7 C7) ov).mono (by rw [show 1 + (i + 1)=(1 + i) + 1 by omega,Nat.add_mul (1 + i) 1,Nat.one_mul]; exact Zv _),oR2,oC2,fun z=>(oS z).snoc (by rw [((cv z).step qp (vp rfl) (hv z)).2 cs _ _ (by simp)]; exact oR2.mono (Zx (Zu _ (show i + 1<=8 by omega)) (Nat.le_of_ble_eq_true rfl)))⟩,⟨eT2,by grind,by grind,RiseO.snoc up (by show T' - q < T'; grind) (by show P' < P' + _; grind),nn'⟩,fun z=>(cv z).step qp (vp rfl) (hv z),Dec.snoc dec (by show T' - q < T'; grind),by simp [hcl],fun c hc=>?_⟩;rcases Za hc with z | z
     ·exact hcs c z
     ·cases Zn z;exact ⟨sT.mono (by omega) (by omega),sP.mono (by omega) (by omega)⟩
   ·rintro e ⟨o8,o11,T',P',R',cs,rfl,sT,sP,sR,⟨oT,oP,oR,oC,oS⟩,⟨eT,P0,R0,up,nn⟩,cv,dec,hcl,hcs⟩;trivial;have nT:=A1r (qs:=qs.drop (qs.map dq).length) fun x hx=>hq0 x (List.mem_of_mem_drop hx);have hl4:(qs.map dq).length<=4:=by rw [Zl]; exact hm
    refine k _ ⟨⟨by simp,by simp; omega,dec,fun c hc=>?_⟩,fun c hc=>?_,up,fun z=>(cv z).1⟩ (fun c hc=>?_) oS (by simp; omega)
    ·rcases Za hc with z | z
     ·exact hcs c z
     ·simp at z; subst z; exact ⟨sT.mono (by omega) (by omega),sP.mono (by omega) (by omega)⟩
    ·rcases Za hc with z | z
     ·exact nn c z
     ·simp at z; subst z; exact ⟨by show 0<=T'; rw [eT]; grind,P0⟩
    ·rcases Za hc with z | z
     ·exact oC c z
     ·cases Zn z;exact ⟨oT.mono (Zx (Zu _ (show 6 + _<=16 by omega)) (Nat.le_of_ble_eq_true rfl)),oP.mono (Zx (Zu _ (show 1 + _<=16 by omega)) (Nat.le_of_ble_eq_true rfl))⟩
def A8v:Pu.PSp:=fun as Q=>∃ (ns:List Int) (kz:List Str),as=[.bor (ns.map .int),.d (.list (kz.map .str))]/\ns.length<=63/\1<=kz.length/\kz.length<=3/\(∀ z ∈ kz,Kd z)/\∀ n xs vs us,ShOk n xs vs us->Q (.d (shD xs vs us))
theorem A9j (T:Txt K mg D):FnOk P w K mg base CX0 4 D.a_cf D.d_cf ["_law_script","_law_kinds"] (Pu.spOf K [.vw,.dat] A8v):=by
 refine T.B.F_cf.ok sc_cf (Zz rfl) (fun cdv A outer s H vs Q E hr h=>?_);refine ⟨_,(QSs.out (A4 (qst 2 sc_cf (qcK (N4 (K:=K) T) hr.mo (P5 T) (A0 (qpv 0) (A0 A5 A3))))
   (A4 (qst 3 sc_cf (C2 G3 A5 (qcK (C6 (K:=K) T) hr.mo (D0 T) (A0 (qpv 2) (A0 A5 A3)))))
   (A4 (qst 4 sc_cf (C2 G3 A5 (qcK (C6 (K:=K) T) hr.mo (D0 T) (A0 (qpv 2) (A0 A5 A3)))))
   (A4 (qst 5 sc_cf (qcK (C6 (K:=K) T) hr.mo (D0 T) (A0 (qpv 2) (A0 A5 A3))))
   (A4 (qst 6 sc_cf (D2 A3))
   (A4 (D3 Zf rfl (E6 rfl T.z_range (A0 (qpv 3) A3)) (qgn 7 sc_cf)
    (A4 (qst 8 sc_cf (qcK (N4 (K:=K) T) hr.mo (P5 T) (A0 (qpv 0) (A0 (C2 G3 A5 (qpv 7)) A3))))
    (A4 (qst 9 sc_cf (qix K (qpv 1) (qcK (C6 (K:=K) T) hr.mo (D0 T) (A0 (qpv 8) (A0 (qln K T.z_len (qpv 1)) A3)))))
    (A6 (D9 (F9 (K:=K) rfl Z1 Z2 Z3 E5 (qpv 6) (A0 (B7 (A0 (C2 B7s (qix K C0 (qpv 7)) (qpv 4)) (A0 (qcK (A9m (K:=K) T) hr.mo (B3q T) (A0 (qpv 8) (A0 (qpv 9) (A0 A5 (A0 J2 A3))))) A3))) A3)))))))
   (A4 (qst 10 sc_cf (D2 A3))
   (A4 (qst 11 sc_cf (D2 A3))
   (A4 (D3 Zf rfl (A60 rfl T.z_range (A0 A5 (A0 (J5 (B04 rfl) (by rfl) T.z_max (by rfl) (A0 (C2 G3 A5 (qpv 5)) (A0 (J5 (B02 rfl) (by rfl) T.z_min (by rfl) (A0 (qln K T.z_len (qpv 0)) (A0 A5 A3))) A3))) A3))) (qgn 7 sc_cf)
    (A4 (qst 8 sc_cf (qcK (N4 (K:=K) T) hr.mo (P5 T) (A0 (qpv 0) (A0 (qpv 7) A3))))
    (A4 (qst 12 sc_cf (qcK (C6 (K:=K) T) hr.mo (D0 T) (A0 (qpv 8) (A0 (qpv 3) A3))))
    (A6 (C3 (QW.pt (V1 (B1 Z6 (qpv 3) A5 (C1 _)) (T5 (B1 A9c (qcK (C6 (K:=K) T) hr.mo (D0 T) (A0 (qpv 8) (A0 A5 A3))) A5 (C1 _)))))
     (A6 (D9 (F9 (K:=K) rfl Z1 Z2 Z3 E5 (qpv 10) (A0 (B7 (A0 (qpv 12) (A0 (C2 Q3 (C2 G3 (C2 G3 (qpv 12) A5) (qcK (C6 (K:=K) T) hr.mo (D0 T) (A0 (qpv 8) (A0 (C2 U1 (qpv 3) A5) A3)))) (qpv 3)) A3))) A3))))
     (A6 (D9 (F9 (K:=K) rfl Z1 Z2 Z3 E5 (qpv 11) (A0 (B7 (A0 (qix K (D2 (A0 C0 (A0 C0 (A0 C0 A3)))) (qcK (C6 (K:=K) T) hr.mo (D0 T) (A0 (qpv 8) (A0 A5 A3)))) (A0 (qpv 12) A3))) A3)))))))))
   (A6 (B0 (B7 (A0 (qpv 6) (A0 (qpv 10) (A0 (qpv 11) A3)))))))))))))))),?_⟩
 refine Pu.D6 h ?_;rintro as Qp ⟨ns,kz,rfl,hns,k1,k3,hkz,k⟩;refine hd fun R hR=>?_;trivial;refine ⟨ns,_,rfl,by decide,by decide,?_⟩;trivial;subst hR;refine hd fun R hR=>?_;trivial;refine ⟨5,rfl,by decide,sm4 5,fun d d0 d1=>?_⟩;trivial;obtain ⟨n,hn⟩:∃ n:Nat,1 + d=(n:Int):=⟨(1 + d).toNat,by omega⟩;have n0:1<=n:=by omega
 have n1:n<=5:=by omega
 rw [hn];subst hR;refine hd fun R hR=>?_;trivial;refine ⟨8,rfl,by decide,sm4 8,fun sz sz0 sz1=>?_⟩;trivial;subst hR;refine hd fun R hR=>?_;trivial;refine ⟨8,rfl,by decide,sm4 8,fun le le0 le1=>?_⟩;trivial;subst hR;refine hd fun R hR=>?_;trivial;subst hR;refine A4d (fun e=>∃ (xs:List Wk) (o8 o9 o10:Option SV),e=[some (.bor (ns.map .int)),some (.d (.list (kz.map .str))),some .st,some (.d (.int (n:Int))),some (.d (.int (1 + sz))),some (.d (.int le)),some (.own (xs.map kD)),o8,o9,o10,none,none,none]/\xs.length=n/\(∀ x ∈ xs,Kd x.2.1/\OfG x.2.1 x.2.2 100 54 244 130/\OnC x.2.2/\(x.2.1="straight"->OnP x.2.2))/\∀ x ∈ xs,(PyData.str x.1).canLay0=true) (fun R hR=>?_) ?_
 ·trivial;refine ⟨⟨by omega,by omega⟩,P4 (fun i e=>∃ (xs:List Wk) (o8 o9 o10:Option SV),e=[some (.bor (ns.map .int)),some (.d (.list (kz.map .str))),some .st,some (.d (.int (n:Int))),some (.d (.int (1 + sz))),some (.d (.int le)),some (.own (xs.map kD)),o8,o9,o10,none,none,none]/\xs.length=i/\(∀ x ∈ xs,Kd x.2.1/\OfG x.2.1 x.2.2 100 54 244 130/\OnC x.2.2/\(x.2.1="straight"->OnP x.2.2))/\∀ x ∈ xs,(PyData.str x.1).canLay0=true) ⟨[],_,_,_,rfl,rfl,(fun _ z=>nomatch z),fun _ z=>nomatch z⟩ ?_ ?_⟩
  ·rintro i e hi ⟨xs,o8,o9,o10,rfl,hl,hx,hn⟩;have hin:i < n:=by simpa using hi
   refine hd fun R hR=>?_;trivial;refine ⟨ns,_,rfl,by omega,by omega,?_⟩;trivial;subst hR;refine hd fun R hR=>?_;trivial;refine ⟨(kz.length:Int),by simp,by omega,M1 (B:=3) (by omega) (by omega) (by decide),fun g g0 g1=>?_⟩;trivial;obtain ⟨gj,rfl⟩:=Zi g0;have hgj:gj < kz.length:=by omega
   have eg:L2.atI (kz.map PyData.str) (gj:Int)=some (.str kz[gj]):=M0 (by rw [Zh,Zg hgj]; rfl);refine D4 eg ?_;trivial;subst hR;trivial;refine ⟨(show ltr3.length<=1000 by rw [A2a]; decide),?_⟩;refine getS (z:=ltr3) (by rw [A2a]; decide) B20 (by omega) (by rw [A2a]; omega) (fun c hc=>?_);rw [show sgn c=PyData.str ⟨#[c]⟩ from rfl];trivial;refine ⟨⟨by omega,by omega⟩,(show 1<=100 by decide),kz[gj],4,rfl,by decide,by decide,hkz _ (List.getElem_mem hgj),fun cs og oc op ol=>?_⟩;trivial;refine ⟨by omega,xs++[(Txt.mul ⟨#[c]⟩ (1 + sz),kz[gj],cs)],_,_,_,by rw [Zc]; rfl,by rw [Ze,hl]; rfl,fun x hx'=>?_,fun x hx'=>?_⟩
   ·rcases Za hx' with q | q
    ·exact hx x q
    ·rw [Zn q]; exact ⟨hkz _ (List.getElem_mem hgj),og,oc,op⟩
   ·rcases Za hx' with q | q
    ·exact hn x q
    ·rw [Zn q]; exact B8f (B91 hc)
  ·rintro e ⟨xs,o8,o9,o10,rfl,hl,hx,hn⟩;exact hR _ ⟨xs,_,_,_,rfl,by simpa using hl,hx,hn⟩
 rintro e ⟨xs,o8,o9,o10,rfl,hl,hx,hn⟩;refine hd fun R hR=>?_;trivial;subst hR;refine hd fun R hR=>?_;trivial;subst hR;trivial;have hM:0<=(if (if 40 < (ns.length:Int) then 40 else (ns.length:Int)) > 7 + le then if 40 < (ns.length:Int) then 40 else (ns.length:Int) else 7 + le)/\(if (if 40 < (ns.length:Int) then 40 else (ns.length:Int)) > 7 + le then if 40 < (ns.length:Int) then 40 else (ns.length:Int) else 7 + le)<=40:=by
  split <;> split <;> omega
 generalize (if (if 40 < (ns.length:Int) then 40 else (ns.length:Int)) > 7 + le then if 40 < (ns.length:Int) then 40 else (ns.length:Int) else 7 + le)=M at hM ⊢;refine ⟨⟨by decide,by decide,by omega,by omega⟩,P4 (fun i e=>∃ (vs:List (Int × Int)) (us:List (Str × Int)) (o8 o9 o10 o13:Option SV),e=[some (.bor (ns.map .int)),some (.d (.list (kz.map .str))),some .st,some (.d (.int (n:Int))),some (.d (.int (1 + sz))),some (.d (.int le)),some (.own (xs.map kD)),o8,o9,o10,some (.own (vs.map pD)),some (.own (us.map qD)),o13]/\vs.length + us.length=i/\ShOk n xs vs us) ⟨[],[],_,_,_,_,rfl,rfl,hl,n0,(by omega),hx,hn,Nat.zero_le _,(fun _ z=>nomatch z),Nat.zero_le _,(fun _ z=>nomatch z),fun _ z=>nomatch z⟩ ?_ ?_⟩
 ·rintro i e hi ⟨vs,us,o8,o9,o10,o13,rfl,lvu,ok⟩;have vl:=ok.vl;have ul:=ok.ul;refine hd fun R hR=>?_;trivial;refine ⟨ns,_,rfl,by omega,by omega,?_⟩;trivial;subst hR;refine hd fun R hR=>?_;trivial;refine ⟨(n:Int),rfl,by omega,M1 (B:=10) (by omega) (by omega) (by decide),fun a a0 a1=>?_⟩;trivial;subst hR;trivial;refine ite2 (fun h1=>?_) (fun h1=>?_)
  ·refine ⟨3,rfl,by decide,sm4 3,fun t t0 t1=>?_⟩;trivial;refine ite2 (fun h3=>?_) (fun h3=>?_)
   ·refine ⟨(n:Int) - 1,rfl,by omega,M1 (B:=10) (by omega) (by omega) (by decide),fun b b0 b1=>?_⟩;trivial;exact ⟨by omega,by omega,vs++[(a,(a + 1 + b) % (n:Int))],us,_,_,_,_,by rw [Zc]; rfl,by rw [Ze,List.length_singleton]; omega,ok.addV ⟨a0,a1⟩ ⟨Int.emod_nonneg _ (by omega),Int.emod_lt_of_pos _ (by omega)⟩ (by omega) (C2k a0 a1 b0 (by omega))⟩
   ·refine ⟨3,rfl,by decide,sm4 3,fun g g0 g1=>?_⟩;trivial;obtain ⟨kd,hkd,ek⟩:=B4l g0 g1;refine D4 ek ?_;trivial;exact ⟨by omega,vs,us++[(kd,a)],_,_,_,_,by rw [Zc]; rfl,by rw [Ze,List.length_singleton]; omega,ok.addU ⟨a0,a1⟩ hkd (by omega)⟩
  ·refine ⟨3,rfl,by decide,sm4 3,fun g g0 g1=>?_⟩;trivial;obtain ⟨kd,hkd,ek⟩:=B4l g0 g1;refine D4 ek ?_;trivial;exact ⟨by omega,vs,us++[(kd,a)],_,_,_,_,by rw [Zc]; rfl,by rw [Ze,List.length_singleton]; omega,ok.addU ⟨a0,a1⟩ hkd (by omega)⟩
 rintro e ⟨vs,us,o8,o9,o10,o13,rfl,lvu,ok⟩;trivial;exact k n xs vs us ok
def B16:Pu.PSp:=fun as Q=>∃ (n:Nat) (xs:List Wk) (vs:List (Int × Int)) (us:List (Str × Int)),as=[.d (shD xs vs us),.st]/\ShOk n xs vs us/\∀ arcs:List (Str × Int),arcs.length<=12->(∀ a ∈ arcs,ArOk n vs.length us.length a)->Q (.own (arcs.map qD))
theorem B2q (T:Txt K mg D):FnOk P w K mg base CX0 2 D.a_dd D.d_dd ["_law_shape_here","_law_state"] (Pu.spOf K [.dat,.st] B16):=by
 refine T.B.F_dd.ok sc_dd (Zz rfl) (fun cdv A outer s H vs Q E hr h=>?_);refine ⟨_,(QSs.out (A4 (C4 (qpv 0) (B3 (K:=K) (n:=3) rfl rfl (A7 (qgn 2 sc_dd) (A7 (X5 (i:=3) sc_dd.nd rfl (Or.inr rfl) (Or.inl rfl)) (A7 (X5 (i:=4) sc_dd.nd rfl (Or.inr rfl) (Or.inl rfl)) B2))) rfl rfl))
   (A4 (O7 (i:=5) sc_dd.nd rfl (Or.inr rfl) (qcK (C6 (K:=K) T) hr.mo (D0 T) (A0 (qpv 1) (A0 (qln K T.z_len (qpv 2)) A3))))
   (A4 (O7 (i:=6) sc_dd.nd rfl (Or.inr rfl) (D2 (A0 (qpv 5) A3)))
   (A4 (qst 7 sc_dd (D2 A3))
   (A4 (qst 8 sc_dd J2)
   (A4 (T6 Zf (F8 (qpv 8))
    (A4 (C9 (i:=9) rfl sc_dd.nd rfl rfl (C5 ["_law_work","_law_waits","_law_k"] [some 5,some 3,none]) (E6 rfl T.z_range (A0 (qln K T.z_len (qpv 3)) A3)) (fun _ _ _=>(qgc 2 ["_law_work","_law_waits","_law_k"])) (fun _ _ _=>(Q9 (B1 (C8 (K:=K) rfl hr.units) (qix K (qix K (qpv 1) (qpv 2)) A5) (qpv 0) (C1 _)))) (fun _ _ _=>(qpv 2)) rfl)
    (A4 (qst 8 sc_dd (L8 (G8 (N2 (K:=K) rfl hr.units) (qpv 9) (D2 A3) (C1 _)) (N0 (G8 Z6 (qcK (C6 (K:=K) T) hr.mo (D0 T) (A0 (qpv 1) (A0 A5 A3))) A5 (C1 _)))))
    (A6 (C3 (F8 (qpv 8))
     (A4 (D9 (F9 (K:=K) rfl Z1 Z2 Z3 E5 (qpv 7) (A0 (B7 (A0 C0 (A0 (qix K (qpv 9) (qcK (C6 (K:=K) T) hr.mo (D0 T) (A0 (qpv 1) (A0 (qln K T.z_len (qpv 9)) A3)))) A3))) A3)))
     (A4 (O7 (i:=5) sc_dd.nd rfl (Or.inr rfl) (qix K (qix K (qpv 3) (qix K (qix K (qpv 7) (A08 A03 A5)) A5)) A5))
     (A4 (C3 (B1 (A14 (K:=K) rfl hr.units) (qpv 5) (qpv 6) (by with_unfolding_all rfl))
      (A6 (B0 (Q2 (X3 (K:=K) rfl) (qpv 7) (T7 (F9 (K:=K) rfl Z1 PySem.F.slot_list_index PySem.F.type_list_index (V7 (K:=K) rfl hr.units) (qpv 6) (A0 (qpv 5) A3))) T8)))
      B8)
     (A6 (D9 (F9 (K:=K) rfl Z1 Z2 Z3 E5 (qpv 6) (A0 (qpv 5) A3)))))))
     B8)))))
   (A4 (qst 10 sc_dd (C2 (S1 (K:=K) rfl) (D2 (A0 (B7 (A0 C0 (A0 (qix K (qpv 6) A5) A3))) A3)) (J8 rfl (C5 ["_law_holds","_law_seen","_law_k"] [some 4,some 6,none]) (E6 rfl T.z_range (A0 (qln K T.z_len (qpv 4)) A3)) (fun _ _ _=>(qgc 2 ["_law_holds","_law_seen","_law_k"])) (fun _ _ _=>(Q9 (B1 (C8 (K:=K) rfl hr.units) (qix K (qpv 0) (qpv 2)) (B7 (A0 C0 (A0 (qix K (qpv 1) A5) A3))) (C1 _)))) (fun _ _ _=>(B7 (A0 C0 (A0 (qpv 2) A3)))))))
   (A4 (qst 11 sc_dd (C2 (S1 (K:=K) rfl) (D2 (A0 (B7 (A0 C0 (A0 (qpv 5) A3))) A3)) (J8 rfl (C5 ["_law_holds","_law_work","_law_k"] [some 4,some 5,none]) (E6 rfl T.z_range (A0 (qln K T.z_len (qpv 4)) A3)) (fun _ _ _=>(qgc 2 ["_law_holds","_law_work","_law_k"])) (fun _ _ _=>(Q9 (B1 (A14 (K:=K) rfl hr.units) (qix K (qpv 0) (qpv 2)) (D2 (A0 (B7 (A0 C0 (A0 (qpv 1) A3))) (A0 (B7 (A0 C0 (A0 (qpv 1) A3))) A3))) (by with_unfolding_all rfl)))) (fun _ _ _=>(B7 (A0 C0 (A0 (qpv 2) A3)))))))
   (A6 (B0 (C2 (S1 (K:=K) rfl) (C2 (S1 (K:=K) rfl) (D2 (A0 (qix K (qpv 10) (qcK (C6 (K:=K) T) hr.mo (D0 T) (A0 (qpv 1) (A0 (qln K T.z_len (qpv 10)) A3)))) A3)) (qpv 7)) (D2 (A0 (qix K (qpv 11) (qcK (C6 (K:=K) T) hr.mo (D0 T) (A0 (qpv 1) (A0 (qln K T.z_len (qpv 11)) A3)))) A3)))))))))))))),?_⟩
 refine Pu.D6 h ?_;rintro as Qp ⟨n,xs,vs,us,rfl,ok,k⟩;have n0:=ok.n0;have n1:=ok.n1;have ln:=ok.ln;have vl:=ok.vl;have ul:=ok.ul;unfold shD;refine hd fun R hR=>?_;trivial;subst hR;refine hd fun R hR=>?_;trivial;refine ⟨(n:Int),by simp [ln],by omega,M1 (B:=10) (by omega) (by omega) (by decide),fun w0 w00 w01=>?_⟩;trivial;subst hR;trivial;refine ⟨fun m e=>∃ (wk:Int) (seen:List Int) (arcs:List (Str × Int)) (go:Bool) (o9:Option SV),e=[some (.d (.tuple [.list (xs.map kD),.list (vs.map pD),.list (us.map qD)])),some .st,some (.d (.list (xs.map kD))),some (.d (.list (vs.map pD))),some (.d (.list (us.map qD))),some (.d (.int wk)),some (.own (seen.map .int)),some (.own (arcs.map qD)),some (.d (.bool go)),o9,none,none]/\(wk ∈ seen/\seen.Nodup/\(∀ x ∈ seen,0<=x/\x < (n:Int))/\arcs.length + 1=seen.length/\seen.length<=n/\∀ a ∈ arcs,ArOk n vs.length us.length a)/\m=if go then n + 1 - seen.length else 0,⟨_,w0,[w0],[],true,_,rfl,⟨List.mem_singleton.mpr rfl,by simp,(fun x hx=>by rw [Zn hx]; exact ⟨w00,w01⟩),rfl,by simpa using n0,fun _ z=>nomatch z⟩,rfl⟩,?_⟩;rintro m e ⟨wk,seen,arcs,go,o9,rfl,⟨hw,nd,hs,la,ls,ha⟩,rfl⟩;obtain ⟨wk0,wk1⟩:=hs wk hw;trivial;rcases go with _ | _
 ·obtain ⟨s0,es⟩:∃ z,seen[0]?=some z:=⟨_,Zg (by omega)⟩;obtain ⟨s00,s01⟩:=hs s0 (Zm es);trivial;refine A9 (n:=0) es ?_;trivial;refine ⟨by omega,by rw [J0]; omega,?_⟩;refine N8 (fun i e ys=>∃ (fs:List (Str × Int)) (o:Option SV),e=[some (.d (.list (us.map qD))),some (.bor (seen.map .int)),o]/\ys=fs.map qD/\fs.length<=i/\∀ a ∈ fs,ArOk n vs.length us.length a) ⟨[],_,rfl,rfl,Nat.zero_le _,fun _ z=>nomatch z⟩ ?_ ?_
  ·rintro i e ys hi ⟨fs,o,rfl,rfl,hl,hf⟩;obtain ⟨u,eu⟩:∃ u,us[i]?=some u:=⟨_,Zg (by omega)⟩;have uk:=(ok.uk u (Zm eu)).1;trivial;refine A9 eu ?_;trivial;refine A9 (n:=0) es ?_;trivial;refine ⟨A2z uk,A2z (u:=(_,s0)) (.inl rfl),A5w u,?_⟩;refine ite2 (fun _=>?_) (fun _=>⟨fs,_,rfl,rfl,by omega,hf⟩);exact ⟨fs++[(Str.ofString "hold",(i:Int))],_,rfl,by rw [Zc]; rfl,by rw [Ze,List.length_singleton]; omega,ArOk.snoc hf (by omega)⟩
  ·rintro e ys ⟨fs,o,rfl,rfl,hl,hf⟩;trivial;refine ⟨by omega,by omega,by rw [J0]; omega,?_⟩;refine N8 (fun i e ys=>∃ (gs:List (Str × Int)) (o:Option SV),e=[some (.d (.list (us.map qD))),some (.d (.int wk)),o]/\ys=gs.map qD/\gs.length<=i/\∀ a ∈ gs,ArOk n vs.length us.length a) ⟨[],_,rfl,rfl,Nat.zero_le _,fun _ z=>nomatch z⟩ ?_ ?_
   ·rintro i e ys hi ⟨gs,o,rfl,rfl,hl,hf⟩;obtain ⟨u,eu⟩:∃ u,us[i]?=some u:=⟨_,Zg (by omega)⟩;have uk:=(ok.uk u (Zm eu)).1;trivial;refine A9 eu ?_;trivial;refine ⟨by show ((qD (Str.ofString "till",wk)).canLay0 && ((qD (Str.ofString "by",wk)).canLay0 && true))=true; rw [A2z (.inr (.inl rfl)),A2z (.inr (.inr rfl))]; rfl,A2z uk,A5w u,?_⟩;refine ite2 (fun _=>?_) (fun _=>⟨gs,_,rfl,rfl,by omega,hf⟩);exact ⟨gs++[(Str.ofString "hold",(i:Int))],_,rfl,by rw [Zc]; rfl,by rw [Ze,List.length_singleton]; omega,ArOk.snoc hf (by omega)⟩
   ·rintro e ys ⟨gs,o,rfl,rfl,hl2,hg⟩;have af:∀ a ∈ (Str.ofString "start",s0) :: fs,ArOk n vs.length us.length a:=fun a h=>by
     rcases List.mem_cons.mp h with rfl | h
     ·exact ⟨s00,.inl ⟨rfl,s01⟩⟩
     ·exact hf a h
    have ag:∀ a ∈ (Str.ofString "end",wk) :: gs,ArOk n vs.length us.length a:=fun a h=>by
     rcases List.mem_cons.mp h with rfl | h
     ·exact ⟨wk0,.inr (.inl ⟨rfl,wk1⟩)⟩
     ·exact hg a h
    trivial;refine ⟨by omega,((fs.length + 1:Nat):Int),by simp,by omega,M1 (B:=50) (by omega) (by omega) (by decide),fun b b0 b1=>?_⟩;trivial;obtain ⟨q,rfl⟩:=Zi b0;obtain ⟨y,ey⟩:∃ z,((Str.ofString "start",s0) :: fs)[q]?=some z:=⟨_,Zg (by rw [List.length_cons]; omega)⟩;have hy:=af y (Zm ey);refine A9 (f:=qD) (xs:=(Str.ofString "start",s0) :: fs) ey ?_;trivial;refine ⟨by omega,((gs.length + 1:Nat):Int),by simp,by omega,M1 (B:=50) (by omega) (by omega) (by decide),fun b b0 b1=>?_⟩;trivial;obtain ⟨q,rfl⟩:=Zi b0;obtain ⟨z,ez⟩:∃ z,((Str.ofString "end",wk) :: gs)[q]?=some z:=⟨_,Zg (by rw [List.length_cons]; omega)⟩;have hz:=ag z (Zm ez);refine A9 (f:=qD) (xs:=(Str.ofString "end",wk) :: gs) ez ?_;trivial;have k2:=k ([y]++arcs++[z]) (by simp; omega) fun a h=>by
     rcases Za h with h | h
     ·rcases Za h with h | h
      ·rw [Zn h]; exact hy
      ·exact ha a h
     ·rw [Zn h]; exact hz
    rw [Zc,Zc] at k2;exact ⟨by omega,k2⟩
 ·trivial;refine ⟨by omega,by rw [J0]; omega,?_⟩;refine N8 (fun i e ys=>∃ (js:List Int) (o:Option SV),e=[some (.d (.int wk)),some (.d (.list (vs.map pD))),o]/\ys=js.map .int/\js.length<=i/\∀ j ∈ js,0<=j/\j < (vs.length:Int)) ⟨[],_,rfl,rfl,Nat.zero_le _,fun _ z=>nomatch z⟩ ?_ ?_
  ·rintro i e ys hi ⟨js,o,rfl,rfl,hl,hj⟩;obtain ⟨v,ev⟩:∃ v,vs[i]?=some v:=⟨_,Zg (by omega)⟩;trivial;refine A9 ev ?_;unfold pD;trivial;refine ite2 (fun _=>?_) (fun _=>⟨js,_,rfl,rfl,by omega,hj⟩);trivial;refine ⟨js++[(i:Int)],_,rfl,by rw [Zc]; rfl,by rw [Ze,List.length_singleton]; omega,fun j hj'=>?_⟩;rcases Za hj' with z | z
   ·exact hj j z
   ·rw [Zn z]; omega
  ·rintro e ys ⟨js,o,rfl,rfl,hl,hj⟩;trivial;refine ⟨X9 js,A3s js,?_⟩;rw [A6i];have stop:∀ o9:Option SV,∃ m',m' < n + 1 - seen.length/\∃ (wk_1:Int) (seen_1:List Int) (arcs_1:List (Str × Int)) (go:Bool) (o9':Option SV),[some (SV.d (.tuple [.list (xs.map kD),.list (vs.map pD),.list (us.map qD)])),some .st,some (.d (.list (xs.map kD))),some (.d (.list (vs.map pD))),some (.d (.list (us.map qD))),some (.d (.int wk)),some (.own (seen.map .int)),some (.own (arcs.map qD)),some (.d (.bool false)),o9,none,none]=[some (SV.d (.tuple [.list (xs.map kD),.list (vs.map pD),.list (us.map qD)])),some .st,some (.d (.list (xs.map kD))),some (.d (.list (vs.map pD))),some (.d (.list (us.map qD))),some (.d (.int wk_1)),some (.own (seen_1.map .int)),some (.own (arcs_1.map qD)),some (.d (.bool go)),o9',none,none]/\(wk_1 ∈ seen_1/\seen_1.Nodup/\(∀ x ∈ seen_1,0<=x/\x < (n:Int))/\arcs_1.length + 1=seen_1.length/\seen_1.length<=n/\∀ a ∈ arcs_1,ArOk n vs.length us.length a)/\m'=if go=true then n + 1 - seen_1.length else 0:=fun o9=>⟨0,by omega,wk,seen,arcs,false,o9,rfl,⟨hw,nd,hs,la,ls,ha⟩,rfl⟩;refine ite2 (fun hn=>?_) (fun hn=>stop _);refine ⟨4,rfl,by decide,sm4 4,fun d d0 d1=>?_⟩;trivial;refine ite2 (fun hdd=>?_) (fun hdd=>by rw [Zd hdd]; exact stop _);have jp:0 < js.length:=by cases js with | nil=>cases hn | cons a r=>exact Nat.succ_pos _
   refine ⟨(js.length:Int),by simp,by omega,M1 (B:=40) (by omega) (by omega) (by decide),fun b b0 b1=>?_⟩;trivial;obtain ⟨q,rfl⟩:=Zi b0;obtain ⟨z,ez⟩:∃ z,js[q]?=some z:=⟨_,Zg (by omega)⟩;obtain ⟨z0,z1⟩:=hj z (Zm ez);refine A9 ez ?_;trivial;refine ⟨by omega,?_⟩;have ea:arcs.map qD++[PyData.tuple [.str (Str.ofString "wait"),.int z]]=(arcs++[(Str.ofString "wait",z)]).map qD:=by rw [Zc]; rfl
   obtain ⟨u,rfl⟩:=Zi z0;obtain ⟨v,ev⟩:∃ v,vs[u]?=some v:=⟨_,Zg (by omega)⟩;obtain ⟨_,v0,v1⟩:=ok.vk v (Zm ev);have ha2:∀ a ∈ arcs++[(Str.ofString "wait",(u:Int))],ArOk n vs.length us.length a:=fun a hm=>by
    rcases Za hm with y | y
    ·exact ha a y
    ·rw [Zn y]; exact ⟨z0,.inr (.inr (.inl ⟨rfl,z1⟩))⟩
   rw [ea];refine Z5 (a:=(Str.ofString "wait",(u:Int))) (by simp) (by simp) ?_;rw [show qD (Str.ofString "wait",(u:Int))=PyData.tuple [.str (Str.ofString "wait"),.int (u:Int)] from rfl];trivial;refine A9 ev ?_;rw [show pD v=PyData.tuple [.int v.1,.int v.2] from rfl];trivial;refine ⟨A3m seen,?_⟩;refine ite2 (fun hy=>?_) (fun hy=>?_)
   ·obtain ⟨p,hp⟩:∃ p,(seen.map PyData.int).findIdx? (fun z=>z.eqv (PyData.int v.2))=some p:=by
     rcases e:(seen.map PyData.int).findIdx? (fun z=>z.eqv (PyData.int v.2)) with _ | p
     ·rw [List.findIdx?_eq_none_iff] at e;obtain ⟨y,y1,y2⟩:=List.any_eq_true.mp hy;rw [e y y1] at y2; cases y2
     ·exact ⟨p,e⟩
    refine ⟨A3m seen,by omega,p,hp,?_⟩;obtain ⟨ys,ey,my,ly⟩:=B84 (f:=qD) (xs:=arcs++[(Str.ofString "wait",(u:Int))]) (some (p:Int)) none;rw [ey];rw [Ze,List.length_singleton] at ly;exact k ys (by omega) fun a h=>ha2 a (my a h)
   ·have nin:v.2 ∉ seen:=fun hm=>hy (List.any_eq_true.mpr ⟨_,List.mem_map_of_mem hm,by first | exact eqv_int_self _ | decide | simp [PyData.eqv]⟩);have nd2:(seen++[v.2]).Nodup:=List.nodup_append.mpr ⟨nd,by simp,fun a h b h2=>by rw [Zn h2]; exact fun e=>nin (e ▸ h)⟩;have hs2:∀ x ∈ seen++[v.2],0<=x/\x < (n:Int):=fun x hx=>by
     rcases Za hx with y | y
     ·exact hs x y
     ·rw [Zn y]; exact ⟨v0,v1⟩
    have l2:=B2y nd2 hs2;rw [Ze,List.length_singleton] at l2;rw [show seen.map PyData.int++[PyData.int v.2]=(seen++[v.2]).map PyData.int from by rw [Zc]; rfl,Zk hdd];refine ⟨by omega,n - seen.length,by omega,v.2,seen++[v.2],arcs++[(Str.ofString "wait",(u:Int))],true,_,rfl,⟨by simp,nd2,hs2,by simp; omega,by simp; omega,ha2⟩,?_⟩;rw [if_pos rfl,Ze,List.length_singleton]; omega
def B18:Pu.PSp:=fun as Q=>∃ (n:Nat) (xs:List Wk) (vs:List (Int × Int)) (us:List (Str × Int)),as=[.d (shD xs vs us),.st]/\ShOk n xs vs us/\∀ q,0 < q->On LL (2 ^ 45) q->Q (.d (dq q))
theorem B2s (T:Txt K mg D):FnOk P w K mg base CX0 3 D.a_da D.d_da ["_law_shape_here","_law_state"] (Pu.spOf K [.dat,.st] B18):=by
 refine T.B.F_da.ok sc_da (Zz rfl) (fun cdv A outer s H vs Q E hr h=>?_);refine ⟨_,(QSs.out (A4 (C4 (qix K (qix K (qix K (qpv 0) A5) (qcK (C6 (K:=K) T) hr.mo (D0 T) (A0 (qpv 1) (A0 (qln K T.z_len (qix K (qpv 0) A5)) A3)))) A5) (B3 (K:=K) (n:=2) rfl rfl (A7 (qgn 2 sc_da) (A7 (qgn 3 sc_da) B2)) rfl rfl))
   (A4 (qst 4 sc_da (qcK (J1 (K:=K) T) hr.mo (K6 T) (A0 (qpv 1) (A0 J2 (A0 A5 A3)))))
   (A4 (C3 (QW.pt (V1 (B1 (C8 (K:=K) rfl hr.units) (qpv 2) C0 (C1 _)) (V1 (B1 Z6 (qln K T.z_len (qpv 3)) A5 (C1 _)) (T5 (B1 Z6 (qcK (C6 (K:=K) T) hr.mo (D0 T) (A0 (qpv 1) (A0 A5 A3))) A5 (C1 _))))))
    (A4 (qst 5 sc_da (C2 G3 A5 (qcK (C6 (K:=K) T) hr.mo (D0 T) (A0 (qpv 1) (A0 (C2 U1 (qln K T.z_len (qpv 3)) A5) A3)))))
    (A4 (qst 6 sc_da (qcK (J6 (K:=K) T) hr.mo (L4 T) (A0 (qix K (qix K (qpv 3) (qpv 5)) A5) (A0 (qix K (qix K (qpv 3) (C2 U1 (qpv 5) A5)) A5) A3))))
    (A4 (qst 7 sc_da (qcK (J6 (K:=K) T) hr.mo (L4 T) (A0 (qix K (qix K (qpv 3) (C2 U1 (qpv 5) A5)) A5) (A0 (qix K (qix K (qpv 3) (qpv 5)) A5) A3))))
    (A6 (qst 4 sc_da (qcK (V6 (K:=K) T) hr.mo (A1l T) (A0 (C2 F0 (qix K (qpv 6) A5) (qix K (qpv 7) A5)) (A0 (C2 F0 (qix K (qpv 6) A5) (qix K (qpv 7) A5)) A3))))))))
    B8)
   (A6 (B0 (qpv 4))))))),?_⟩
 refine Pu.D6 h ?_;rintro as Qp ⟨n,xs,vs,us,rfl,ok,k⟩;have n0:=ok.n0;have n1:=ok.n1;have ln:=ok.ln;unfold shD;trivial;refine ⟨(n:Int),by simp [ln],by omega,M1 (B:=10) (by omega) (by omega) (by decide),fun a a0 a1=>?_⟩;trivial;obtain ⟨i,rfl⟩:=Zi a0;obtain ⟨x,ex⟩:∃ c,xs[i]?=some c:=⟨_,Zg (by omega)⟩;obtain ⟨hk,og,oc,op⟩:=ok.of x (Zm ex);have n5:=og.ok.le;refine A9 ex ?_;unfold kD offD;trivial;refine ⟨_,_,rfl,.inr rfl,fun q q0 qp sq _=>?_⟩;have kq:=k q (qp rfl) ((P7 sq).p2 (by decide));trivial;refine ⟨hk.lay,A92,?_⟩;refine ite2 (fun hst=>?_) (fun _=>kq);refine ite2 (fun hl=>?_) (fun _=>kq);refine ⟨3,rfl,by decide,sm4 3,fun t t0 t1=>?_⟩;trivial;refine ite2 (fun _=>?_) (fun _=>kq);refine ⟨(x.2.2.length:Int) - 1,by simp,by omega,M1 (B:=5) (by omega) (by omega) (by decide),fun j j0 j1=>?_⟩;trivial;obtain ⟨m,rfl⟩:=Zi j0;obtain ⟨c,ec⟩:∃ c,x.2.2[m]?=some c:=⟨_,Zg (by omega)⟩;obtain ⟨d,ed⟩:∃ c,x.2.2[m + 1]?=some c:=⟨_,Zg (by omega)⟩;have e1:(1:Int) + (m:Int)=((m + 1:Nat):Int):=by omega
 have e2:((m + 1:Nat):Int) - 1=(m:Int):=by omega
 obtain ⟨c1,c2⟩:=og.ok.sm c (Zm ec);obtain ⟨d1,d2⟩:=og.ok.sm d (Zm ed);obtain ⟨g1,g2⟩:=og.up m c d ec ed;have kst:x.2.1="straight":=by
  rcases hk with z | z
  ·exact z
  ·exfalso;have:x.2.1=Str.ofString "steps":=z;rw [this] at hst;exact absurd hst (by decide +kernel)
 have hp:0 < K2 c d:=by
  unfold K2;rw [Rat.div_def];exact Rat.mul_pos (by grind) (Rat.inv_pos.mpr (by grind))
 have ks:=k _ hp (op kst m c d ec ed);have sg:=c1.sub d1;have su:=d2.sub c2;rw [e1];refine A9 (n:=m + 1) ed ?_;trivial;rw [e2];refine A9 ec ?_;trivial;refine ⟨d.2,c.2,rfl,d2.q (by decide) (by decide),c2.q (by decide) (by decide),?_⟩;trivial;rw [e2];refine A9 ec ?_;trivial;refine A9 (n:=m + 1) ed ?_;trivial;refine ⟨c.1,d.1,rfl,c1.q (by decide) (by decide),d1.q (by decide) (by decide),?_⟩;trivial;refine ⟨⟨su.1.mono (by decide),sg.2.mono (by decide)⟩,⟨su.2.mono (by decide),sg.1.mono (by decide)⟩,_,_,rfl,Int.mul_pos (denp _) (A9r (by grind)),(su.1.mul sg.2).mono (by decide),(su.2.mul sg.1).mono (by decide),?_⟩;rw [C0f];trivial;exact ks
def A8x:Pu.PSp:=fun as Q=>∃ (n:Nat) (xs:List Wk) (vs:List (Int × Int)) (us:List (Str × Int)) (ns:List Int) (at_:Int),as=[.d (shD xs vs us),.bor (ns.map .int),.d (.int at_)]/\0<=at_/\at_<=300/\ShOk n xs vs us/\∀ ps:List ((Str × Int) × Rat),ps.length<=48->(∀ p ∈ ps,ArOk n vs.length us.length p.1/\On LL (2 ^ 51) p.2)->Q (.own (ps.map paD))
theorem A9l (T:Txt K mg D):FnOk P w K mg base CX0 4 D.a_cd D.d_cd ["_law_shape_here","_law_script","_law_at"] (Pu.spOf K [.dat,.vw,.dat] A8x):=by
 refine T.B.F_cd.ok sc_cd (Zz rfl) (fun cdv A outer s H vs Q E hr h=>?_);refine ⟨_,(QSs.out (A4 (qst 3 sc_cd (qcK (N4 (K:=K) T) hr.mo (P5 T) (A0 (qpv 1) (A0 (qpv 2) A3))))
   (A4 (D9 (qcK (C6 (K:=K) T) hr.mo (D0 T) (A0 (qpv 3) (A0 A5 A3))))
   (A4 (O7 (i:=4) sc_cd.nd rfl (Or.inr rfl) (D2 A3))
   (A4 (O7 (i:=5) sc_cd.nd rfl (Or.inr rfl) (D2 A3))
   (A4 (D3 Zf rfl (E6 rfl T.z_range (A0 (qix K (D2 (A0 A5 (A0 A5 (A0 A5 (A0 A5 (A0 A5 (A0 A5 A3))))))) (qcK (C6 (K:=K) T) hr.mo (D0 T) (A0 (qpv 3) (A0 A5 A3)))) A3)) (qgn 6 sc_cd)
    (A4 (qst 7 sc_cd (qcK (B2s (K:=K) T) hr.mo (B9d T) (A0 (qpv 0) (A0 (qpv 3) A3))))
    (A6 (D3 Zf rfl (D1 (K:=K) rfl (qcK (B2q (K:=K) T) hr.mo (B9b T) (A0 (qpv 0) (A0 (qpv 3) A3)))) (qgn 8 sc_cd)
     (A6 (C3 (B1 (A14 (K:=K) rfl hr.units) (qpv 8) (qpv 4) (by with_unfolding_all rfl))
      (A6 (C4 (qcK (F3 (K:=K) T) hr.mo (G6 T) (A0 (qix K (qpv 5) (F9 (K:=K) rfl Z1 PySem.F.slot_list_index PySem.F.type_list_index (V7 (K:=K) rfl hr.units) (qpv 4) (A0 (qpv 8) A3))) (A0 (qpv 7) A3))) (G9 (qpv 5) (F9 (K:=K) rfl Z1 PySem.F.slot_list_index PySem.F.type_list_index (V7 (K:=K) rfl hr.units) (qpv 4) (A0 (qpv 8) A3)) E8)))
      (A4 (D9 (F9 (K:=K) rfl Z1 Z2 Z3 E5 (qpv 4) (A0 (qpv 8) A3)))
      (A6 (D9 (F9 (K:=K) rfl Z1 Z2 Z3 E5 (qpv 5) (A0 (qpv 7) A3)))))))))))
   (A4 (C9 (i:=9) rfl sc_cd.nd rfl rfl (C5 ["_law_arcs","_law_amounts","_law_k"] [some 4,some 5,none]) (E6 rfl T.z_range (A0 (qln K T.z_len (qpv 4)) A3)) (fun _ _ _=>(qgc 2 ["_law_arcs","_law_amounts","_law_k"])) (fun _ _ _=>D8) (fun _ _ _=>(B7 (A0 (qix K (qpv 0) (qpv 2)) (A0 (qix K (qpv 1) (qpv 2)) A3)))) rfl)
   (A4 (qst 10 sc_cd (qcK (C6 (K:=K) T) hr.mo (D0 T) (A0 (qpv 3) (A0 (C2 G3 (qln K T.z_len (qpv 9)) A5) A3))))
   (A6 (B0 (C2 (S1 (K:=K) rfl) (Q2 (X3 (K:=K) rfl) (qpv 9) (T7 (qpv 10)) T8) (Q2 (X3 (K:=K) rfl) (qpv 9) T8 (T7 (qpv 10)))))))))))))),?_⟩
 refine Pu.D6 h ?_;rintro as Qp ⟨n,xs,vs,us,ns,at_,rfl,at0,at1,ok,k⟩;refine hd fun R hR=>?_;trivial;refine ⟨ns,_,rfl,at0,at1,?_⟩;trivial;subst hR;refine hd fun R hR=>?_;trivial;refine ⟨7919,rfl,by decide,M1 (B:=7919) (by omega) (by omega) (by decide),fun d d0 d1=>?_⟩;trivial;subst hR;trivial;refine ⟨6,rfl,by decide,sm4 6,fun d d0 d1=>?_⟩;trivial;obtain ⟨tz,hz,etz⟩:=B2z (xs:=[0,1,1,2,3,4]) d0 d1;have tz0:0<=tz/\tz<=4:=by
  simp only [List.mem_cons,List.not_mem_nil,or_false] at hz;omega
 refine D4 etz ?_;trivial;refine ⟨by omega,?_⟩;refine P4 (fun i e=>∃ (ar:List (Str × Int)) (am:LQ) (o6 o7 o8:Option SV),e=[some (.d (shD xs vs us)),some (.bor (ns.map .int)),some (.d (.int at_)),some .st,some (.own (ar.map qD)),some (.own (am.map dq)),o6,o7,o8,none,none]/\ar.length=am.length/\ar.length<=12 * i/\(∀ a ∈ ar,ArOk n vs.length us.length a)/\∀ q ∈ am,On LL ((12 * i) * 2 ^ 45) q) ⟨[],[],_,_,_,rfl,rfl,Nat.zero_le _,(fun _ z=>nomatch z),fun _ z=>nomatch z⟩ ?_ ?_
 ·rintro i e hi ⟨ar,am,o6,o7,o8,rfl,hl,h12,ha,hm⟩;trivial;refine ⟨n,xs,vs,us,rfl,ok,fun q qp oq=>?_⟩;trivial;refine ⟨n,xs,vs,us,rfl,ok,fun wa lw hw=>?_⟩;trivial;refine K9 (f:=qD) (xs:=wa) (fun j e=>∃ (ar:List (Str × Int)) (am:LQ) (o6 o8:Option SV),e=[some (.d (shD xs vs us)),some (.bor (ns.map .int)),some (.d (.int at_)),some .st,some (.own (ar.map qD)),some (.own (am.map dq)),o6,some (.d (dq q)),o8,none,none]/\ar.length=am.length/\ar.length<=12 * i + j/\(∀ a ∈ ar,ArOk n vs.length us.length a)/\∀ q ∈ am,On LL ((12 * i + j) * 2 ^ 45) q) ⟨ar,am,_,_,rfl,hl,h12,ha,hm⟩ ?_ ?_
  ·rintro j w e hj ⟨ar,am,o6,o8,rfl,hl,h12,ha,hm⟩;have hjl:j < wa.length:=(Zs hj).1;have hwk:=hw w (Zm hj);trivial;refine ⟨A2d ha,hwk.lay,A5w w,?_⟩;refine ite2 (fun hy=>?_) (fun hy=>?_)
   ·obtain ⟨p,hp,pl⟩:=B8r hy;rw [Zl] at pl;obtain ⟨b,eb⟩:∃ a,am[p]?=some a:=⟨_,Zg (by omega)⟩;have ob:=hm b (Zm eb);have L:PyData.canLayAll0 (ar.map qD)=true/\(qD w).canLay0=true/\(qD w).depth<=60/\ar.length<=1000:=⟨A2d ha,hwk.lay,A5w w,by omega⟩;refine ⟨L.1,L.2.1,L.2.2.1,L.2.2.2,p,hp,?_⟩;refine A9 eb ?_;trivial;refine ⟨b,q,rfl,(ob.mono (Zx (Zu _ (show _<=64 by omega)) (Nat.le_of_ble_eq_true rfl)):On LL (2 ^ 51) b).q C7 (by decide +kernel) (by decide +kernel),oq.q C7 (by decide +kernel) (by decide +kernel),?_⟩;trivial;refine ⟨L.1,L.2.1,L.2.2.1,L.2.2.2,p,hp,p,N7 (o:=(p:Int)) (by omega) (by omega),ar,am.set p (b + q),_,_,by rw [List.map_set],by rw [List.length_set]; exact hl,by omega,ha,fun r h=>?_⟩;rcases List.mem_or_eq_of_mem_set h with z | z
    ·exact (hm r z).mono (Zu _ (by omega))
    ·rw [z]; exact S2 C7 ob oq
   ·trivial;refine ⟨by omega,by omega,ar++[w],am++[q],_,_,by rw [Zc,Zc]; rfl,by rw [Ze,Ze,hl]; rfl,by rw [Ze,List.length_singleton]; omega,fun a h=>?_,fun r h=>?_⟩
    ·rcases Za h with z | z
     ·exact ha a z
     ·rw [Zn z]; exact hwk
    ·rcases Za h with z | z
     ·exact (hm r z).mono (Zu _ (by omega))
     ·rw [Zn z]; exact oq.mono (Nat.le_mul_of_pos_left _ (by omega))
  ·rintro e ⟨ar,am,o6,o8,rfl,hl,h12,ha,hm⟩;first | rw [Zl] at h12 hm | skip
   exact ⟨ar,am,_,_,_,rfl,hl,by omega,ha,fun r h=>(hm r h).mono (Zu _ (by omega))⟩
 ·rintro e ⟨ar,am,o6,o7,o8,rfl,hl,h12,ha,hm⟩;have l48:ar.length<=48:=by omega
  trivial;refine ⟨by omega,by rw [J0]; omega,?_⟩;refine N8 (fun i e ys=>∃ (ps:List ((Str × Int) × Rat)) (o:Option SV),e=[some (.bor (ar.map qD)),some (.bor (am.map dq)),o]/\ys=ps.map paD/\ps.length<=i/\∀ p ∈ ps,ArOk n vs.length us.length p.1/\On LL (2 ^ 51) p.2) ⟨[],_,rfl,rfl,Nat.zero_le _,fun _ z=>nomatch z⟩ ?_ ?_
  ·rintro i e ys hi ⟨ps,o,rfl,rfl,hp,hps⟩;obtain ⟨a,ea⟩:∃ a,ar[i]?=some a:=⟨_,Zg (by omega)⟩;obtain ⟨b,eb⟩:∃ a,am[i]?=some a:=⟨_,Zg (by omega)⟩;trivial;refine A9 ea ?_;trivial;refine A9 eb ?_;trivial;refine ⟨ps++[(a,b)],_,rfl,by rw [Zc]; rfl,by rw [Ze,List.length_singleton]; omega,fun p h=>?_⟩;rcases Za h with z | z
   ·exact hps p z
   ·rw [Zn z];exact ⟨ha a (Zm ea),(hm b (Zm eb)).mono (Zx (Zu _ (show _<=64 by omega)) (Nat.le_of_ble_eq_true rfl))⟩
  ·rintro e ys ⟨ps,o,rfl,rfl,hp,hps⟩;trivial;refine ⟨(ps.length:Int) + 1,by simp,by omega,M1 (B:=50) (by omega) (by omega) (by decide),fun c c0 c1=>?_⟩;trivial;obtain ⟨u,rfl⟩:=Zi c0;have hu:u<=ps.length:=by omega
   rw [C3n hu,B4y hu,<- Zc];refine ⟨by rw [Zl,Zl,List.length_drop,List.length_take]; omega,k _ (by rw [Ze,List.length_drop,List.length_take]; omega) fun p h=>?_⟩;rcases Za h with z | z
   ·exact hps p (List.mem_of_mem_drop z)
   ·exact hps p (List.mem_of_mem_take z)
def A80:Pu.PSp:=fun as Q=>∃ (n:Nat) (xs:List Wk) (vs:List (Int × Int)) (us:List (Str × Int)) (ps:List ((Str × Int) × Rat)),as=[.d (shD xs vs us),.bor (ps.map paD)]/\ShOk n xs vs us/\ps.length<=48/\(∀ p ∈ ps,ArOk n vs.length us.length p.1/\On LL (2 ^ 51) p.2)/\∀ is os:LQ,is.length=n->os.length=n->(∀ q ∈ is,On LL (2 ^ 57) q)->(∀ q ∈ os,On LL (2 ^ 57) q)->Q (.d (.tuple [.list (is.map dq),.list (os.map dq)]))
theorem A9o (T:Txt K mg D):FnOk P w K mg base CX0 3 D.a_c8 D.d_c8 ["_law_net","_law_paper_here"] (Pu.spOf K [.dat,.vw] A80):=by
 refine T.B.F_c8.ok sc_c8 (Zz rfl) (fun cdv A outer s H vs Q E hr h=>?_);refine ⟨_,(QSs.out (A4 (C4 (Q2 (B5v (K:=K) rfl) (qpv 0) T8 (T7 A5)) (B3 (K:=K) (n:=3) rfl rfl (A7 (qgn 2 sc_c8) (A7 (qgn 3 sc_c8) (A7 (qgn 4 sc_c8) B2))) rfl rfl))
   (A4 (C9 (i:=5) rfl sc_c8.nd rfl rfl (C5 ["_law_work"] [none]) (D1 (K:=K) rfl (qpv 2)) (fun _ _ _=>(qgc 0 ["_law_work"])) (fun _ _ _=>D8) (fun _ _ _=>(B7 (A0 A5 (A0 A5 A3)))) rfl)
   (A4 (C9 (i:=6) rfl sc_c8.nd rfl rfl (C5 ["_law_work"] [none]) (D1 (K:=K) rfl (qpv 2)) (fun _ _ _=>(qgc 0 ["_law_work"])) (fun _ _ _=>D8) (fun _ _ _=>(B7 (A0 A5 (A0 A5 A3)))) rfl)
   (A4 (D3 Zf rfl (D1 (K:=K) rfl (qpv 1)) (B3 (K:=K) (n:=2) rfl rfl (A7 (B3 (K:=K) (n:=2) rfl rfl (A7 (qgn 7 sc_c8) (A7 (qgn 8 sc_c8) B2)) rfl rfl) (A7 (qgn 9 sc_c8) B2)) rfl rfl)
    (A6 (C3 (B1 (C8 (K:=K) rfl hr.units) (qpv 7) C0 (C1 _))
     (A6 (C4 (qcK (F3 (K:=K) T) hr.mo (G6 T) (A0 (qix K (qpv 5) (qpv 8)) (A0 (qpv 9) A3))) (G9 (qpv 5) (qpv 8) E8)))
     (A6 (C3 (B1 (C8 (K:=K) rfl hr.units) (qpv 7) C0 (C1 _))
      (A6 (C4 (qcK (F3 (K:=K) T) hr.mo (G6 T) (A0 (qix K (qpv 6) (qpv 8)) (A0 (qpv 9) A3))) (G9 (qpv 6) (qpv 8) E8)))
      (A6 (C3 (B1 (C8 (K:=K) rfl hr.units) (qpv 7) C0 (C1 _))
       (A4 (C4 (qcK (F3 (K:=K) T) hr.mo (G6 T) (A0 (qix K (qpv 6) (qix K (qix K (qpv 3) (qpv 8)) A5)) (A0 (qpv 9) A3))) (G9 (qpv 6) (qix K (qix K (qpv 3) (qpv 8)) A5) E8))
       (A6 (C4 (qcK (F3 (K:=K) T) hr.mo (G6 T) (A0 (qix K (qpv 5) (qix K (qix K (qpv 3) (qpv 8)) A5)) (A0 (qpv 9) A3))) (G9 (qpv 5) (qix K (qix K (qpv 3) (qpv 8)) A5) E8))))
       (A6 (C3 (B1 (C8 (K:=K) rfl hr.units) (qix K (qix K (qpv 4) (qpv 8)) A5) C0 (C1 _))
        (A6 (C4 (qcK (F3 (K:=K) T) hr.mo (G6 T) (A0 (qix K (qpv 6) (qix K (qix K (qpv 4) (qpv 8)) A5)) (A0 (qpv 9) A3))) (G9 (qpv 6) (qix K (qix K (qpv 4) (qpv 8)) A5) E8)))
        (A6 (C3 (B1 (C8 (K:=K) rfl hr.units) (qix K (qix K (qpv 4) (qpv 8)) A5) C0 (C1 _))
         (A6 (C4 (qcK (F3 (K:=K) T) hr.mo (G6 T) (A0 (qix K (qpv 5) (qix K (qix K (qpv 4) (qpv 8)) A5)) (A0 (qpv 9) A3))) (G9 (qpv 5) (qix K (qix K (qpv 4) (qpv 8)) A5) E8)))
         (A6 (C4 (qcK (J6 (K:=K) T) hr.mo (L4 T) (A0 (qix K (qpv 5) (qix K (qix K (qpv 4) (qpv 8)) A5)) (A0 (qpv 9) A3))) (G9 (qpv 5) (qix K (qix K (qpv 4) (qpv 8)) A5) E8))))))))))))))
   (A6 (B0 (B7 (A0 (qpv 5) (A0 (qpv 6) A3)))))))))),?_⟩
 refine Pu.D6 h ?_;rintro as Qp ⟨n,xs,vs,us,ps,rfl,ok,l48,hp,k⟩;have n0:=ok.n0;have n1:=ok.n1;have ln:=ok.ln;have vl:=ok.vl;have ul:=ok.ul;unfold shD;refine hd fun R hR=>?_;trivial;refine ⟨_,3,rfl,rfl,?_⟩;rw [show List.take 3 [PyData.list (xs.map kD),.list (vs.map pD),.list (us.map qD)]=[PyData.list (xs.map kD),.list (vs.map pD),.list (us.map qD)] from rfl];trivial;subst hR;refine hd fun R hR=>?_;trivial;refine ⟨by omega,F4 (f:=kD) (xs:=xs) (fun i e ys=>∃ o:Option SV,e=[o]/\ys=(List.replicate i (0:Rat)).map dq) ⟨_,rfl,rfl⟩ ?_ ?_⟩
 ·rintro i x e ys hx ⟨o,rfl,rfl⟩;trivial;exact ⟨_,rfl,by rw [<- List.map_cons,<- List.replicate_succ,List.replicate_succ',Zc]; rfl⟩
 rintro e ys ⟨o,rfl,rfl⟩;rw [ln];trivial;subst hR;refine hd fun R hR=>?_;trivial;refine ⟨by omega,F4 (f:=kD) (xs:=xs) (fun i e ys=>∃ o:Option SV,e=[o]/\ys=(List.replicate i (0:Rat)).map dq) ⟨_,rfl,rfl⟩ ?_ ?_⟩
 ·rintro i x e ys hx ⟨o,rfl,rfl⟩;trivial;exact ⟨_,rfl,by rw [<- List.map_cons,<- List.replicate_succ,List.replicate_succ',Zc]; rfl⟩
 rintro e ys ⟨o,rfl,rfl⟩;rw [ln];trivial;subst hR;trivial;refine K9 (f:=paD) (xs:=ps) (fun i e=>∃ (is os:LQ) (o7 o8 o9:Option SV),e=[some (.d (.tuple [.list (xs.map kD),.list (vs.map pD),.list (us.map qD)])),some (.bor (ps.map paD)),some (.d (.list (xs.map kD))),some (.d (.list (vs.map pD))),some (.d (.list (us.map qD))),some (.own (is.map dq)),some (.own (os.map dq)),o7,o8,o9]/\(is.length=n/\os.length=n)/\(∀ q ∈ is,On LL (i * 2 ^ 51) q)/\∀ q ∈ os,On LL (i * 2 ^ 51) q) ⟨_,_,_,_,_,rfl,⟨by simp,by simp⟩,(fun q h=>by rw [List.eq_of_mem_replicate h]; exact On.zero.mono (Nat.zero_le _)),fun q h=>by rw [List.eq_of_mem_replicate h]; exact On.zero.mono (Nat.zero_le _)⟩ ?_ ?_
 ·rintro i p e hpi ⟨is,os,o7,o8,o9,rfl,⟨li,lo⟩,hi,ho⟩;have hil:i < ps.length:=(Zs hpi).1;obtain ⟨⟨k0,ak⟩,oa⟩:=hp p (Zm hpi);obtain ⟨⟨wd,j⟩,a⟩:=p;obtain ⟨m,rfl⟩:=Zi k0;have sa:SmQ 3900 a:=oa.q C7 (by decide +kernel) (by decide +kernel);have sb:∀ {l:LQ},(∀ q ∈ l,On LL (i * 2 ^ 51) q)->∀ q ∈ l,SmQ 3900 q:=fun h q hq=>((h q hq).mono (Zx (Zu _ (show i<=64 by omega)) (Zv _))).q C7 (by decide +kernel) (by decide +kernel);have up:∀ {l:LQ} {z:Nat} {b:Rat},(∀ q ∈ l,On LL (i * 2 ^ 51) q)->On LL ((i + 1) * 2 ^ 51) b->∀ q ∈ l.set z b,On LL ((i + 1) * 2 ^ 51) q:=fun h hb q hq=>by
   rcases List.mem_or_eq_of_mem_set hq with z | z
   ·exact (h q z).mono (Zu _ (by omega))
   ·rw [z]; exact hb
  have up0:∀ {l:LQ},(∀ q ∈ l,On LL (i * 2 ^ 51) q)->∀ q ∈ l,On LL ((i + 1) * 2 ^ 51) q:=fun h q hq=>(h q hq).mono (Zu _ (by omega));rw [show paD ((wd,(m:Int)),a)=PyData.tuple [.tuple [.str wd,.int (m:Int)],dq a] from rfl];trivial;refine ⟨(ArOk.lay (a:=(wd,(m:Int))) ⟨k0,ak⟩ |> fun z=>by have z':((PyData.str wd).canLay0 && ((PyData.int (m:Int)).canLay0 && true))=true:=z; exact (Bool.and_eq_true_iff.mp z').1),by decide +kernel,?_⟩;rcases ak with ⟨e,hm⟩ | ⟨e,hm⟩ | ⟨e,hm⟩ | ⟨e,hm⟩
  ·have e':wd="start":=e;subst e';refine ite2 (fun _=>?_) (fun h=>absurd (by decide +kernel) h);obtain ⟨b,eb⟩:∃ z,is[m]?=some z:=⟨_,Zg (by have:(m:Int) < (n:Int):=hm; omega)⟩;refine A9 eb ?_;trivial;refine ⟨b,a,rfl,sb hi b (Zm eb),sa,?_⟩;trivial;exact ⟨m,N7 (o:=(m:Int)) (by omega) (by rw [li]; exact hm),is.set m (b + a),os,_,_,_,by rw [List.map_set],⟨by rw [List.length_set]; exact li,lo⟩,up hi (S2 C7 (hi b (Zm eb)) oa),up0 ho⟩
  ·have e':wd="end":=e;subst e';refine ite2 (fun h=>absurd h (by decide +kernel)) (fun _=>⟨by decide +kernel,by decide +kernel,?_⟩);refine ite2 (fun _=>?_) (fun h=>absurd (by decide +kernel) h);obtain ⟨b,eb⟩:∃ z,os[m]?=some z:=⟨_,Zg (by have:(m:Int) < (n:Int):=hm; omega)⟩;refine A9 eb ?_;trivial;refine ⟨b,a,rfl,sb ho b (Zm eb),sa,?_⟩;trivial;exact ⟨m,N7 (o:=(m:Int)) (by omega) (by rw [lo]; exact hm),is,os.set m (b + a),_,_,_,by rw [List.map_set],⟨li,by rw [List.length_set]; exact lo⟩,up0 hi,up ho (S2 C7 (ho b (Zm eb)) oa)⟩
  ·have e':wd="wait":=e;subst e';refine ite2 (fun h=>absurd h (by decide +kernel)) (fun _=>⟨by decide +kernel,by decide +kernel,?_⟩);refine ite2 (fun h=>absurd h (by decide +kernel)) (fun _=>⟨by decide +kernel,by decide +kernel,?_⟩);refine ite2 (fun _=>?_) (fun h=>absurd (by decide +kernel) h);obtain ⟨⟨v1,v2⟩,ev⟩:∃ z,vs[m]?=some z:=⟨_,Zg (by have:(m:Int) < (vs.length:Int):=hm; omega)⟩;obtain ⟨⟨v10,v11⟩,v20,v21⟩:=ok.vk _ (Zm ev);obtain ⟨x,rfl⟩:=Zi v10;obtain ⟨y,rfl⟩:=Zi v20;have ed:pD ((x:Int),(y:Int))=PyData.tuple [.int (x:Int),.int (y:Int)]:=rfl;obtain ⟨b,eb⟩:∃ z,os[x]?=some z:=⟨_,Zg (by have:(x:Int) < (n:Int):=v11; omega)⟩;obtain ⟨d,edd⟩:∃ z,is[y]?=some z:=⟨_,Zg (by have:(y:Int) < (n:Int):=v21; omega)⟩;refine A9 ev ?_;rw [ed];trivial;refine A9 eb ?_;trivial;refine ⟨b,a,rfl,sb ho b (Zm eb),sa,?_⟩;trivial;refine A9 ev ?_;rw [ed];trivial;refine ⟨x,N7 (o:=(x:Int)) (by omega) (by rw [lo]; exact v11),?_⟩;refine A9 ev ?_;rw [ed];trivial;refine A9 edd ?_;trivial;refine ⟨d,a,rfl,sb hi d (Zm edd),sa,?_⟩;trivial;refine A9 ev ?_;rw [ed];trivial;exact ⟨y,N7 (o:=(y:Int)) (by omega) (by rw [li]; exact v21),is.set y (d + a),os.set x (b + a),_,_,_,by rw [List.map_set,List.map_set],⟨by rw [List.length_set]; exact li,by rw [List.length_set]; exact lo⟩,up hi (S2 C7 (hi d (Zm edd)) oa),up ho (S2 C7 (ho b (Zm eb)) oa)⟩
  ·have e':wd="hold":=e;subst e';refine ite2 (fun h=>absurd h (by decide +kernel)) (fun _=>⟨by decide +kernel,by decide +kernel,?_⟩);refine ite2 (fun h=>absurd h (by decide +kernel)) (fun _=>⟨by decide +kernel,by decide +kernel,?_⟩);refine ite2 (fun h=>absurd h (by decide +kernel)) (fun _=>?_);obtain ⟨⟨kd,v2⟩,ev⟩:∃ z,us[m]?=some z:=⟨_,Zg (by have:(m:Int) < (us.length:Int):=hm; omega)⟩;obtain ⟨uk,v20,v21⟩:=ok.uk _ (Zm ev);obtain ⟨y,rfl⟩:=Zi v20;have ed:qD (kd,(y:Int))=PyData.tuple [.str kd,.int (y:Int)]:=rfl;obtain ⟨b,eb⟩:∃ z,os[y]?=some z:=⟨_,Zg (by have:(y:Int) < (n:Int):=v21; omega)⟩;obtain ⟨d,edd⟩:∃ z,is[y]?=some z:=⟨_,Zg (by have:(y:Int) < (n:Int):=v21; omega)⟩;have ixi:ixN is.length (y:Int)=some y:=N7 (o:=(y:Int)) (by omega) (by rw [li]; exact v21);have ixo:ixN os.length (y:Int)=some y:=N7 (o:=(y:Int)) (by omega) (by rw [lo]; exact v21);have uk':Hk kd:=uk;refine A9 ev ?_;rw [ed];trivial;refine ⟨uk'.lay,by decide +kernel,?_⟩;refine ite2 (fun _=>?_) (fun _=>?_)
   ·refine A9 ev ?_;rw [ed];trivial;refine A9 eb ?_;trivial;refine ⟨b,a,rfl,sb ho b (Zm eb),sa,?_⟩;trivial;refine A9 ev ?_;rw [ed];trivial;exact ⟨y,ixo,is,os.set y (b + a),_,_,_,by rw [List.map_set],⟨li,by rw [List.length_set]; exact lo⟩,up0 hi,up ho (S2 C7 (ho b (Zm eb)) oa)⟩
   ·refine A9 ev ?_;rw [ed];trivial;refine ⟨uk'.lay,by decide +kernel,?_⟩;refine ite2 (fun _=>?_) (fun _=>?_)
    ·refine A9 ev ?_;rw [ed];trivial;refine A9 edd ?_;trivial;refine ⟨d,a,rfl,sb hi d (Zm edd),sa,?_⟩;trivial;refine A9 ev ?_;rw [ed];trivial;exact ⟨y,ixi,is.set y (d + a),os,_,_,_,by rw [List.map_set],⟨by rw [List.length_set]; exact li,lo⟩,up hi (S2 C7 (hi d (Zm edd)) oa),up0 ho⟩
    ·refine A9 ev ?_;rw [ed];trivial;refine A9 edd ?_;trivial;refine ⟨d,a,rfl,sb hi d (Zm edd),sa,?_⟩;trivial;refine A9 ev ?_;rw [ed];trivial;exact ⟨y,ixi,is.set y (d - a),os,_,_,_,by rw [List.map_set],⟨by rw [List.length_set]; exact li,lo⟩,up hi (((hi d (Zm edd)).sub C7 oa).mono (by rw [Nat.add_mul,Nat.one_mul]; exact Zv _)),up0 ho⟩
 ·rintro e ⟨is,os,o7,o8,o9,rfl,⟨li,lo⟩,hi,ho⟩;trivial;have f:∀ {l:LQ},(∀ q ∈ l,On LL (ps.length * 2 ^ 51) q)->∀ q ∈ l,On LL (2 ^ 57) q:=fun h q hq=>(h q hq).mono (Zx (Zu _ (show ps.length<=64 by omega)) (Nat.le_of_ble_eq_true rfl));exact k is os li lo (f hi) (f ho)
def A8z:Pu.PSp:=fun as Q=>∃ (kd:Str) (cs:LR) (r:Rat),as=[.d (offD kd cs),.d (dq r)]/\1<=cs.length/\OnC cs/\On LL (2 ^ 60) r/\∀ m,(∃ c ∈ cs,m=val r c)->(∀ c ∈ cs,¬ val r c < m)->Q (.d (dq m))
theorem A9n (T:Txt K mg D):FnOk P w K mg base CX0 3 D.a_c9 D.d_c9 ["_law_offer_here","_law_rate_here"] (Pu.spOf K [.dat,.dat] A8z):=by
 refine T.B.F_c9.ok sc_c9 (Zz rfl) (fun cdv A outer s H vs Q E hr h=>?_);refine ⟨_,(QSs.out (A4 (qst 2 sc_c9 F2)
   (A4 (D3 Zf rfl (D1 (K:=K) rfl (qix K (qpv 0) A5)) (B3 (K:=K) (n:=2) rfl rfl (A7 (qgn 3 sc_c9) (A7 (qgn 4 sc_c9) B2)) rfl rfl)
    (A4 (qst 5 sc_c9 (qcK (F3 (K:=K) T) hr.mo (G6 T) (A0 (qpv 4) (A0 (qcK (Q5 (K:=K) T) hr.mo (U6 T) (A0 (qpv 1) (A0 (qpv 3) A3))) A3))))
    (A6 (C3 (QW.pt (T4 (B1 R9 (qpv 2) F2 (C1 _)) (Q1 (F8 (qcK (U2 (K:=K) T) hr.mo (Y3 T) (A0 (qpv 5) (A0 (qpv 2) A3)))))))
     (A6 (qst 2 sc_c9 (qpv 5)))
     B8))))
   (A6 (B0 (qpv 2)))))),?_⟩
 refine Pu.D6 h ?_;rintro as Qp ⟨kd,cs,r,rfl,n1,oc,orr,k⟩;have sr:SmQ 3900 r:=orr.q C7 (by decide +kernel) (by decide +kernel);have hv:∀ c ∈ cs,SmQ 3900 c.1/\SmQ 3900 c.2/\SmQ 3900 (r * c.1)/\SmQ 3900 (val r c):=fun c hc=>by
  obtain ⟨o1,o2⟩:=oc c hc;have om:=orr.mul o1;have ov:=o2.add (Nat.mul_pos C7 C7) om;exact ⟨o1.q C7 (by decide +kernel) (by decide +kernel),o2.q (Nat.mul_pos C7 C7) (by decide +kernel) (by decide +kernel),om.q (Nat.mul_pos C7 C7) (by decide +kernel) (by decide +kernel),ov.q (Nat.mul_pos C7 C7) (by decide +kernel) (by decide +kernel)⟩
 unfold offD;trivial;refine K9 (f:=dcn) (xs:=cs) (fun i e=>∃ (o:Option Rat) (o3 o4 o5:Option SV),e=[some (.d (.tuple [.str kd,.list (cs.map dcn)])),some (.d (dq r)),some (.d (vD o)),o3,o4,o5]/\(o=none->i=0)/\∀ m,o=some m->(∃ c ∈ cs,m=val r c)/\∀ j c,j < i->cs[j]?=some c->¬ val r c < m) ⟨none,_,_,_,rfl,fun _=>rfl,fun _ z=>nomatch z⟩ ?_ ?_
 ·rintro i c e hc ⟨o,o3,o4,o5,rfl,h0,h1⟩;have hcm:=Zm hc;obtain ⟨s1,s2,s3,s4⟩:=hv c hcm;trivial;refine ⟨r,c.1,rfl,sr,s1,?_⟩;trivial;refine ⟨c.2,r * c.1,rfl,s2,s3,?_⟩;trivial;rcases o with _ | m
  ·trivial;refine ⟨some (val r c),_,_,_,rfl,(fun z=>nomatch z),fun m hm=>?_⟩;cases hm;refine ⟨⟨c,hcm,rfl⟩,fun j d hj hd=>?_⟩;have:j=i:=by have:=h0 rfl; omega
   subst this;rw [hc] at hd; cases hd;exact Rat.lt_irrefl
  ·trivial;obtain ⟨⟨d,hd,em⟩,b⟩:=h1 m rfl;refine ite2 (fun h=>absurd h (by show ¬ isNo (dq m)=true; exact fun z=>nomatch z)) (fun _=>?_);refine ⟨val r c,m,rfl,s4,by rw [em]; exact (hv d hd).2.2.2,?_⟩;trivial;have up:∀ m',¬ val r c < m'->m'<=m->∀ j c',j < i + 1->cs[j]?=some c'->¬ val r c' < m':=fun m' u v j c' hj e'=>by
    by_cases hji:j=i
    ·subst hji;rw [hc] at e'; cases e'; exact u
    ·have:=b j c' (by omega) e';grind
   refine ite2 (fun h=>?_) (fun h=>?_)
   ·exact ⟨some (val r c),_,_,_,rfl,(fun z=>nomatch z),fun m' hm=>by cases hm; exact ⟨⟨c,hcm,rfl⟩,up _ Rat.lt_irrefl (by grind)⟩⟩
   ·exact ⟨some m,_,_,_,rfl,(fun z=>nomatch z),fun m' hm=>by cases hm; exact ⟨⟨d,hd,em⟩,up _ h Rat.le_refl⟩⟩
 ·rintro e ⟨o,o3,o4,o5,rfl,h0,h1⟩;try rw [Zl] at h0 h1
  rcases o with _ | m
  ·have:=h0 rfl; omega
  ·trivial;obtain ⟨a,b⟩:=h1 m rfl;exact k m a fun c hc=>by
    obtain ⟨j,hj,e⟩:=List.getElem_of_mem hc;exact b j c hj (by rw [<- e]; exact Zg hj)
def B17:Pu.PSp:=fun as Q=>∃ (kd:Str) (cs:LR) (r:Rat),as=[.d (offD kd cs),.d (dq r),.st]/\Kd kd/\OfOk cs 100 54 244 130/\OnC cs/\On LL (2 ^ 60) r/\∀ t,On (LL * 4) (2 ^ 50) t->Off kd cs t->Q (.d (dq t))
theorem B2r (T:Txt K mg D):FnOk P w K mg base CX0 4 D.a_dc D.d_dc ["_law_offer_here","_law_amount_here","_law_own"] (Pu.spOf K [.dat,.dat,.st] B17):=by
 refine T.B.F_dc.ok sc_dc (Zz rfl) (fun cdv A outer s H vs Q E hr h=>?_);refine ⟨_,(QSs.out (A4 (C4 (qpv 0) (B3 (K:=K) (n:=2) rfl rfl (A7 (qgn 3 sc_dc) (A7 (qgn 4 sc_dc) B2)) rfl rfl))
   (A4 (O7 (i:=5) sc_dc.nd rfl (Or.inr rfl) (qcK (A9n (K:=K) T) hr.mo (B3r T) (A0 (qpv 0) (A0 (qpv 1) A3))))
   (A4 (C9 (i:=6) rfl sc_dc.nd rfl rfl (C5 ["_law_due","_law_amount_here","_law_time_here","_law_price"] [some 5,some 1,none,none]) (D1 (K:=K) rfl (qpv 4)) (fun _ _ _=>(B3 (K:=K) (n:=2) rfl rfl (A7 (qgc 2 ["_law_due","_law_amount_here","_law_time_here","_law_price"]) (A7 (qgc 3 ["_law_due","_law_amount_here","_law_time_here","_law_price"]) B2)) rfl rfl)) (fun _ _ _=>(Q9 (B1 (C8 (K:=K) rfl hr.units) (qcK (F3 (K:=K) T) hr.mo (G6 T) (A0 (qpv 3) (A0 (qcK (Q5 (K:=K) T) hr.mo (U6 T) (A0 (qpv 1) (A0 (qpv 2) A3))) A3))) (qpv 0) (C1 _)))) (fun _ _ _=>(qpv 2)) rfl)
   (A4 (qst 7 sc_dc (qcK (C6 (K:=K) T) hr.mo (D0 T) (A0 (qpv 2) (A0 A5 A3))))
   (A4 (qst 8 sc_dc (qcK (C6 (K:=K) T) hr.mo (D0 T) (A0 (qpv 2) (A0 (qln K T.z_len (qpv 4)) A3))))
   (A4 (C3 (B1 Z6 (qpv 7) A5 (C1 _))
    (A6 (B0 (qix K (qpv 6) (qcK (C6 (K:=K) T) hr.mo (D0 T) (A0 (qpv 2) (A0 (qln K T.z_len (qpv 6)) A3))))))
    B8)
   (A4 (C3 (QW.pt (T4 (B1 (C8 (K:=K) rfl hr.units) (qpv 7) A5 (C1 _)) (T4 (B1 (C8 (K:=K) rfl hr.units) (qpv 3) C0 (C1 _)) (Q1 (B1 (C8 (K:=K) rfl hr.units) (qpv 8) A5 (C1 _))))))
    (A6 (B0 (qix K (qix K (qpv 4) (qpv 8)) A5)))
    B8)
   (A4 (qst 9 sc_dc (qcK (J6 (K:=K) T) hr.mo (L4 T) (A0 (qix K (qix K (qpv 4) (C2 U1 (qpv 8) A5)) A5) (A0 (qix K (qix K (qpv 4) (qpv 8)) A5) A3))))
   (A6 (B0 (qcK (F3 (K:=K) T) hr.mo (G6 T) (A0 (qix K (qix K (qpv 4) (qpv 8)) A5) (A0 (qcK (Q5 (K:=K) T) hr.mo (U6 T) (A0 (qpv 9) (A0 (qcK (V6 (K:=K) T) hr.mo (A1l T) (A0 (C2 G3 A5 (qcK (C6 (K:=K) T) hr.mo (D0 T) (A0 (qpv 2) (A0 A5 A3)))) (A0 A5 A3))) A3))) A3)))))))))))))),?_⟩
 refine Pu.D6 h ?_;rintro as Qp ⟨kd,cs,r,rfl,hk,ok,oc,orr,k⟩;have n1:=ok.ne;have n5:=ok.le;have hv:∀ c ∈ cs,SmQ 3900 c.1/\SmQ 3900 c.2/\SmQ 3900 (r * c.1)/\SmQ 3900 (val r c):=fun c hc=>by
  obtain ⟨o1,o2⟩:=oc c hc;have om:=orr.mul o1;have ov:=o2.add (Nat.mul_pos C7 C7) om;exact ⟨o1.q C7 (by decide +kernel) (by decide +kernel),o2.q (Nat.mul_pos C7 C7) (by decide +kernel) (by decide +kernel),om.q (Nat.mul_pos C7 C7) (by decide +kernel) (by decide +kernel),ov.q (Nat.mul_pos C7 C7) (by decide +kernel) (by decide +kernel)⟩
 have sr:SmQ 3900 r:=orr.q C7 (by decide +kernel) (by decide +kernel);have kc:∀ (i:Nat) c,cs[i]?=some c->Qp (.d (dq c.1)):=fun i c ec=>k c.1 (((oc c (Zm ec)).1.up (by decide)).p2 (by decide)) (A7j hk ok.dec n1 ec);unfold offD;refine hd fun R hR=>?_;trivial;subst hR;refine hd fun R hR=>?_;trivial;refine ⟨kd,cs,r,rfl,n1,oc,orr,fun m hm1 hm2=>?_⟩;trivial;subst hR;refine hd fun R hR=>?_;trivial;refine ⟨by omega,F4 (f:=dcn) (xs:=cs) (fun i e ys=>∃ (ts:LQ) (o2 o3:Option SV),e=[some (.d (dq m)),some (.d (dq r)),o2,o3]/\ys=ts.map dq/\ts.length<=i/\(∀ t ∈ ts,∃ (j:Nat) (c:Rat × Rat),cs[j]?=some c/\c.1=t)/\∀ j c,j < i->cs[j]?=some c->m=val r c->ts≠[]) ⟨[],_,_,rfl,rfl,Nat.zero_le _,(fun _ z=>nomatch z),fun _ _ z=>absurd z (Nat.not_lt_zero _)⟩ ?_ ?_⟩
 ·rintro i c e ys hc ⟨ts,o2,o3,rfl,rfl,hl,ht,hne⟩;obtain ⟨s1,s2,s3,s4⟩:=hv c (Zm hc);trivial;refine ⟨r,c.1,rfl,sr,s1,?_⟩;trivial;refine ⟨c.2,r * c.1,rfl,s2,s3,?_⟩;trivial;refine ite2 (fun h=>?_) (fun h=>?_)
  ·refine ⟨ts++[c.1],_,_,rfl,by rw [Zc]; rfl,by rw [Ze,List.length_singleton]; omega,fun t h=>?_,fun _ _ _ _ _=>by simp⟩;rcases Za h with z | z
   ·exact ht t z
   ·exact ⟨i,c,hc,(Zn z).symm⟩
  ·refine ⟨ts,_,_,rfl,rfl,by omega,ht,fun j d hj ed em=>?_⟩;by_cases hji:j=i
   ·subst hji;rw [hc] at ed; cases ed;exact absurd em.symm h
   ·exact hne j d (by omega) ed em
 ·rintro e ys ⟨ts,o2,o3,rfl,rfl,hl,ht,hne⟩;trivial;subst hR;have tp:0 < ts.length:=by
   obtain ⟨c,hc,em⟩:=hm1;obtain ⟨j,hj,e⟩:=List.getElem_of_mem hc;exact List.length_pos_iff.mpr (hne j c (by simpa using hj) (by rw [<- e]; exact Zg hj) em)
  have tl:ts.length<=5:=by omega
  trivial;refine ⟨5,rfl,by decide,sm4 5,fun y y0 y1=>?_⟩;trivial;refine ⟨(cs.length:Int),by simp,by omega,M1 (B:=5) (by omega) (by omega) (by decide),fun a a0 a1=>?_⟩;trivial;obtain ⟨p,rfl⟩:=Zi a0;obtain ⟨c,ec⟩:∃ c,cs[p]?=some c:=⟨_,Zg (by omega)⟩;refine ite2 (fun h=>?_) (fun h=>?_)
  ·refine ⟨(ts.length:Int),by simp,by omega,M1 (B:=5) (by omega) (by omega) (by decide),fun b b0 b1=>?_⟩;trivial;obtain ⟨q,rfl⟩:=Zi b0;obtain ⟨t,et⟩:∃ c,ts[q]?=some c:=⟨_,Zg (by omega)⟩;refine A9 et ?_;trivial;obtain ⟨j,d,ed,e2⟩:=ht t (Zm et);rw [<- e2]; exact kc j d ed
  ·refine ite2 (fun _=>?_) (fun _=>⟨hk.lay,A93,ite2 (fun _=>?_) (fun hst=>ite2 (fun _=>?_) (fun hp0=>?_))⟩)
   ·refine A9 ec ?_;trivial;exact kc p c ec
   ·refine A9 ec ?_;trivial;exact kc p c ec
   ·refine A9 ec ?_;trivial;exact kc p c ec
   obtain ⟨q,rfl⟩:∃ q,p=q + 1:=⟨p - 1,by omega⟩;obtain ⟨d,ed⟩:∃ c,cs[q]?=some c:=⟨_,Zg (by omega)⟩;have hcd:c.1 < d.1:=ok.dec.get ed ec (Nat.lt_succ_self q);obtain ⟨sc,_⟩:=hv c (Zm ec);obtain ⟨sd,_⟩:=hv d (Zm ed);have o1:=(oc c (Zm ec)).1;have og:=(oc d (Zm ed)).1.sub2 (b:=46) C7 o1 (by decide);rw [show ((q + 1:Nat):Int) - 1=(q:Int) by omega];refine A9 ed ?_;trivial;refine A9 (n:=q + 1) ec ?_;trivial;refine ⟨d.1,c.1,rfl,sd,sc,?_⟩;trivial;refine A9 (n:=q + 1) ec ?_;trivial;refine ⟨3,rfl,by decide,sm4 3,fun u u0 u1=>?_⟩;trivial;refine ⟨1 + u,4,rfl,by decide,M1 (B:=5) (by omega) (by omega) (by decide),by unfold Sm; decide,?_⟩;trivial;have o4:On 4 1 (Rat.divInt (1 + u) 4):=⟨1 + u,rfl,by omega⟩;have om:=og.mul o4;rw [Nat.mul_one] at om;refine ⟨d.1 - c.1,Rat.divInt (1 + u) 4,rfl,og.q C7 (by decide +kernel) (by decide +kernel),o4.q (by decide) (by decide +kernel) (by decide +kernel),?_⟩;trivial;refine ⟨c.1,(d.1 - c.1) * Rat.divInt (1 + u) 4,rfl,sc,om.q (by decide) (by decide +kernel) (by decide +kernel),?_⟩;trivial;have f:=four (x:=1 + u) (by omega) (by omega);refine k _ (((o1.up (by decide)).p2 (b:=46) (by decide)).add2 (by decide) om (by decide)) (A0c (i:=q) (j:=q + 1) ok.dec (fun z=>hst ?_) n1 ed ec ?_ ?_)
   ·rw [z]; exact B4p
   ·have h2:0<=(d.1 - c.1) * (1 - Rat.divInt (1 + u) 4):=Rat.mul_nonneg (by grind) (by grind);grind
   ·have h2:0<=(d.1 - c.1) * Rat.divInt (1 + u) 4:=Rat.mul_nonneg (by grind) f.1;grind
def A8u:Pu.PSp:=fun as Q=>∃ (ns:List Int) (j:Int),as=[.bor (ns.map .int),.d (.int j)]/\0<=j/\j<=100/\∀ q:Rat,0<=q->On LL (2 ^ 42) q->Q (.d (dq q))
theorem A3i (T:Txt K mg D):FnOk P w K mg base CX0 3 D.a_d0 D.d_d0 ["_law_script","_law_k"] (Pu.spOf K [.vw,.dat] A8u):=by
 refine T.B.F_d0.ok sc_d0 (Zz rfl) (fun cdv A outer s H vs Q E hr h=>?_);refine ⟨_,(QSs.out (A4 (qst 2 sc_d0 (qcK (N4 (K:=K) T) hr.mo (P5 T) (A0 (qpv 0) (A0 (C2 G3 A5 (qpv 1)) A3))))
   (A4 (D9 (qcK (C6 (K:=K) T) hr.mo (D0 T) (A0 (qpv 2) (A0 A5 A3))))
   (A4 (qst 3 sc_d0 (qcK (J1 (K:=K) T) hr.mo (K6 T) (A0 (qpv 2) (A0 J2 (A0 A5 A3)))))
   (A4 (C3 (B1 Z6 (qcK (C6 (K:=K) T) hr.mo (D0 T) (A0 (qpv 2) (A0 A5 A3))) A5 (C1 _))
    (A6 (qst 3 sc_d0 (B7 (A0 A5 (A0 A5 A3)))))
    B8)
   (A6 (B0 (qpv 3)))))))),?_⟩
 refine Pu.D6 h ?_;rintro as Qp ⟨ns,j,rfl,j0,j1,k⟩;trivial;refine ⟨ns,_,rfl,by omega,by omega,?_⟩;trivial;refine ⟨7907,rfl,by decide,M1 (B:=7907) (by omega) (by omega) (by decide),fun d d0 d1=>?_⟩;trivial;refine ⟨_,_,rfl,.inr rfl,fun q q0 _ sq _=>?_⟩;trivial;refine ⟨3,rfl,by decide,sm4 3,fun t t0 t1=>?_⟩;trivial;exact ite2 (fun h=>k 0 Rat.le_refl (On.zero.mono (Nat.zero_le _))) (fun h=>k q q0 ((P7 sq).p2 (by decide)))
def A4n:Pu.PSp:=fun as Q=>∃ (n:Nat) (xs:List Wk) (vs:List (Int × Int)) (us:List (Str × Int)) (ns:List Int) (pa:List ((Str × Int) × Rat)),as=[.d (shD xs vs us),.bor (ns.map .int),.bor (pa.map paD)]/\ShOk n xs vs us/\pa.length<=48/\(∀ p ∈ pa,ArOk n vs.length us.length p.1/\On LL (2 ^ 51) p.2)/\∀ (ps:LR) (ws:LW) (hs:LH),ps.length=n->(∀ p ∈ ps,0<=p.1/\On (LL * 4) (2 ^ 50) p.1/\On (LL * 4) (2 ^ 50) p.2)->(∀ (i:Nat) x p,xs[i]?=some x->ps[i]?=some p->Off x.2.1 x.2.2 p.2)->ws.map (fun w=>(w.1,w.2.1))=vs->(∀ w ∈ ws,On (LL * 4) (2 ^ 55) w.2.2/\0<=wSl ps w)->hs.map (fun h=>(h.1,h.2.1))=us->(∀ h ∈ hs,On (LL * 4) (2 ^ 55) h.2.2/\0<=hSl ps h)->Q (.d (.tuple [netD xs ws hs [],.list (ps.map dcn)]))
theorem A4p (T:Txt K mg D):FnOk P w K mg base CX0 5 D.a_b6 D.d_b6 ["_law_shape_here","_law_script","_law_paper_here"] (Pu.spOf K [.dat,.vw,.vw] A4n):=by
 refine T.B.F_b6.ok sc_b6 (Zz rfl) (fun cdv A outer s H vs Q E hr h=>?_);refine ⟨_,(QSs.out (A4 (C4 (qpv 0) (B3 (K:=K) (n:=3) rfl rfl (A7 (qgn 3 sc_b6) (A7 (qgn 4 sc_b6) (A7 (qgn 5 sc_b6) B2))) rfl rfl))
   (A4 (qst 6 sc_b6 (qix K (qcK (A9o (K:=K) T) hr.mo (B3s T) (A0 (qpv 0) (A0 (qpv 2) A3))) A5))
   (A4 (qst 7 sc_b6 (D2 A3))
   (A4 (D3 Zf rfl (E6 rfl T.z_range (A0 (qln K T.z_len (qpv 3)) A3)) (qgn 8 sc_b6)
    (A4 (qst 9 sc_b6 (qcK (N4 (K:=K) T) hr.mo (P5 T) (A0 (qpv 1) (A0 (C2 G3 A5 (qpv 8)) A3))))
    (A4 (D9 (qcK (C6 (K:=K) T) hr.mo (D0 T) (A0 (qpv 9) (A0 A5 A3))))
    (A4 (qst 10 sc_b6 (qcK (B2r (K:=K) T) hr.mo (B9c T) (A0 (qix K (qix K (qpv 3) (qpv 8)) A5) (A0 (qix K (qpv 6) (qpv 8)) (A0 (qpv 9) A3)))))
    (A4 (qst 11 sc_b6 (qcK (J1 (K:=K) T) hr.mo (K6 T) (A0 (qpv 9) (A0 J2 (A0 A5 A3)))))
    (A4 (C3 (B1 Z6 (qcK (C6 (K:=K) T) hr.mo (D0 T) (A0 (qpv 9) (A0 A5 A3))) A5 (C1 _))
     (A6 (qst 11 sc_b6 (B7 (A0 A5 (A0 A5 A3)))))
     B8)
    (A6 (D9 (F9 (K:=K) rfl Z1 Z2 Z3 E5 (qpv 7) (A0 (B7 (A0 (qpv 11) (A0 (qpv 10) A3))) A3))))))))))
   (A4 (C9 (i:=12) rfl sc_b6.nd rfl rfl (C5 ["_law_start","_law_time_here"] [none,none]) (D1 (K:=K) rfl (qpv 7)) (fun _ _ _=>(B3 (K:=K) (n:=2) rfl rfl (A7 (qgc 0 ["_law_start","_law_time_here"]) (A7 (qgc 1 ["_law_start","_law_time_here"]) B2)) rfl rfl)) (fun _ _ _=>D8) (fun _ _ _=>(qcK (F3 (K:=K) T) hr.mo (G6 T) (A0 (qpv 0) (A0 (qpv 1) A3)))) rfl)
   (A4 (qst 13 sc_b6 (D2 A3))
   (A4 (D3 Zf rfl (E6 rfl T.z_range (A0 (qln K T.z_len (qpv 4)) A3)) (qgn 14 sc_b6)
    (A4 (C4 (qix K (qpv 4) (qpv 14)) (B3 (K:=K) (n:=2) rfl rfl (A7 (qgn 15 sc_b6) (A7 (qgn 16 sc_b6) B2)) rfl rfl))
    (A6 (D9 (F9 (K:=K) rfl Z1 Z2 Z3 E5 (qpv 13) (A0 (B7 (A0 (qpv 15) (A0 (qpv 16) (A0 (qcK (J6 (K:=K) T) hr.mo (L4 T) (A0 (qcK (J6 (K:=K) T) hr.mo (L4 T) (A0 (qix K (qix K (qpv 7) (qpv 16)) A5) (A0 (qix K (qpv 12) (qpv 15)) A3))) (A0 (qcK (A3i (K:=K) T) hr.mo (A6s T) (A0 (qpv 1) (A0 (qpv 14) A3))) A3))) A3)))) A3))))))
   (A4 (qst 17 sc_b6 (D2 A3))
   (A4 (D3 Zf rfl (E6 rfl T.z_range (A0 (qln K T.z_len (qpv 5)) A3)) (qgn 14 sc_b6)
    (A4 (C4 (qix K (qpv 5) (qpv 14)) (B3 (K:=K) (n:=2) rfl rfl (A7 (qgn 18 sc_b6) (A7 (qgn 8 sc_b6) B2)) rfl rfl))
    (A4 (qst 19 sc_b6 (qcK (A3i (K:=K) T) hr.mo (A6s T) (A0 (qpv 1) (A0 (C2 G3 A5 (qpv 14)) A3))))
    (A6 (C3 (B1 (C8 (K:=K) rfl hr.units) (qpv 18) C0 (C1 _))
     (A6 (D9 (F9 (K:=K) rfl Z1 Z2 Z3 E5 (qpv 17) (A0 (B7 (A0 (qpv 18) (A0 (qpv 8) (A0 (qcK (J6 (K:=K) T) hr.mo (L4 T) (A0 (qix K (qix K (qpv 7) (qpv 8)) A5) (A0 (qpv 19) A3))) A3)))) A3))))
     (A6 (D9 (F9 (K:=K) rfl Z1 Z2 Z3 E5 (qpv 17) (A0 (B7 (A0 (qpv 18) (A0 (qpv 8) (A0 (qcK (F3 (K:=K) T) hr.mo (G6 T) (A0 (qix K (D2 (A0 (qix K (qix K (qpv 7) (qpv 8)) A5) (A0 (qix K (qpv 12) (qpv 8)) A3))) (V2 B06 (by rfl) T.z_int (by rfl) (A0 (G8 (C8 (K:=K) rfl hr.units) (qpv 18) C0 (C1 _)) A3))) (A0 (qpv 19) A3))) A3)))) A3)))))))))
   (A6 (B0 (B7 (A0 (B7 (A0 (qpv 3) (A0 (qpv 13) (A0 (qpv 17) (A0 (D2 A3) A3))))) (A0 (qpv 7) A3))))))))))))))),?_⟩
 refine Pu.D6 h ?_;rintro as Qp ⟨n,xs,vs,us,ns,pa,rfl,ok,l48,hpa,k⟩;have n0:=ok.n0;have n1:=ok.n1;have ln:=ok.ln;have vl:=ok.vl;have ul:=ok.ul;refine hd fun R hR=>?_;unfold shD;trivial;subst hR;refine hd fun R hR=>?_;trivial;refine ⟨n,xs,vs,us,pa,rfl,ok,l48,hpa,fun is os li lo hi _=>?_⟩;trivial;subst hR;refine hd fun R hR=>?_;trivial;subst hR;refine hd fun R hR=>?_;trivial;refine ⟨by omega,?_⟩;refine P4 (fun i e=>∃ (ps:LR) (o8 o9 o10 o11:Option SV),e=[some (.d (.tuple [.list (xs.map kD),.list (vs.map pD),.list (us.map qD)])),some (.bor (ns.map .int)),some (.bor (pa.map paD)),some (.d (.list (xs.map kD))),some (.d (.list (vs.map pD))),some (.d (.list (us.map qD))),some (.d (.list (is.map dq))),some (.own (ps.map dcn)),o8,o9,o10,o11,none,none,none,none,none,none,none,none]/\ps.length=i/\(∀ p ∈ ps,0<=p.1/\On (LL * 4) (2 ^ 50) p.1/\On (LL * 4) (2 ^ 50) p.2)/\∀ (j:Nat) x p,xs[j]?=some x->ps[j]?=some p->Off x.2.1 x.2.2 p.2) ⟨[],_,_,_,_,rfl,rfl,(fun _ z=>nomatch z),fun j x p _ h=>nomatch h⟩ ?_ ?_
 ·rintro i e hi' ⟨ps,o8,o9,o10,o11,rfl,hl,hp,hof⟩;obtain ⟨x,ex⟩:∃ c,xs[i]?=some c:=⟨_,Zg (by omega)⟩;obtain ⟨r,er⟩:∃ c,is[i]?=some c:=⟨_,Zg (by omega)⟩;obtain ⟨hk,og,oc,op⟩:=ok.of x (Zm ex);trivial;refine ⟨ns,_,rfl,by omega,by omega,?_⟩;trivial;refine ⟨7919,rfl,by decide,M1 (B:=7919) (by omega) (by omega) (by decide),fun d d0 d1=>?_⟩;trivial;refine A9 ex ?_;rw [show kD x=PyData.tuple [.str x.1,offD x.2.1 x.2.2] from rfl];trivial;refine A9 er ?_;trivial;refine ⟨x.2.1,x.2.2,r,rfl,hk,og.ok,oc,(hi r (Zm er)).p2 (by decide),fun t ot off=>?_⟩;trivial;refine ⟨_,_,rfl,.inl rfl,fun q q0 _ sq _=>?_⟩;trivial;refine ⟨4,rfl,by decide,sm4 4,fun z z0 z1=>?_⟩;trivial;have fin:∀ (q:Rat),0<=q->On (LL * 4) (2 ^ 50) q->(∀ p ∈ ps++[(q,t)],0<=p.1/\On (LL * 4) (2 ^ 50) p.1/\On (LL * 4) (2 ^ 50) p.2)/\∀ (j:Nat) x p,xs[j]?=some x->(ps++[(q,t)])[j]?=some p->Off x.2.1 x.2.2 p.2:=fun q q0 oq=>by
   refine ⟨fun p h=>?_,fun j y p hx h=>?_⟩
   ·rcases Za h with z | z
    ·exact hp p z
    ·rw [Zn z]; exact ⟨q0,oq,ot⟩
   ·by_cases hj:j < ps.length
    ·rw [List.getElem?_append_left hj] at h;exact hof j y p hx h
    ·have hj2:j=ps.length:=by
      have:=(Zs h).1;rw [Ze,List.length_singleton] at this;omega
     rw [hj2,List.getElem?_append_right (Zv _),Nat.sub_self] at h;cases h;rw [hj2,hl,ex] at hx;cases hx;exact off
  refine ite2 (fun _=>?_) (fun _=>?_)
  ·trivial;obtain ⟨f1,f2⟩:=fin 0 Rat.le_refl (On.zero.mono (Nat.zero_le _));exact ⟨by omega,ps++[(0,t)],_,_,_,_,by rw [Zc]; rfl,by rw [Ze,hl]; rfl,f1,f2⟩
  ·trivial;obtain ⟨f1,f2⟩:=fin q q0 (((P7 sq).up (by decide)).p2 (by decide));exact ⟨by omega,ps++[(q,t)],_,_,_,_,by rw [Zc]; rfl,by rw [Ze,hl]; rfl,f1,f2⟩
 ·rintro e ⟨ps,o8,o9,o10,o11,rfl,hl,hp,hof⟩;trivial;subst hR;refine hd fun R hR=>?_;trivial;have B4:0 < LL * 4:=Nat.mul_pos C7 (by decide);have sp:∀ p ∈ ps,SmQ 3900 p.1/\SmQ 3900 p.2/\SmQ 3900 (enD p)/\On (LL * 4) (2 ^ 51) (enD p):=fun p h=>by
   obtain ⟨_,a,b⟩:=hp p h;have c:=a.add2 (b:=51) B4 b (by decide);exact ⟨a.q B4 (by decide +kernel) (by decide +kernel),b.q B4 (by decide +kernel) (by decide +kernel),c.q B4 (by decide +kernel) (by decide +kernel),c⟩
  refine ⟨by omega,F4 (f:=dcn) (xs:=ps) (fun i e ys=>∃ o1 o2:Option SV,e=[o1,o2]/\ys=((ps.take i).map enD).map dq) ⟨_,_,rfl,rfl⟩ ?_ ?_⟩
  ·rintro i p e ys hpi ⟨o1,o2,rfl,rfl⟩;obtain ⟨a,b,_,_⟩:=sp p (Zm hpi);trivial;refine ⟨p.1,p.2,rfl,a,b,?_⟩;trivial;exact ⟨_,_,rfl,by rw [List.take_succ,hpi,Zc,Zc]; rfl⟩
  rintro e ys ⟨o1,o2,rfl,rfl⟩;rw [List.take_length];trivial;subst hR;refine hd fun R hR=>?_;trivial;subst hR;refine hd fun R hR=>?_;trivial;have st:∀ {y:Nat} {p:Rat × Rat},ps[y]?=some p->sat ps (y:Int)=p:=fun {y p} h=>by
   show ps.getD ((y:Int).toNat) (0,0)=p;rw [Int.toNat_natCast,List.getD_eq_getElem?_getD,h]; rfl
  refine ⟨by omega,?_⟩;refine P4 (fun i e=>∃ (ws:LW) (o14 o15 o16:Option SV),e=[some (.d (.tuple [.list (xs.map kD),.list (vs.map pD),.list (us.map qD)])),some (.bor (ns.map .int)),some (.bor (pa.map paD)),some (.d (.list (xs.map kD))),some (.d (.list (vs.map pD))),some (.d (.list (us.map qD))),some (.d (.list (is.map dq))),some (.d (.list (ps.map dcn))),o8,o9,o10,o11,some (.own ((ps.map enD).map dq)),some (.own (ws.map wD)),o14,o15,o16,none,none,none]/\ws.length=i/\ws.map (fun w=>(w.1,w.2.1))=vs.take i/\∀ w ∈ ws,On (LL * 4) (2 ^ 55) w.2.2/\0<=wSl ps w) ⟨[],_,_,_,rfl,rfl,rfl,fun _ z=>nomatch z⟩ ?_ ?_
  ·rintro i e hi' ⟨ws,o14,o15,o16,rfl,lw,ew,hw⟩;obtain ⟨⟨v1,v2⟩,ev⟩:∃ z,vs[i]?=some z:=⟨_,Zg (by omega)⟩;obtain ⟨⟨v10,v11⟩,v20,v21⟩:=ok.vk _ (Zm ev);obtain ⟨x,rfl⟩:=Zi v10;obtain ⟨y,rfl⟩:=Zi v20;obtain ⟨a,ea⟩:∃ z,ps[x]?=some z:=⟨_,Zg (by have:(x:Int) < (n:Int):=v11; omega)⟩;obtain ⟨b,eb⟩:∃ z,ps[y]?=some z:=⟨_,Zg (by have:(y:Int) < (n:Int):=v21; omega)⟩;obtain ⟨_,_,a3,a4⟩:=sp a (Zm ea);obtain ⟨b1,_,_,_⟩:=sp b (Zm eb);have ob:=(hp b (Zm eb)).2.1;have od:=(ob.p2 (b:=51) (by decide)).sub2 (b:=52) B4 a4 (by decide);trivial;refine A9 ev ?_;rw [show pD ((x:Int),(y:Int))=PyData.tuple [.int (x:Int),.int (y:Int)] from rfl];trivial;refine A9 eb ?_;trivial;refine A9 (f:=dq) (xs:=ps.map enD) (n:=x) (by rw [Zh,ea]; rfl) ?_;trivial;refine ⟨b.1,enD a,rfl,b1,a3,?_⟩;trivial;refine ⟨ns,_,rfl,by omega,by omega,fun q q0 oq=>?_⟩;have oq4:On (LL * 4) (2 ^ 52) q:=(oq.up (by decide)).p2 (by decide);trivial;refine ⟨b.1 - enD a,q,rfl,od.q B4 (by decide +kernel) (by decide +kernel),oq4.q B4 (by decide +kernel) (by decide +kernel),?_⟩;trivial;refine ⟨by omega,ws++[((x:Int),(y:Int),b.1 - enD a - q)],_,_,_,by rw [Zc]; rfl,by rw [Ze,lw]; rfl,by rw [Zc,ew,List.take_succ,ev]; rfl,fun w h=>?_⟩;rcases Za h with z | z
   ·exact hw w z
   ·rw [Zn z];refine ⟨(od.sub2 (b:=53) B4 oq4 (by decide)).p2 (by decide),?_⟩;show 0<=(sat ps (y:Int)).1 - (enD (sat ps (x:Int)) + (b.1 - enD a - q));rw [st ea,st eb]; grind
  rintro e ⟨ws,o14,o15,o16,rfl,lw,ew,hw⟩;trivial;subst hR;refine hd fun R hR=>?_;trivial;subst hR;refine hd fun R hR=>?_;trivial;refine ⟨by omega,?_⟩;refine P4 (fun i e=>∃ (hs:LH) (o8 o14 o18 o19:Option SV),e=[some (.d (.tuple [.list (xs.map kD),.list (vs.map pD),.list (us.map qD)])),some (.bor (ns.map .int)),some (.bor (pa.map paD)),some (.d (.list (xs.map kD))),some (.d (.list (vs.map pD))),some (.d (.list (us.map qD))),some (.d (.list (is.map dq))),some (.d (.list (ps.map dcn))),o8,o9,o10,o11,some (.own ((ps.map enD).map dq)),some (.own (ws.map wD)),o14,o15,o16,some (.own (hs.map hD)),o18,o19]/\hs.length=i/\hs.map (fun h=>(h.1,h.2.1))=us.take i/\∀ h ∈ hs,On (LL * 4) (2 ^ 55) h.2.2/\0<=hSl ps h) ⟨[],_,_,_,_,rfl,rfl,rfl,fun _ z=>nomatch z⟩ ?_ ?_
  ·rintro i e hi' ⟨hs,o8,o14,o18,o19,rfl,lh,eh,hh⟩;obtain ⟨⟨kd,v2⟩,ev⟩:∃ z,us[i]?=some z:=⟨_,Zg (by omega)⟩;obtain ⟨uk,v20,v21⟩:=ok.uk _ (Zm ev);have uk':Hk kd:=uk;obtain ⟨y,rfl⟩:=Zi v20;obtain ⟨b,eb⟩:∃ z,ps[y]?=some z:=⟨_,Zg (by have:(y:Int) < (n:Int):=v21; omega)⟩;obtain ⟨b1,_,b3,b4⟩:=sp b (Zm eb);have ob:=(hp b (Zm eb)).2.1.p2 (b:=52) (by decide);have oe:=b4.p2 (b:=52) (by decide);have add:∀ {kd':Str} {q:Rat},kd'=kd->On (LL * 4) (2 ^ 55) q->0<=hSl ps (kd',(y:Int),q)->(hs++[(kd',(y:Int),q)]).length=i + 1/\(hs++[(kd',(y:Int),q)]).map (fun h=>(h.1,h.2.1))=us.take (i + 1)/\∀ h ∈ hs++[(kd',(y:Int),q)],On (LL * 4) (2 ^ 55) h.2.2/\0<=hSl ps h:=fun {kd' q} e oq hq=>by
    refine ⟨by rw [Ze,lh]; rfl,by rw [Zc,eh,List.take_succ,ev,e]; rfl,fun h hm=>?_⟩;rcases Za hm with z | z
    ·exact hh h z
    ·rw [Zn z]; exact ⟨oq,hq⟩
   trivial;refine A9 ev ?_;rw [show qD (kd,(y:Int))=PyData.tuple [.str kd,.int (y:Int)] from rfl];trivial;refine ⟨ns,_,rfl,by omega,by omega,fun q q0 oq=>?_⟩;have oq4:On (LL * 4) (2 ^ 52) q:=(oq.up (by decide)).p2 (by decide);have sq:SmQ 3900 q:=oq4.q B4 (by decide +kernel) (by decide +kernel);trivial;refine ⟨uk'.lay,by decide +kernel,?_⟩;refine ite2 (fun hf=>?_) (fun hf=>?_)
   ·refine A9 eb ?_;trivial;refine ⟨b.1,q,rfl,b1,sq,?_⟩;trivial;have ek:kd="from":=by
     rcases uk' with z | z | z
     ·exact z
     ·rw [z] at hf; exact absurd hf (by decide +kernel)
     ·rw [z] at hf; exact absurd hf (by decide +kernel)
    obtain ⟨r1,r2,r3⟩:=add (kd':=kd) rfl ((ob.sub2 (b:=53) B4 oq4 (by decide)).p2 (by decide)) (by
     unfold hSl;rw [if_pos ek];show 0<=(sat ps (y:Int)).1 - (b.1 - q);rw [st eb]; grind)
    exact ⟨by omega,hs++[(kd,(y:Int),b.1 - q)],_,_,_,_,by rw [Zc]; rfl,r1,r2,r3⟩
   ·refine A9 eb ?_;trivial;refine A9 (f:=dq) (xs:=ps.map enD) (n:=y) (by rw [Zh,eb]; rfl) ?_;trivial;refine ⟨uk'.lay,by decide +kernel,?_⟩;rcases uk' with z | z | z
    ·rw [z] at hf; exact absurd (by decide +kernel) hf
    ·have z':kd="till":=z;subst z';rw [if_neg (by decide +kernel)];trivial;refine ⟨b.1,q,rfl,b1,sq,?_⟩;trivial;obtain ⟨r1,r2,r3⟩:=add (kd':="till") rfl ((ob.add2 (b:=53) B4 oq4 (by decide)).p2 (by decide)) (by
      unfold hSl;rw [if_neg B8c,if_pos rfl];show 0<=b.1 + q - (sat ps (y:Int)).1;rw [st eb]; grind)
     exact ⟨by omega,hs++[(Str.ofString "till",(y:Int),b.1 + q)],_,_,_,_,by rw [Zc]; rfl,r1,r2,r3⟩
    ·have z':kd="by":=z;subst z';rw [if_pos (by decide +kernel)];trivial;refine ⟨enD b,q,rfl,b3,sq,?_⟩;trivial;obtain ⟨r1,r2,r3⟩:=add (kd':="by") rfl ((oe.add2 (b:=53) B4 oq4 (by decide)).p2 (by decide)) (by
      unfold hSl;rw [if_neg B8e,if_neg B8d];show 0<=enD b + q - enD (sat ps (y:Int));rw [st eb]; grind)
     exact ⟨by omega,hs++[(Str.ofString "by",(y:Int),enD b + q)],_,_,_,_,by rw [Zc]; rfl,r1,r2,r3⟩
  rintro e ⟨hs,o8,o14,o18,o19,rfl,lh,eh,hh⟩;trivial;subst hR;trivial;exact k ps ws hs (by omega) hp hof (ew.trans (List.take_of_length_le (by omega))) hw (eh.trans (List.take_of_length_le (by omega))) hh
def A10:Pu.PSp:=fun as Q=>∃ (ps:LR) (B:Nat),as=[.bor (ps.map dcn)]/\0 < B/\B<=2 ^ 1000/\(∀ p ∈ ps,On B (2 ^ 80) p.1/\On B (2 ^ 80) p.2)/\∀ m,0<=m->(∀ p ∈ ps,enD p<=m)->(m=0\/∃ p ∈ ps,m=enD p)->Q (.d (dq m))
theorem A18 (T:Txt K mg D):FnOk P w K mg base CX0 3 D.a_a9 D.d_a9 ["_law_plan"] (Pu.spOf K [.vw] A10):=by
 refine T.B.F_a9.ok sc_a9 (Zz rfl) (fun cdv A outer s H vs Q E hr h=>?_);refine ⟨_,(QSs.out (A4 (qst 1 sc_a9 (B7 (A0 A5 (A0 A5 A3))))
   (A4 (D3 Zf rfl (D1 (K:=K) rfl (qpv 0)) (B3 (K:=K) (n:=2) rfl rfl (A7 (qgn 2 sc_a9) (A7 (qgn 3 sc_a9) B2)) rfl rfl)
    (A4 (qst 4 sc_a9 (qcK (F3 (K:=K) T) hr.mo (G6 T) (A0 (qpv 2) (A0 (qpv 3) A3))))
    (A6 (C3 (F8 (qcK (U2 (K:=K) T) hr.mo (Y3 T) (A0 (qpv 1) (A0 (qpv 4) A3))))
     (A6 (qst 1 sc_a9 (qpv 4)))
     B8))))
   (A6 (B0 (qpv 1)))))),?_⟩
 refine Pu.D6 h ?_;rintro as Qp ⟨ps,B,rfl,b0,b1,hp,k⟩;refine hd fun R hR=>?_;trivial;subst hR;trivial;refine K9 (f:=dcn) (xs:=ps) (fun i e=>∃ (m:Rat) (o2 o3 o4:Option SV),e=[some (.bor (ps.map dcn)),some (.d (dq m)),o2,o3,o4]/\0<=m/\(∀ j p,j < i->ps[j]?=some p->enD p<=m)/\(m=0\/∃ p ∈ ps,m=enD p)) ⟨0,_,_,_,rfl,Rat.le_refl,fun j p h=>absurd h (Nat.not_lt_zero _),.inl rfl⟩ ?_ ?_
 ·rintro i p e hi ⟨m,o2,o3,o4,rfl,m0,hm,hc⟩;have hpm:=Zm hi;obtain ⟨p1,p2⟩:=hp p hpm;have pe:On B (2 ^ 81) (enD p):=p1.add2 b0 p2 (by decide);have om:On B (2 ^ 81) m:=by
   rcases hc with rfl | ⟨q,hq,rfl⟩
   ·exact On.zero.mono (Nat.zero_le _)
   ·exact (hp q hq).1.add2 b0 (hp q hq).2 (by decide)
  trivial;refine ⟨_,_,rfl,onB p1 b0 b1 (by decide),onB p2 b0 b1 (by decide),?_⟩;trivial;refine ⟨m,enD p,rfl,onB om b0 b1 (by decide),onB pe b0 b1 (by decide),?_⟩;trivial;refine ite2 (fun z=>?_) (fun z=>?_)
  ·refine ⟨enD p,_,_,_,rfl,Rat.le_trans m0 (Rat.le_of_lt z),fun j q hj hq=>?_,.inr ⟨p,hpm,rfl⟩⟩;by_cases h:j=i
   ·subst h; rw [hi] at hq; cases hq; exact Rat.le_refl
   ·exact Rat.le_trans (hm j q (by omega) hq) (Rat.le_of_lt z)
  ·refine ⟨m,_,_,_,rfl,m0,fun j q hj hq=>?_,hc⟩;by_cases h:j=i
   ·subst h; rw [hi] at hq; cases hq; exact Rat.not_lt.mp z
   ·exact hm j q (by omega) hq
 ·rintro e ⟨m,o2,o3,o4,rfl,m0,hm,hc⟩;trivial;exact k m m0 (fun p hp=>by
   obtain ⟨j,hj,e⟩:=List.getElem_of_mem hp;exact hm j p hj (by rw [Zg hj,e])) hc
def A81:Pu.PSp:=fun as Q=>∃ (ns:List Int) (kz:List Str),as=[.bor (ns.map .int),.d (.list (kz.map .str))]/\ns.length<=63/\1<=kz.length/\kz.length<=3/\(∀ z ∈ kz,Kd z)/\∀ (n:Nat) (xs:List Wk) (vs:List (Int × Int)) (us:List (Str × Int)) (pa:List ((Str × Int) × Rat)) (ps:LR) (ws:LW) (hs:LH),ShOk n xs vs us->ps.length=n->(∀ p ∈ ps,0<=p.1/\On (LL * 4) (2 ^ 50) p.1/\On (LL * 4) (2 ^ 50) p.2)->(∀ (i:Nat) x p,xs[i]?=some x->ps[i]?=some p->Off x.2.1 x.2.2 p.2)->ws.map (fun w=>(w.1,w.2.1))=vs->(∀ w ∈ ws,On (LL * 4) (2 ^ 55) w.2.2/\0<=wSl ps w)->hs.map (fun h=>(h.1,h.2.1))=us->(∀ h ∈ hs,On (LL * 4) (2 ^ 55) h.2.2/\0<=hSl ps h)->Q (.d (.tuple [netD xs ws hs [],.list (ps.map dcn),.list (pa.map paD)]))
theorem A9p (T:Txt K mg D):FnOk P w K mg base CX0 6 D.a_c7 D.d_c7 ["_law_script","_law_kinds"] (Pu.spOf K [.vw,.dat] A81):=by
 refine T.B.F_c7.ok sc_c7 (Zz rfl) (fun cdv A outer s H vs Q E hr h=>?_);refine ⟨_,(QSs.out (A4 (qst 2 sc_c7 (qcK (A9j (K:=K) T) hr.mo (B3n T) (A0 (qpv 0) (A0 (qpv 1) A3))))
   (A4 (qst 3 sc_c7 (qcK (A9l (K:=K) T) hr.mo (B3p T) (A0 (qpv 2) (A0 (qpv 0) (A0 A5 A3)))))
   (A4 (C4 (qcK (A4p (K:=K) T) hr.mo (A7q T) (A0 (qpv 2) (A0 (qpv 0) (A0 (qpv 3) A3)))) (B3 (K:=K) (n:=2) rfl rfl (A7 (qgn 4 sc_c7) (A7 (qgn 5 sc_c7) B2)) rfl rfl))
   (A6 (B0 (B7 (A0 (qpv 4) (A0 (qpv 5) (A0 (qpv 3) A3)))))))))),?_⟩
 refine Pu.D6 h ?_;rintro as Qp ⟨ns,kz,rfl,h63,k1,k3,hkz,k⟩;refine hd fun R hR=>?_;trivial;refine ⟨ns,kz,rfl,h63,k1,k3,hkz,fun n xs vs us ok=>?_⟩;trivial;subst hR;refine hd fun R hR=>?_;trivial;refine ⟨n,xs,vs,us,ns,0,rfl,by decide,by decide,ok,fun pa l48 hpa=>?_⟩;trivial;subst hR;refine hd fun R hR=>?_;trivial;refine ⟨n,xs,vs,us,ns,pa,rfl,ok,l48,hpa,fun ps ws hs h1 h2 h3 h4 h5 h6 h7=>?_⟩;trivial;subst hR;trivial;exact k n xs vs us pa ps ws hs ok h1 h2 h3 h4 h5 h6 h7
def B11:Pu.PSp:=fun as Q=>∃ (xs:List Wk) (ws:LW) (hs:LH) (gs:LP) (ts:LQ),as=[.d (netD xs ws hs gs),.bor (ts.map dq)]/\ts.length=xs.length/\xs.length<=10/\ws.length<=100/\hs.length<=100/\(∀ x ∈ xs,Kd x.2.1/\OfG x.2.1 x.2.2 100 54 244 130/\OnC x.2.2/\(x.2.1="straight"->OnP x.2.2))/\(∀ t ∈ ts,On (LL * 4) (2 ^ 50) t)/\(∀ (i:Nat) x t,xs[i]?=some x->ts[i]?=some t->Off x.2.1 x.2.2 t)/\∀ ys:List Wk,TW xs ys ts->Q (.d (netD ys ws hs []))
theorem A54 (T:Txt K mg D):FnOk P w K mg base CX0 6 D.a_e2 D.d_e2 ["net","times"] (Pu.spOf K [.dat,.vw] B11):=by
 refine T.B.F_e2.ok sc_e2 (Zz rfl) (fun cdv A outer s H vs Q E hr h=>?_);refine ⟨_,(QSs.out (A4 (A5v (i:=2) (j:=3) (k:=4) rfl sc_e2.nd rfl rfl rfl (by decide) (by decide) (by decide) rfl rfl rfl (A0 (qix K (qpv 0) A5) (A0 (qix K (qpv 0) A5) (A0 (qix K (qpv 0) A5) A3))) rfl rfl)
   (A4 (qst 5 sc_e2 (D2 A3))
   (A4 (D3 Zf rfl (A1v (K:=K) rfl rfl T.z_zip (A0 (qpv 2) (A0 (qpv 1) A3))) (B3 (K:=K) (n:=2) rfl rfl (A7 (B3 (K:=K) (n:=2) rfl rfl (A7 (qgn 6 sc_e2) (A7 (qgn 7 sc_e2) B2)) rfl rfl) (A7 (qgn 8 sc_e2) B2)) rfl rfl)
    (A6 (D9 (F9 (K:=K) rfl Z1 Z2 Z3 E5 (qpv 5) (A0 (B7 (A0 (qpv 6) (A0 (B7 (A0 C0 (A0 (D2 (A0 (B7 (A0 (qpv 8) (A0 (qcK (A0x (K:=K) T) hr.mo (A2i T) (A0 (qpv 7) (A0 (qpv 8) A3))) A3))) A3)) A3))) A3))) A3)))))
   (A6 (B0 (B7 (A0 (qpv 5) (A0 (V2 (A3w (K:=K) rfl) (by rfl) T.z_list (by rfl) (A0 (qpv 3) A3)) (A0 (V2 (A3w (K:=K) rfl) (by rfl) T.z_list (by rfl) (A0 (qpv 4) A3)) (A0 (D2 A3) A3))))))))))),?_⟩
 refine Pu.D6 h ?_;rintro as Qp ⟨xs,ws,hs,gs,ts,rfl,tl,n1,wl,hl,of,ot,off,k⟩;unfold netD;refine hd fun R hR=>?_;trivial;subst hR;refine hd fun R hR=>?_;trivial;subst hR;refine hd fun R hR=>?_;trivial;refine B8z (f:=kD) (g:=dq) (xs:=xs) (zs:=ts) (fun i e=>∃ (ys:List Wk) (o6 o7 o8:Option SV),e=[some (.d (.tuple [.list (xs.map kD),.list (ws.map wD),.list (hs.map hD),.list gs])),some (.bor (ts.map dq)),some (.d (.list (xs.map kD))),some (.d (.list (ws.map wD))),some (.d (.list (hs.map hD))),some (.own (ys.map kD)),o6,o7,o8]/\ys.length=i/\∀ (j:Nat) t,j < i->ts[j]?=some t->∃ nm p,ys[j]?=some (nm,Str.ofString "straight",[(t,p)])/\On B5 (2 ^ 120) p) ⟨[],_,_,_,rfl,rfl,fun j t h=>absurd h (Nat.not_lt_zero _)⟩ ?_ ?_
 ·rintro i x t e hx ht ⟨ys,o6,o7,o8,rfl,yl,hy⟩;obtain ⟨hk,og,oc,op⟩:=of x (Zm hx);have il:=(Zs hx).1;have o5:=ot t (Zm ht);have ob:=A55 hk og.ok.ne (off i x t hx ht);rw [show kD x=PyData.tuple [.str x.1,offD x.2.1 x.2.2] from rfl];trivial;refine ⟨x.2.1,x.2.2,t,rfl,hk,og.ok,onR o5 (by decide) (by decide +kernel) (by decide +kernel),ob,fun p hp=>?_⟩;have o6:=A9d hk og.ok.ne og.ok.dec (D:=4) (by decide) oc op (o5.p2 (by decide)) ob hp;rw [<- Nat.mul_assoc] at o6;trivial;refine ⟨by omega,ys++[(x.1,Str.ofString "straight",[(t,p)])],_,_,_,by rw [Zc]; rfl,by rw [Ze,yl]; rfl,fun j t' hj ht'=>?_⟩;by_cases h:j < i
  ·obtain ⟨nm,p',e1,e2⟩:=hy j t' h ht';exact ⟨nm,p',by rw [List.getElem?_append_left (by omega)]; exact e1,e2⟩
  ·have:j=i:=by omega
   subst this;rw [ht] at ht'; cases ht';exact ⟨x.1,p,by rw [List.getElem?_append_right (by omega),show j - ys.length=0 by omega]; rfl,o6⟩
 rintro e ⟨ys,o6,o7,o8,rfl,yl,hy⟩;rw [show min xs.length ts.length=ts.length by omega] at yl hy;subst hR;trivial;exact k ys ⟨yl,fun i t ht=>hy i t (Zs ht).1 ht⟩
def W8:Pu.PSp:=fun as Q=>∃ (n:Nat) (xs:List Wk) (vs:List (Int × Int)) (us:List (Str × Int)) (ps:LR) (ws:LW) (hs:LH),as=[.d (netD xs ws hs []),.bor ((ps.map (·.2)).map dq),.st]/\ShOk n xs vs us/\Dr n ps ws hs/\NP n ws hs/\(∀ (i:Nat) x p,xs[i]?=some x->ps[i]?=some p->Off x.2.1 x.2.2 p.2)/\Q (.d (.bool true))
theorem X0 (T:Txt K mg D):FnOk P w K mg base CX0 9 D.a_a1 D.d_a1 ["_law_net","_law_times_here","_law_state"] (Pu.spOf K [.dat,.vw,.st] W8):=by
 refine T.B.F_a1.ok sc_a1 (Zz rfl) (fun cdv A outer s H vs Q E hr h=>?_);refine ⟨_,(QSs.out (A4 (O7 (i:=3) sc_a1.nd rfl (Or.inr rfl) (qix K (qcK (S3 (K:=K) T) hr.mo (W1 T) (A0 (qpv 0) (A0 (qpv 1) A3))) A5))
   (A4 (C9 (i:=4) rfl sc_a1.nd rfl rfl (C5 ["_law_starts","_law_times_here","_law_i"] [some 3,some 1,none]) (E6 rfl T.z_range (A0 (qln K T.z_len (qpv 1)) A3)) (fun _ _ _=>(qgc 2 ["_law_starts","_law_times_here","_law_i"])) (fun _ _ _=>D8) (fun _ _ _=>(B7 (A0 (qix K (qpv 0) (qpv 2)) (A0 (qix K (qpv 1) (qpv 2)) A3)))) rfl)
   (A4 (qst 5 sc_a1 (qcK (A18 (K:=K) T) hr.mo (A38 T) (A0 (qpv 4) A3)))
   (A4 (qst 6 sc_a1 (qcK (Z7 (K:=K) T) hr.mo (A2k T) (A0 (qpv 0) (A0 (qpv 1) (A0 (qpv 5) A3)))))
   (A4 (C3 (QW.pt (T4 (B1 (N2 (K:=K) rfl hr.units) (qix K (qpv 6) A5) C0 (C1 _)) (Q1 (B1 O9 (qcK (A0z (K:=K) T) hr.mo (A2l T) (A0 (qpv 0) (A0 (qpv 4) (A0 (qpv 5) A3)))) F2 (C1 _)))))
    (A6 (B0 J2))
    B8)
   (A4 (qst 7 sc_a1 (qcK (A7d (K:=K) T) hr.mo (B1e T) (A0 (qpv 0) (A0 (qpv 4) (A0 (qpv 5) A3)))))
   (A4 (D3 Zf rfl (E6 rfl T.z_range (A0 (qln K T.z_len (qpv 4)) A3)) (qgn 8 sc_a1)
    (A4 (C3 (F8 (qcK (U2 (K:=K) T) hr.mo (Y3 T) (A0 (qix K (qix K (qpv 6) A5) (qpv 8)) (A0 (qix K (qpv 3) (qpv 8)) A3))))
     (A6 (B0 J2))
     B8)
    (A6 (C3 (QW.pt (V1 (B1 (C8 (K:=K) rfl hr.units) (qcK (F3 (K:=K) T) hr.mo (G6 T) (A0 (qix K (qix K (qpv 4) (qpv 8)) A5) (A0 (qix K (qix K (qpv 4) (qpv 8)) A5) A3))) (qpv 5) (C1 _)) (T5 (B1 (N2 (K:=K) rfl hr.units) (qix K (qix K (qpv 7) (qpv 8)) A5) (B7 (A0 A5 (A0 A5 A3))) (C1 _)))))
     (A6 (B0 J2))
     B8))))
   (A4 (qst 9 sc_a1 (qix K (D2 (A0 (qcK (Q5 (K:=K) T) hr.mo (U6 T) (A0 (qpv 5) (A0 (B7 (A0 A5 (A0 A5 A3))) A3))) (A0 (qcK (J6 (K:=K) T) hr.mo (L4 T) (A0 (qpv 5) (A0 (B7 (A0 A5 (A0 (C2 G3 A5 (qcK (C6 (K:=K) T) hr.mo (D0 T) (A0 (qpv 2) (A0 (C2 A53 A5 A5) A3)))) A3))) A3))) A3))) (qcK (C6 (K:=K) T) hr.mo (D0 T) (A0 (qpv 2) (A0 A5 A3)))))
   (A4 (C3 (B1 A9c (qix K (qpv 9) A5) A5 (C1 _))
    (A6 (qst 9 sc_a1 (B7 (A0 A5 (A0 A5 A3)))))
    B8)
   (A4 (C3 (M9 (F8 (qcK (U2 (K:=K) T) hr.mo (Y3 T) (A0 (qpv 9) (A0 (qpv 5) A3)))))
    (A6 (B0 J2))
    B8)
   (A4 (qst 10 sc_a1 (qcK (Z7 (K:=K) T) hr.mo (A2k T) (A0 (qpv 0) (A0 (qpv 1) (A0 (qpv 9) A3)))))
   (A4 (C3 (B1 (N2 (K:=K) rfl hr.units) (qix K (qpv 10) A5) C0 (C1 _))
    (A6 (B0 J2))
    B8)
   (A4 (qst 11 sc_a1 (qcK (A54 (K:=K) T) hr.mo (B1c T) (A0 (qpv 0) (A0 (qpv 1) A3))))
   (A4 (C3 (B1 O9 (qcK (A0y (K:=K) T) hr.mo (A2j T) (A0 (qpv 11) (A0 (qix K (qpv 10) A5) A3))) F2 (C1 _))
    (A6 (B0 J2))
    B8)
   (A6 (B0 (L8 (G8 B4d (qcK (A9h (K:=K) T) hr.mo (B43 T) (A0 (qpv 11) (A0 (qix K (qpv 10) A5) (A0 (qpv 9) A3)))) J2 (C1 _)) (N0 (G8 B4d (qcK (A9h (K:=K) T) hr.mo (B43 T) (A0 (qpv 11) (A0 (qix K (qpv 10) A5) (A0 (qpv 5) A3)))) J2 (C1 _))))))))))))))))))))),?_⟩
 refine Pu.D6 h ?_;rintro as Qp ⟨n,xs,vs,us,ps,ws,hs,rfl,ok,d,np,off,k⟩;have n1:=ok.n1;have n0:=ok.n0;have ln:=ok.ln;have pl:=d.ln;have tl:(ps.map (·.2)).length=n:=by rw [Zl]; exact pl
 have nk:=d.nk;have hP:=d.potN;have hk:∀ h ∈ hs,Hk h.1:=fun h hh=>(d.sz.h h hh).1;have B4:0 < LL * 4:=by decide
 have B9:LL * 4<=2 ^ 1000:=L1 A5e (by decide);refine hd fun R hR=>?_;trivial;refine ⟨z4,_,ps.map (·.2),ws,hs,rfl,NetB.leaf,nk,fun s p w rg kz=>absurd kz (B4h nk hP),fun P' hP' fo=>?_⟩;trivial;subst hR;have lk:=B81 fo nk;have el:(earS (ps.map (·.2)) ws hs).length=ps.length:=by rw [A6j fo,Zl]
 have q50:∀ p ∈ epl ws hs ps,0<=p.1/\On (LL * 4) (2 ^ 50) p.1/\On (LL * 4) (2 ^ 50) p.2:=fun p hp=>by
  obtain ⟨j,hj,e⟩:=List.getElem_of_mem hp;have hj':=hj;rw [J3] at hj';have e2:=U5 (ws:=ws) (hs:=hs) (M8 hj');rw [Zg hj,e] at e2;have e3:=Zj e2;have s0:=lk.s p hp;have s5:=d.s50 _ (U9 (ps:=ps) (o:=(j:Int)) (by omega) (by omega));have le:=B0t (qs:=ps) rfl (d.kp none (fun _ e=>nomatch e)) hk fo j _ (sat ps (j:Int)).1 (A4f (by omega)) (by rw [Zh,M8 hj']; rfl);have o1:=B0u fo _ (O0 (ss:=earS (ps.map (·.2)) ws hs) (o:=(j:Int)) (by omega) (by omega));rw [e3] at s0 ⊢;exact ⟨s0,C34 B4 o1 s5.1 s0 le,s5.2⟩
 refine hd fun R hR=>?_;trivial;refine ⟨by omega,by rw [J0]; omega,N8 (fun i e ys=>∃ o:Option SV,e=[some (.d (.list ((earS (ps.map (·.2)) ws hs).map dq))),some (.bor ((ps.map (·.2)).map dq)),o]/\ys=((epl ws hs ps).take i).map dcn) ⟨_,rfl,rfl⟩ ?_ ?_⟩
 ·rintro i e ys hi ⟨o,rfl,rfl⟩;have hil:i < ps.length:=by omega
  have i0:(0:Int)<=(i:Int):=by omega
  trivial;refine D4 (T3 i0 (by omega)) ?_;trivial;refine D4 (T3 i0 (by rw [Zl]; omega)) ?_;rw [V0];trivial;refine ⟨_,rfl,?_⟩;rw [List.take_add_one,U5 (M8 hil),Zc];rfl
 rintro e ys ⟨o,rfl,rfl⟩;rw [show (epl ws hs ps).take (ps.length:Int).toNat=epl ws hs ps from List.take_of_length_le (by rw [J3]; omega)];trivial;subst hR;refine hd fun R hR=>?_;trivial;refine ⟨epl ws hs ps,LL * 4,rfl,B4,B9,fun p hp=>⟨(q50 p hp).2.1.p2 (by decide),(q50 p hp).2.2.p2 (by decide)⟩,fun m m0 me mc=>?_⟩;have om:On (LL * 4) (2 ^ 51) m:=by
  rcases mc with e | ⟨p,hp,e⟩
  ·rw [e]; exact On.zero.mono (Nat.zero_le _)
  ·rw [e]; exact (q50 p hp).2.1.add2 B4 (q50 p hp).2.2 (by decide)
 have K1:Kps ws hs (epl ws hs ps) (some m):=⟨lk.s,lk.w,lk.h,fun V e p hp=>by cases e; exact me p hp⟩;have pot1:Pot (E9 (ps.map (·.2)) ws hs (some m)) (ps.map (·.2)).length (pvS (epl ws hs ps)):=by
  have:=K1.pot hk;rw [W0,J3] at this;rw [Zl]; exact this
 have oB:OB z4 m:=om.p2 (by decide);trivial;subst hR;refine hd fun R hR=>?_;trivial;refine ⟨z4,_,ps.map (·.2),ws,hs,m,rfl,NetB.leaf,nk,oB,⟨_,hP⟩,fun s p w rg kz=>?_,fun P2 hP2 fl=>?_⟩
 ·obtain ⟨j,e⟩:=Y0 (fun w h=>⟨(A1h nk oB w h).1,(A1h nk oB w h).2.1⟩) (A11 pot1);rw [show kst (bkL (ps.map (·.2)) ws hs m) (ps.map (·.2)).length=some j from e] at kz; cases kz
 trivial;subst hR;have offq:∀ (j:Nat) x p,xs[j]?=some x->(epl ws hs ps)[j]?=some p->offB x.2.1 x.2.2 p.2=true:=fun j x p hx hp=>by
  have hj:=(Zs hx).1;obtain ⟨p0,hp0⟩:∃ p0,ps[j]?=some p0:=⟨_,Zg (by omega)⟩;rw [U5 hp0] at hp;cases hp;obtain ⟨h1,h2,_⟩:=ok.of x (Zm hx);exact A55 h1 h2.ok.ne (off j x p0 hx hp0)
 have psz:PSz (LL * 4) 58 ws hs (epl ws hs ps):=⟨B4,B9,by decide,by rw [J3]; omega,d.sz.wl,d.sz.hl,fun p hp=>⟨(q50 p hp).2.1.p2 (by decide),(q50 p hp).2.2.p2 (by decide)⟩,by rw [J3]; exact d.sz.w,by rw [J3]; exact d.sz.h⟩;have psm:∀ p ∈ epl ws hs ps,PlSm p:=fun p hp=>⟨psz.sm (psz.p p hp).1 (by omega),psz.sm (psz.p p hp).2 (by omega),psz.sm ((psz.p p hp).1.add2 (b:=59) B4 (psz.p p hp).2 (by decide)) (by decide)⟩;refine hd fun R hR=>?_;trivial;refine ⟨by decide +kernel,by decide +kernel,xs,ws,hs,epl ws hs ps,m,LL * 4,58,rfl,by rw [J3]; omega,fun x hx=>⟨(ok.of x hx).1,(ok.of x hx).2.1.ok⟩,offq,psz,om.p2 (by decide),K1,?_⟩;trivial;subst hR;refine hd fun R hR=>?_;trivial;have nk2:NOk z4 ((epl ws hs ps).map (·.2)) ws hs:=by rw [W0]; exact nk
 have pot2:Pot (E9 ((epl ws hs ps).map (·.2)) ws hs (some m)) (epl ws hs ps).length (pvS (epl ws hs ps)):=by
  rw [W0,J3];have:=pot1;rw [Zl] at this;exact this
 refine ⟨_,ws,hs,epl ws hs ps,m,LL * 4,58,rfl,NetB.leaf,psz,om.p2 (by decide),nk2,oB,⟨_,pot2⟩,fun sl sll hsl=>?_⟩;trivial;subst hR;have ll:(latS (ps.map (·.2)) ws hs m).length=ps.length:=by rw [A2e fl,Zl]
 have hbw:∀ w ∈ E9 (ps.map (·.2)) ws hs (some m),w.1<=ps.length/\w.2.1<=ps.length:=fun w h=>by
  obtain ⟨h1,h2,_⟩:=Q7 nk (W:=some m) (fun _ e=>by cases e; exact oB) w h;rw [Zl] at h1 h2;exact ⟨h1,h2⟩
 have lkl:=A9x fl hbw;have both:∀ i,i < ps.length->rat (earS (ps.map (·.2)) ws hs) (i:Int)<=rat (latS (ps.map (·.2)) ws hs m) (i:Int)/\rat (latS (ps.map (·.2)) ws hs m) (i:Int) + (sat ps (i:Int)).2<=m:=fun i hi=>by
  refine ⟨B8o (qs:=epl ws hs ps) W0 K1 hk fl i _ _ (by rw [Zh,U5 (M8 hi)]; rfl) (A4f (by omega)),?_⟩;have:=lkl.e m rfl _ (Zm (A6a (ws:=ws) (hs:=hs) (W:=m) (M8 hi)));exact this
 refine hd fun R hR=>?_;trivial;have L7:(epl ws hs ps).length=ps.length:=J3;have sl4:∀ {i:Nat},i < ps.length->SmQ 3900 (rat (latS (ps.map (·.2)) ws hs m) (i:Int))/\SmQ 3900 (rat (earS (ps.map (·.2)) ws hs) (i:Int)):=fun {i} hi=>⟨onB (A96 fl _ (O0 (by omega) (by omega))) B4 B9 (by decide),onB (B0u fo _ (O0 (by omega) (by omega))) B4 B9 (by decide)⟩;refine ⟨by omega,P4 (fun i e=>∃ o8:Option SV,e=[some (.d (netD xs ws hs [])),some (.bor ((ps.map (·.2)).map dq)),some .st,some (.d (.list ((earS (ps.map (·.2)) ws hs).map dq))),some (.d (.list ((epl ws hs ps).map dcn))),some (.d (dq m)),some (.d (.tuple [.str (Str.ofString "starts"),.list ((latS (ps.map (·.2)) ws hs m).map dq)])),some (.own (sl.map dcn)),o8,none,none,none]) ⟨_,rfl⟩ ?_ ?_⟩
 ·rintro i e hi ⟨o8,rfl⟩;have hil:i < ps.length:=by omega
  have i0:(0:Int)<=(i:Int):=by omega
  obtain ⟨bo1,bo2⟩:=both i hil;have ep:=U5 (ws:=ws) (hs:=hs) (M8 hil);have pz:=psm _ (Zm ep);refine hd fun R hR=>?_;trivial;refine D4 (T3 i0 (by omega)) ?_;trivial;refine D4 (T3 i0 (by omega)) ?_;trivial;refine ⟨_,_,rfl,(sl4 hil).1,(sl4 hil).2,?_⟩;rw [Zd (Rat.not_lt.mpr bo1)];trivial;subst hR;trivial;refine A9 ep ?_;trivial;refine A9 ep ?_;trivial;refine ⟨_,_,rfl,pz.s,pz.t,?_⟩;trivial;refine ite2 (fun e=>?_) (fun _=>⟨_,rfl⟩);obtain ⟨q,eq⟩:=hsl i _ ep;rw [W0] at eq;refine A9 eq ?_;trivial;have z:rat (latS (ps.map (·.2)) ws hs m) (i:Int) - rat (earS (ps.map (·.2)) ws hs) (i:Int)=0:=by grind
  exact ite2 (fun _=>⟨_,rfl⟩) (fun h=>absurd z h)
 rintro e ⟨o8,rfl⟩;subst hR;dsimp only;refine hd fun R hR=>?_;trivial;have o23:On 3 1 (Rat.divInt 2 3):=⟨2,rfl,by decide⟩;have ow3:On (LL * 4 * 3) (2 ^ 51) (m * Rat.divInt 2 3):=(On.mul om o23).mono (by decide);refine ⟨_,_,rfl,onB om B4 B9 (by decide),onQ o23 (by decide) (by decide) (by decide),?_⟩;trivial;refine ⟨A6n 9,_,rfl,by decide,M1 (B:=10 ^ 9) (by decide) (by decide) (by decide),fun u u0 u1=>?_⟩;trivial;obtain ⟨mm,hmm⟩:∃ mm:Nat,1 + u=(mm:Int):=⟨(1 + u).toNat,by omega⟩;have mm0:0 < mm:=by omega
 have mm1:mm<=2 ^ 30:=by have e9:(10:Int) ^ (Int.toNat 9)=1000000000:=(by decide); omega
 have o1m:=B7t (m:=mm) (B:=LL * 4) mm0 B4;have owm:On (LL * 4 * mm) (2 ^ 52) (m - Rat.divInt 1 (mm:Int)):=(On.sub (Nat.mul_pos B4 mm0) (om.up mm0) o1m).mono (by decide);have bmm:LL * 4 * mm<=2 ^ 1000:=Zx (Nat.mul_le_mul A5e mm1) (by rw [<- Nat.pow_add]; exact Zp (by decide) (by decide));rw [hmm,B2n (m:=(mm:Int)) (by omega)];refine ⟨_,_,rfl,onB om B4 B9 (by decide),onQ o1m (Nat.mul_pos B4 mm0) bmm (Zx (show 1<=2 ^ 1 by decide) (Zp (by decide) (by decide))),?_⟩;trivial;refine ⟨2,rfl,by decide,sm4 2,fun dd dd0 dd1=>?_⟩;trivial;obtain ⟨y,zz,ey,oy,dv⟩:∃ (y:Rat) (zz:ZB),L2.atI [dq (m * Rat.divInt 2 3),dq (m - Rat.divInt 1 (mm:Int))] dd=some (dq y)/\On (LL * zz.1) (2 ^ 52) y/\4 ∣ zz.1:=by
  have:dd=0\/dd=1:=by omega
  rcases this with rfl | rfl
  ·exact ⟨_,⟨12,by decide,by decide⟩,rfl,by rw [show LL * 12=LL * 4 * 3 by rw [Nat.mul_assoc]]; exact ow3.p2 (by decide),⟨3,rfl⟩⟩
  ·exact ⟨_,⟨4 * mm,by omega,by have e9:(2:Nat) ^ 32=4 * 2 ^ 30:=(by decide); omega⟩,rfl,by rw [<- Nat.mul_assoc]; exact owm,⟨mm,rfl⟩⟩
 refine D4 ey ?_;trivial;subst hR;refine A4d (fun e=>∃ (y:Rat) (zz:ZB) (o8:Option SV),e=[some (.d (netD xs ws hs [])),some (.bor ((ps.map (·.2)).map dq)),some .st,some (.d (.list ((earS (ps.map (·.2)) ws hs).map dq))),some (.d (.list ((epl ws hs ps).map dcn))),some (.d (dq m)),some (.d (.tuple [.str (Str.ofString "starts"),.list ((latS (ps.map (·.2)) ws hs m).map dq)])),some (.own (sl.map dcn)),o8,some (.d (dq y)),none,none]/\0<=y/\On (LL * zz.1) (2 ^ 52) y/\4 ∣ zz.1) (fun R hR=>?_) ?_
 ·trivial;refine ite2 (fun _=>?_) (fun h=>?_)
  ·exact hR _ ⟨0,z4,_,rfl,Rat.le_refl,On.zero.mono (Nat.zero_le _),⟨1,rfl⟩⟩
  ·exact hR _ ⟨y,zz,_,rfl,Rat.not_lt.mp fun z=>h (num_lt.mpr z),oy,dv⟩
 clear oy ey dv;clear y zz;rintro e ⟨y,zz,o8,rfl,y0,oy,dv⟩;have sy:SmQ 3900 y:=onB oy A2p (Zx B45 (Zp (by decide) (by decide))) (by decide);refine hd fun R hR=>?_;trivial;refine ⟨_,_,rfl,sy,onB om B4 B9 (by decide),?_⟩;trivial;refine ite2 (fun ylt=>?_) (fun _=>k);subst hR;refine hd fun R hR=>?_;trivial;have oBy:OB zz y:=oy.p2 (by decide);have up4:∀ {q:Rat},O4 q->OB zz q:=fun {q} h=>zup dv h;have nkz:NOk zz (ps.map (·.2)) ws hs:=⟨nk.n0,nk.n1,nk.wl,nk.hl,fun t ht=>up4 (nk.t t ht),fun w hw=>⟨(nk.w w hw).1,(nk.w w hw).2.1,up4 (nk.w w hw).2.2⟩,fun h hh=>⟨(nk.h h hh).1,(nk.h h hh).2.1,up4 (nk.h h hh).2.2⟩⟩;refine ⟨zz,_,ps.map (·.2),ws,hs,y,rfl,NetB.leaf,nkz,oBy,⟨_,hP⟩,fun s p w rg kz=>?_,fun P2 hP2 fl2=>?_⟩;case refine_2 =>
  exfalso;have hbw2:∀ w ∈ E9 (ps.map (·.2)) ws hs (some y),w.1<=ps.length/\w.2.1<=ps.length:=fun w h=>by
   obtain ⟨h1,h2,_⟩:=Q7 nkz (W:=some y) (fun _ e=>by cases e; exact oBy) w h;rw [Zl] at h1 h2;exact ⟨h1,h2⟩
  have lk2:=A9x fl2 hbw2;have lk3:Kps ws hs (lpl ws hs ps y) none:=⟨lk2.s,lk2.w,lk2.h,fun _ e=>nomatch e⟩;have all:∀ p ∈ epl ws hs ps,enD p<=y:=fun p hp=>by
   obtain ⟨j,hj,e⟩:=List.getElem_of_mem hp;rw [J3] at hj;have e2:=U5 (ws:=ws) (hs:=hs) (M8 hj);rw [Zg (by rw [J3]; exact hj),e] at e2;have e3:=A6a (ws:=ws) (hs:=hs) (W:=y) (M8 hj);have l1:=lk2.e y rfl _ (Zm e3);have l2:=B0t (qs:=lpl ws hs ps y) A9w lk3 hk fo j _ _ (A4f (by omega)) (by rw [Zh,e3]; rfl);rw [Zj e2];unfold enD at l1 ⊢;dsimp only at l1 l2 ⊢;grind
  rcases mc with e | ⟨p,hp,e⟩
  ·rw [e] at ylt; grind
  ·have:=all p hp; rw [<- e] at this; grind
 trivial;subst hR;refine hd fun R hR=>?_;trivial;refine ⟨by decide +kernel,by decide +kernel,?_⟩;subst hR;refine hd fun R hR=>?_;trivial;have ot:∀ t ∈ ps.map (·.2),On (LL * 4) (2 ^ 50) t:=fun t ht=>by
  obtain ⟨p,hp,rfl⟩:=List.mem_map.mp ht;exact (d.s50 p hp).2
 have ofd:∀ (i:Nat) x t,xs[i]?=some x->(ps.map (·.2))[i]?=some t->Off x.2.1 x.2.2 t:=fun i x t hx ht=>by
  rw [Zh] at ht;obtain ⟨p,hp,rfl⟩:=Zo ht;exact off i x p hx hp
 refine ⟨xs,ws,hs,[],ps.map (·.2),rfl,by omega,by omega,by have:=np.wl; omega,by have:=np.hl; omega,ok.of,ot,ofd,fun ys tw=>?_⟩;have np':NP (ps.map (·.2)).length ws hs:=by rw [tl]; exact np
 have rgn:Rgn (E9 (ps.map (·.2)) ws hs (some y)) (ps.map (·.2)).length s fun i=>swp (w i):=rg.rgnB;have pb:=B61 np' rgn;have rl:=A5s np' rgn;rw [B55] at pb rl;have yl:=tw.ln;have bq:∀ {V:Rat} {Bw:Nat} {Q:SV->Prop},0 < Bw->Bw<=2 ^ 300->On Bw (2 ^ 80) V->Q (.d (.bool (decide (sA (rgP s w) rtA * V < sA (rgP s w) (wtA ws hs) + sumV (fun v=>FI (ps.map (·.2)).length (vsO ws) (usO hs) (rgP s w) v * rat (ps.map (·.2)) (v:Int)) (ps.map (·.2)).length))))->A8s [.d (netD ys ws hs []),.d (.list ((rgP s w).map paD)),.d (dq V)] Q:=fun h1 h2 h3 q=>⟨ys,ws,hs,[],rgP s w,_,_,rfl,by rw [yl]; exact np',by rw [yl]; exact pb,tw.of2 ot,h1,h2,h3,by
  rw [yl,I0 (g:=fun v=>FI (ps.map (·.2)).length (vsO ws) (usO hs) (rgP s w) v * rat (ps.map (·.2)) (v:Int)) fun v hv=>by rw [tw.qu hv]]; exact q⟩
 trivial;subst hR;rw [A8f];refine hd fun R hR=>?_;trivial;refine ⟨ys,ws,hs,[],rgP s w,rfl,by rw [yl]; exact np',by rw [yl]; exact pb,?_⟩;trivial;subst hR;trivial;refine bq A2p (Zx B45 (Zp (by decide) (by decide))) (oy.p2 (by decide)) ?_;rw [Zk rl];trivial;refine bq B4 (Zx A5e (Zp (by decide) (by decide))) (om.p2 (by decide)) ?_;have du:=dual np' pb (by rw [J3,Zl]) K1;have noB:¬ (sA (rgP s w) rtA * m < sA (rgP s w) (wtA ws hs) + sumV (fun v=>FI (ps.map (·.2)).length (vsO ws) (usO hs) (rgP s w) v * rat (ps.map (·.2)) (v:Int)) (ps.map (·.2)).length):=by
  rw [I0 (g:=fun v=>FI (ps.map (·.2)).length (vsO ws) (usO hs) (rgP s w) v * rat (ps.map (·.2)) (v:Int)) fun v hv=>by
   rw [Zl] at hv;rw [B92 (U5 (M8 hv)),V0]] at du
  exact Rat.not_lt.mpr du
 rw [Zd noB];trivial;exact k
def A8w:Pu.PSp:=fun as Q=>∃ (n:Nat) (xs:List Wk) (vs:List (Int × Int)) (us:List (Str × Int)) (ps:LR) (ws:LW) (hs:LH),as=[.d (netD xs ws hs []),.bor ((ps.map (·.2)).map dq),.st]/\ShOk n xs vs us/\Dr n ps ws hs/\NP n ws hs/\2<=n/\ws.length<=38/\(∀ (i:Nat) x p,xs[i]?=some x->ps[i]?=some p->Off x.2.1 x.2.2 p.2)/\Q (.d (.bool true))
theorem A9k (T:Txt K mg D):FnOk P w K mg base CX0 8 D.a_ce D.d_ce ["_law_net","_law_times_here","_law_state"] (Pu.spOf K [.dat,.vw,.st] A8w):=by
 refine T.B.F_ce.ok sc_ce (Zz rfl) (fun cdv A outer s H vs Q E hr h=>?_);refine ⟨_,(QSs.out (A4 (qst 3 sc_ce (qcK (C6 (K:=K) T) hr.mo (D0 T) (A0 (qpv 2) (A0 (qln K T.z_len (qpv 1)) A3))))
   (A4 (qst 4 sc_ce (C2 Q3 (C2 G3 (C2 G3 (qpv 3) A5) (qcK (C6 (K:=K) T) hr.mo (D0 T) (A0 (qpv 2) (A0 (C2 U1 (qln K T.z_len (qpv 1)) A5) A3)))) (qln K T.z_len (qpv 1))))
   (A4 (qst 5 sc_ce (qcK (J1 (K:=K) T) hr.mo (K6 T) (A0 (qpv 2) (A0 J2 (A0 A5 A3)))))
   (A4 (qst 6 sc_ce (qcK (J6 (K:=K) T) hr.mo (L4 T) (A0 (qcK (J1 (K:=K) T) hr.mo (K6 T) (A0 (qpv 2) (A0 J2 (A0 A5 A3)))) (A0 (qcK (F3 (K:=K) T) hr.mo (G6 T) (A0 (qcK (F3 (K:=K) T) hr.mo (G6 T) (A0 (qpv 5) (A0 (qix K (qpv 1) (qpv 3)) A3))) (A0 (qix K (qpv 1) (qpv 4)) A3))) A3))))
   (A4 (C4 (qpv 0) (B3 (K:=K) (n:=4) rfl rfl (A7 (qgn 7 sc_ce) (A7 (qgn 8 sc_ce) (A7 (qgn 9 sc_ce) (A7 (qgn 10 sc_ce) B2)))) rfl rfl))
   (A4 (qst 11 sc_ce (B7 (A0 (qpv 7) (A0 (C2 (S1 (K:=K) rfl) (qpv 8) (D2 (A0 (B7 (A0 (qpv 3) (A0 (qpv 4) (A0 (qpv 5) A3)))) (A0 (B7 (A0 (qpv 4) (A0 (qpv 3) (A0 (qpv 6) A3)))) A3)))) (A0 (qpv 9) (A0 (qpv 10) A3))))))
   (A4 (qst 12 sc_ce (qcK (S3 (K:=K) T) hr.mo (W1 T) (A0 (qpv 11) (A0 (qpv 1) A3))))
   (A4 (C3 (B1 (N2 (K:=K) rfl hr.units) (qix K (qpv 12) A5) C0 (C1 _))
    (A6 (B0 J2))
    B8)
   (A4 (C4 (qcK (A0b (K:=K) T) hr.mo (A1k T) (A0 (qcK (A54 (K:=K) T) hr.mo (B1c T) (A0 (qpv 11) (A0 (qpv 1) A3))) (A0 (qix K (qpv 12) A5) A3))) (B3 (K:=K) (n:=3) rfl rfl (A7 (qgn 13 sc_ce) (A7 (qgn 14 sc_ce) (A7 (qgn 15 sc_ce) B2))) rfl rfl))
   (A6 (B0 (L8 (G8 (C8 (K:=K) rfl hr.units) (qpv 14) (B7 (A0 A5 (A0 A5 A3))) (C1 _)) (N0 (G8 Z6 (qix K (qpv 15) A5) A5 (C1 _)))))))))))))))),?_⟩
 refine Pu.D6 h ?_;rintro as Qp ⟨n,xs,vs,us,ps,ws,hs,rfl,ok,d,np,n2,w38,off,k⟩;have n1:=ok.n1;have ln:=ok.ln;have pl:=d.ln;have tl:(ps.map (·.2)).length=n:=by rw [Zl]; exact pl
 have nk:=d.nk;have ot:∀ t ∈ ps.map (·.2),On (LL * 4) (2 ^ 50) t:=fun t ht=>by
  obtain ⟨p,hp,rfl⟩:=List.mem_map.mp ht;exact (d.s50 p hp).2
 have B4:0 < LL * 4:=by decide
 have B9:LL * 4<=2 ^ 1000:=L1 A5e (by decide);refine hd fun R hR=>?_;trivial;refine ⟨(ps.length:Int),rfl,by omega,M1 (B:=10) (by omega) (by omega) (by decide),fun a a0 a1=>?_⟩;trivial;subst hR;refine hd fun R hR=>?_;trivial;refine ⟨(ps.length:Int) - 1,rfl,by omega,M1 (B:=10) (by omega) (by omega) (by decide),fun c c0 c1=>?_⟩;trivial;refine ⟨by omega,?_⟩;obtain ⟨b,hb⟩:∃ b,b=(a + 1 + c) % (ps.length:Int):=⟨_,rfl⟩;have b0:0<=b:=by rw [hb]; exact Int.emod_nonneg _ (by omega)
 have b1:b < (ps.length:Int):=by rw [hb]; exact Int.emod_lt_of_pos _ (by omega)
 rw [<- hb];subst hR;refine hd fun R hR=>?_;trivial;refine ⟨false,1,rfl,.inr rfl,fun l l0 l1 sl _=>?_⟩;have ol:=P7 sl;trivial;subst hR;refine hd fun R hR=>?_;trivial;refine ⟨false,1,rfl,.inr rfl,fun g g0 g1 sg _=>?_⟩;have og:=P7 sg;trivial;refine D4 (T3 a0 (by rw [Zl]; omega)) ?_;have oa:=ot _ (O0 (ss:=ps.map (·.2)) a0 (by rw [Zl]; omega));have ob:=ot _ (O0 (ss:=ps.map (·.2)) b0 (by rw [Zl]; omega));have ol4:=(ol.up (C:=4) (by decide)).p2 (b:=50) (by decide);have og4:=(og.up (C:=4) (by decide)).p2 (b:=52) (by decide);have s1:=ol4.add2 (b:=51) B4 oa (by decide);have s2:=s1.add2 (b:=52) B4 (ob.p2 (by decide)) (by decide);have s3:=og4.sub2 (b:=53) B4 s2 (by decide);trivial;refine ⟨_,_,rfl,onB ol4 B4 B9 (by decide),onB oa B4 B9 (by decide),?_⟩;trivial;refine D4 (T3 b0 (by rw [Zl]; omega)) ?_;trivial;refine ⟨_,_,rfl,onB s1 B4 B9 (by decide),onB ob B4 B9 (by decide),?_⟩;trivial;refine ⟨_,_,rfl,onB og4 B4 B9 (by decide),onB s2 B4 B9 (by decide),?_⟩;dsimp only;obtain ⟨bk,hbk⟩:∃ bk,bk=g - (l + rat (ps.map (·.2)) a + rat (ps.map (·.2)) b):=⟨_,rfl⟩;rw [<- hbk] at s3 ⊢;trivial;subst hR;refine hd fun R hR=>?_;unfold netD;trivial;subst hR;refine hd fun R hR=>?_;refine And.intro (Nat.le_of_ble_eq_true rfl) (And.intro (Nat.le_of_ble_eq_true rfl) (And.intro (Nat.le_of_ble_eq_true rfl) (And.intro (show (ws.map wD).length + 2<=1000000 by rw [Zl]; omega) (And.intro (Nat.le_of_ble_eq_true rfl) ?_))));show R { nx:=fun _=>Qp (.d .none),rt:=fun s _=>Qp s,bk:=fun _=>False,ct:=fun _=>False } [some (.d (.tuple [.list (xs.map kD),.list (ws.map wD),.list (hs.map hD),.list []])),some (.bor ((ps.map (·.2)).map dq)),some .st,some (.d (.int a)),some (.d (.int b)),some (.d (dq l)),some (.d (dq bk)),some (.d (.list (xs.map kD))),some (.d (.list (ws.map wD))),some (.d (.list (hs.map hD))),some (.d (.list [])),some (.d (.tuple [.list (xs.map kD),.list (ws.map wD++[PyData.tuple [.int a,.int b,dq l],PyData.tuple [.int b,.int a,dq bk]]),.list (hs.map hD),.list []])),none,none,none,none];obtain ⟨ws',hw'⟩:∃ ws',ws'=ws++[(a,b,l),(b,a,bk)]:=⟨_,rfl⟩;rw [show List.map wD ws++[PyData.tuple [.int a,.int b,dq l],PyData.tuple [.int b,.int a,dq bk]]=ws'.map wD by rw [hw',Zc]; rfl];rw [show PyData.tuple [.list (xs.map kD),.list (ws'.map wD),.list (hs.map hD),.list []]=netD xs ws' hs [] from rfl];have wl':ws'.length<=40:=by rw [hw',Ze]; show ws.length + 2<=40; omega
 have o4l:O4 l:=ol4.p2 (by decide);have o4b:O4 bk:=s3.p2 (by decide);have wk':∀ w ∈ ws',(0<=w.1/\w.1 < (n:Int))/\(0<=w.2.1/\w.2.1 < (n:Int))/\O4 w.2.2:=fun w hw=>by
  rw [hw'] at hw;rcases Za hw with h | h
  ·exact np.w w h
  ·simp only [List.mem_cons,List.not_mem_nil,or_false] at h;rcases h with rfl | rfl
   ·exact ⟨⟨a0,by show a < (n:Int); omega⟩,⟨b0,by show b < (n:Int); omega⟩,o4l⟩
   ·exact ⟨⟨b0,by show b < (n:Int); omega⟩,⟨a0,by show a < (n:Int); omega⟩,o4b⟩
 have np':NP (ps.map (·.2)).length ws' hs:=⟨by rw [tl]; exact n1,wl',np.hl,by rw [tl]; exact wk',by rw [tl]; exact np.h⟩;have nk':NOk z4 (ps.map (·.2)) ws' hs:=⟨nk.n0,nk.n1,wl',nk.hl,nk.t,by rw [tl]; exact wk',nk.h⟩;subst hR;refine hd fun R hR=>?_;trivial;refine ⟨z4,_,ps.map (·.2),ws',hs,rfl,NetB.leaf,nk',fun s p w rg kz=>?_,fun P hP _=>?_⟩;case refine_2 =>
  exfalso;have e1:ws'[ws.length]?=some (a,b,l):=by rw [hw',List.getElem?_append_right (Zv _),Nat.sub_self]; rfl
  have e2:ws'[ws.length + 1]?=some (b,a,bk):=by rw [hw',List.getElem?_append_right (by omega),show ws.length + 1 - ws.length=1 by omega]; rfl
  have m1:=hP.2 _ (Zt _ (Zw _ (A6u (f:=fun z:(Int × Int × Rat) × Nat=>((z.1.1.toNat,z.1.2.1.toNat,rat (ps.map (·.2)) z.1.1 + z.1.2.2,(("wait":Str),(z.2:Int))):Wy)) e1)));have m2:=hP.2 _ (Zt _ (Zw _ (A6u (f:=fun z:(Int × Int × Rat) × Nat=>((z.1.1.toNat,z.1.2.1.toNat,rat (ps.map (·.2)) z.1.1 + z.1.2.2,(("wait":Str),(z.2:Int))):Wy)) e2)));have m1:P a.toNat + (rat (ps.map (·.2)) a + l)<=P b.toNat:=m1;have m2:P b.toNat + (rat (ps.map (·.2)) b + bk)<=P a.toNat:=m2;have gp:=g1 rfl;grind
 trivial;subst hR;refine hd fun R hR=>?_;trivial;refine ⟨by decide +kernel,by decide +kernel,?_⟩;subst hR;refine hd fun R hR=>?_;trivial;have ofd:∀ (i:Nat) x t,xs[i]?=some x->(ps.map (·.2))[i]?=some t->Off x.2.1 x.2.2 t:=fun i x t hx ht=>by
  rw [Zh] at ht;obtain ⟨p,hp,rfl⟩:=Zo ht;exact off i x p hx hp
 refine ⟨xs,ws',hs,[],ps.map (·.2),rfl,by omega,by omega,by omega,by have:=nk.hl; omega,ok.of,ot,ofd,fun ys tw=>?_⟩;obtain ⟨rgn,r0⟩:=B1s rg;have pb:=B61 np' rgn;have rl:=A5s np' rgn;have yl:=tw.ln;trivial;rw [A8f];refine ⟨ys,ws',hs,[],rgP s w,rfl,by rw [yl]; exact np',by rw [yl]; exact pb,tw.of2 ot,fun P R' L eP eR eL oP oR oL=>?_⟩;have L0:0 < L:=by
  rw [eL,yl,I0 (g:=fun v=>FI (ps.map (·.2)).length (vsO ws') (usO hs) (rgP s w) v * rat (ps.map (·.2)) (v:Int)) fun v hv=>by rw [tw.qu hv]];rw [r0] at rl;grind
 trivial;subst hR;rw [eR,r0];trivial;rw [Zk (A9r L0)];exact k
theorem C17 (T:Txt K mg D):FnOk P w K mg base CX0 10 D.a_e6 D.d_e6 ["_law_script"] (B5t K):=by
 refine FnOk.imp (sp:=Pu.spOf K [.vw] Pu.pLaw) ?_ Pu.C2v;refine T.F_e6.ok sc_e6 (Zz rfl) (fun cdv A outer s H vs Q E hr h=>?_);refine ⟨_,(QSs.out (A4 (C4 (qcK (A9p (K:=K) T) hr.mo (B3t T) (A0 (qpv 0) (A0 (D2 (A0 C0 (A0 C0 (A0 C0 A3)))) A3))) (B3 (K:=K) (n:=3) rfl rfl (A7 (qgn 1 sc_e6) (A7 (qgn 2 sc_e6) (A7 (qgn 3 sc_e6) B2))) rfl rfl))
   (A4 (qst 4 sc_e6 (qcK (N4 (K:=K) T) hr.mo (P5 T) (A0 (qpv 0) (A0 A5 A3))))
   (A4 (C9 (i:=5) rfl sc_e6.nd rfl rfl (C5 ["_law_start","_law_time_here"] [none,none]) (D1 (K:=K) rfl (qpv 2)) (fun _ _ _=>(B3 (K:=K) (n:=2) rfl rfl (A7 (qgc 0 ["_law_start","_law_time_here"]) (A7 (qgc 1 ["_law_start","_law_time_here"]) B2)) rfl rfl)) (fun _ _ _=>D8) (fun _ _ _=>(qpv 1)) rfl)
   (A4 (C3 (M9 (F8 (qcK (X0 (K:=K) T) hr.mo (A0r T) (A0 (qpv 1) (A0 (qpv 5) (A0 (qpv 4) A3))))))
    (A6 (B0 J2))
    B8)
   (A6 (B0 (C0b (G8 (C8 (K:=K) rfl hr.units) (qln K T.z_len (qpv 5)) A5 (C1 _)) (N0 (qcK (A9k (K:=K) T) hr.mo (B3o T) (A0 (qpv 1) (A0 (qpv 5) (A0 (qpv 4) A3))))))))))))),?_⟩
 refine Pu.D6 h ?_;rintro as Qp ⟨ns,rfl,hns,k⟩;refine hd fun R hR=>?_;trivial;refine ⟨ns,["straight","straight","steps"],rfl,hns,by decide,by decide,kz3,fun n xs vs us pa ps ws hs ok h1 h2 h3 h4 h5 h6 h7=>?_⟩;have n1:=ok.n1;have n0:=ok.n0;have d:=C4f ok h1 h2 h4 h5 h6 h7;have np:NP n ws hs:=⟨n1,d.sz.wl,d.sz.hl,fun w hw=>by have:=d.sz.w w hw; rw [h1] at this; exact this,fun h hh=>by have:=d.sz.h h hh; rw [h1] at this; exact this⟩;trivial;subst hR;refine hd fun R hR=>?_;trivial;refine ⟨ns,_,rfl,by decide,by decide,?_⟩;trivial;subst hR;refine hd fun R hR=>?_;trivial;refine ⟨by omega,F4 (f:=dcn) (xs:=ps) (fun i e ys=>∃ o1 o2:Option SV,e=[o1,o2]/\ys=((ps.map (·.2)).take i).map dq) ⟨_,_,rfl,rfl⟩ ?_ ?_⟩
 ·rintro i x e ys hi ⟨o1,o2,rfl,rfl⟩;trivial;refine ⟨_,_,rfl,?_⟩;rw [List.take_add_one,Zh,hi,Zc];rfl
 rintro e ys ⟨o1,o2,rfl,rfl⟩;rw [show (ps.map (·.2)).take ps.length=ps.map (·.2) from List.take_of_length_le (by rw [Zl]; exact Zv _)];trivial;subst hR;refine hd fun R hR=>?_;trivial;refine ⟨n,xs,vs,us,ps,ws,hs,rfl,ok,d,np,h3,?_⟩;trivial;subst hR;trivial;refine ite2 (fun _=>k) (fun h=>?_);refine ⟨n,xs,vs,us,ps,ws,hs,rfl,ok,d,np,by omega,by have:=ok.vl; rw [<- h4,Zl] at this; exact this,h3,?_⟩;trivial;exact k
end
theorem all_mk {l:PySem.W.OpenLaw} {w:World} {K:PySem.W.Frag} {h:Heap} {mg:Str->Option Value} {fa:Addr} (X:K.In h) (G:h.Ns mainGlobals mg) (hfa:mg "law"=some (.ref fa)) {a_c1 a_b1 a_aa a_c0 a_e5 a_e0 a_c2 a_d5 a_d3 a_c4 a_e1 a_a8 a_b0 a_a3 a_a7 a_b2 a_e2 a_be a_d7 a_c5 a_b3 a_b9 a_b8 a_d4 a_a2 a_df a_af a_ac a_bd a_bc a_ad a_d6 a_a6 a_de a_b5 a_ae a_a0 a_ab a_a4 a_a5 a_ba a_b7 a_e4 a_b4 a_c3 a_c6 a_db a_e3 a_d9 a_ca a_d1 a_d2 a_bb a_cc a_cf a_dd a_da a_cd a_c8 a_c9 a_dc a_b6 a_d0 a_a9 a_d8 a_c7 a_a1 a_ce k_NOUGHT k_ONE:Addr} {d_c1 d_b1 d_aa d_c0 d_e5 d_e0 d_c2 d_d5 d_d3 d_c4 d_e1 d_a8 d_b0 d_a3 d_a7 d_b2 d_e2 d_be d_d7 d_c5 d_b3 d_b9 d_b8 d_d4 d_a2 d_df d_af d_ac d_bd d_bc d_ad d_d6 d_a6 d_de d_b5 d_ae d_a0 d_ab d_a4 d_a5 d_ba d_b7 d_e4 d_b4 d_c3 d_c6 d_db d_e3 d_d9 d_ca d_d1 d_d2 d_bb d_cc d_cf d_dd d_da d_cd d_c8 d_c9 d_dc d_b6 d_d0 d_a9 d_d8 d_c7 d_a1 d_ce:FuncData} (B:TxB K a_c1 a_b1 a_aa a_c0 a_e5 a_e0 a_c2 a_d5 a_d3 a_c4 a_e1 a_a8 a_b0 a_a3 a_a7 a_b2 a_e2 a_be a_d7 a_c5 a_b3 a_b9 a_b8 a_d4 a_a2 a_df a_af a_ac a_bd a_bc a_ad a_d6 a_a6 a_de a_b5 a_ae a_a0 a_ab a_a4 a_a5 a_ba a_b7 a_e4 a_b4 a_c3 a_c6 a_db a_e3 a_d9 a_ca a_d1 a_d2 a_bb a_cc a_cf a_dd a_da a_cd a_c8 a_c9 a_dc a_b6 a_d0 a_a9 a_d8 a_c7 a_a1 a_ce k_NOUGHT k_ONE d_c1 d_b1 d_aa d_c0 d_e5 d_e0 d_c2 d_d5 d_d3 d_c4 d_e1 d_a8 d_b0 d_a3 d_a7 d_b2 d_e2 d_be d_d7 d_c5 d_b3 d_b9 d_b8 d_d4 d_a2 d_df d_af d_ac d_bd d_bc d_ad d_d6 d_a6 d_de d_b5 d_ae d_a0 d_ab d_a4 d_a5 d_ba d_b7 d_e4 d_b4 d_c3 d_c6 d_db d_e3 d_d9 d_ca d_d1 d_d2 d_bb d_cc d_cf d_dd d_da d_cd d_c8 d_c9 d_dc d_b6 d_d0 d_a9 d_d8 d_c7 d_a1 d_ce)
  {od_law an_law:Option Addr} {sl_law:Array (Option Value)} {oc_law kV_law dc_law pm_law cd_law ct_law:Value} {a_e6:Addr}
  {od_NOUGHT:Option Addr} {its_NOUGHT:Array Value} {n_NOUGHT:Nat} {sl_NOUGHT:Array (Option Value)} {t0_NOUGHT t1_NOUGHT:Tok}
  {od_ONE:Option Addr} {its_ONE:Array Value} {n_ONE:Nat} {sl_ONE:Array (Option Value)} {t0_ONE t1_ONE:Tok}
  (g_e6:PySem.W.nsIn K mainGlobals "law"=some (some (.ref a_e6)))
  (l_law:K.lookup a_e6=some ⟨oc_law,od_law,.func (PySem.W.fnOf "law" "law" (N5 s_e6) (L9 s_e6) (A8 s_e6) .none kV_law dc_law pm_law an_law cd_law ct_law),sl_law⟩)
  (c_law:PySem.W.codeIn K cd_law "law"=true)
  (k_law:PySem.W.keepIn K (.ref a_e6)=true)
  (lq_NOUGHT:K.lookup k_NOUGHT=some ⟨.type "tuple",od_NOUGHT,.seq its_NOUGHT n_NOUGHT,sl_NOUGHT⟩)
  (vq_NOUGHT:its_NOUGHT=#[Value.int 0 t0_NOUGHT,Value.int 1 t1_NOUGHT])
  (lq_ONE:K.lookup k_ONE=some ⟨.type "tuple",od_ONE,.seq its_ONE n_ONE,sl_ONE⟩)
  (vq_ONE:its_ONE=#[Value.int 1 t0_ONE,Value.int 1 t1_ONE])
  : ∃ fd:FuncData,(∀ (s:Shared) (v:Value),BindsTo s fd ⟨[v],[]⟩ [("_law_script",v)])/\∀ base:Heap,K.In base->base.Ns mainGlobals mg->FnOk l.prog w K mg base CX0 10 fa fd ["_law_script"] (sp_law K):=by
 have e:=hfa.symm.trans (Zq X G g_e6);cases e;have T:Txt K mg ⟨a_c1,d_c1,a_b1,d_b1,a_aa,d_aa,a_c0,d_c0,a_e5,d_e5,a_e0,d_e0,a_c2,d_c2,a_d5,d_d5,a_d3,d_d3,a_c4,d_c4,a_e1,d_e1,a_a8,d_a8,a_b0,d_b0,a_a3,d_a3,a_a7,d_a7,a_b2,d_b2,a_e2,d_e2,a_be,d_be,a_d7,d_d7,a_c5,d_c5,a_b3,d_b3,a_b9,d_b9,a_b8,d_b8,a_d4,d_d4,a_a2,d_a2,a_df,d_df,a_af,d_af,a_ac,d_ac,a_bd,d_bd,a_bc,d_bc,a_ad,d_ad,a_d6,d_d6,a_a6,d_a6,a_de,d_de,a_b5,d_b5,a_ae,d_ae,a_a0,d_a0,a_ab,d_ab,a_a4,d_a4,a_a5,d_a5,a_ba,d_ba,a_b7,d_b7,a_e4,d_e4,a_b4,d_b4,a_c3,d_c3,a_c6,d_c6,a_db,d_db,a_e3,d_e3,a_d9,d_d9,a_ca,d_ca,a_d1,d_d1,a_d2,d_d2,a_bb,d_bb,a_cc,d_cc,a_cf,d_cf,a_dd,d_dd,a_da,d_da,a_cd,d_cd,a_c8,d_c8,a_c9,d_c9,a_dc,d_dc,a_b6,d_b6,a_d0,d_d0,a_a9,d_a9,a_d8,d_d8,a_c7,d_c7,a_a1,d_a1,a_ce,d_ce,fa,PySem.W.fnOf "law" "law" (N5 s_e6) (L9 s_e6) (A8 s_e6) .none kV_law dc_law pm_law an_law cd_law ct_law,k_NOUGHT,k_ONE⟩:=⟨B,Zq X G B.g_c1,Zq X G B.g_b1,Zq X G B.g_aa,Zq X G B.g_c0,Zq X G B.g_e5,Zq X G B.g_e0,Zq X G B.g_c2,Zq X G B.g_d5,Zq X G B.g_d3,Zq X G B.g_c4,Zq X G B.g_e1,Zq X G B.g_a8,Zq X G B.g_b0,Zq X G B.g_a3,Zq X G B.g_a7,Zq X G B.g_b2,Zq X G B.g_e2,Zq X G B.g_be,Zq X G B.g_d7,Zq X G B.g_c5,Zq X G B.g_b3,Zq X G B.g_b9,Zq X G B.g_b8,Zq X G B.g_d4,Zq X G B.g_a2,Zq X G B.g_df,Zq X G B.g_af,Zq X G B.g_ac,Zq X G B.g_bd,Zq X G B.g_bc,Zq X G B.g_ad,Zq X G B.g_d6,Zq X G B.g_a6,Zq X G B.g_de,Zq X G B.g_b5,Zq X G B.g_ae,Zq X G B.g_a0,Zq X G B.g_ab,Zq X G B.g_a4,Zq X G B.g_a5,Zq X G B.g_ba,Zq X G B.g_b7,Zq X G B.g_e4,Zq X G B.g_b4,Zq X G B.g_c3,Zq X G B.g_c6,Zq X G B.g_db,Zq X G B.g_e3,Zq X G B.g_d9,Zq X G B.g_ca,Zq X G B.g_d1,Zq X G B.g_d2,Zq X G B.g_bb,Zq X G B.g_cc,Zq X G B.g_cf,Zq X G B.g_dd,Zq X G B.g_da,Zq X G B.g_cd,Zq X G B.g_c8,Zq X G B.g_c9,Zq X G B.g_dc,Zq X G B.g_b6,Zq X G B.g_d0,Zq X G B.g_a9,Zq X G B.g_d8,Zq X G B.g_c7,Zq X G B.g_a1,Zq X G B.g_ce,B4m (st:=s_e6) l_law c_law k_law,Zq X G g_e6,Zq X G B.gc_NOUGHT,Zq X G B.gc_ONE,PySem.W.mg_none_of X G B.z_abs,PySem.W.mg_none_of X G B.z_all,PySem.W.mg_none_of X G B.z_bool,PySem.W.mg_none_of X G B.z_enumerate,PySem.W.mg_none_of X G B.z_int,PySem.W.mg_none_of X G B.z_isinstance,PySem.W.mg_none_of X G B.z_len,PySem.W.mg_none_of X G B.z_list,PySem.W.mg_none_of X G B.z_max,PySem.W.mg_none_of X G B.z_min,PySem.W.mg_none_of X G B.z_range,PySem.W.mg_none_of X G B.z_str,PySem.W.mg_none_of X G B.z_tuple,PySem.W.mg_none_of X G B.z_zip,⟨fun H=>.tup ⟨.inr ⟨_,its_NOUGHT,n_NOUGHT,lq_NOUGHT,rfl,rfl,by rw [vq_NOUGHT]; show 2<=sizeLine; decide,by rw [vq_NOUGHT]; exact .cons ⟨_,rfl⟩ (.cons ⟨_,rfl⟩ .nil)⟩,.inr L2.B4f⟩ (.cons (.int _) (.cons (.int _) .nil))⟩,⟨fun H=>.tup ⟨.inr ⟨_,its_ONE,n_ONE,lq_ONE,rfl,rfl,by rw [vq_ONE]; show 2<=sizeLine; decide,by rw [vq_ONE]; exact .cons ⟨_,rfl⟩ (.cons ⟨_,rfl⟩ .nil)⟩,.inr L2.B4f⟩ (.cons (.int _) (.cons (.int _) .nil))⟩⟩;exact ⟨_,fun s v=>.of_eq rfl,fun base _ _=>C17 T⟩
theorem walk {l:PySem.W.OpenLaw} {q:Program} {loose:List Str} {XP:(Str->Option Value)->Heap->Prop} {YP:World->Heap->Prop} {d:DefRec} {K:Params->PySem.W.Frag} (hn:l.most=some 63) (hdf:d.params.defaults=[])
  (hY:∀ (w:World) (h:Heap),YP w h->(K w.params).In h)
  (F:∀ (w:World) (mg:Str->Option Value) (fa:Addr) (h:Heap),(K w.params).In h->h.Ns mainGlobals mg->mg d.name=some (.ref fa) ->
   ∃ fd:FuncData,(∀ (s:Shared) (u:Value),BindsTo s fd ⟨[u],[]⟩ [("_law_script",u)])/\∀ base:Heap,(K w.params).In base->base.Ns mainGlobals mg->FnOk l.prog w (K w.params) mg base CX0 10 fa fd ["_law_script"] (sp_law (K w.params))) :
  PySem.W.WalkO q loose XP YP l.row.toRowW d [] (fun f vs=>PySem.call f vs) :=
 L2.B47 (n:=63) (k:=10) (x:="_law_script") (CX:=fun _=>CX0) (sp:=fun w=>sp_law (K w.params)) hn (by decide) hdf ⟨rfl,rfl,by decide,by decide⟩ hY F (fun _ _ a ns hl _ hS=>⟨a,ns,rfl,hS,hl,fun _=>rfl⟩) fun _ _ _ _ _ z=>z
end Prf
open PySem PySem.W PyProof.Rows
set_option maxRecDepth 100000 in
set_option maxHeartbeats 0 in
theorem PySem.Challenge.cw_hurryprice_k30_whole_soonest_whole_holds : PySem.Challenge.rw_hurryprice_k30_whole_soonest_whole.Holds := by
 refine holds_law Prf.said fun ws=>?_;refine holds_open (q:=Prf.qq) (loose:=[]) (Xt:=Prf.xt) (XP:=XL Prf.qq []) (Yf:=Prf.hh.obs)
  (Ya:=Prf.hh.val) (YP:=Prf.hh.says) (N:=6840) Prf.left Prf.hh.of Prf.hh.keeps
  (fun s e=>xl_of s (Bool.and_eq_true_iff.mp e).1) XL.keeps
  (by rfl) (by rfl) (by rfl) (fun s e=>recFacts_of (Bool.and_eq_true_iff.mp e).2)
  (by rfl) ws (by decide +kernel)
  ⟨rfl,rfl,rfl,rfl,rfl,by decide +kernel⟩ ?hw ?hc
 case hw=>w_witness2
 refine Prf.walk (l:=PySem.Challenge.rw_hurryprice_k30_whole_soonest_whole) (K:=Prf.kk) rfl rfl (fun w h Y=>PySem.W.kIn_of Y) ?F;case F =>
  intro w mg fa h KX G hmg
  k_fill
  refine' Prf.all_mk KX G hmg ⟨?g_c1,?F_c1,?g_b1,?F_b1,?g_aa,?F_aa,?g_c0,?F_c0,?g_e5,?F_e5,?g_e0,?F_e0,?g_c2,?F_c2,?g_d5,?F_d5,?g_d3,?F_d3,?g_c4,?F_c4,?g_e1,?F_e1,?g_a8,?F_a8,?g_b0,?F_b0,?g_a3,?F_a3,?g_a7,?F_a7,?g_b2,?F_b2,?g_e2,?F_e2,?g_be,?F_be,?g_d7,?F_d7,?g_c5,?F_c5,?g_b3,?F_b3,?g_b9,?F_b9,?g_b8,?F_b8,?g_d4,?F_d4,?g_a2,?F_a2,?g_df,?F_df,?g_af,?F_af,?g_ac,?F_ac,?g_bd,?F_bd,?g_bc,?F_bc,?g_ad,?F_ad,?g_d6,?F_d6,?g_a6,?F_a6,?g_de,?F_de,?g_b5,?F_b5,?g_ae,?F_ae,?g_a0,?F_a0,?g_ab,?F_ab,?g_a4,?F_a4,?g_a5,?F_a5,?g_ba,?F_ba,?g_b7,?F_b7,?g_e4,?F_e4,?g_b4,?F_b4,?g_c3,?F_c3,?g_c6,?F_c6,?g_db,?F_db,?g_e3,?F_e3,?g_d9,?F_d9,?g_ca,?F_ca,?g_d1,?F_d1,?g_d2,?F_d2,?g_bb,?F_bb,?g_cc,?F_cc,?g_cf,?F_cf,?g_dd,?F_dd,?g_da,?F_da,?g_cd,?F_cd,?g_c8,?F_c8,?g_c9,?F_c9,?g_dc,?F_dc,?g_b6,?F_b6,?g_d0,?F_d0,?g_a9,?F_a9,?g_d8,?F_d8,?g_c7,?F_c7,?g_a1,?F_a1,?g_ce,?F_ce,?gc_NOUGHT,?gc_ONE,?z_abs,?z_all,?z_bool,?z_enumerate,?z_int,?z_isinstance,?z_len,?z_list,?z_max,?z_min,?z_range,?z_str,?z_tuple,?z_zip⟩ ?g_e6 ?l_law ?c_law ?k_law ?lq_NOUGHT ?vq_NOUGHT ?lq_ONE ?vq_ONE
  (case g_c1 | F_c1 | g_b1 | F_b1 | g_aa | F_aa | g_c0 | F_c0 | g_e5 | F_e5 | g_e0 | F_e0 | g_c2 | F_c2 | g_d5 | F_d5 | g_d3 | F_d3 | g_c4 | F_c4 | g_e1 | F_e1 | g_a8 | F_a8 | g_b0 | F_b0 | g_a3 | F_a3 | g_a7 | F_a7 | g_b2 | F_b2 | g_e2 | F_e2 | g_be | F_be | g_d7 | F_d7 | g_c5 | F_c5 | g_b3 | F_b3 | g_b9 | F_b9 | g_b8 | F_b8 | g_d4 | F_d4 | g_a2 | F_a2 | g_df | F_df | g_af | F_af | g_ac | F_ac | g_bd | F_bd | g_bc | F_bc | g_ad | F_ad | g_d6 | F_d6 | g_a6 | F_a6 | g_de | F_de | g_b5 | F_b5 | g_ae | F_ae | g_a0 | F_a0 | g_ab | F_ab | g_a4 | F_a4 | g_a5 | F_a5 | g_ba | F_ba | g_b7 | F_b7 | g_e4 | F_e4 | g_b4 | F_b4 | g_c3 | F_c3 | g_c6 | F_c6 | g_db | F_db | g_e3 | F_e3 | g_d9 | F_d9 | g_ca | F_ca | g_d1 | F_d1 | g_d2 | F_d2 | g_bb | F_bb | g_cc | F_cc | g_cf | F_cf | g_dd | F_dd | g_da | F_da | g_cd | F_cd | g_c8 | F_c8 | g_c9 | F_c9 | g_dc | F_dc | g_b6 | F_b6 | g_d0 | F_d0 | g_a9 | F_a9 | g_d8 | F_d8 | g_c7 | F_c7 | g_a1 | F_a1 | g_ce | F_ce=>first | (apply L2.B4m <;> k_is) | k_is)
  (case gc_NOUGHT=>k_is)
  (case gc_ONE=>k_is)
  (case z_abs=>k_is)
  (case z_all=>k_is)
  (case z_bool=>k_is)
  (case z_enumerate=>k_is)
  (case z_int=>k_is)
  (case z_isinstance=>k_is)
  (case z_len=>k_is)
  (case z_list=>k_is)
  (case z_max=>k_is)
  (case z_min=>k_is)
  (case z_range=>k_is)
  (case z_str=>k_is)
  (case z_tuple=>k_is)
  (case z_zip=>k_is)
  (case g_e6=>k_is)
  (case l_law=>k_is)
  (case c_law=>k_is)
  (case k_law=>k_is)
  (case lq_NOUGHT=>k_is)
  (case vq_NOUGHT=>exact rfl)
  (case lq_ONE=>k_is)
  (case vq_ONE=>exact rfl)