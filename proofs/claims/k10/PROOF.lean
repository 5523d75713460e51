
import PyProof.Rows.All
import Wide.All
import OpenK.AllK
import Wide.FinOn
import Lean
import PyProof.EqAt
import PyProof.EqKinds
import PyProof.TupleCall
import PySem.Challenge.RW_hurryprice_k10_nets_let_by
set_option Elab.async false
set_option linter.all false
set_option maxRecDepth 100000
set_option maxHeartbeats 4000000
set_option compiler.extract_closed false
theorem Zm {α:Type u} {l:List α} {i:Nat} {a:α} (h:l[i]?=some a):a ∈ l:=List.mem_of_getElem? h
theorem Zg {α:Type u} {l:List α} {i:Nat} (h:i < l.length):l[i]?=some l[i]:=List.getElem?_eq_getElem h
theorem Zs {α:Type u} {l:List α} {i:Nat} {a:α} (h:l[i]?=some a):∃ h:i < l.length,l[i]=a:=List.getElem?_eq_some_iff.mp h
theorem Za {α:Type u} {a:α} {s t:List α} (h:a ∈ s++t):a ∈ s\/a ∈ t:=List.mem_append.mp h
theorem Zi {a:Int} (h:0<=a):∃ n:Nat,a=(n:Int):=Int.eq_ofNat_of_zero_le h
theorem Zo {α:Type u} {β:Type v} {f:α->β} {x:Option α} {b:β} (h:x.map f=some b):∃ a,x=some a/\f a=b:=Option.map_eq_some_iff.mp h
theorem Zn {α:Type u} {a b:α} (h:a ∈ [b]):a=b:=List.mem_singleton.mp h
theorem Zr {α:Type u} {a:α} {l:List α} (y:α) (h:a ∈ l):a ∈ y :: l:=List.mem_cons_of_mem y h
theorem Zu {m n:Nat} (k:Nat) (h:m<=n):m * k<=n * k:=Nat.mul_le_mul_right k h
theorem Zt {α:Type u} {a:α} {as:List α} (bs:List α) (h:a ∈ as):a ∈ as++bs:=List.mem_append_left bs h
theorem Zw {α:Type u} {b:α} (as:List α) {bs:List α} (h:b ∈ bs):b ∈ as++bs:=List.mem_append_right as h
theorem Zj {α:Type u} {a b:α} (h:some a=some b):a=b:=Option.some.inj h
theorem Zp {n m k:Nat} (h:n > 0) (g:m<=k):n ^ m<=n ^ k:=Nat.pow_le_pow_right h g
theorem Zv (n:Nat):n<=n:=Nat.le_refl n
theorem Zx {n m k:Nat} (a:n<=m) (b:m<=k):n<=k:=Nat.le_trans a b
theorem Zy {α:Type u} {a:α} {l:List α}:a ∈ a :: l:=List.mem_cons_self
theorem Zd {p:Prop} [Decidable p] (h:¬p):decide p=false:=decide_eq_false h
theorem Zk {p:Prop} [Decidable p] (h:p):decide p=true:=decide_eq_true h
def Zq:=@PySem.W.mg_of
def Z1:=@PySem.F.plainAttrs_list
def Z2:=@PySem.F.slot_list_append
def Z3:=@PySem.F.type_list_append
theorem Zl {α:Type u} {β:Type v} {as:List α} {f:α->β}:(as.map f).length=as.length:=List.length_map f
theorem Zh {α:Type u} {β:Type v} {f:α->β} {l:List α} {i:Nat}:(l.map f)[i]?=l[i]?.map f:=List.getElem?_map ..
theorem Zc {α:Type u} {β:Type v} {f:α->β} {l k:List α}:(l++k).map f=l.map f++k.map f:=List.map_append ..
theorem Ze {α:Type u} {as bs:List α}:(as++bs).length=as.length + bs.length:=List.length_append ..
abbrev LW:=List (Int × Int × Rat)
abbrev LH:=List (PySem.Str × Int × Rat)
abbrev LR:=List (Rat × Rat)
abbrev LP:=List PySem.PyData
namespace L2
open PySem PySem.Spec PyProof.Rows
def K6 (s:Stmt):Arguments:=match s with
 | .FunctionDef _ a _ _ _ _ _ _ _ _=>a
 | _=>{ posonlyargs:=[],args:=[],vararg:=none,kwonlyargs:=[],kw_defaults:=[],kwarg:=none,defaults:=[] }
def J5 (s:Stmt):List Stmt:=match s with
 | .FunctionDef _ _ b _ _ _ _ _ _ _=>b
 | _=>[]
def A5 (s:Stmt):Scope:=match s with
 | .FunctionDef _ _ _ _ _ _ sc _ _ _=>sc
 | _=>{ kind:=.function,names:=[],isGenerator:=false,isCoroutine:=false }
open PySem.W
def S1 (tb:String->Option Builtin) (p:Program) (w:World) (m:Nat) (ann:Option Value):Nat->SharedT->Thread->Option SharedT
 | 0,_,_=>none
 | n + 1,s,t=>match through t with
  | true=>some s
  | false=>match stepOk m ann t with
   | false=>none
   | true=>match stepT (denote tb) p w s t with
    | some x=>S1 tb p w m ann n x.1 x.2
    | none=>none
theorem A0j {tb:String->Option Builtin} {p:Program} {w:World} {m:Nat} {ann:Option Value}:∀ (n:Nat) (s r:SharedT) (t:Thread),S1 tb p w m ann n s t=some r->topRun tb p w m ann n s.abs t=some r.abs
 | 0,_,_,_,h=>by cases h
 | n + 1,s,r,t,h=>by
  unfold S1 at h;unfold topRun;cases a:through t with
  | true=>rw [a] at h; cases h; rfl
  | false =>
   rw [a] at h;cases b:stepOk m ann t with
   | false=>rw [b] at h; cases h
   | true =>
    rw [b] at h;cases c:stepT (denote tb) p w s t with
    | none=>rw [c] at h; cases h
    | some x =>
     rw [c] at h;rw [stepT_spec (s':=x.1) (t':=x.2) c];exact A0j n x.1 r x.2 h
def mkT (os:List Obj):Nat->Nat->Nat->BT
 | 0,_,_=>.nil
 | k + 1,a,b=>match os[b]? with
  | some o=>.node o (mkT os k (2 * a) (a + b)) (mkT os k (2 * a) (2 * a + b))
  | none=>.nil
noncomputable def A75 (w:World) (os:OsState):Shared:=⟨boot_heap w.params,Array.mk [],boot_drawn,boot_toks,os⟩
noncomputable def B6u (w:World) (os:OsState):SharedT:=⟨mkT (boot_heap w.params).objs.toList 12 1 0,(boot_heap w.params).objs.size,(boot_heap w.params).life,Array.mk [],boot_drawn,boot_toks,os⟩
theorem B6t (w:World) (os:OsState):(B6u w os).abs=A75 w os:=by kernel_rfl
theorem C2v (w:World) (os:OsState):((A75 w os).heap.isNs mainGlobals && (A75 w os).gens.size == 0)=true:=by kernel_rfl
theorem C7t {p q:Program} {loose:List Str} {Xt:Shared->Bool} {α:Type} {Yf:Shared->α} {Ya:World->α} {N:Nat} (ho:opening p=plainProg p.main.scope.names) (hN:Nat.ble 600 N=true) (hf:∀ s,fenceModules? p s=some s)
  (run:∀ (w:World) (os:OsState),(S1 treeTable p w (boot_heap w.params).objs.size ((boot_heap w.params).nsMap mainGlobals "__annotations__") N (B6u w os) (topStub p)).map
   (fun x=>(staticsOk (importedModules p.main.body) (boot_heap w.params) x.abs.heap && namesBound p x.abs.heap && gensDone x.abs && laidKept (boot_heap w.params) x.abs.heap,openSeen q loose (importedModules p.main.body) Xt true x.abs,Yf x.abs))=some (true,openGood q loose,Ya w)) :
  LeftO p q loose Xt Yf Ya N:=fun w=>by
 obtain ⟨⟨h,gs,d,k,os⟩,e,z⟩:=Zo (boot_open ho hN hf w);obtain ⟨rfl,rfl,rfl,rfl⟩:h=boot_heap w.params/\gs=Array.mk []/\d=boot_drawn/\k=boot_toks:=by simpa using z
 obtain ⟨x,r,v⟩:=Zo (run w os);have r:=A0j _ _ _ _ r;rw [B6t] at r;obtain ⟨v1,v2⟩:=Prod.mk.inj v;obtain ⟨v2,v3⟩:=Prod.mk.inj v2;show ((fencedOpening treeTable p w N).bind (topFrom treeTable p w N)).map _=_;rw [e];show (topFrom treeTable p w N (A75 w os)).map _=_;have t:topFrom treeTable p w N (A75 w os)=some x.abs:=by
  unfold topFrom;rw [C2v];show (topRun treeTable p w (boot_heap w.params).objs.size ((boot_heap w.params).nsMap mainGlobals "__annotations__") N (A75 w os) (topStub p)).bind _=_;rw [r];show (match staticsOk (importedModules p.main.body) (boot_heap w.params) x.abs.heap && namesBound p x.abs.heap && gensDone x.abs && laidKept (boot_heap w.params) x.abs.heap with | true=>some x.abs | false=>none)=_;rw [v1]
 rw [t];show some (openSeen q loose (importedModules p.main.body) Xt true x.abs,Yf x.abs)=_;rw [v2,v3]
noncomputable abbrev ranT (p:Program) (N:Nat) (w:World) (os:OsState):Option SharedT:=S1 treeTable p w (boot_heap w.params).objs.size ((boot_heap w.params).nsMap mainGlobals "__annotations__") N (B6u w os) (topStub p)
theorem C53 {p q:Program} {loose:List Str} {Xt:Shared->Bool} {α:Type} {Yf:Shared->α} {Ya:World->α} {N:Nat} (ho:opening p=plainProg p.main.scope.names) (hN:Nat.ble 600 N=true) (hf:∀ s,fenceModules? p s=some s)
  (a:∀ (w:World) (os:OsState),(ranT p N w os).map (fun x=>staticsOk (importedModules p.main.body) (boot_heap w.params) x.abs.heap && namesBound p x.abs.heap && gensDone x.abs && laidKept (boot_heap w.params) x.abs.heap)=some true)
  (b:∀ (w:World) (os:OsState),(ranT p N w os).map (fun x=>openSeen q loose (importedModules p.main.body) Xt true x.abs)=some (openGood q loose))
  (c:∀ (w:World) (os:OsState),(ranT p N w os).map (fun x=>Yf x.abs)=some (Ya w)):LeftO p q loose Xt Yf Ya N :=
 C7t ho hN hf fun w os=>by
  obtain ⟨x,r,e⟩:=Zo (a w os);have r':S1 treeTable p w (boot_heap w.params).objs.size ((boot_heap w.params).nsMap mainGlobals "__annotations__") N (B6u w os) (topStub p)=some x:=r;have f:openSeen q loose (importedModules p.main.body) Xt true x.abs=openGood q loose:=by have z:=b w os; rw [r] at z; exact Zj z
  have g:Yf x.abs=Ya w:=by have z:=c w os; rw [r] at z; exact Zj z
  rw [r'];show some (_,_,_)=_;rw [e,f,g]
theorem C52 {p q:Program} {loose:List Str} {Xt:Shared->Bool} {α:Type} {Yf:Shared->α} {Ya:World->α} {N:Nat} (ho:opening p=plainProg p.main.scope.names) (hN:Nat.ble 600 N=true) (hf:∀ s,fenceModules? p s=some s)
  (a:∀ (w:World) (os:OsState),(ranT p N w os).map (fun x=>staticsOk (importedModules p.main.body) (boot_heap w.params) x.abs.heap && namesBound p x.abs.heap && gensDone x.abs && laidKept (boot_heap w.params) x.abs.heap)=some true)
  (b:∀ (w:World) (os:OsState),(ranT p N w os).map (fun x=>seen ((recsOf q).map (·.name)) (ownsOf q) [] { heap:=x.abs.heap,drawn:=x.abs.drawn,toks:=x.abs.toks,os:=x.abs.os })=some (expectedOf q))
  (b1:∀ (w:World) (os:OsState),(ranT p N w os).map (fun x=>x.abs.heap.bltView)=some bltViewBooted)
  (k1:∀ (w:World) (os:OsState),(ranT p N w os).map (fun x=>x.abs.heap.keysOk (looseW q loose) ((recsOf q).map (·.name)) ((litsOf q).map (·.1)) ((clssOf q (looseW q loose)).map (·.name)))=some true)
  (k2:∀ (w:World) (os:OsState),(ranT p N w os).map (fun x=>x.abs.heap.accountedOkI (importedModules p.main.body) && x.abs.heap.isNs mainGlobals && x.abs.heap.isNs builtinsNs && tablesOk q x.abs.heap && Xt x.abs && x.abs.gens.size == 0)=some true)
  (b3:∀ (w:World) (os:OsState),(ranT p N w os).map (fun x=>(tabsOk q x.abs,pinSeenD q (drecsOf q) x.abs))=some (true,pinGoodD (drecsOf q)))
  (b5:∀ (w:World) (os:OsState),(ranT p N w os).map (fun x=>(plainSeenE q (looseW q loose) x.abs,plainSeenD q loose x.abs))=some (plainGoodE q (looseW q loose),plainGoodD q loose))
  (b4:∀ (w:World) (os:OsState),(ranT p N w os).map (fun x=>(wideSeen q x.abs,clsSeenW q loose x.abs))=some (wideGood q,clsGoodW q loose))
  (c:∀ (w:World) (os:OsState),(ranT p N w os).map (fun x=>Yf x.abs)=some (Ya w)):LeftO p q loose Xt Yf Ya N :=
 C53 ho hN hf a (fun w os=>by
  obtain ⟨x,r,e⟩:=Zo (b w os);have z1:=b1 w os;have z2:=k1 w os;have z3:=k2 w os;have z4:=b3 w os;have z6:=b4 w os;have z7:=b5 w os;rw [r] at z1 z2 z3 z4 z6 z7 ⊢;have z1:x.abs.heap.bltView=bltViewBooted:=Zj z1;have z2:x.abs.heap.keysOk (looseW q loose) ((recsOf q).map (·.name)) ((litsOf q).map (·.1)) ((clssOf q (looseW q loose)).map (·.name))=true:=Zj z2;have z3:(x.abs.heap.accountedOkI (importedModules p.main.body) && x.abs.heap.isNs mainGlobals && x.abs.heap.isNs builtinsNs && tablesOk q x.abs.heap && Xt x.abs && x.abs.gens.size == 0)=true:=Zj z3;obtain ⟨y1,y2⟩:=Prod.mk.inj (Zj z4);obtain ⟨y3,y4⟩:=Prod.mk.inj (Zj z7);obtain ⟨y5,y6⟩:=Prod.mk.inj (Zj z6);show some (seen ((recsOf q).map (·.name)) (ownsOf q) [] { heap:=x.abs.heap,drawn:=x.abs.drawn,toks:=x.abs.toks,os:=x.abs.os },x.abs.heap.bltView,(x.abs.heap.keysOk (looseW q loose) ((recsOf q).map (·.name)) ((litsOf q).map (·.1)) ((clssOf q (looseW q loose)).map (·.name)) && x.abs.heap.accountedOkI (importedModules p.main.body) && x.abs.heap.isNs mainGlobals && x.abs.heap.isNs builtinsNs && tablesOk q x.abs.heap && Xt x.abs && x.abs.gens.size == 0),tabsOk q x.abs,pinSeenD q (drecsOf q) x.abs,plainSeenE q (looseW q loose) x.abs,plainSeenD q loose x.abs,wideSeen q x.abs,clsSeenW q loose x.abs)=some (expectedOf q,bltViewBooted,true,true,pinGoodD (drecsOf q),plainGoodE q (looseW q loose),plainGoodD q loose,wideGood q,clsGoodW q loose);rw [z1,z2,Bool.true_and,z3,y1,y2,y3,y4,y5,y6];exact congrArg (fun z=>some (z,_)) e) c
end L2
namespace Prf
open PySem L2
def top (i:Nat):Stmt:=PySem.Challenge.pw_hurryprice_k10_nets_let_by.main.body.getD i (.Pass ⟨0,0,0,0⟩)
abbrev s_ba:Stmt:=top 6
abbrev s_ae:Stmt:=top 7
abbrev s_ac:Stmt:=top 8
abbrev s_b9:Stmt:=top 9
abbrev s_c9:Stmt:=top 10
abbrev s_d6:Stmt:=top 13
abbrev s_d2:Stmt:=top 14
abbrev s_bb:Stmt:=top 15
abbrev s_cd:Stmt:=top 16
abbrev s_c8:Stmt:=top 17
abbrev s_a4:Stmt:=top 21
abbrev s_b1:Stmt:=top 22
abbrev s_aa:Stmt:=top 23
abbrev s_a0:Stmt:=top 24
abbrev s_a1:Stmt:=top 25
abbrev s_b8:Stmt:=top 26
abbrev s_b2:Stmt:=top 27
abbrev s_a2:Stmt:=top 34
abbrev s_cc:Stmt:=top 35
abbrev s_ca:Stmt:=top 36
abbrev s_c7:Stmt:=top 37
abbrev s_b7:Stmt:=top 38
abbrev s_a6:Stmt:=top 39
abbrev s_a9:Stmt:=top 40
abbrev s_a8:Stmt:=top 41
abbrev s_a7:Stmt:=top 42
abbrev s_a5:Stmt:=top 43
abbrev s_af:Stmt:=top 44
abbrev s_ad:Stmt:=top 45
abbrev s_ab:Stmt:=top 46
abbrev s_bf:Stmt:=top 48
abbrev s_d1:Stmt:=top 49
abbrev s_d4:Stmt:=top 50
abbrev s_d0:Stmt:=top 51
abbrev s_c1:Stmt:=top 52
abbrev s_c5:Stmt:=top 53
abbrev s_b3:Stmt:=top 54
abbrev s_c3:Stmt:=top 55
abbrev s_c2:Stmt:=top 56
abbrev s_c4:Stmt:=top 57
abbrev s_d3:Stmt:=top 58
abbrev s_c6:Stmt:=top 59
abbrev s_c0:Stmt:=top 60
abbrev s_b4:Stmt:=top 61
abbrev s_d5:Stmt:=top 62
abbrev s_bc:Stmt:=top 63
abbrev s_ce:Stmt:=top 64
abbrev s_b0:Stmt:=top 65
abbrev s_b5:Stmt:=top 66
abbrev s_cf:Stmt:=top 67
abbrev s_b6:Stmt:=top 68
abbrev s_bd:Stmt:=top 69
abbrev s_be:Stmt:=top 70
abbrev s_a3:Stmt:=top 71
abbrev s_d7:Stmt:=top 72
abbrev cO (n:Str) (a:Tok) (m:Str) (b c:Tok) (l p f:Int) (x y z u v:Value) (g k:Int) (d:Tok):Obj:=⟨.type "code",none,.fields #[.str n a,.str m b,.str "/claim/cut.py" c,.int l 0,.int p 0,.int 0 0,.int 0 0,.int f 0,x,.bool true,.int 181 0,y,.none,z,u,v,.int g 0,.int k 0,.str "/claim/cut.py" d],#[]⟩
abbrev fO (n:Str) (s:Stmt) (m:Str) (t:Tok) (c:Addr):Obj:=⟨.type "function",none,.func (PySem.W.fnOf n n (K6 s) (J5 s) (A5 s) .none .none .none (.str m t) none (.ref c) .none),#[]⟩
abbrev nE (P:Params) (x:Str) (t:Tok) (v:Value):DictEntry:=⟨PyData.keyHash P x,.str x t,v⟩
noncomputable def kk:Params->PySem.W.Frag:=fun P =>
 (nat_lit 3,⟨(.type "dict"),none,(.dict #[nE P "__name__" 165 (.str "law_hurryprice_k10_nets_let_by" 534),nE P "__doc__" 166 .none,nE P "__package__" 167 .none,nE P "__loader__" 168 (.builtin "__main__.__loader__#opaque"),nE P "__spec__" 169 .none,nE P "__annotations__" 170 (.ref 6),nE P "__builtins__" 171 (.ref 4),nE P "__file__" 173 (.str "/claim/cut.py" 172),nE P "__cached__" 174 .none,nE P "HurryError" 206 (.ref 24),nE P "NoNumber" 222 (.ref 37),nE P "NoNet" 249 (.ref 56),nE P "LONGEST_NAME" 253 (.int 8 252),nE P "is_whole" 260 (.ref 65),nE P "is_tuple_of" 268 (.ref 72),nE P "common_part" 276 (.ref 79),nE P "is_ratio" 285 (.ref 86),nE P "is_name" 291 (.ref 91),nE P "NOUGHT" 296 (.ref 92),nE P "plus" 309 (.ref 99),nE P "minus" 317 (.ref 106),nE P "product" 327 (.ref 113),nE P "parted" 337 (.ref 120),nE P "is_less" 345 (.ref 127),nE P "KINDS" 350 (.ref 128),nE P "MOST_CORNERS" 352 (.int 5 351),nE P "is_from_nought" 359 (.ref 135),nE P "is_corner" 366 (.ref 142),nE P "rate_between" 374 (.ref 149),nE P "are_dearer_in_order" 384 (.ref 156),nE P "are_ever_steeper" 390 (.ref 161),nE P "is_offer" 396 (.ref 166),nE P "smoothed" 405 (.ref 173),nE P "HOLD_KINDS" 411 (.ref 174),nE P "MOST_WORKS" 413 (.int 10 412),nE P "MOST_WAITS" 415 (.int 40 414),nE P "MOST_HOLDS" 417 (.int 40 416),nE P "MOST_GROUPS" 419 (.int 4 418),nE P "is_number_below" 427 (.ref 181),nE P "is_work" 433 (.ref 186),nE P "is_wait" 444 (.ref 193),nE P "is_hold" 455 (.ref 200),nE P "is_group" 461 (.ref 205),nE P "look_at_length" 471 (.ref 212),nE P "look_at_works" 480 (.ref 219),nE P "look_at_waits" 490 (.ref 226),nE P "look_at_holds" 500 (.ref 233),nE P "look_at_groups" 510 (.ref 240),nE P "look_at_net" 521 (.ref 247),nE P "is_straight" 527 (.ref 252),nE P "smoothed_net" 533 (.ref 257),nE P "_law_begun" 544 (.ref 264),nE P "_law_take" 555 (.ref 271),nE P "_law_low" 565 (.ref 278),nE P "_law_plus" 573 (.ref 285),nE P "_law_minus" 581 (.ref 292),nE P "_law_times" 589 (.ref 299),nE P "_law_amount" 600 (.ref 306),nE P "_law_offer" 606 (.ref 311),nE P "_law_names" 612 (.ref 316),nE P "_law_order" 622 (.ref 323),nE P "_law_lag" 631 (.ref 330),nE P "_law_waits" 646 (.ref 337),nE P "_law_holds" 660 (.ref 344),nE P "_law_groups" 666 (.ref 349),nE P "_law_net" 687 (.ref 356),nE P "_law_alike" 693 (.ref 361),nE P "_law_copy" 699 (.ref 366),nE P "_law_greater" 705 (.ref 371),nE P "_law_paired" 711 (.ref 376),nE P "_law_lets" 718 (.ref 383),nE P "_law_smooth" 728 (.ref 390),nE P "_law_apart" 738 (.ref 397),nE P "_law_asked" 749 (.ref 404),nE P "_law_all_straight" 755 (.ref 409),nE P "law" 767 (.ref 416)] 76),#[]⟩) ::
 (nat_lit 64,cO "is_whole" 254 "is_whole" 255 256 13 1 3 (.ref 59) (.ref 60) (.ref 61) (.ref 62) (.ref 63) 258 13 259) ::
 (nat_lit 65,fO "is_whole" s_ba "hurryprice.names" 250 64) ::
 (nat_lit 71,cO "is_tuple_of" 261 "is_tuple_of" 262 263 15 2 3 (.ref 66) (.ref 67) (.ref 68) (.ref 69) (.ref 70) 266 15 267) ::
 (nat_lit 72,fO "is_tuple_of" s_ae "hurryprice.names" 250 71) ::
 (nat_lit 78,cO "common_part" 269 "common_part" 270 271 17 2 3 (.ref 73) (.ref 74) (.ref 75) (.ref 76) (.ref 77) 274 17 275) ::
 (nat_lit 79,fO "common_part" s_ac "hurryprice.names" 250 78) ::
 (nat_lit 85,cO "is_ratio" 277 "is_ratio" 278 279 22 1 3 (.ref 80) (.ref 81) (.ref 82) (.ref 83) (.ref 84) 283 22 284) ::
 (nat_lit 86,fO "is_ratio" s_b9 "hurryprice.names" 250 85) ::
 (nat_lit 90,cO "is_name" 286 "is_name" 287 288 29 1 3 (.ref 87) (.ref 88) .none .none (.ref 89) 289 29 290) ::
 (nat_lit 91,fO "is_name" s_c9 "hurryprice.names" 250 90) ::
 (nat_lit 92,⟨(.type "tuple"),none,(.seq #[(.int 0 294),(.int 1 295)] 0),#[]⟩) ::
 (nat_lit 98,cO "plus" 297 "plus" 298 299 35 2 3 (.ref 93) (.ref 94) (.ref 95) (.ref 96) (.ref 97) 307 35 308) ::
 (nat_lit 99,fO "plus" s_d6 "hurryprice.ratios" 292 98) ::
 (nat_lit 105,cO "minus" 310 "minus" 311 312 41 2 3 (.ref 100) (.ref 101) (.ref 102) (.ref 103) (.ref 104) 315 41 316) ::
 (nat_lit 106,fO "minus" s_d2 "hurryprice.ratios" 292 105) ::
 (nat_lit 112,cO "product" 318 "product" 319 320 43 2 3 (.ref 107) (.ref 108) (.ref 109) (.ref 110) (.ref 111) 325 43 326) ::
 (nat_lit 113,fO "product" s_bb "hurryprice.ratios" 292 112) ::
 (nat_lit 119,cO "parted" 328 "parted" 329 330 46 2 3 (.ref 114) (.ref 115) (.ref 116) (.ref 117) (.ref 118) 335 46 336) ::
 (nat_lit 120,fO "parted" s_cd "hurryprice.ratios" 292 119) ::
 (nat_lit 126,cO "is_less" 338 "is_less" 339 340 51 2 3 (.ref 121) (.ref 122) (.ref 123) (.ref 124) (.ref 125) 343 51 344) ::
 (nat_lit 127,fO "is_less" s_c8 "hurryprice.ratios" 292 126) ::
 (nat_lit 128,⟨(.type "tuple"),none,(.seq #[(.str "straight" 348),(.str "steps" 349)] 0),#[]⟩) ::
 (nat_lit 134,cO "is_from_nought" 353 "is_from_nought" 354 355 56 1 3 (.ref 129) (.ref 130) (.ref 131) (.ref 132) (.ref 133) 357 56 358) ::
 (nat_lit 135,fO "is_from_nought" s_a4 "hurryprice.offers" 346 134) ::
 (nat_lit 141,cO "is_corner" 360 "is_corner" 361 362 58 1 3 (.ref 136) (.ref 137) (.ref 138) (.ref 139) (.ref 140) 364 58 365) ::
 (nat_lit 142,fO "is_corner" s_b1 "hurryprice.offers" 346 141) ::
 (nat_lit 148,cO "rate_between" 367 "rate_between" 368 369 60 2 3 (.ref 143) (.ref 144) (.ref 145) (.ref 146) (.ref 147) 372 60 373) ::
 (nat_lit 149,fO "rate_between" s_aa "hurryprice.offers" 346 148) ::
 (nat_lit 155,cO "are_dearer_in_order" 375 "are_dearer_in_order" 376 377 62 1 3 (.ref 150) (.ref 151) (.ref 152) (.ref 153) (.ref 154) 382 62 383) ::
 (nat_lit 156,fO "are_dearer_in_order" s_a0 "hurryprice.offers" 346 155) ::
 (nat_lit 160,cO "are_ever_steeper" 385 "are_ever_steeper" 386 387 68 1 3 (.ref 157) (.ref 158) .none .none (.ref 159) 388 68 389) ::
 (nat_lit 161,fO "are_ever_steeper" s_a1 "hurryprice.offers" 346 160) ::
 (nat_lit 165,cO "is_offer" 391 "is_offer" 392 393 71 1 3 (.ref 162) (.ref 163) .none .none (.ref 164) 394 71 395) ::
 (nat_lit 166,fO "is_offer" s_b8 "hurryprice.offers" 346 165) ::
 (nat_lit 172,cO "smoothed" 397 "smoothed" 398 399 82 1 3 (.ref 167) (.ref 168) (.ref 169) (.ref 170) (.ref 171) 403 82 404) ::
 (nat_lit 173,fO "smoothed" s_b2 "hurryprice.offers" 346 172) ::
 (nat_lit 174,⟨(.type "tuple"),none,(.seq #[(.str "from" 408),(.str "till" 409),(.str "by" 410)] 0),#[]⟩) ::
 (nat_lit 180,cO "is_number_below" 420 "is_number_below" 421 422 95 2 3 (.ref 175) (.ref 176) (.ref 177) (.ref 178) (.ref 179) 425 95 426) ::
 (nat_lit 181,fO "is_number_below" s_a2 "hurryprice.nets" 406 180) ::
 (nat_lit 185,cO "is_work" 428 "is_work" 429 430 97 2 3 (.ref 182) (.ref 183) .none .none (.ref 184) 431 97 432) ::
 (nat_lit 186,fO "is_work" s_cc "hurryprice.nets" 406 185) ::
 (nat_lit 192,cO "is_wait" 434 "is_wait" 435 436 101 2 3 (.ref 187) (.ref 188) (.ref 189) (.ref 190) (.ref 191) 442 101 443) ::
 (nat_lit 193,fO "is_wait" s_ca "hurryprice.nets" 406 192) ::
 (nat_lit 199,cO "is_hold" 445 "is_hold" 446 447 108 2 3 (.ref 194) (.ref 195) (.ref 196) (.ref 197) (.ref 198) 453 108 454) ::
 (nat_lit 200,fO "is_hold" s_c7 "hurryprice.nets" 406 199) ::
 (nat_lit 204,cO "is_group" 456 "is_group" 457 458 115 3 3 (.ref 201) (.ref 202) .none .none (.ref 203) 459 115 460) ::
 (nat_lit 205,fO "is_group" s_b7 "hurryprice.nets" 406 204) ::
 (nat_lit 211,cO "look_at_length" 462 "look_at_length" 463 464 125 4 3 (.ref 206) (.ref 207) (.ref 208) (.ref 209) (.ref 210) 469 125 470) ::
 (nat_lit 212,fO "look_at_length" s_a6 "hurryprice.nets" 406 211) ::
 (nat_lit 218,cO "look_at_works" 472 "look_at_works" 473 474 128 1 3 (.ref 213) (.ref 214) (.ref 215) (.ref 216) (.ref 217) 478 128 479) ::
 (nat_lit 219,fO "look_at_works" s_a9 "hurryprice.nets" 406 218) ::
 (nat_lit 225,cO "look_at_waits" 481 "look_at_waits" 482 483 133 2 3 (.ref 220) (.ref 221) (.ref 222) (.ref 223) (.ref 224) 488 133 489) ::
 (nat_lit 226,fO "look_at_waits" s_a8 "hurryprice.nets" 406 225) ::
 (nat_lit 232,cO "look_at_holds" 491 "look_at_holds" 492 493 138 2 3 (.ref 227) (.ref 228) (.ref 229) (.ref 230) (.ref 231) 498 138 499) ::
 (nat_lit 233,fO "look_at_holds" s_a7 "hurryprice.nets" 406 232) ::
 (nat_lit 239,cO "look_at_groups" 501 "look_at_groups" 502 503 143 2 3 (.ref 234) (.ref 235) (.ref 236) (.ref 237) (.ref 238) 508 143 509) ::
 (nat_lit 240,fO "look_at_groups" s_a5 "hurryprice.nets" 406 239) ::
 (nat_lit 246,cO "look_at_net" 511 "look_at_net" 512 513 148 1 3 (.ref 241) (.ref 242) (.ref 243) (.ref 244) (.ref 245) 519 148 520) ::
 (nat_lit 247,fO "look_at_net" s_af "hurryprice.nets" 406 246) ::
 (nat_lit 251,cO "is_straight" 522 "is_straight" 523 524 156 1 3 (.ref 248) (.ref 249) .none .none (.ref 250) 525 156 526) ::
 (nat_lit 252,fO "is_straight" s_ad "hurryprice.nets" 406 251) ::
 (nat_lit 256,cO "smoothed_net" 528 "smoothed_net" 529 530 158 1 3 (.ref 253) (.ref 254) .none .none (.ref 255) 531 158 532) ::
 (nat_lit 257,fO "smoothed_net" s_ab "hurryprice.nets" 406 256) ::
 (nat_lit 263,cO "_law_begun" 536 "_law_begun" 537 538 162 2 3 (.ref 258) (.ref 259) (.ref 260) (.ref 261) (.ref 262) 542 162 543) ::
 (nat_lit 264,fO "_law_begun" s_bf "law_hurryprice_k10_nets_let_by" 534 263) ::
 (nat_lit 270,cO "_law_take" 545 "_law_take" 546 547 167 2 3 (.ref 265) (.ref 266) (.ref 267) (.ref 268) (.ref 269) 553 167 554) ::
 (nat_lit 271,fO "_law_take" s_d1 "law_hurryprice_k10_nets_let_by" 534 270) ::
 (nat_lit 277,cO "_law_low" 556 "_law_low" 557 558 178 2 3 (.ref 272) (.ref 273) (.ref 274) (.ref 275) (.ref 276) 563 178 564) ::
 (nat_lit 278,fO "_law_low" s_d4 "law_hurryprice_k10_nets_let_by" 534 277) ::
 (nat_lit 284,cO "_law_plus" 566 "_law_plus" 567 568 184 2 3 (.ref 279) (.ref 280) (.ref 281) (.ref 282) (.ref 283) 571 184 572) ::
 (nat_lit 285,fO "_law_plus" s_d0 "law_hurryprice_k10_nets_let_by" 534 284) ::
 (nat_lit 291,cO "_law_minus" 574 "_law_minus" 575 576 186 2 3 (.ref 286) (.ref 287) (.ref 288) (.ref 289) (.ref 290) 579 186 580) ::
 (nat_lit 292,fO "_law_minus" s_c1 "law_hurryprice_k10_nets_let_by" 534 291) ::
 (nat_lit 298,cO "_law_times" 582 "_law_times" 583 584 188 2 3 (.ref 293) (.ref 294) (.ref 295) (.ref 296) (.ref 297) 587 188 588) ::
 (nat_lit 299,fO "_law_times" s_c5 "law_hurryprice_k10_nets_let_by" 534 298) ::
 (nat_lit 305,cO "_law_amount" 590 "_law_amount" 591 592 190 3 3 (.ref 300) (.ref 301) (.ref 302) (.ref 303) (.ref 304) 598 190 599) ::
 (nat_lit 306,fO "_law_amount" s_b3 "law_hurryprice_k10_nets_let_by" 534 305) ::
 (nat_lit 310,cO "_law_offer" 601 "_law_offer" 602 603 196 4 3 (.ref 307) (.ref 308) .none .none (.ref 309) 604 196 605) ::
 (nat_lit 311,fO "_law_offer" s_c3 "law_hurryprice_k10_nets_let_by" 534 310) ::
 (nat_lit 315,cO "_law_names" 607 "_law_names" 608 609 214 2 3 (.ref 312) (.ref 313) .none .none (.ref 314) 610 214 611) ::
 (nat_lit 316,fO "_law_names" s_c2 "law_hurryprice_k10_nets_let_by" 534 315) ::
 (nat_lit 322,cO "_law_order" 613 "_law_order" 614 615 228 2 3 (.ref 317) (.ref 318) (.ref 319) (.ref 320) (.ref 321) 620 228 621) ::
 (nat_lit 323,fO "_law_order" s_c4 "law_hurryprice_k10_nets_let_by" 534 322) ::
 (nat_lit 329,cO "_law_lag" 623 "_law_lag" 624 625 234 2 3 (.ref 324) (.ref 325) (.ref 326) (.ref 327) (.ref 328) 629 234 630) ::
 (nat_lit 330,fO "_law_lag" s_d3 "law_hurryprice_k10_nets_let_by" 534 329) ::
 (nat_lit 336,cO "_law_waits" 632 "_law_waits" 633 634 239 3 3 (.ref 331) (.ref 332) (.ref 333) (.ref 334) (.ref 335) 644 239 645) ::
 (nat_lit 337,fO "_law_waits" s_c6 "law_hurryprice_k10_nets_let_by" 534 336) ::
 (nat_lit 343,cO "_law_holds" 647 "_law_holds" 648 649 251 4 3 (.ref 338) (.ref 339) (.ref 340) (.ref 341) (.ref 342) 658 251 659) ::
 (nat_lit 344,fO "_law_holds" s_c0 "law_hurryprice_k10_nets_let_by" 534 343) ::
 (nat_lit 348,cO "_law_groups" 661 "_law_groups" 662 663 260 2 3 (.ref 345) (.ref 346) .none .none (.ref 347) 664 260 665) ::
 (nat_lit 349,fO "_law_groups" s_b4 "law_hurryprice_k10_nets_let_by" 534 348) ::
 (nat_lit 355,cO "_law_net" 667 "_law_net" 668 669 270 6 3 (.ref 350) (.ref 351) (.ref 352) (.ref 353) (.ref 354) 685 270 686) ::
 (nat_lit 356,fO "_law_net" s_d5 "law_hurryprice_k10_nets_let_by" 534 355) ::
 (nat_lit 360,cO "_law_alike" 688 "_law_alike" 689 690 286 2 3 (.ref 357) (.ref 358) .none .none (.ref 359) 691 286 692) ::
 (nat_lit 361,fO "_law_alike" s_bc "law_hurryprice_k10_nets_let_by" 534 360) ::
 (nat_lit 365,cO "_law_copy" 694 "_law_copy" 695 696 298 1 3 (.ref 362) (.ref 363) .none .none (.ref 364) 697 298 698) ::
 (nat_lit 366,fO "_law_copy" s_ce "law_hurryprice_k10_nets_let_by" 534 365) ::
 (nat_lit 370,cO "_law_greater" 700 "_law_greater" 701 702 301 2 3 (.ref 367) (.ref 368) .none .none (.ref 369) 703 301 704) ::
 (nat_lit 371,fO "_law_greater" s_b0 "law_hurryprice_k10_nets_let_by" 534 370) ::
 (nat_lit 375,cO "_law_paired" 706 "_law_paired" 707 708 314 2 3 (.ref 372) (.ref 373) .none .none (.ref 374) 709 314 710) ::
 (nat_lit 376,fO "_law_paired" s_b5 "law_hurryprice_k10_nets_let_by" 534 375) ::
 (nat_lit 382,cO "_law_lets" 712 "_law_lets" 713 714 320 1 3 (.ref 377) (.ref 378) (.ref 379) (.ref 380) (.ref 381) 716 320 717) ::
 (nat_lit 383,fO "_law_lets" s_cf "law_hurryprice_k10_nets_let_by" 534 382) ::
 (nat_lit 389,cO "_law_smooth" 719 "_law_smooth" 720 721 325 2 3 (.ref 384) (.ref 385) (.ref 386) (.ref 387) (.ref 388) 726 325 727) ::
 (nat_lit 390,fO "_law_smooth" s_b6 "law_hurryprice_k10_nets_let_by" 534 389) ::
 (nat_lit 396,cO "_law_apart" 729 "_law_apart" 730 731 338 1 3 (.ref 391) (.ref 392) (.ref 393) (.ref 394) (.ref 395) 736 338 737) ::
 (nat_lit 397,fO "_law_apart" s_bd "law_hurryprice_k10_nets_let_by" 534 396) ::
 (nat_lit 403,cO "_law_asked" 739 "_law_asked" 740 741 346 1 3 (.ref 398) (.ref 399) (.ref 400) (.ref 401) (.ref 402) 747 346 748) ::
 (nat_lit 404,fO "_law_asked" s_be "law_hurryprice_k10_nets_let_by" 534 403) ::
 (nat_lit 408,cO "_law_all_straight" 750 "_law_all_straight" 751 752 365 1 3 (.ref 405) (.ref 406) .none .none (.ref 407) 753 365 754) ::
 (nat_lit 409,fO "_law_all_straight" s_a3 "law_hurryprice_k10_nets_let_by" 534 408) ::
 (nat_lit 415,cO "law" 756 "law" 757 758 367 1 3 (.ref 410) (.ref 411) (.ref 412) (.ref 413) (.ref 414) 765 367 766) ::
 (nat_lit 416,fO "law" s_d7 "law_hurryprice_k10_nets_let_by" 534 415) :: []
noncomputable def qq:Program:=PySem.W.view PySem.Challenge.pw_hurryprice_k10_nets_let_by [1,2,3,5,6,7,8,9,10,12,13,14,15,16,17,19,20,21,22,23,24,25,26,27,29,30,31,32,33,34,35,36,37,38,39,40,41,42,43,44,45,46,48,49,50,51,52,53,54,55,56,57,58,59,60,61,62,63,64,65,66,67,68,69,70,71,72]
noncomputable def aa:List Nat:=[3,64,65,71,72,78,79,85,86,90,91,92,98,99,105,106,112,113,119,120,126,127,128,134,135,141,142,148,149,155,156,160,161,165,166,172,173,174,180,181,185,186,192,193,199,200,204,205,211,212,218,219,225,226,232,233,239,240,246,247,251,252,256,257,263,264,270,271,277,278,284,285,291,292,298,299,305,306,310,311,315,316,322,323,329,330,336,337,343,344,348,349,355,356,360,361,365,366,370,371,375,376,382,383,389,390,396,397,403,404,408,409,415,416]
theorem C7y:∀ P:Params,aa=(kk P).map (·.1):=fun P=>by kernel_rfl
noncomputable abbrev hh:PySem.W.Hook:=PySem.W.kHook kk aa C7y
noncomputable abbrev xt (s:Shared):Bool:=PySem.W.xlAt qq [] s && PySem.W.recOk (PySem.W.RowW.records PySem.Challenge.rw_hurryprice_k10_nets_let_by.row.toRowW) s
theorem run1 (w:World) (os:OsState):(L2.ranT PySem.Challenge.pw_hurryprice_k10_nets_let_by 5040 w os).map (fun x=>PySem.W.staticsOk (importedModules PySem.Challenge.pw_hurryprice_k10_nets_let_by.main.body) (PySem.W.boot_heap w.params) x.abs.heap && PySem.W.namesBound PySem.Challenge.pw_hurryprice_k10_nets_let_by x.abs.heap && PySem.W.gensDone x.abs && PySem.W.laidKept (PySem.W.boot_heap w.params) x.abs.heap)=some true:=by kernel_rfl
open PySem.W PySem.Spec PyProof.Rows
theorem run2 (w:World) (os:OsState):(L2.ranT PySem.Challenge.pw_hurryprice_k10_nets_let_by 5040 w os).map (fun x=>seen ((recsOf qq).map (·.name)) (ownsOf qq) [] { heap:=x.abs.heap,drawn:=x.abs.drawn,toks:=x.abs.toks,os:=x.abs.os })=some (expectedOf qq):=by kernel_rfl
theorem run4 (w:World) (os:OsState):(L2.ranT PySem.Challenge.pw_hurryprice_k10_nets_let_by 5040 w os).map (fun x=>x.abs.heap.bltView)=some bltViewBooted:=by kernel_rfl
theorem run5 (w:World) (os:OsState):(L2.ranT PySem.Challenge.pw_hurryprice_k10_nets_let_by 5040 w os).map (fun x=>x.abs.heap.keysOk (looseW qq []) ((recsOf qq).map (·.name)) ((litsOf qq).map (·.1)) ((clssOf qq (looseW qq [])).map (·.name)))=some true:=by kernel_rfl
theorem run6 (w:World) (os:OsState):(L2.ranT PySem.Challenge.pw_hurryprice_k10_nets_let_by 5040 w os).map (fun x=>x.abs.heap.accountedOkI (importedModules PySem.Challenge.pw_hurryprice_k10_nets_let_by.main.body) && x.abs.heap.isNs mainGlobals && x.abs.heap.isNs builtinsNs && tablesOk qq x.abs.heap && xt x.abs && x.abs.gens.size == 0)=some true:=by kernel_rfl
theorem run7 (w:World) (os:OsState):(L2.ranT PySem.Challenge.pw_hurryprice_k10_nets_let_by 5040 w os).map (fun x=>(tabsOk qq x.abs,pinSeenD qq (drecsOf qq) x.abs))=some (true,pinGoodD (drecsOf qq)):=by kernel_rfl
theorem run9 (w:World) (os:OsState):(L2.ranT PySem.Challenge.pw_hurryprice_k10_nets_let_by 5040 w os).map (fun x=>(plainSeenE qq (looseW qq []) x.abs,plainSeenD qq [] x.abs))=some (plainGoodE qq (looseW qq []),plainGoodD qq []):=by kernel_rfl
theorem run8 (w:World) (os:OsState):(L2.ranT PySem.Challenge.pw_hurryprice_k10_nets_let_by 5040 w os).map (fun x=>(wideSeen qq x.abs,clsSeenW qq [] x.abs))=some (wideGood qq,clsGoodW qq []):=by kernel_rfl
theorem run3 (w:World) (os:OsState):(L2.ranT PySem.Challenge.pw_hurryprice_k10_nets_let_by 5040 w os).map (fun x=>hh.obs x.abs)=some (hh.val w):=by kernel_rfl
theorem left:PySem.W.LeftO PySem.Challenge.pw_hurryprice_k10_nets_let_by qq [] xt hh.obs hh.val 5040:=L2.C52 (by kernel_rfl) (by decide) (fun s=>by kernel_rfl) run1 run2 run4 run5 run6 run7 run9 run8 run3
theorem said:PySem.Challenge.rw_hurryprice_k10_nets_let_by.wellSaid=true:=by
 unfold PySem.W.OpenLaw.wellSaid
 repeat' with_reducible refine Bool.and_eq_true_iff.mpr ⟨?_,?_⟩
 all_goals decide +kernel
end Prf
namespace L2
open PySem PySem.Spec PyProof.Rows
abbrev Key:=Sum Int Str
def C6b:Key->Value->Bool
 | .inl k,v=>Value.isInt k v
 | .inr x,v=>Value.isStrOf x v
def keyH (w:World):Key->Int
 | .inl k=>hashInt k
 | .inr x=>hashStr w x
theorem F5:∀ {k:Key} {v:Value},C6b k v=true->(∃ i t,k=Sum.inl i/\v=Value.int i t)\/(∃ x t,k=Sum.inr x/\v=Value.str x t)
 | .inl i,v,h=>by
  obtain ⟨t,e⟩:=Value.isInt_shape (k:=i) (v:=v) h;exact .inl ⟨i,t,rfl,e⟩
 | .inr x,v,h=>by
  obtain ⟨t,e⟩:=Value.isStrOf_shape (x:=x) (v:=v) h;exact .inr ⟨x,t,rfl,e⟩
theorem C6a (a b:Int):decide ((Sum.inl a:Key)=Sum.inl b)=(a == b):=by
 by_cases e:a=b
 ·subst e; simp
 ·have h:¬ (Sum.inl a:Key)=Sum.inl b:=fun q=>e (Sum.inl.inj q);rw [Zd h];exact (beq_eq_false_iff_ne.mpr e).symm
theorem C57 (a b:Str):decide ((Sum.inr a:Key)=Sum.inr b)=decide (a=b):=by
 by_cases e:a=b
 ·subst e; simp
 ·have h:¬ (Sum.inr a:Key)=Sum.inr b:=fun q=>e (Sum.inr.inj q);rw [Zd h,Zd e]
theorem C59 (a:Int) (b:Str):decide ((Sum.inl a:Key)=Sum.inr b)=false:=Zd (fun q=>nomatch q)
theorem C58 (a:Str) (b:Int):decide ((Sum.inr a:Key)=Sum.inl b)=false:=Zd (fun q=>nomatch q)
def B2m (prog:Program) (w:World):PySem.KeyKind prog w Key where
 is:=C6b
 hash:=keyH w
 inj:=fun v a b ha hb=>by
  rcases F5 ha with ⟨i,t,rfl,rfl⟩ | ⟨x,t,rfl,rfl⟩
  ·rcases F5 hb with ⟨j,u,rfl,e⟩ | ⟨y,u,rfl,e⟩
   ·injection e with e1 _; rw [e1]
   ·exact nomatch e
  ·rcases F5 hb with ⟨j,u,rfl,e⟩ | ⟨y,u,rfl,e⟩
   ·exact nomatch e
   ·injection e with e1 _; rw [e1]
 byValue:=fun k v h=>by
  rcases F5 h with ⟨i,t,rfl,rfl⟩ | ⟨x,t,rfl,rfl⟩ <;> rfl
 pyHash:=fun hv h=>by
  rcases F5 hv with ⟨i,t,rfl,rfl⟩ | ⟨x,t,rfl,rfl⟩
  ·exact wpAny_pyHash_int h
  ·exact wpAny_pyHash_str h
 eqBool:=fun hu hv h=>by
  rcases F5 hu with ⟨i,t,rfl,rfl⟩ | ⟨x,t,rfl,rfl⟩
  ·rcases F5 hv with ⟨j,u,rfl,rfl⟩ | ⟨y,u,rfl,rfl⟩
   ·rw [C6a] at h; exact wpAny_eqBool_int h
   ·rw [C59] at h; exact SeqAt.EqAt.int_str i t y u _ _ _ _ h
  ·rcases F5 hv with ⟨j,u,rfl,rfl⟩ | ⟨y,u,rfl,rfl⟩
   ·rw [C58] at h; exact SeqAt.EqAt.str_int x t j u _ _ _ _ h
   ·rw [C57] at h; exact wpAny_eqBool_str h
 «strs»:=fun k x t v h=>by
  rcases F5 h with ⟨i,u,rfl,e⟩ | ⟨y,u,rfl,e⟩
  ·exact nomatch e
  ·injection e with e1 _
   subst e1;cases v <;> rfl
end L2
namespace L2
open PySem PySem.Spec PyProof.Rows
inductive V where
 | non | bl (b:Bool) | int (i:Int) | str (x:Str) | byt (b:Array UInt8) | flt (b:UInt64) | ref (a:Addr) | ty (n:String)
 deriving DecidableEq
def RelV:V->Value->Prop
 | .non,u=>u=Value.none
 | .bl b,u=>u=Value.bool b
 | .int i,u=>∃ t,u=Value.int i t
 | .str x,u=>∃ t,u=Value.str x t
 | .byt b,u=>∃ t,u=Value.bytes b t
 | .flt b,u=>∃ t,u=Value.float b t
 | .ref a,u=>u=Value.ref a
 | .ty n,u=>u=Value.type n
abbrev Vals:List V->List Value->Prop:=Paired RelV
theorem Vals.length {xs:List V} {us:List Value} (r:Vals xs us):xs.length=us.length:=Paired.length r
theorem Vals.get:∀ {xs:List V} {us:List Value} {i:Nat} {x:V},Vals xs us->xs[i]?=some x->∃ u,us[i]?=some u/\RelV x u
 | _,_,_,_,.nil,e=>by simp at e
 | _,_,0,_,.cons r _,e=>by simp at e; subst e; exact ⟨_,rfl,r⟩
 | _,_,i + 1,x,.cons _ t,e=>by
  obtain ⟨u,h1,h2⟩:=Vals.get (i:=i) (x:=x) t (by simpa using e);exact ⟨u,by simpa using h1,h2⟩
theorem Vals.set {x:V} {u:Value} (r:RelV x u):∀ {xs:List V} {us:List Value} (i:Nat),Vals xs us->Vals (xs.set i x) (us.set i u)
 | _,_,_,.nil=>.nil
 | _,_,0,.cons _ t=>.cons r t
 | _,_,i + 1,.cons q t=>.cons q (Vals.set r i t)
theorem Vals.append:∀ {xs ys:List V} {us ws:List Value},Vals xs us->Vals ys ws->Vals (xs++ys) (us++ws)
 | _,_,_,_,.nil,s=>s
 | _,_,_,_,.cons r t,s=>.cons r (Vals.append t s)
theorem Vals.take:∀ {xs:List V} {us:List Value} (n:Nat),Vals xs us->Vals (xs.take n) (us.take n)
 | _,_,0,_=>.nil
 | _,_,_ + 1,.nil=>.nil
 | _,_,n + 1,.cons r t=>.cons r (Vals.take n t)
theorem Vals.drop:∀ {xs:List V} {us:List Value} (n:Nat),Vals xs us->Vals (xs.drop n) (us.drop n)
 | _,_,0,r=>r
 | _,_,_ + 1,.nil=>.nil
 | _,_,n + 1,.cons _ t=>Vals.drop n t
theorem Vals.none_of:∀ {xs:List V} {us:List Value} {i:Nat},Vals xs us->xs[i]?=none->us[i]?=none:=fun {xs us i} r e=>by
 have h1:=r.length;have h2:xs.length<=i:=List.getElem?_eq_none_iff.mp e;exact List.getElem?_eq_none_iff.mpr (by omega)
def RelO:Option V->Option Value->Prop
 | some v,some u=>RelV v u
 | none,none=>True
 | _,_=>False
def KV {κ:Type}:List (κ × V)->List (κ × Value)->Prop:=Paired fun (p:κ × V) (q:κ × Value)=>p.1=q.1/\RelV p.2 q.2
def kV:Key->V
 | .inl i=>.int i
 | .inr x=>.str x
inductive HO where
  | lst (xs:List V)
  | tup (xs:List V)
  | dK (kvs:List (Key × V)) | dT (kvs:List (List Key × V))
  | set (S:Int->Bool) (n:Nat)
  | ins (C dx:Addr) (fs:List (Str × V))
  | own (x:Addr)
  | xd (fs:List (Str × V))
  | met (f x:Addr)
  | rng (lo hi:Int)
  | frz (o:Obj) (u:HO)
  | tbl (ps:Array Value)
  | ext (φ:Heap->Prop)
abbrev Hp:=Addr->Option HO
def upd (H:Hp) (a:Addr) (o:HO):Hp:=fun b=>if b=a then some o else H b
theorem B3 {H:Hp} {a:Addr} {o:HO}:upd H a o a=some o:=by unfold upd; rw [if_pos rfl]
theorem C4 {H:Hp} {a b:Addr} {o:HO} (h:b≠a):upd H a o b=H b:=by unfold upd; rw [if_neg h]
theorem E8 {H:Hp} {a b:Addr} {o:HO} (h:H a=some o) (h':H b=none):a≠b:=by
 intro e; subst e; rw [h] at h'; cases h'
section
variable (P:Program) (w:World)
def ObjOk (H:Hp) (h:Heap) (a:Addr):HO->Prop
 | .lst xs=>xs.length<=sizeLine/\∃ (its:List Value) (n:Nat),Vals xs its/\h.get? a=some { cls:=.type "list",data:=.seq its.toArray n }
 | .tup xs=>xs.length<=sizeLine/\∃ its:List Value,Vals xs its/\IsTup h a its.toArray
 | .dK kvs=>kvs.length<=sizeLine/\(a == sysModules)=false/\∃ vs,KV kvs vs/\h.DictOf (B2m P w) a vs
 | .dT kvs=>kvs.length<=sizeLine/\(a == sysModules)=false/\∃ xs:List (List Key × Addr × Value),
   Paired (fun (p:List Key × V) (q:List Key × Addr × Value)=>p.1=q.1/\H q.2.1=some (.tup (p.1.map kV))/\RelV p.2 q.2.2) kvs xs /\
   ∃ o es ep,h.get? a=some o/\o.ExactDict/\o.data=.dict es ep/\es.toList=xs.map (entryOfKey (tupleKind (B2m P w)))/\(xs.map (·.1)).Nodup
 | .set S n=>h.SetOf (intKind P w) a S n
 | .ins C dx fs=>H dx=some (.own a)/\fs.length<=1000/\dx≠a/\h.get? a=some (PySem.W.instObj C dx) /\
   ∃ mA,h.Ns1 dx mA/\(∀ f,RelO (fs.lookup f) (mA f))/\PySem.Within mA (fs.map (·.1))
 | .own _=>∃ o,h.get? a=some o
 | .xd fs=>∃ mA,h.Ns1 a mA/\∀ f,RelO (fs.lookup f) (mA f)
 | .rng lo hi=>∃ t u v,h.get? a=some { cls:=.type "range",data:=.fields #[.int lo t,.int hi u,.int 1 v] }
 | .frz o u=>h.get? a=some o/\ObjOk H h a u
 | .tbl ps=>h.get? a=some { cls:=.none,data:=.fields ps }
 | .met f x=>h.get? a=some (PySem.W.methodObj (.ref f) (.ref x))
 | .ext φ=>φ h/\(∃ o,h.get? a=some o)/\∀ h1 h2:Heap,φ h1->(∀ o,h1.get? a=some o->h2.get? a=some o)->φ h2
def HOk (H:Hp) (h:Heap):Prop:=∀ a o,H a=some o->ObjOk P w H h a o
end
section
variable {P:Program} {w:World} {H H':Hp} {h h':Heap} {a:Addr} {o:HO}
theorem ObjOk.lt (x:ObjOk P w H h a o):a < h.objs.size:=by
 cases o with
 | lst xs=>obtain ⟨_,_,_,_,e⟩:=x; exact Heap.lt_size e
 | tup xs=>obtain ⟨_,_,_,p⟩:=x; exact p.lt
 | dK kvs=>obtain ⟨_,_,_,_,o,_,_,e,_⟩:=x; exact Heap.lt_size e
 | dT kvs=>obtain ⟨_,_,_,_,o,_,_,e,_⟩:=x; exact Heap.lt_size e
 | set S n=>obtain ⟨o,_,_,_,e,_⟩:=x; exact Heap.lt_size e
 | ins C dx fs=>obtain ⟨_,_,_,e,_⟩:=x; exact Heap.lt_size e
 | own y=>obtain ⟨_,e⟩:=x; exact Heap.lt_size e
 | xd fs=>obtain ⟨_,⟨_,_,_,e,_⟩,_⟩:=x; exact Heap.lt_size e
 | rng lo hi=>obtain ⟨_,_,_,e⟩:=x; exact Heap.lt_size e
 | frz ob u=>obtain ⟨e,_⟩:=x; exact Heap.lt_size e
 | tbl ps=>exact Heap.lt_size (show h.get? a=some _ from x)
 | met f y=>exact Heap.lt_size (show h.get? a=some _ from x)
 | ext φ=>obtain ⟨_,⟨_,e⟩,_⟩:=x; exact Heap.lt_size e
theorem Paired.mapP {α β:Type} {F G:α->β->Prop}:∀ {l₁:List α} {l₂:List β},Paired F l₁ l₂->(∀ a b,F a b->G a b)->Paired G l₁ l₂
 | _,_,.nil,_=>.nil
 | _,_,.cons r t,f=>.cons (f _ _ r) (Paired.mapP t f)
theorem ObjOk.stay (x:ObjOk P w H h a o) (k:∀ b u,(b=a\/H b=some (.own a))->h.get? b=some u->h'.get? b=some u)
  (ho:∀ b,H b=some (.own a)->H' b=some (.own a)) (ht:∀ b xs,H b=some (.tup xs)->H' b=some (.tup xs)):ObjOk P w H' h' a o:=by
 induction o with
 | lst xs=>obtain ⟨z,its,n,r,e⟩:=x; exact ⟨z,its,n,r,k _ _ (.inl rfl) e⟩
 | tup xs=>obtain ⟨z,its,r,ob,e,c⟩:=x; exact ⟨z,its,r,ob,k _ _ (.inl rfl) e,c⟩
 | dK kvs=>obtain ⟨z,y,vs,r,ob,es,ep,e,c⟩:=x; exact ⟨z,y,vs,r,ob,es,ep,k _ _ (.inl rfl) e,c⟩
 | dT kvs =>
  obtain ⟨z,y,xs,r,ob,es,ep,e,c⟩:=x;exact ⟨z,y,xs,Paired.mapP r fun p q z=>⟨z.1,ht _ _ z.2.1,z.2.2⟩,ob,es,ep,k _ _ (.inl rfl) e,c⟩
 | set S n=>obtain ⟨ob,es,ep,t,e,c⟩:=x; exact ⟨ob,es,ep,t,k _ _ (.inl rfl) e,c⟩
 | ins C dx fs =>
  obtain ⟨d,z,ne,e,mA,⟨od,es,ep,e2,c⟩,r⟩:=x;exact ⟨ho _ d,z,ne,k _ _ (.inl rfl) e,mA,⟨od,es,ep,k _ _ (.inr d) e2,c⟩,r⟩
 | own y=>obtain ⟨ob,e⟩:=x; exact ⟨ob,k _ _ (.inl rfl) e⟩
 | xd fs=>obtain ⟨mA,⟨od,es,ep,e,c⟩,r⟩:=x; exact ⟨mA,⟨od,es,ep,k _ _ (.inl rfl) e,c⟩,r⟩
 | rng lo hi=>obtain ⟨t,u,v,e⟩:=x; exact ⟨t,u,v,k _ _ (.inl rfl) e⟩
 | frz ob u ih=>obtain ⟨e,q⟩:=x; exact ⟨k _ _ (.inl rfl) e,ih q⟩
 | tbl ps =>
  have e:h.get? a=some { cls:=.none,data:=.fields ps }:=x;show h'.get? a=some { cls:=.none,data:=.fields ps };exact k a _ (.inl rfl) e
 | met f y =>
  have e:h.get? a=some (PySem.W.methodObj (.ref f) (.ref y)):=x;show h'.get? a=some (PySem.W.methodObj (.ref f) (.ref y));exact k a _ (.inl rfl) e
 | ext φ=>obtain ⟨p,⟨o,e⟩,st⟩:=x; exact ⟨st _ _ p fun o q=>k _ _ (.inl rfl) q,⟨o,k _ _ (.inl rfl) e⟩,st⟩
theorem HOk.lt (x:HOk P w H h) (e:H a=some o):a < h.objs.size:=(x a o e).lt
theorem HOk.fresh (x:HOk P w H h) (e:h.objs.size<=a):H a=none:=by
 cases q:H a with
 | none=>rfl
 | some u=>exact absurd (Nat.lt_of_lt_of_le (x.lt q) e) (Nat.lt_irrefl _)
theorem HOk.kept (x:HOk P w H h) (k:∀ b u,h.get? b=some u->h'.get? b=some u):HOk P w H h':=fun a o e =>
 (x a o e).stay (fun b u _ q=>k b u q) (fun _ q=>q) fun _ _ q=>q
theorem HOk.laid (x:HOk P w H h) (k:∀ b u,h.get? b=some u->h'.get? b=some u) (hp:h.objs.size<=a) (new:ObjOk P w (upd H a o) h' a o):HOk P w (upd H a o) h':=fun b u e=>by
 have hn:=x.fresh hp;by_cases hb:b=a
 ·subst hb; rw [B3] at e; cases e; exact new
 ·rw [C4 hb] at e;exact (x b u e).stay (fun c v _ q=>k c v q) (fun c q=>by rw [C4 (E8 q hn)]; exact q) fun c xs q=>by rw [C4 (E8 q hn)]; exact q
end
def Rd (H:Hp) (a:Addr) (u:HO):Prop:=H a=some u\/∃ o,H a=some (.frz o u)
theorem Rd.ok {P:Program} {w:World} {H:Hp} {h:Heap} {a:Addr} {u:HO} (r:Rd H a u) (x:HOk P w H h):ObjOk P w H h a u:=by
 rcases r with r | ⟨o,r⟩
 ·exact x a u r
 ·obtain ⟨_,q⟩:=x a _ r;exact q
def Mut:Option HO->Prop
 | some (.lst _)=>True
 | some (.dK _)=>True
 | some (.dT _)=>True
 | some (.set _ _)=>True
 | some (.ins _ _ _)=>True
 | some (.ext _)=>True
 | _=>False
section
variable {P:Program} {w:World} {H:Hp} {h h':Heap} {x e:Addr} {o':HO}
theorem HOk.write (ok:HOk P w H h) (mu:Mut (H x)) (he:e=x\/H e=some (.own x)) (k:∀ b u,b≠e->h.get? b=some u->h'.get? b=some u) (heo:∃ u,h'.get? e=some u)
  (new:ObjOk P w (upd H x o') h' x o'):HOk P w (upd H x o') h':=fun b u q=>by
 have nown:∀ c y,H c=some (.own y)->c≠x:=fun c y r z=>by subst z; rw [r] at mu; exact mu
 have ntup:∀ c xs,H c=some (.tup xs)->c≠x:=fun c xs r z=>by subst z; rw [r] at mu; exact mu
 by_cases hb:b=x
 ·subst hb; rw [B3] at q; cases q; exact new
 ·rw [C4 hb] at q;by_cases hbe:b=e
  ·have q':H b=some (.own x):=by
    rcases he with z | z
    ·exact absurd (hbe.trans z) hb
    ·rw [hbe]; exact z
   rw [q] at q'; cases q';obtain ⟨v,hv⟩:=heo;exact ⟨v,by rw [hbe]; exact hv⟩
  ·refine (ok b u q).stay (fun c v hc r=>k c v ?_ r) (fun c r=>by rw [C4 (nown c b r)]; exact r) fun c xs r=>by rw [C4 (ntup c xs r)]; exact r
   rcases hc with rfl | hc
   ·exact hbe
   ·rintro rfl;rcases he with z | z
    ·exact nown c b hc z
    ·rw [hc] at z; cases z; exact hb rfl
end
structure Un (fs ex:List Addr) (H H':Hp) (h h':Heap):Prop where
 keep:∀ b o,h.get? b=some o->H b=none->b ∉ fs->b ∉ ex->h'.get? b=some o
 slot:∀ b o,h.get? b=some o->H b=none->b ∈ fs->b ∉ ex->∃ sl,h'.get? b=some { o with slots:=sl }
 free:∀ b o,h.get? b=some o->H b=none->b ∉ ex->H' b=none
 there:∀ b o,h.get? b=some o->b ∉ ex->∃ o',h'.get? b=some o'
 tups:∀ b xs,H b=some (.tup xs)->H' b=some (.tup xs)
 frzs:∀ b o u,H b=some (.frz o u)->H' b=some (.frz o u)
 tbls:∀ b ps,H b=some (.tbl ps)->∃ more,H' b=some (.tbl (ps++more))
section
variable {fs fs' ex ex':List Addr} {H H1 H2:Hp} {h h1 h2 h':Heap} {a x e:Addr} {o:HO}
theorem Un.any (u:Un fs ex H H1 h h1) {b:Addr} {ob:Obj} (q:h.get? b=some ob) (n:H b=none) (hx:b ∉ ex):∃ sl,h1.get? b=some { ob with slots:=sl }:=by
 by_cases hb:b ∈ fs
 ·exact u.slot b ob q n hb hx
 ·exact ⟨ob.slots,u.keep b ob q n hb hx⟩
theorem Un.kept (k:∀ b u,h.get? b=some u->h'.get? b=some u):Un fs ex H H h h' :=
 ⟨fun b ob q _ _ _=>k b ob q,fun b ob q _ _ _=>⟨ob.slots,k b ob q⟩,fun _ _ _ n _=>n,fun b ob q _=>⟨ob,k b ob q⟩,fun _ _ q=>q,fun _ _ _ q=>q,fun _ ps q=>⟨#[],by rw [q]; simp⟩⟩
theorem Un.refl:Un fs ex H H h h:=Un.kept fun _ _ q=>q
theorem Un.laid (k:∀ b u,h.get? b=some u->h'.get? b=some u) (hp:h.objs.size<=a) (hn:H a=none):Un fs ex H (upd H a o) h h' where
 keep:=fun b u q _ _ _=>k b u q
 slot:=fun b u q _ _ _=>⟨u.slots,k b u q⟩
 free:=fun b u q n _=>by rw [C4 (Nat.ne_of_lt (Nat.lt_of_lt_of_le (Heap.lt_size q) hp))]; exact n
 there:=fun b u q _=>⟨u,k b u q⟩
 tups:=fun b xs q=>by rw [C4 (E8 q hn)]; exact q
 frzs:=fun b u xs q=>by rw [C4 (E8 q hn)]; exact q
 tbls:=fun b ps q=>⟨#[],by rw [C4 (E8 q hn),q]; simp⟩
theorem Un.write (mu:Mut (H x)) (he:e=x\/H e=some (.own x)) (k:∀ b u,b≠e->h.get? b=some u->h'.get? b=some u) (heo:∃ u,h'.get? e=some u):Un fs ex H (upd H x o) h h':=by
 have hx:∀ b,H b=none->b≠x:=fun b n z=>by subst z; rw [n] at mu; exact mu
 have hb:∀ b,H b=none->b≠e:=fun b n z=>by
  subst z;rcases he with r | r
  ·exact hx b n r
  ·rw [n] at r; cases r
 have hm:∀ b u,H b=some u->¬ Mut (some u)->b≠x:=fun b u q nm z=>by subst z; rw [q] at mu; exact nm mu
 refine ⟨fun b u q n _ _=>k b u (hb b n) q,fun b u q n _ _=>⟨u.slots,k b u (hb b n) q⟩,fun b u q n _=>by rw [C4 (hx b n)]; exact n,fun b u q _=>?_,
  fun b xs q=>by rw [C4 (hm b _ q fun z=>z)]; exact q,fun b u xs q=>by rw [C4 (hm b _ q fun z=>z)]; exact q,fun b ps q=>⟨#[],by rw [C4 (hm b _ q fun z=>z),q]; simp⟩⟩
 by_cases hbe:b=e
 ·subst hbe; exact heo
 ·exact ⟨u,k b u hbe q⟩
end
def trk (h:Heap) (H:Hp):List Addr:=(List.range h.objs.size).filter fun a=>(H a).isSome
def hidT (h:Heap) (H:Hp):Heap:=PySem.W.hideAll h (trk h H)
theorem B3x (h:Heap) (H:Hp):(hidT h H).objs.size=h.objs.size:=PySem.W.hideAll_size _ _
theorem B6j {h:Heap} {H:Hp} {b:Addr} {o:Obj} (e:h.get? b=some o) (n:H b=none):(hidT h H).get? b=some o :=
 PySem.W.hideAll_get _ e fun hm=>by
  have q:(H b).isSome=true:=(List.mem_filter.mp hm).2;rw [n] at q; simp at q
theorem C19 {h:Heap} {H:Hp} {b:Addr} {o:Obj} (e:(hidT h H).get? b=some o):h.get? b=some o/\H b=none:=by
 have e':h.get? b=some o:=PySem.W.of_hideAll (trk h H) e;refine ⟨e',?_⟩;cases q:H b with
 | none=>rfl
 | some x =>
  have hm:b ∈ trk h H:=List.mem_filter.mpr ⟨List.mem_range.mpr (Heap.lt_size e'),by simp [q]⟩;have z:(hidT h H).get? b=none:=PySem.W.hideAll_none (trk h H) hm;rw [z] at e; cases e
def C2z (g h:Heap) (L:Addr):List (Addr × Obj):=(List.range h.objs.size).filterMap fun a=>if a=L\/(g.get? a).isSome=true then none else (h.get? a).map fun o=>(a,o)
def rest (g h:Heap) (L d:Addr):List (Addr × Obj):=(C2z g h L).filter fun p=>decide (p.1≠d)
end L2
namespace L2
open PySem PySem.Spec PyProof.Rows
structure Mod (K:PySem.W.Frag) (mg:Str->Option Value) (base:Heap):Prop where
 kin:K.In base
 glob:base.Ns mainGlobals mg
 blt:∃ mb,base.Ns builtinsNs mb/\∀ x:Str,x≠"__name__"->mb x=bootBuiltins x
 nolimit:base.NoLimit
structure Cx where
 prog:Program
 w:World
 K:PySem.W.Frag
 mg:Str->Option Value
 base:Heap
 A:Around
 N:List Str
 s₀:Shared
 H₀:Hp
 env:Env
 outer:List Env
 stack:List Env
 ex:List Addr
 fn:Str->Bool
 calm:Bool
 pn:List (Addr × Obj)
 xe:Value->Shared->Prop
def frs (l:List Env):List Addr:=l.filterMap (·.frame)
abbrev Cx.fs (X:Cx):List Addr:=frs X.outer
def Vis (sc:Scope) (x:Str):Prop:=sc.names.lookup x=some .local\/sc.names.lookup x=some .cell\/sc.names.lookup x=some .free
def Loc (sc:Scope) (x:Str):Prop:=sc.names.lookup x=some .local\/sc.names.lookup x=some .cell
def Look (env:Env) (h:Heap) (m:Str->Option Value) (x:Str) (u:Value):Prop :=
 (env.kindOf x=some .local/\m x=some u)\/((env.kindOf x=some .cell\/env.kindOf x=some .free)/\∃ c,env.cells.lookup x=some c/\h.IsCell c (some u))
structure Cx.Ok (X:Cx):Prop where
 mod:Mod X.K X.mg X.base
 kind:X.env.scope.kind=.function
 glob:X.env.globals=mainGlobals
 blt:X.env.builtins=builtinsNs
 above:X.s₀.heap.objs.size<=X.env.locals
 inj:∀ x y c,X.env.cells.lookup x=some c->X.env.cells.lookup y=some c->x=y
 has:∀ x,(X.env.kindOf x=some .cell\/X.env.kindOf x=some .free)->∃ c,X.env.cells.lookup x=some c
 cab:∀ x c,X.fn x=true->X.env.cells.lookup x=some c->X.s₀.heap.objs.size<=c
 hd:X.calm=true->X.A.handled=none
 frames:X.A.frames=some X.stack
 stk:X.stack=X.outer\/(X.stack=X.env :: X.outer/\X.env.frame=some X.env.locals)
 exf:∀ b ∈ X.ex,b≠X.env.locals/\∀ x c,X.env.cells.lookup x=some c->c≠b
 bs:∀ b o,X.base.get? b=some o->X.s₀.heap.get? b=some o/\X.H₀ b=none
 bsz:X.base.objs.size<=X.s₀.heap.objs.size
 noex:∀ b o,X.base.get? b=some o->b ∉ X.ex
 exfs:∀ b ∈ X.ex,b ∉ X.fs
 funs:X.s₀.heap.FunFrames X.base X.outer
 frf:∀ b ∈ X.fs,X.H₀ b=none
structure Inv (X:Cx) (pins:List (Addr × Obj)) (σ:List (Option V)) (H:Hp) (s:Shared):Prop where
 ok:X.Ok
 os:s.os=X.s₀.os
 bare:AllBare s.gens
 base:Un X.fs X.ex X.H₀ H X.s₀.heap s.heap
 loc:∃ m,s.heap.Ns X.env.locals m/\∀ (i:Nat) (x:Str) (v:V),X.N[i]?=some x->σ[i]?=some (some v)->Vis X.env.scope x->∃ u,RelV v u/\Look X.env s.heap m x u
 cell:∀ x c,X.env.cells.lookup x=some c->∃ v,s.heap.IsCell c v
 free:H X.env.locals=none
 freeC:∀ x c,X.env.cells.lookup x=some c->H c=none
 pin:∀ p ∈ X.pn++pins,s.heap.get? p.1=some p.2/\H p.1=none/\p.1≠X.env.locals/\p.1 ∉ X.fs/\∀ v,p.2.data≠.cell v
 hok:HOk X.prog X.w H s.heap
 len:σ.length=X.N.length
section
variable {X:Cx} {pins:List (Addr × Obj)} {σ:List (Option V)} {H H':Hp} {s:Shared} {h':Heap}
theorem Cx.Ok.nofr (ok:X.Ok) {b:Addr} {o:Obj} (e:X.base.get? b=some o):b ∉ X.fs:=fun hb=>by
 have:=(ok.funs.mem hb).1;rw [e] at this; cases this
theorem Inv.bs (I:Inv X pins σ H s):∀ b o,X.base.get? b=some o->s.heap.get? b=some o/\H b=none:=fun b o e =>
 ⟨I.base.keep b o (I.ok.bs b o e).1 (I.ok.bs b o e).2 (I.ok.nofr e) (I.ok.noex b o e),I.base.free b o (I.ok.bs b o e).1 (I.ok.bs b o e).2 (I.ok.noex b o e)⟩
theorem Inv.bk (I:Inv X pins σ H s):∀ b o,X.base.get? b=some o->s.heap.get? b=some o:=fun b o e=>(I.bs b o e).1
theorem Inv.mod (I:Inv X pins σ H s):Mod X.K X.mg X.base:=I.ok.mod
theorem Inv.kIn (I:Inv X pins σ H s):X.K.In s.heap:=I.ok.mod.kin.keeps I.bk
theorem Inv.lt (I:Inv X pins σ H s):X.env.locals < s.heap.objs.size:=let ⟨_,hn,_⟩:=I.loc; hn.lt
theorem Inv.sz (I:Inv X pins σ H s):X.s₀.heap.objs.size<=s.heap.objs.size:=Zx I.ok.above (Nat.le_of_lt I.lt)
theorem Inv.nofs (I:Inv X pins σ H s) {a:Addr} (h:s.heap.objs.size<=a):a ∉ X.fs:=fun hb=>by
 obtain ⟨_,o,ho,_⟩:=I.ok.funs.mem hb;exact absurd (Nat.lt_of_lt_of_le (Heap.lt_size ho) (Zx I.sz h)) (Nat.lt_irrefl _)
theorem Inv.cne (I:Inv X pins σ H s):∀ x c,X.env.cells.lookup x=some c->c≠X.env.locals:=fun x c e z=>by
 obtain ⟨v,o,ho,hd⟩:=I.cell x c e;obtain ⟨m,⟨o',es,ep,ho',hd',_⟩,_⟩:=I.loc;rw [z,ho'] at ho; cases ho; rw [hd'] at hd; cases hd
theorem Inv.funs (I:Inv X pins σ H s):s.heap.FunFrames X.base X.outer:=by
 have all:∀ (l:List Env),(∀ b ∈ frs l,b ∈ X.fs)->X.s₀.heap.FunFrames X.base l->s.heap.FunFrames X.base l:=by
  intro l;induction l with
  | nil=>intro _ _; trivial
  | cons env r ih =>
   intro hs hl;obtain ⟨hk,⟨L,o,hf,hn,ho,hd⟩,hr⟩:=hl;have hL:L ∈ X.fs:=hs L (by unfold frs; rw [List.filterMap_cons,hf]; exact Zy);obtain ⟨sl,e⟩:=I.base.slot L o ho (I.ok.frf L hL) hL fun z=>I.ok.exfs L z hL;exact ⟨hk,⟨L,_,hf,hn,e,hd⟩,ih (fun b hb=>hs b (by unfold frs; rw [List.filterMap_cons,hf]; exact Zr _ hb)) hr⟩
 exact all X.outer (fun _ hb=>hb) I.ok.funs
theorem Inv.stack (I:Inv X pins σ H s):s.heap.FunFrames X.base X.stack:=by
 rcases I.ok.stk with e | ⟨e,hf⟩
 ·rw [e]; exact I.funs
 ·rw [e];obtain ⟨m,hn,_⟩:=I.loc;refine .cons (by rw [I.ok.kind]; decide) hf hn ?_ I.funs;exact Heap.get?_none_of_le (Zx I.ok.bsz I.ok.above)
theorem Inv.stkSub (I:Inv X pins σ H s):∀ b ∈ frs X.stack,b ∈ X.env.locals :: X.fs:=fun b hb=>by
 rcases I.ok.stk with e | ⟨e,hf⟩
 ·rw [e] at hb; exact Zr _ hb
 ·rw [e] at hb;unfold frs at hb;rw [List.filterMap_cons,hf] at hb;exact hb
theorem Inv.stkFree (I:Inv X pins σ H s):∀ b ∈ frs X.stack,H b=none:=fun b hb=>by
 rcases List.mem_cons.mp (I.stkSub b hb) with e | hb
 ·rw [e]; exact I.free
 ·obtain ⟨_,o,ho,_⟩:=I.ok.funs.mem hb;exact I.base.free b o ho (I.ok.frf b hb) fun z=>I.ok.exfs b z hb
theorem Inv.step {g':Array GenState} {t':Nat} {d':Drawn} {ch:List Addr} (I:Inv X pins σ H s)
  (hch:∀ b ∈ ch,(b ∈ X.ex\/X.s₀.heap.objs.size<=b)/\b≠X.env.locals/\(∀ x c,X.env.cells.lookup x=some c->c≠b)/\∀ p ∈ X.pn++pins,p.1≠b)
  (keep:∀ b o,b≠X.env.locals->b ∉ X.fs->b ∉ ch->s.heap.get? b=some o->H b=none->h'.get? b=some o)
  (slot:∀ b o,b≠X.env.locals->b ∈ X.fs->b ∉ ch->s.heap.get? b=some o->H b=none->∃ sl,h'.get? b=some { o with slots:=sl }) (free:∀ b o,b ∉ ch->s.heap.get? b=some o->H b=none->H' b=none)
  (there:∀ b o,b ∉ ch->s.heap.get? b=some o->∃ o',h'.get? b=some o')
  (tups:∀ b xs,H b=some (.tup xs)->H' b=some (.tup xs)) (frzs:∀ b o u,H b=some (.frz o u)->H' b=some (.frz o u)) (tbls:∀ b ps,H b=some (.tbl ps)->∃ more,H' b=some (.tbl (ps++more)))
  (ns:∀ m,s.heap.Ns X.env.locals m->h'.Ns X.env.locals m) (hok:HOk X.prog X.w H' h') (hg:AllBare g') :
  Inv X pins σ H' { s with heap:=h',gens:=g',drawn:=d',toks:=t' }:=by
 have neL:∀ b o,X.s₀.heap.get? b=some o->b≠X.env.locals:=fun b o e=>Nat.ne_of_lt (Nat.lt_of_lt_of_le (Heap.lt_size e) I.ok.above);have neC:∀ b o,X.s₀.heap.get? b=some o->b ∉ X.ex->b ∉ ch:=fun b o e hx hb=>by
  rcases (hch b hb).1 with z | z
  ·exact hx z
  ·exact absurd (Nat.lt_of_lt_of_le (Heap.lt_size e) z) (Nat.lt_irrefl _)
 have cellK:∀ x c,X.env.cells.lookup x=some c->∀ v,s.heap.IsCell c v->h'.IsCell c v:=fun x c e v ⟨o,ho,hd⟩=>by
  have nch:c ∉ ch:=fun z=>(hch c z).2.2.1 x c e rfl;by_cases hc:c ∈ X.fs
  ·obtain ⟨sl,q⟩:=slot c o (I.cne x c e) hc nch ho (I.freeC x c e);exact ⟨_,q,hd⟩
  ·exact ⟨o,keep c o (I.cne x c e) hc nch ho (I.freeC x c e),hd⟩
 refine ⟨I.ok,I.os,hg,⟨fun b o e n hb hx=>?_,fun b o e n hb hx=>?_,fun b o e n hx=>?_,fun b o e hx=>?_,fun b xs e=>tups b xs (I.base.tups b xs e),fun b o xs e=>frzs b o xs (I.base.frzs b o xs e),fun b ps e=>?_⟩,?_,fun x c e=>?_,?_,fun x c e=>?_,fun p hp=>?_,hok,I.len⟩
 ·exact keep b o (neL b o e) hb (neC b o e hx) (I.base.keep b o e n hb hx) (I.base.free b o e n hx)
 ·obtain ⟨sl,e1⟩:=I.base.slot b o e n hb hx;obtain ⟨sl',e2⟩:=slot b _ (neL b o e) hb (neC b o e hx) e1 (I.base.free b o e n hx);exact ⟨sl',e2⟩
 ·obtain ⟨o',e1⟩:=I.base.there b o e hx;exact free b o' (neC b o e hx) e1 (I.base.free b o e n hx)
 ·obtain ⟨o',e1⟩:=I.base.there b o e hx;exact there b o' (neC b o e hx) e1
 ·obtain ⟨m1,e1⟩:=I.base.tbls b ps e;obtain ⟨m2,e2⟩:=tbls b _ e1;exact ⟨m1++m2,by rw [e2,Array.append_assoc]⟩
 ·obtain ⟨m,hn,hl⟩:=I.loc;refine ⟨m,ns m hn,fun i x v e1 e2 e3=>?_⟩;obtain ⟨u,r,l⟩:=hl i x v e1 e2 e3;refine ⟨u,r,?_⟩;rcases l with l | ⟨k,c,e,z⟩
  ·exact .inl l
  ·exact .inr ⟨k,c,e,cellK x c e _ z⟩
 ·obtain ⟨v,z⟩:=I.cell x c e;exact ⟨v,cellK x c e v z⟩
 ·obtain ⟨m,⟨o,_,_,ho,_⟩,_⟩:=I.loc;exact free _ o (fun z=>(hch _ z).2.1 rfl) ho I.free
 ·obtain ⟨v,o,ho,hd⟩:=I.cell x c e;exact free c o (fun z=>(hch c z).2.2.1 x c e rfl) ho (I.freeC x c e)
 ·obtain ⟨e,n,ne,nf,d⟩:=I.pin p hp;have nch:p.1 ∉ ch:=fun z=>(hch p.1 z).2.2.2 p hp rfl;exact ⟨keep p.1 p.2 ne nf nch e n,free p.1 p.2 nch e n,ne,nf,d⟩
theorem Inv.un {t':Nat} (I:Inv X pins σ H s) (u:Un X.fs [] H H' s.heap h') (hok:HOk X.prog X.w H' h'):Inv X pins σ H' { s with heap:=h',toks:=t' }:=by
 obtain ⟨m,⟨o,es,ep,ho,r⟩,_⟩:=id I.loc;obtain ⟨sl,hL⟩:=u.any ho I.free (by simp);exact I.step (g':=s.gens) (d':=s.drawn) (ch:=[]) (fun _ z=>nomatch z) (fun b o _ hb _ e n=>u.keep b o e n hb (by simp)) (fun b o _ hb _ e n=>u.slot b o e n hb (by simp)) (fun b o _ e n=>u.free b o e n (by simp)) (fun b o _ e=>u.there b o e (by simp)) u.tups u.frzs u.tbls (fun m' hm=>by
  obtain ⟨o',es',ep',ho',r'⟩:=hm;rw [ho] at ho'; cases ho';exact ⟨_,es',ep',hL,r'⟩) hok I.bare
theorem Inv.call {g':Array GenState} {t':Nat} {d':Drawn} {ch:List Addr} (I:Inv X pins σ H s) (u:Un (frs X.stack) ch H H' s.heap h') (hok:HOk X.prog X.w H' h') (hg:AllBare g')
  (hch:∀ b ∈ ch,(b ∈ X.ex\/X.s₀.heap.objs.size<=b)/\b≠X.env.locals/\(∀ x c,X.env.cells.lookup x=some c->c≠b)/\∀ p ∈ X.pn++pins,p.1≠b) :
  Inv X pins σ H' { s with heap:=h',gens:=g',drawn:=d',toks:=t' }:=by
 obtain ⟨m,⟨o,es,ep,ho,r⟩,_⟩:=id I.loc;obtain ⟨sl,hL⟩:=u.any ho I.free fun z=>(hch _ z).2.1 rfl;exact I.step (ch:=ch) hch (fun b o hL hb hc e n=>u.keep b o e n (fun z=>(List.mem_cons.mp (I.stkSub b z)).elim hL hb) hc) (fun b o _ _ hc e n=>u.any e n hc) (fun b o hc e n=>u.free b o e n hc) (fun b o hc e=>u.there b o e hc) u.tups u.frzs u.tbls (fun m' hm=>by
  obtain ⟨o',es',ep',ho',r'⟩:=hm;rw [ho] at ho'; cases ho';exact ⟨_,es',ep',hL,r'⟩) hok hg
theorem Inv.turned {t':Nat} {it:Addr} (I:Inv X pins σ H s) (k:∀ b o,b≠it->s.heap.get? b=some o->h'.get? b=some o) (hn:H it=none) (hL:it≠X.env.locals)
  (h1:it ∈ X.ex\/X.s₀.heap.objs.size<=it) (h2:∀ x c,X.env.cells.lookup x=some c->c≠it) (h3:∀ p ∈ X.pn++pins,p.1≠it):Inv X pins σ H { s with heap:=h',toks:=t' }:=by
 have nit:∀ b u,H b=some u->b≠it:=fun b u e z=>by rw [z,hn] at e; cases e
 refine I.step (g':=s.gens) (d':=s.drawn) (ch:=[it]) (fun b hb=>?_) (fun b o _ _ hc e _=>k b o (fun z=>hc (by simp [z])) e) (fun b o _ _ hc e _=>⟨o.slots,k b o (fun z=>hc (by simp [z])) e⟩) (fun _ _ _ _ n=>n)
  (fun b o hc e=>⟨o,k b o (fun z=>hc (by simp [z])) e⟩) (fun _ _ e=>e) (fun _ _ _ e=>e) (fun b ps e=>⟨#[],by rw [e]; simp⟩) (fun m hm=>?_) (fun b u e=>?_) I.bare
 ·have e:b=it:=by simpa using hb
  subst e;exact ⟨h1,hL,h2,h3⟩
 ·obtain ⟨o,es,ep,ho,r⟩:=hm;exact ⟨o,es,ep,k _ o (Ne.symm hL) ho,r⟩
 ·refine (I.hok b u e).stay (fun c v hc q=>k c v ?_ q) (fun _ q=>q) fun _ _ q=>q;rcases hc with z | z
  ·rw [z]; exact nit b u e
  ·exact nit c _ z
theorem Inv.tok (I:Inv X pins σ H s) (t:Nat):Inv X pins σ H { s with toks:=t }:=I.un (h':=s.heap) (t':=t) Un.refl I.hok
theorem Inv.kept {t':Nat} (I:Inv X pins σ H s) (k:∀ b u,s.heap.get? b=some u->h'.get? b=some u):Inv X pins σ H { s with heap:=h',toks:=t' }:=I.un (Un.kept k) (I.hok.kept k)
theorem Inv.laid {a:Addr} {o:HO} {t':Nat} (I:Inv X pins σ H s) (k:∀ b u,s.heap.get? b=some u->h'.get? b=some u) (hp:s.heap.objs.size<=a) (new:ObjOk X.prog X.w (upd H a o) h' a o) :
  Inv X pins σ (upd H a o) { s with heap:=h',toks:=t' }:=I.un (Un.laid k hp (I.hok.fresh hp)) (I.hok.laid k hp new)
theorem Inv.write {x e:Addr} {o:HO} {t':Nat} (I:Inv X pins σ H s) (mu:Mut (H x)) (he:e=x\/H e=some (.own x)) (k:∀ b u,b≠e->s.heap.get? b=some u->h'.get? b=some u) (heo:∃ u,h'.get? e=some u)
  (new:ObjOk X.prog X.w (upd H x o) h' x o):Inv X pins σ (upd H x o) { s with heap:=h',toks:=t' }:=I.un (Un.write mu he k heo) (I.hok.write mu he k heo new)
theorem Inv.pins_of {pins':List (Addr × Obj)} (I:Inv X pins σ H s) (h:∀ p ∈ pins',s.heap.get? p.1=some p.2/\H p.1=none/\p.1≠X.env.locals/\p.1 ∉ X.fs/\∀ v,p.2.data≠.cell v):Inv X pins' σ H s :=
 ⟨I.ok,I.os,I.bare,I.base,I.loc,I.cell,I.free,I.freeC,fun p hp=>(Za hp).elim (fun z=>I.pin p (Zt _ z)) (h p),I.hok,I.len⟩
theorem A54 {N:List Str} (hN:N.Nodup) {i j:Nat} {x:Str} (a:N[i]?=some x) (b:N[j]?=some x):i=j:=by
 obtain ⟨h1,e1⟩:=Zs a;obtain ⟨h2,e2⟩:=Zs b;exact (List.getElem_inj hN).mp (e1.trans e2.symm)
theorem V9 {M:Model} {A:Around} {E:Value->Shared->Prop} {i:Nat} {x:Str} {v:V} {u:Value} {Q:Unit->Shared->Prop} (I:Inv X pins σ H s) (hN:X.N.Nodup) (hi:X.N[i]?=some x) (hx:Loc X.env.scope x) (r:RelV v u)
  (h:∀ s',Inv X pins (σ.set i (some v)) H s'->(∃ a,Heap.SameBut a s.heap s'.heap/\(a=X.env.locals\/X.env.cells.lookup x=some a))->Q () s') (hf:X.fn x=true\/X.env.scope.names.lookup x=some .local:=by first | exact .inl rfl | exact .inr rfl | assumption):wpAny M A (storeName X.env x u) Q E s:=by
 obtain ⟨m,hn,hl⟩:=id I.loc;have hcls:(X.env.scope.kind == .class || (X.env.scope.kind == .module && X.env.locals != X.env.globals))=false:=by rw [I.ok.kind]; rfl
 have hiσ:i < σ.length:=by rw [I.len]; exact (Zs hi).1
 have cne:=I.cne;have tracked:∀ {a:Addr} {h':Heap},(∃ o,s.heap.get? a=some o/\H a=none)->Heap.SameBut a s.heap h'->HOk X.prog X.w H h':=fun {a h'} ha hs b ob e=>by
  obtain ⟨_,_,hfree⟩:=ha;refine (I.hok b ob e).stay (fun c w' hc q=>(hs.2 c ?_).trans q) (fun _ q=>q) fun _ _ q=>q;rintro rfl;rcases hc with rfl | hc
  ·rw [hfree] at e; cases e
  ·rw [hfree] at hc; cases hc
 rcases hx with hk | hk
 ·refine wpAny_storeName_local hk hn (fun h' hn' hs=>?_) hcls;obtain ⟨oL,_,_,hoL,_⟩:=id hn;refine h _ ⟨I.ok,I.os,I.bare,⟨fun b o e n hb hx=>?_,fun b o e n hb hx=>?_,I.base.free,fun b o e hx=>?_,I.base.tups,I.base.frzs,I.base.tbls⟩,⟨_,hn',fun j y v' e1 e2 e3=>?_⟩,fun y c e=>?_,I.free,I.freeC,fun p hp=>?_,tracked ⟨oL,hoL,I.free⟩ hs,by simpa using I.len⟩ ⟨_,hs,.inl rfl⟩
  ·exact (hs.2 b (Nat.ne_of_lt (Nat.lt_of_lt_of_le (Heap.lt_size e) I.ok.above))).trans (I.base.keep b o e n hb hx)
  ·obtain ⟨sl,e1⟩:=I.base.slot b o e n hb hx;exact ⟨sl,(hs.2 b (Nat.ne_of_lt (Nat.lt_of_lt_of_le (Heap.lt_size e) I.ok.above))).trans e1⟩
  ·obtain ⟨o',e1⟩:=I.base.there b o e hx;exact ⟨o',(hs.2 b (Nat.ne_of_lt (Nat.lt_of_lt_of_le (Heap.lt_size e) I.ok.above))).trans e1⟩
  ·by_cases hj:j=i
   ·subst hj;rw [hi] at e1; cases e1;rw [List.getElem?_set_self hiσ] at e2;cases e2;exact ⟨u,r,.inl ⟨hk,by simp⟩⟩
   ·rw [List.getElem?_set_ne (Ne.symm hj)] at e2;obtain ⟨u',r',q⟩:=hl j y v' e1 e2 e3;refine ⟨u',r',?_⟩;rcases q with ⟨k,e⟩ | ⟨k,c,e,z⟩
    ·refine .inl ⟨k,?_⟩;have:y≠x:=fun e=>hj (A54 hN e1 (e ▸ hi));simp [this,e]
    ·exact .inr ⟨k,c,e,z.sameBut hs (cne y c e)⟩
  ·obtain ⟨w',z⟩:=I.cell y c e;exact ⟨w',z.sameBut hs (cne y c e)⟩
  ·obtain ⟨e,n,ne,nf,d⟩:=I.pin p hp;exact ⟨(hs.2 p.1 ne).trans e,n,ne,nf,d⟩
 ·have hfn:X.fn x=true:=by
   rcases hf with z | z
   ·exact z
   ·rw [z] at hk; cases hk
  obtain ⟨c,hc⟩:=I.ok.has x (.inl hk);obtain ⟨w',z⟩:=I.cell x c hc;refine wpAny_storeName_cell I.ok.kind hk hc z (fun h' hc' hs=>?_);obtain ⟨oc,hoc,hocd⟩:=id z;refine h { s with heap:=h' } ⟨I.ok,I.os,I.bare,⟨fun b o e n hb hx=>?_,fun b o e n hb hx=>?_,I.base.free,fun b o e hx=>?_,I.base.tups,I.base.frzs,I.base.tbls⟩,⟨m,hn.sameBut hs (Ne.symm (cne x c hc)),fun j y v' e1 e2 e3=>?_⟩,fun y c' e=>?_,I.free,I.freeC,fun p hp=>?_,tracked ⟨oc,hoc,I.freeC x c hc⟩ hs,by simpa using I.len⟩ ⟨c,hs,.inr hc⟩
  ·exact (hs.2 b (Nat.ne_of_lt (Nat.lt_of_lt_of_le (Heap.lt_size e) (I.ok.cab x c hfn hc)))).trans (I.base.keep b o e n hb hx)
  ·obtain ⟨sl,e1⟩:=I.base.slot b o e n hb hx;exact ⟨sl,(hs.2 b (Nat.ne_of_lt (Nat.lt_of_lt_of_le (Heap.lt_size e) (I.ok.cab x c hfn hc)))).trans e1⟩
  ·obtain ⟨o',e1⟩:=I.base.there b o e hx;exact ⟨o',(hs.2 b (Nat.ne_of_lt (Nat.lt_of_lt_of_le (Heap.lt_size e) (I.ok.cab x c hfn hc)))).trans e1⟩
  ·by_cases hj:j=i
   ·subst hj;rw [hi] at e1; cases e1;rw [List.getElem?_set_self hiσ] at e2;cases e2;exact ⟨u,r,.inr ⟨.inl hk,c,hc,hc'⟩⟩
   ·rw [List.getElem?_set_ne (Ne.symm hj)] at e2;obtain ⟨u',r',q⟩:=hl j y v' e1 e2 e3;refine ⟨u',r',?_⟩;rcases q with q | ⟨k,c',e,z'⟩
    ·exact .inl q
    ·refine .inr ⟨k,c',e,z'.sameBut hs ?_⟩;rintro rfl;exact hj (A54 hN e1 (I.ok.inj _ _ _ e hc ▸ hi))
  ·by_cases hcc:c'=c
   ·subst hcc; exact ⟨_,hc'⟩
   ·obtain ⟨w2,z2⟩:=I.cell y c' e;exact ⟨w2,z2.sameBut hs hcc⟩
  ·obtain ⟨e,n,ne,nf,d⟩:=I.pin p hp;refine ⟨(hs.2 p.1 ?_).trans e,n,ne,nf,d⟩;intro q;rw [q,hoc] at e;have q':oc=p.2:=Zj e;exact d w' (by rw [<- q']; exact hocd)
theorem N0 {M:Model} {A:Around} {E:Value->Shared->Prop} {i:Nat} {x:Str} {v:V} {u:Value} {Q:Unit->Shared->Prop} (I:Inv X pins σ H s) (hN:X.N.Nodup) (hi:X.N[i]?=some x) (hx:Loc X.env.scope x) (r:RelV v u)
  (h:∀ s',Inv X pins (σ.set i (some v)) H s'->Q () s') (hf:X.fn x=true\/X.env.scope.names.lookup x=some .local:=by first | exact .inl rfl | exact .inr rfl | assumption):wpAny M A (storeName X.env x u) Q E s :=
 V9 I hN hi hx r (fun s' I' _=>h s' I') hf
theorem Inv.call' {s':Shared} {ch:List Addr} (I:Inv X pins σ H s) (ho:s'.os=s.os) (u:Un (frs X.stack) ch H H' s.heap s'.heap) (hok:HOk X.prog X.w H' s'.heap) (hg:AllBare s'.gens)
  (hch:∀ b ∈ ch,(b ∈ X.ex\/X.s₀.heap.objs.size<=b)/\b≠X.env.locals/\(∀ x c,X.env.cells.lookup x=some c->c≠b)/\∀ p ∈ X.pn++pins,p.1≠b):Inv X pins σ H' s':=by
 obtain ⟨h',g',d',t',o'⟩:=s';have e:o'=s.os:=ho;subst e;exact I.call (g':=g') (t':=t') (d':=d') u hok hg hch
end
abbrev XK:=Value->Option Addr->Hp->Prop
abbrev St:=List (Option V)
abbrev VK:=V->Hp->Prop
abbrev TE:=St->Hp->VK->Prop
abbrev TT:=St->Hp->(Bool->Hp->Prop)->Prop
abbrev TA:=St->Hp->(List V->Hp->Prop)->Prop
structure Ends where
 nx:St->Hp->Prop
 rt:VK
 bk:St->Hp->Prop:=fun _ _=>False
 ct:St->Hp->Prop:=fun _ _=>False
abbrev TS:=Ends->St->Hp->Prop
def EP (X:Cx) (pins:List (Addr × Obj)) (σ:St) (Q:VK) (u:Value) (s':Shared):Prop:=∃ v H',Inv X pins σ H' s'/\RelV v u/\Q v H'
def TP (X:Cx) (pins:List (Addr × Obj)) (σ:St) (Q:Bool->Hp->Prop) (b:Bool) (s':Shared):Prop:=∃ H',Inv X pins σ H' s'/\Q b H'
def AP (X:Cx) (pins:List (Addr × Obj)) (σ:St) (Q:List V->Hp->Prop) (us:List Value) (s':Shared):Prop:=∃ vs H',Inv X pins σ H' s'/\Vals vs us/\Q vs H'
def SP (X:Cx) (pins:List (Addr × Obj)) (D:Ends) (f:Flow) (s':Shared):Prop :=
 match f with
 | .next=>∃ σ' H',Inv X pins σ' H' s'/\D.nx σ' H'
 | .brk=>∃ σ' H',Inv X pins σ' H' s'/\D.bk σ' H'
 | .cont=>∃ σ' H',Inv X pins σ' H' s'/\D.ct σ' H'
 | .ret u=>∃ v σ' H',Inv X pins σ' H' s'/\RelV v u/\D.rt v H'
def PE (X:Cx) (e:Expr) (t:TE):Prop :=
 ∀ (pins:List (Addr × Obj)) (s:Shared) (σ:St) (H:Hp) (Q:VK),Inv X pins σ H s->t σ H Q->wpAny (model X.prog X.w) X.A (eval e X.env) (EP X pins σ Q) X.xe s
def PT (X:Cx) (e:Expr) (t:TT):Prop :=
 ∀ (pins:List (Addr × Obj)) (s:Shared) (σ:St) (H:Hp) (Q:Bool->Hp->Prop),Inv X pins σ H s->t σ H Q->wpAny (model X.prog X.w) X.A (isTrue e X.env (eval e X.env)) (TP X pins σ Q) X.xe s
def PW (X:Cx) (e:Expr) (t:TT):Prop :=
 ∀ (whole:Sem Value) (pins:List (Addr × Obj)) (s:Shared) (σ:St) (H:Hp) (Q:Bool->Hp->Prop),Inv X pins σ H s->t σ H Q->wpAny (model X.prog X.w) X.A (isTrue e X.env whole) (TP X pins σ Q) X.xe s
theorem PW.pt {X:Cx} {e:Expr} {t:TT} (h:PW X e t):PT X e t:=h _
def PA (X:Cx) (es:List Expr) (t:TA):Prop :=
 ∀ (pos:Pos) (pins:List (Addr × Obj)) (s:Shared) (σ:St) (H:Hp) (Q:List V->Hp->Prop),Inv X pins σ H s->t σ H Q->wpAny (model X.prog X.w) X.A (spliced (backTo pos (starEach es X.env))) (AP X pins σ Q) X.xe s
def PS (X:Cx) (st:Stmt) (t:TS):Prop :=
 ∀ (pins:List (Addr × Obj)) (s:Shared) (σ:St) (H:Hp) (D:Ends),Inv X pins σ H s->t D σ H->wpAny (model X.prog X.w) X.A (exec st X.env) (SP X pins D) X.xe s
def PSs (X:Cx) (st:List Stmt) (t:TS):Prop :=
 ∀ (pins:List (Addr × Obj)) (s:Shared) (σ:St) (H:Hp) (D:Ends),Inv X pins σ H s->t D σ H->wpAny (model X.prog X.w) X.A (execs st X.env) (SP X pins D) X.xe s
theorem thn {α:Type} {t:Sem α} {Q Q':α->Shared->Prop} {M:Model} {A:Around} {E:Value->Shared->Prop} {s:Shared} (h:wpAny M A t Q E s) (hQ:∀ a s,Q a s->Q' a s):wpAny M A t Q' E s:=wpAny_mono h hQ fun _ _ x=>x
end L2
namespace L2
open PySem PySem.Spec PyProof.Rows
section
variable {X:Cx}
theorem bin {a b:Expr} {ta tb:TE} (ha:PE X a ta) (hb:PE X b tb) {pins:List (Addr × Obj)} {s:Shared} {σ:St} {H:Hp} {R:V->V->Hp->Prop} (I:Inv X pins σ H s) (h:ta σ H fun x H1=>tb σ H1 fun y H2=>R x y H2)
  {α:Type} {Q:α->Shared->Prop} {f:Value->Value->Sem α}
  (hf:∀ v u s2 x y H2,Inv X pins σ H2 s2->RelV x v->RelV y u->R x y H2->wpAny (model X.prog X.w) X.A (f v u) Q X.xe s2) :
  wpAny (model X.prog X.w) X.A (eval a X.env) (fun v s₁=>wpAny (model X.prog X.w) X.A (eval b X.env) (fun u s₂=>wpAny (model X.prog X.w) X.A (f v u) Q X.xe s₂) X.xe s₁) X.xe s:=by
 refine thn (ha pins s σ H _ I h) fun v s1 ⟨x,H1,I1,r1,q1⟩=>?_;refine thn (hb pins s1 σ H1 _ I1 q1) fun u s2 ⟨y,H2,I2,r2,q2⟩=>?_;exact hf v u s2 x y H2 I2 r1 r2 q2
def tVar (i:Nat):TE:=fun σ H Q=>∃ v,σ[i]?=some (some v)/\Q v H
def tC (v:V):TE:=fun _ H Q=>Q v H
theorem C35 {i:Nat} {x:Str} {pos:Pos} (hN:X.N[i]?=some x) (hv:Vis X.env.scope x) (hd:(x == ("__debug__":Str))=false:=by decide) (hcd:(x == ("__classdict__":Str))=false:=by decide):PE X (.Name x pos) (tVar i):=by
 intro pins s σ H Q I h;obtain ⟨v,e,h⟩:=h;obtain ⟨m,hn,hl⟩:=I.loc;obtain ⟨u,r,l⟩:=hl i x v hN e hv;have fin:EP X pins σ Q u s:=⟨v,H,I,r,h⟩;rcases l with ⟨hk,hm⟩ | ⟨hk,c,hc,hcell⟩
 ·exact wpAny_Name (wpAny_loadName_local I.ok.kind hk hn hm fin) hd
 ·rcases hk with hk | hk
  ·exact wpAny_Name (wpAny_loadName_cell I.ok.kind hk hc hcell fin) hd
  ·exact wpAny_Name (wpAny_loadName_free I.ok.kind hk hc hcell fin hcd) hd
theorem E9 {i j pos}:PE X (.Constant (.int i) j pos) (tC (.int i)):=fun _ _ _ H _ I h=>wpAny_Constant_int ⟨.int i,H,I.tok _,⟨_,rfl⟩,h⟩
theorem C7l {b j pos}:PE X (.Constant (.bool b) j pos) (tC (.bl b)):=fun _ _ _ H _ I h=>Constant_bool ⟨.bl b,H,I,rfl,h⟩
theorem C4a {j pos}:PE X (.Constant .none j pos) (tC .non):=fun _ _ _ H _ I h=>Constant_none ⟨.non,H,I,rfl,h⟩
theorem C37 {x j pos}:PE X (.Constant (.str x) j pos) (tC (.str x)):=fun _ _ _ H _ I h=>Calls.Constant_str ⟨.str x,H,I.tok _,⟨_,rfl⟩,h⟩
def Gl (X:Cx) (x:Str):Prop:=X.env.kindOf x=some .globalImplicit
theorem B2r {E:Value->Shared->Prop} {pins:List (Addr × Obj)} {s:Shared} {σ:St} {H:Hp} {x:Str} {u:Value} {pos:Pos} {Q:Value->Shared->Prop} (I:Inv X pins σ H s) (hg:Gl X x) (hm:X.mg x=some u) (h:Q u s)
  (hd:(x == ("__debug__":Str))=false:=by decide):wpAny (model X.prog X.w) X.A (eval (.Name x pos) X.env) Q E s :=
 Calls.Name_function_global I.ok.kind hg (Calls.loadGlobal_global (by rw [I.ok.glob]; exact I.mod.glob.keeps I.bk) hm h) hd
theorem P5 {E:Value->Shared->Prop} {pins:List (Addr × Obj)} {s:Shared} {σ:St} {H:Hp} {x:Str} {u:Value} {pos:Pos} {Q:Value->Shared->Prop} (I:Inv X pins σ H s) (hg:Gl X x) (hm:X.mg x=none) (hv:bootBuiltins x=some u) (h:Q u s)
  (hn:x≠"__name__":=by decide) (hd:(x == ("__debug__":Str))=false:=by decide):wpAny (model X.prog X.w) X.A (eval (.Name x pos) X.env) Q E s:=by
 obtain ⟨mb,h1,h2⟩:=I.mod.blt;exact Calls.Name_function_global I.ok.kind hg (Calls.loadGlobal_builtin (by rw [I.ok.glob]; exact I.mod.glob.keeps I.bk) hm (by rw [I.ok.blt]; exact h1.keeps I.bk) ((h2 x hn).trans hv) h) hd
theorem C08 {x:Str} {v:V} {u:Value} {pos:Pos} (hg:Gl X x) (hm:X.mg x=some u) (r:RelV v u) (hd:(x == ("__debug__":Str))=false:=by decide):PE X (.Name x pos) (tC v) :=
 fun _ _ _ H _ I h=>B2r I hg hm ⟨v,H,I,r,h⟩ hd
theorem C1b {x:Str} {v:V} {u:Value} {pos:Pos} (hg:Gl X x) (hm:X.mg x=none) (hv:bootBuiltins x=some u) (r:RelV v u) (hn:x≠"__name__":=by decide) (hd:(x == ("__debug__":Str))=false:=by decide):PE X (.Name x pos) (tC v) :=
 fun _ _ _ H _ I h=>P5 I hg hm hv ⟨v,H,I,r,h⟩ hn hd
variable {a b:Expr} {ta tb:TE} {pos:Pos}
def PC (X:Cx) (op:CmpOp) (a b:Expr) (t:TE):Prop :=
 ∀ (pins:List (Addr × Obj)) (s:Shared) (σ:St) (H:Hp) (Q:VK),Inv X pins σ H s->t σ H Q ->
  wpAny (model X.prog X.w) X.A (eval a X.env) (fun v s₁=>wpAny (model X.prog X.w) X.A (eval b X.env) (fun u s₂=>wpAny (model X.prog X.w) X.A (compareOp op v u) (EP X pins σ Q) X.xe s₂) X.xe s₁) X.xe s
theorem B57 (b:Expr) {op:CmpOp} (h:op≠.In) (h2:op≠.NotIn):behindInMarks op b=false:=by
 have e1:(op == CmpOp.In)=false:=by cases op <;> first | rfl | exact absurd rfl h
 have e2:(op == CmpOp.NotIn)=false:=by cases op <;> first | rfl | exact absurd rfl h2
 cases b <;> simp [behindInMarks,e1,e2]
def tB (t:TE):TT:=fun σ H Q=>t σ H fun x H1=>∃ c,x=.bl c/\Q c H1
theorem C74 {op:CmpOp} {t:TE} (h:PC X op a b t) (h1:behindInMarks op b=false:=by first | exact B57 _ (by decide) (by decide) | rfl):PT X (.Compare a [op] [b] pos) (tB t):=by
 intro pins s σ H Q I hw;refine wpAny_isTrue_Compare1 (thn (h pins s σ H _ I hw) fun v s1 h1=>thn h1 fun u s2 h2=>thn h2 fun c s3 ⟨x,H1,I1,r1,q1⟩=>?_) h1;obtain ⟨d,rfl,q⟩:=q1;cases r1;exact wpAny_truthy_bool ⟨H1,I1,q⟩
theorem B7p {e:Expr} {t:TE} (h:PE X e t) (he:∀ whole,isTrue e X.env whole=(do let v <- whole; standAt e.pos; holding [v] (truthy v)):=by intro _; rfl):PT X e (tB t):=by
 intro pins s σ H Q I hw;refine isTrue_plain (thn (h pins s σ H _ I hw) fun v s1 ⟨x,H1,I1,r1,q1⟩=>?_) (he _);obtain ⟨d,rfl,q⟩:=q1;cases r1;exact wpAny_truthy_bool ⟨H1,I1,q⟩
variable {tA tB':TT} {rest:List Expr}
def tAnd (t u:TT):TT:=fun σ H Q=>t σ H fun c H1=>if c=true then u σ H1 Q else Q false H1
def tOr (t u:TT):TT:=fun σ H Q=>t σ H fun c H1=>if c=true then Q true H1 else u σ H1 Q
def tNot (t:TT):TT:=fun σ H Q=>t σ H fun c H1=>Q (!c) H1
theorem C0p (ha:PT X a tA):PW X (.BoolOp .And [a] pos) tA:=by
 intro wh pins s σ H Q I h;refine isTrue_and (thn (ha pins s σ H Q I h) fun c s1 e=>?_);cases c with
 | true=>exact isTrue_and_nil e
 | false=>exact e
theorem C3x (ha:PT X a tA):PW X (.BoolOp .Or [a] pos) tA:=by
 intro wh pins s σ H Q I h;refine isTrue_or (thn (ha pins s σ H Q I h) fun c s1 e=>?_);cases c with
 | false=>exact isTrue_or_nil e
 | true=>exact e
theorem C3y (ha:PT X a tA) (hb:PW X (.BoolOp .And (b :: rest) pos) tB'):PW X (.BoolOp .And (a :: b :: rest) pos) (tAnd tA tB'):=by
 intro wh pins s σ H Q I h;refine isTrue_and (thn (ha pins s σ H _ I h) fun c s1 ⟨H1,I1,q1⟩=>?_);cases c with
 | true=>exact hb wh pins s1 σ H1 Q I1 q1
 | false=>exact ⟨H1,I1,q1⟩
theorem C7g (ha:PT X a tA) (hb:PW X (.BoolOp .Or (b :: rest) pos) tB'):PW X (.BoolOp .Or (a :: b :: rest) pos) (tOr tA tB'):=by
 intro wh pins s σ H Q I h;refine isTrue_or (thn (ha pins s σ H _ I h) fun c s1 ⟨H1,I1,q1⟩=>?_);cases c with
 | true=>exact ⟨H1,I1,q1⟩
 | false=>exact hb wh pins s1 σ H1 Q I1 q1
theorem C3z (ha:PT X a tA):PT X (.UnaryOp .Not a pos) (tNot tA):=by
 intro pins s σ H Q I h;exact isTrue_not (ha pins s σ H (fun c H1=>Q (!c) H1) I h)
def C0a (ta tb:TE):TE:=fun σ H Q=>ta σ H fun x H1=>∃ c,x=.bl c/\if c=true then tb σ H1 Q else Q (.bl false) H1
def tOrV (ta tb:TE):TE:=fun σ H Q=>ta σ H fun x H1=>∃ c,x=.bl c/\if c=true then Q (.bl true) H1 else tb σ H1 Q
def B98 (ta:TE):TE:=fun σ H Q=>ta σ H fun x H1=>∃ c,x=.bl c/\Q (.bl (!c)) H1
theorem C38 {op} {t:TE} (h:PE X a t):PE X (.BoolOp op [a] pos) t:=fun pins s σ H Q I hw=>BoolOp_one (h pins s σ H Q I hw)
theorem C4c (ha:PE X a ta) (hb:PE X (.BoolOp .And (b :: rest) pos) tb):PE X (.BoolOp .And (a :: b :: rest) pos) (C0a ta tb):=by
 intro pins s σ H Q I h;refine BoolOp_and (thn (ha pins s σ H _ I h) fun v s1 ⟨x,H1,I1,r1,q1⟩=>?_);obtain ⟨c,rfl,q1⟩:=q1;cases r1;refine wpAny_truthy_bool ?_;cases c with
 | true=>exact hb pins s1 σ H1 Q I1 q1
 | false=>exact ⟨.bl false,H1,I1,rfl,q1⟩
theorem C7j (ha:PE X a ta) (hb:PE X (.BoolOp .Or (b :: rest) pos) tb):PE X (.BoolOp .Or (a :: b :: rest) pos) (tOrV ta tb):=by
 intro pins s σ H Q I h;refine BoolOp_or (thn (ha pins s σ H _ I h) fun v s1 ⟨x,H1,I1,r1,q1⟩=>?_);obtain ⟨c,rfl,q1⟩:=q1;cases r1;refine wpAny_truthy_bool ?_;cases c with
 | false=>exact hb pins s1 σ H1 Q I1 q1
 | true=>exact ⟨.bl true,H1,I1,rfl,q1⟩
theorem C39 (ha:PE X a ta):PE X (.UnaryOp .Not a pos) (B98 ta):=by
 intro pins s σ H Q I h;refine UnaryOp_ (thn (ha pins s σ H _ I h) fun v s1 ⟨x,H1,I1,r1,q1⟩=>?_);obtain ⟨c,rfl,q1⟩:=q1;cases r1;exact not_of (wpAny_truthy_bool ⟨.bl (!c),H1,I1,rfl,q1⟩)
def tIf (t:TT) (ta tb:TE):TE:=fun σ H Q=>t σ H fun c H1=>if c=true then ta σ H1 Q else tb σ H1 Q
theorem B5r {c:Expr} (hc:PT X c tA) (ha:PE X a ta) (hb:PE X b tb):PE X (.IfExp c a b pos) (tIf tA ta tb):=by
 intro pins s σ H Q I h;refine wpAny_IfExp (thn (hc pins s σ H _ I h) fun d s1 ⟨H1,I1,q1⟩=>?_);cases d with
 | true=>exact ha pins s1 σ H1 Q I1 q1
 | false=>exact hb pins s1 σ H1 Q I1 q1
end
end L2
namespace L2
open PySem PySem.Spec PyProof.Rows
def SqL (K:PySem.W.Frag) (H:Hp) (a:Addr) (xs:List V):Prop :=
 Rd H a (.lst xs) \/
  ∃ (o:Obj) (its:Array Value) (n:Nat),K.lookup a=some o/\o.cls=.type "list"/\o.dict=none/\o.data=.seq its n/\its.size<=sizeLine/\Vals xs its.toList
def SqT (K:PySem.W.Frag) (H:Hp) (a:Addr) (xs:List V):Prop :=
 Rd H a (.tup xs) \/
  ∃ (o:Obj) (its:Array Value) (n:Nat),K.lookup a=some o/\o.cls=.type "tuple"/\o.data=.seq its n/\its.size<=sizeLine/\Vals xs its.toList
def absV:Value->Option V
 | .none=>some .non
 | .bool b=>some (.bl b)
 | .int i _=>some (.int i)
 | .str x _=>some (.str x)
 | .bytes b _=>some (.byt b)
 | .float b _=>some (.flt b)
 | .ref a=>some (.ref a)
 | .type n=>some (.ty n)
 | _=>none
theorem RelV.abs {x:V} {u:Value} (r:RelV x u):absV u=some x:=by
 cases x with
 | non=>cases r; rfl
 | bl _=>cases r; rfl
 | int _=>obtain ⟨t,rfl⟩:=r; rfl
 | str _=>obtain ⟨t,rfl⟩:=r; rfl
 | byt _=>obtain ⟨t,rfl⟩:=r; rfl
 | flt _=>obtain ⟨t,rfl⟩:=r; rfl
 | ref _=>cases r; rfl
 | ty _=>cases r; rfl
theorem RelV.inj {x y:V} {u:Value} (r:RelV x u) (q:RelV y u):x=y:=Zj (r.abs.symm.trans q.abs)
theorem Vals.inj:∀ {xs ys:List V} {us:List Value},Vals xs us->Vals ys us->xs=ys
 | _,_,_,.nil,.nil=>rfl
 | _,_,_,.cons r t,.cons r' t'=>by rw [r.inj r',Vals.inj t t']
section
variable {X:Cx} {pins:List (Addr × Obj)} {σ:St} {H:Hp} {s:Shared} {a:Addr} {xs ys:List V}
theorem SqL.of {K:PySem.W.Frag} (h:H a=some (.lst xs)):SqL K H a xs:=.inl (.inl h)
theorem SqT.of {K:PySem.W.Frag} (h:H a=some (.tup xs)):SqT K H a xs:=.inl (.inl h)
theorem Inv.list (I:Inv X pins σ H s) (h:SqL X.K H a xs):∃ its:List Value,Vals xs its/\PlainL s.heap a its.toArray/\xs.length<=sizeLine:=by
 rcases h with h | ⟨o,its,n,hk,hc,hd,hs,hz,r⟩
 ·obtain ⟨z,its,n,r,e⟩:=h.ok I.hok;exact ⟨its,r,⟨_,n,e,rfl,rfl,rfl⟩,z⟩
 ·refine ⟨its.toList,r,⟨o,n,I.kIn a o hk,hc,hd,by simpa using hs⟩,?_⟩;have e:=r.length;simp only [Array.length_toList] at e;omega
theorem Inv.tuple (I:Inv X pins σ H s) (h:SqT X.K H a xs):∃ its:List Value,Vals xs its/\IsTup s.heap a its.toArray/\xs.length<=sizeLine:=by
 rcases h with h | ⟨o,its,n,hk,hc,hs,hz,r⟩
 ·obtain ⟨z,its,r,p⟩:=h.ok I.hok;exact ⟨its,r,p,z⟩
 ·refine ⟨its.toList,r,⟨o,I.kIn a o hk,hc,n,by simpa using hs⟩,?_⟩;have e:=r.length;simp only [Array.length_toList] at e;omega
theorem Inv.list_inj (I:Inv X pins σ H s) (h:SqL X.K H a xs) (h':SqL X.K H a ys):xs=ys:=by
 obtain ⟨its,r,⟨o,n,e,_,_,d⟩,_⟩:=I.list h;obtain ⟨its',r',⟨o',n',e',_,_,d'⟩,_⟩:=I.list h';rw [e] at e'; cases e';rw [d] at d';injection d' with d1 _
 have:its=its':=by simpa using congrArg Array.toList d1
 subst this;exact r.inj r'
theorem Inv.tuple_inj (I:Inv X pins σ H s) (h:SqT X.K H a xs) (h':SqT X.K H a ys):xs=ys:=by
 obtain ⟨its,r,⟨o,e,_,n,d⟩,_⟩:=I.tuple h;obtain ⟨its',r',⟨o',e',_,n',d'⟩,_⟩:=I.tuple h';rw [e] at e'; cases e';rw [d] at d';injection d' with d1 _
 have:its=its':=by simpa using congrArg Array.toList d1
 subst this;exact r.inj r'
end
abbrev Cx.wish (X:Cx) (E:Value->Shared->Prop):Cx:={ X with xe:=E }
abbrev Cx.nox (X:Cx):Cx:=X.wish fun _ _=>False
theorem Cx.Ok.wish {X:Cx} (ok:X.Ok) (E:Value->Shared->Prop):(X.wish E).Ok :=
 ⟨ok.mod,ok.kind,ok.glob,ok.blt,ok.above,ok.inj,ok.has,ok.cab,ok.hd,ok.frames,ok.stk,ok.exf,ok.bs,ok.bsz,ok.noex,ok.exfs,ok.funs,ok.frf⟩
theorem Cx.Ok.unwish {X:Cx} {E:Value->Shared->Prop} (ok:(X.wish E).Ok):X.Ok :=
 ⟨ok.mod,ok.kind,ok.glob,ok.blt,ok.above,ok.inj,ok.has,ok.cab,ok.hd,ok.frames,ok.stk,ok.exf,ok.bs,ok.bsz,ok.noex,ok.exfs,ok.funs,ok.frf⟩
section
variable {X:Cx} {pins:List (Addr × Obj)} {σ:St} {H:Hp} {s:Shared} {E:Value->Shared->Prop}
theorem Inv.wish (I:Inv X pins σ H s) (E:Value->Shared->Prop):Inv (X.wish E) pins σ H s:=⟨I.ok.wish E,I.os,I.bare,I.base,I.loc,I.cell,I.free,I.freeC,I.pin,I.hok,I.len⟩
theorem Inv.unwish (I:Inv (X.wish E) pins σ H s):Inv X pins σ H s:=⟨I.ok.unwish,I.os,I.bare,I.base,I.loc,I.cell,I.free,I.freeC,I.pin,I.hok,I.len⟩
theorem SP.unwish {D:Ends} {f:Flow} {s':Shared} (h:SP (X.wish E) pins D f s'):SP X pins D f s':=by
 cases f with
 | next=>obtain ⟨σ',H',I,q⟩:=h; exact ⟨σ',H',I.unwish,q⟩
 | brk=>obtain ⟨σ',H',I,q⟩:=h; exact ⟨σ',H',I.unwish,q⟩
 | cont=>obtain ⟨σ',H',I,q⟩:=h; exact ⟨σ',H',I.unwish,q⟩
 | ret u=>obtain ⟨v,σ',H',I,r,q⟩:=h; exact ⟨v,σ',H',I.unwish,r,q⟩
theorem PSs.nox {st:List Stmt} {t:TS} (h:PSs X.nox st t):PSs X st t:=fun pins s σ H D I hw =>
 wpAny_mono (h pins s σ H D (I.wish _) hw) (fun _ _ q=>q.unwish) fun _ _ z=>False.elim z
end
section
variable {X:Cx} {st:Stmt} {rest:List Stmt} {t u:TS} {e:Expr} {te:TE} {pos:Pos}
def B99:TS:=fun D σ H=>D.nx σ H
def tSeq (t u:TS):TS:=fun D σ H=>t { D with nx:=u D } σ H
theorem A3z:PSs X [] B99:=fun _ _ σ H _ I h=>wpAny_execs_nil ⟨σ,H,I,h⟩
theorem J8 (h1:PS X st t) (h2:PSs X rest u):PSs X (st :: rest) (tSeq t u):=by
 intro pins s σ H D I h;refine wpAny_execs_cons (thn (h1 pins s σ H { D with nx:=u D } I h) fun f s1 q=>?_);cases f with
 | next =>
  obtain ⟨σ',H',I',q⟩:=q;exact h2 pins s1 σ' H' D I' q
 | ret v=>exact q
 | brk=>exact q
 | cont=>exact q
theorem S4 (h1:PS X st t):PSs X [st] t:=by
 intro pins s σ H D I h;refine wpAny_execs_cons (thn (h1 pins s σ H D I h) fun f s1 q=>?_);cases f with
 | next=>exact wpAny_execs_nil q
 | ret v=>exact q
 | brk=>exact q
 | cont=>exact q
theorem Inv.quiet {pins:List (Addr × Obj)} {σ:St} {H:Hp} {s:Shared} (I:Inv X pins σ H s):interactive X.env=false:=by simp [interactive,I.ok.kind]
def Z4 (te:TE):TS:=fun D σ H=>te σ H fun _ H1=>D.nx σ H1
theorem C0w (he:PE X e te) (hs:swapsWith e none pos.line X.env=pure false:=by rfl):PS X (.Expr e pos) (Z4 te):=by
 intro pins s σ H D I h;exact wpAny_Expr_any (thn (he pins s σ H _ I h) fun v s1 ⟨x,H1,I1,r1,q1⟩=>⟨σ,H1,I1,q1⟩) I.quiet hs
def tRet (te:TE):TS:=fun D σ H=>te σ H D.rt
theorem A5a (he:PE X e te):PS X (.Return (some e) pos) (tRet te):=by
 intro pins s σ H D I h;exact wpAny_Return_some (thn (he pins s σ H _ I h) fun v s1 ⟨x,H1,I1,r1,q1⟩=>⟨x,σ,H1,I1,r1,q1⟩)
def tIfS (c:TT) (t u:TS):TS:=fun D σ H=>c σ H fun b H1=>if b=true then t D σ H1 else u D σ H1
theorem C0v {c:Expr} {a b:List Stmt} {tc:TT} (hc:PT X c tc) (ha:PSs X a t) (hb:PSs X b u):PS X (.If c a b pos) (tIfS tc t u):=by
 intro pins s σ H D I h;refine wpAny_If (thn (hc pins s σ H _ I h) fun d s1 ⟨H1,I1,q1⟩=>?_);cases d with
 | true=>exact ha pins s1 σ H1 D I1 q1
 | false=>exact hb pins s1 σ H1 D I1 q1
def A8z:TS:=fun _ _ _=>False
theorem B5k:PS X st A8z:=fun _ _ _ _ _ _ h=>h.elim
end
abbrev TG:=V->St->Hp->(St->Hp->Prop)->Prop
abbrev TGs:=List V->St->Hp->(St->Hp->Prop)->Prop
def PG (X:Cx) (target:Expr) (t:TG):Prop :=
 ∀ (pins:List (Addr × Obj)) (s:Shared) (σ:St) (H:Hp) (v:V) (u:Value) (Q:St->Hp->Prop),Inv X pins σ H s->RelV v u->t v σ H Q ->
  wpAny (model X.prog X.w) X.A (assign target X.env u) (fun _ s'=>∃ σ' H',Inv X pins σ' H' s'/\Q σ' H') X.xe s
def PGs (X:Cx) (ts:List Expr) (t:TGs):Prop :=
 ∀ (pins:List (Addr × Obj)) (s:Shared) (σ:St) (H:Hp) (vs:List V) (us:List Value) (Q:St->Hp->Prop),Inv X pins σ H s->Vals vs us->t vs σ H Q ->
  wpAny (model X.prog X.w) X.A (assignInOrder ((assignEach ts X.env).map (·.2)) us) (fun _ s'=>∃ σ' H',Inv X pins σ' H' s'/\Q σ' H') X.xe s
abbrev TSet:=V->V->V->Hp->(Hp->Prop)->Prop
def PSet (X:Cx) (t:TSet):Prop :=
 ∀ (pins:List (Addr × Obj)) (s:Shared) (σ:St) (H:Hp) (o i v:V) (ov iv u:Value) (Q:Hp->Prop),Inv X pins σ H s->RelV o ov->RelV i iv->RelV v u->t o i v H Q ->
  wpAny (model X.prog X.w) X.A (setItem ov iv u) (fun _ s'=>∃ H',Inv X pins σ H' s'/\Q H') X.xe s
section
variable {X:Cx} {pos:Pos}
def P2 (i:Nat):TG:=fun v σ H Q=>Q (σ.set i (some v)) H
theorem A9z {i:Nat} {x:Str} (hN:X.N.Nodup) (hi:X.N[i]?=some x) (hx:Loc X.env.scope x) (hf:X.fn x=true\/X.env.scope.names.lookup x=some .local:=by first | exact .inl rfl | exact .inr rfl | assumption):PG X (.Name x pos) (P2 i):=by
 intro pins s σ H v u Q I r h;exact wpAny_assign_Name (N0 I hN hi hx r (fun s' I'=>⟨_,H,I',h⟩) hf)
def gNil:TGs:=fun vs σ H Q=>vs=[]/\Q σ H
def A0f (t:TG) (u:TGs):TGs:=fun vs σ H Q=>∃ v r,vs=v :: r/\t v σ H fun σ' H'=>u r σ' H' Q
theorem C06:PGs X [] gNil:=by
 intro pins s σ H vs us Q I r h;obtain ⟨e,h⟩:=h;subst e;cases r;exact assignInOrder_nil ⟨σ,H,I,h⟩
theorem B5p {e:Expr} {es:List Expr} {t:TG} {u:TGs} (h1:PG X e t) (h2:PGs X es u)
  (hs:(assignEach (e :: es) X.env).map (·.2)=assign e X.env :: (assignEach es X.env).map (·.2):=by rfl):PGs X (e :: es) (A0f t u):=by
 intro pins s σ H vs us Q I r h;obtain ⟨v,vr,e1,h⟩:=h;subst e1;cases r with
 | cons r rr =>
  rw [hs];refine assignInOrder_cons (thn (h1 pins s σ H _ _ _ I r h) fun _ s1 ⟨σ1,H1,I1,q1⟩=>?_);exact h2 pins s1 σ1 H1 _ _ Q I1 rr q1
def gTup (K:PySem.W.Frag) (n:Nat) (t:TGs):TG:=fun v σ H Q=>∃ a xs,v=.ref a/\SqT K H a xs/\xs.length=n/\t xs σ H Q
theorem C34 {es:List Expr} {k:Nat} {t:TGs} {n:Nat} (hc:X.calm=true) (h:PGs X es t)
  (hn:(assignEach es X.env).length=n:=by rfl) (hst:(assignEach es X.env).findIdx? (·.1)=none:=by rfl):PG X (.Tuple es k pos) (gTup X.K n t):=by
 intro pins s σ H v u Q I r hw;obtain ⟨a,xs,e1,hq,hl,hw⟩:=hw;subst e1;cases r;obtain ⟨its,rv,ht,hz⟩:=I.tuple hq;refine assign_Tuple_tuple (I.ok.hd hc) ht (by simp [hn,<- hl,rv.length]) hst fun h' hx=>?_;have I1:Inv X pins σ H { s with heap:=h' }:=I.kept (t':=s.toks) fun b o e=>hx b o (Nat.ne_of_lt (Heap.lt_size e)) e;exact h pins _ σ H xs _ Q I1 (by simpa using rv) hw
def gSub (to ti:TE) (t:TSet):TG:=fun v σ H Q=>to σ H fun o H1=>ti σ H1 fun i H2=>t o i v H2 fun H3=>Q σ H3
theorem A5e {o i:Expr} {to ti:TE} {t:TSet} (ho:PE X o to) (hi:PE X i ti) (hs:PSet X t)
  (ha:∀ v,assign (.Subscript o i pos) X.env v=(do
   let ov <- holding [v] (eval o X.env)
   let iv <- holding [v,ov] (eval i X.env)
   standAt pos
   holding [v,ov,iv] (setItem ov iv v)
   release [v,ov,iv] []):=by intro _; rfl):PG X (.Subscript o i pos) (gSub to ti t):=by
 intro pins s σ H v u Q I r h;rw [ha];refine wpAny_bind (wpAny_holding (thn (ho pins s σ H _ I h) fun ov s1 ⟨x,H1,I1,r1,q1⟩=>?_));refine wpAny_bind (wpAny_holding (thn (hi pins s1 σ H1 _ I1 q1) fun iv s2 ⟨y,H2,I2,r2,q2⟩=>?_));refine wpAny_bind (wpAny_standAt (wpAny_bind (wpAny_holding (thn (hs pins s2 σ H2 x y v ov iv u _ I2 r1 r2 r q2) fun _ s3 ⟨H3,I3,q3⟩=>?_))));exact wpAny_release ⟨σ,H3,I3,q3⟩
def tAsg (te:TE) (g:TG):TS:=fun D σ H=>te σ H fun x H1=>g x σ H1 D.nx
theorem A5c {tg e:Expr} {te:TE} {g:TG} (he:PE X e te) (hg:PG X tg g) (hs:swapsWithSole [tg] e pos.line X.env=pure false:=by rfl) (hw:swappedStores [tg] e X.env=pure none:=by rfl)
  (h1:(assignEach [tg] X.env).map (·.2)=[assign tg X.env]:=by rfl):PS X (.Assign [tg] e pos) (tAsg te g):=by
 intro pins s σ H D I h;refine wpAny_Assign_stores (thn (he pins s σ H _ I h) fun v s1 ⟨x,H1,I1,r1,q1⟩=>?_) hs hw;rw [h1];exact thn (hg pins s1 σ H1 x v _ I1 r1 q1) fun _ s2 q=>q
theorem A0n {i:Nat} {x:Str} {e:Expr} {te:TE} {pos':Pos} (hN:X.N.Nodup) (hi:X.N[i]?=some x) (hx:Loc X.env.scope x) (he:PE X e te) (hs:swapsWith e (some (.Name x pos')) pos.line X.env=pure false:=by rfl) (hf:X.fn x=true\/X.env.scope.names.lookup x=some .local:=by first | exact .inl rfl | exact .inr rfl | assumption) :
  PS X (.Assign [.Name x pos'] e pos) (tAsg te (P2 i)):=by
 intro pins s σ H D I h;refine wpAny_Assign_Name (thn (he pins s σ H _ I h) fun v s1 ⟨y,H1,I1,r1,q1⟩=>?_) hs;exact N0 I1 hN hi hx r1 (fun s2 I2=>⟨_,H1,I2,q1⟩) hf
def tPar (i j:Nat) (ta:TA):TS:=fun D σ H=>ta σ H fun vs H1=>∃ v w,vs=[v,w]/\D.nx ((σ.set i (some v)).set j (some w)) H1
theorem C30 {i j:Nat} {x y:Str} {a b:Expr} {ta:TA} {px py pt:Pos} {kt k2 pt2} (hc:X.calm=true) (hN:X.N.Nodup) (hi:X.N[i]?=some x) (hj:X.N[j]?=some y) (hij:i≠j)
  (hx:X.env.scope.names.lookup x=some .local) (hy:X.env.scope.names.lookup y=some .local) (ha:PA X [a,b] ta)
  (hw:swappedStores [.Tuple [.Name x px,.Name y py] kt pt] (.Tuple [a,b] k2 pt2) X.env=pure (some [x,y]))
  (hs:swapsWithSole [.Tuple [.Name x px,.Name y py] kt pt] (.Tuple [a,b] k2 pt2) pos.line X.env=pure false:=by rfl) :
  PS X (.Assign [.Tuple [.Name x px,.Name y py] kt pt] (.Tuple [a,b] k2 pt2) pos) (tPar i j ta):=by
 intro pins s σ H D I h;rw [exec_Assign_arm];refine wpAny_bind (wpAny_standAt ?_);rw [hs];refine wpAny_bind (wpAny_pure ?_);rw [if_neg (by decide)];refine wpAny_bind (Tuple_ (thn (ha _ pins s σ H _ I h) fun us s1 ⟨vs,H1,I1,r1,q1⟩=>?_));obtain ⟨v,w,e1,q1⟩:=q1;subst e1;obtain ⟨u1,u2,rfl,rv,rw'⟩:∃ u1 u2,us=[u1,u2]/\RelV v u1/\RelV w u2:=by
  cases r1 with
  | cons p q =>
   cases q with
   | cons p' q' =>
    cases q';exact ⟨_,_,rfl,p,p'⟩
 refine wpAny_newObj_type ?_ (by show 2<=sizeLine; decide);have I2:Inv X pins σ H1 { s1 with heap:=s1.heap.push { cls:=.type "tuple",data:=.seq [u1,u2].toArray } }:=I1.kept (t':=s1.toks) fun b o e=>Heap.get?_push_of_some _ e;rw [hw];refine wpAny_bind (wpAny_pure ?_);show wpAny (model X.prog X.w) X.A (do rule "assign.swapped-stores"; let items <- unpackItems (.ref s1.heap.objs.size) 2 none; assignInOrder [fun v=>bindName X.env y v,fun v=>bindName X.env x v] items.reverse; pure Flow.next) _ _ _;refine wpAny_bind (wpAny_rule (wpAny_bind (unpackItems_tuple (items:=#[u1,u2]) (I.ok.hd hc) (IsTup.new s1.heap _) fun h' hx'=>?_)));have I3:=I2.kept (h':=h') (t':=s1.toks) fun b o e=>hx' b o (Nat.ne_of_lt (Heap.lt_size e)) e;show wpAny _ _ (assignInOrder [fun v=>bindName X.env y v,fun v=>bindName X.env x v] [u2,u1] >>= fun _=>pure Flow.next) _ _ _;refine wpAny_bind (assignInOrder_cons (wpAny_bindName (N0 I3 hN hj (.inl hy) rw' (fun s2 I4=>?_) (.inr hy))));refine assignInOrder_cons (wpAny_bindName (N0 I4 hN hi (.inl hx) rv (fun s3 I5=>assignInOrder_nil (wpAny_pure ?_)) (.inr hx)));rw [List.set_comm _ _ (Ne.symm hij)] at I5;exact ⟨_,H1,I5,q1⟩
end
section
variable {X:Cx} {pos:Pos}
def A8x (c:TT) (tb:TS):TS:=fun D σ H=>∃ W:Nat->St->Hp->Prop,(∃ m,W m σ H)/\∀ m σ H,W m σ H ->
 c σ H fun b H1=>if b=true then ∃ N:St->Hp->Prop,(∀ σ' H',N σ' H'->∃ m',m' < m/\W m' σ' H')/\tb { D with nx:=N,ct:=N,bk:=D.nx } σ H1 else D.nx σ H1
theorem B5j {c:Expr} {body:List Stmt} {tc:TT} {tb:TS} (hp:PassesOwn (model X.prog X.w) X.A X.env X.xe) (hc:PT X c tc) (hb:PSs X body tb):PS X (.While c body [] pos) (A8x tc tb):=by
 intro pins s σ H D I h;obtain ⟨W,⟨m0,w0⟩,turn⟩:=h;refine wpAny_While (codeAny_whileLoop (fun n s'=>∃ σ' H',Inv X pins σ' H' s'/\W n σ' H') ?_ m0 ⟨σ,H,I,w0⟩);rintro n s1 ⟨σ1,H1,I1,w1⟩;refine wpAny_passesOwn hp (thn (hc pins s1 σ1 H1 _ I1 (turn n σ1 H1 w1)) fun b s2 ⟨H2,I2,q2⟩=>?_);cases b with
 | true =>
  obtain ⟨N,hN,q2⟩:=q2;rw [if_pos rfl];refine wpAny_passesOwn hp (thn (hb pins s2 σ1 H2 _ I2 q2) fun f s3 q3=>?_);cases f with
  | next =>
   obtain ⟨σ3,H3,I3,n3⟩:=q3;obtain ⟨m',hm,w3⟩:=hN σ3 H3 n3;exact ⟨m',hm,σ3,H3,I3,w3⟩
  | cont =>
   obtain ⟨σ3,H3,I3,n3⟩:=q3;obtain ⟨m',hm,w3⟩:=hN σ3 H3 n3;exact ⟨m',hm,σ3,H3,I3,w3⟩
  | brk=>exact q3
  | ret v=>exact q3
 | false =>
  rw [if_neg Bool.false_ne_true];exact wpAny_execs_nil ⟨σ1,H2,I2,q2⟩
end
structure It where
 go:Nat->Hp->Prop
 yld:Nat->Hp->V->Hp->Prop
 stop:Nat->Hp->Prop
def FpOk (X:Cx) (pins:List (Addr × Obj)) (H:Hp) (b:Addr):Prop :=
 H b=none/\b≠X.env.locals/\b ∉ X.fs/\(b ∈ X.ex\/X.s₀.heap.objs.size<=b)/\(∀ x c,X.env.cells.lookup x=some c->c≠b)/\∀ p ∈ X.pn++pins,p.1≠b
theorem Inv.fpOk {X:Cx} {pins:List (Addr × Obj)} {σ:St} {H H':Hp} {s:Shared} {b:Addr} (I:Inv X pins σ H s) (hb:s.heap.objs.size<=b) (hn:H' b=none):FpOk X pins H' b:=by
 refine ⟨hn,Nat.ne_of_gt (Nat.lt_of_lt_of_le I.lt hb),I.nofs hb,.inr (Zx I.sz hb),fun x c e z=>?_,fun p hp z=>?_⟩
 ·obtain ⟨v,q⟩:=I.cell x c e;exact absurd (Nat.lt_of_lt_of_le q.lt (by rw [z]; exact hb)) (Nat.lt_irrefl _)
 ·exact absurd (Nat.lt_of_lt_of_le (Heap.lt_size (I.pin p hp).1) (by rw [z]; exact hb)) (Nat.lt_irrefl _)
structure Turn (P:Program) (w:World) (K:PySem.W.Frag) (tg:Expr) (J:It) (fp:List Addr) (it:Addr) (tn:Nat->Heap->Prop):Prop where
  mem:it ∈ fp
  obj:∀ i h,tn i h->∀ b ∈ fp,∃ o,h.get? b=some o/\∀ v,o.data≠.cell v
  keep:∀ i h h',tn i h->(∀ b ∈ fp,∀ o,h.get? b=some o->h'.get? b=some o)->tn i h'
  item:∀ (X:Cx),X.prog=P->X.w=w->X.K=K->X.calm=true->∀ (i:Nat) (pins:List (Addr × Obj)) (s:Shared) (σ:St) (H:Hp) (E:Value->Shared->Prop),Inv X pins σ H s->(∀ b ∈ fp,FpOk X pins H b)->tn i s.heap->J.go i H ->
    wpAny (model P w) X.A (pyNext (.ref it)) (fun r s1=>∃ u,r=some u /\
      wpAny (model P w) X.A (letOwnedTupleGo tg (.ref it) u) (fun _ s2=>∃ x H',Inv X pins σ H' s2/\RelV x u/\J.yld i H x H'/\tn (i + 1) s2.heap/\∀ b ∈ fp,H' b=none) E s1) E s
  done:∀ (X:Cx),X.prog=P->X.w=w->X.K=K->X.calm=true->∀ (i:Nat) (pins:List (Addr × Obj)) (s:Shared) (σ:St) (H:Hp) (E:Value->Shared->Prop),Inv X pins σ H s->(∀ b ∈ fp,FpOk X pins H b)->tn i s.heap->J.stop i H ->
    wpAny (model P w) X.A (pyNext (.ref it)) (fun r s1=>r=none/\Inv X pins σ H s1) E s
  self:∀ (A:Around) (i:Nat) (s:Shared) (Q:Value->Shared->Prop) (E:Value->Shared->Prop),tn i s.heap->Q (.ref it) s->wpAny (model P w) A (pyIter (.ref it)) Q E s
abbrev TI:=St->Hp->(It->Hp->Prop)->Prop
def PIE (X:Cx) (pins:List (Addr × Obj)) (σ:St) (tg:Expr) (R:It->Hp->Prop) (itv:Value) (s2:Shared):Prop :=
 ∃ (it:Addr) (fp:List Addr) (tn:Nat->Heap->Prop) (J:It) (H':Hp),itv=.ref it/\Inv X pins σ H' s2/\Turn X.prog X.w X.K tg J fp it tn/\tn 0 s2.heap/\(∀ b ∈ fp,FpOk X pins H' b)/\R J H'
def PI (X:Cx) (tg iter:Expr) (wi:TI):Prop :=
 ∀ (pins:List (Addr × Obj)) (s:Shared) (σ:St) (H:Hp) (R:It->Hp->Prop),Inv X pins σ H s->wi σ H R ->
  wpAny (model X.prog X.w) X.A (eval iter X.env) (fun v s1=>wpAny (model X.prog X.w) X.A (pyIter v) (PIE X pins σ tg R) X.xe s1) X.xe s
theorem A71 {M:Model} {A:Around} {E:Value->Shared->Prop} {s:Shared} {tg:Expr} {it:Addr} {u:Value} {o:Obj} {n:String} {vs:Array Value} {Q:Unit->Shared->Prop} (ho:s.heap.get? it=some o) (hc:o.cls=.type n) (hd:o.data=.fields vs)
    (hn:["enumerate","zip","dict_itemiterator","dict_reverseitemiterator","odict_iterator","itertools.zip_longest","itertools.pairwise"].contains n=false) (hQ:Q () s):wpAny M A (letOwnedTupleGo tg (.ref it) u) Q E s:=by
  unfold letOwnedTupleGo;cases tg <;> first
    | exact wpAny_pure hQ
    | (cases u <;> first
        | exact wpAny_pure hQ
        | (refine wpAny_bind (wpAny_load ho ?_)
           rw [hc,hd];show wpAny M A (if (["enumerate","zip","dict_itemiterator","dict_reverseitemiterator","odict_iterator","itertools.zip_longest","itertools.pairwise"].contains n && vs[0]? == some (rawInt _))=true then _ else _) Q E s;rw [if_neg (by intro h; rw [hn,Bool.false_and] at h; cases h)];exact wpAny_pure hQ))
def Itl (K:PySem.W.Frag) (a:Addr):It :=
 ⟨fun i H=>∃ xs x,SqL K H a xs/\xs[i]?=some x,fun i H x H'=>H'=H/\∀ xs,SqL K H a xs->xs[i]?=some x,fun i H=>∃ xs,SqL K H a xs/\xs.length<=i⟩
def Itt (K:PySem.W.Frag) (a:Addr):It :=
 ⟨fun i H=>∃ xs x,SqT K H a xs/\xs[i]?=some x,fun i H x H'=>H'=H/\∀ xs,SqT K H a xs->xs[i]?=some x,fun i H=>∃ xs,SqT K H a xs/\xs.length<=i⟩
def Itr (lo:Int) (n:Nat):It:=⟨fun i _=>i < n,fun i H x H'=>H'=H/\x=.int (lo + i),fun i _=>n<=i⟩
theorem A8v {P:Program} {w:World} {K:PySem.W.Frag} {tg:Expr} (a it:Addr):Turn P w K tg (Itl K a) [it] it (fun i h=>h.IsListIter it a i) where
 mem:=by simp
 obj:=fun i h st b hb=>by
  have e:b=it:=by simpa using hb
  subst e;obtain ⟨o,e,c,d⟩:=st;exact ⟨o,e,fun v z=>by rw [d] at z; cases z⟩
 keep:=fun i h h' st k=>st.at fun o e=>k it (by simp) o e
 item:=by
  intro X hP hw hK hc i pins s σ H E I hf st hg;subst hP hw hK;obtain ⟨xs,x,hq,hx⟩:=hg;obtain ⟨its,rv,p,hz⟩:=I.list hq;obtain ⟨u,hu,ru⟩:=rv.get hx;obtain ⟨f0,f1,f2,f3,f4,f5⟩:=hf it (by simp);refine wpAny_pyNext_list_item st p.isList (x:=u) (by simpa using hu) fun h' st' sb=>?_;have I1:Inv X pins σ H { s with heap:=h' }:=I.turned (t':=s.toks) (fun b o hb e=>(sb.2 b hb).trans e) f0 f1 f3 f4 f5;obtain ⟨o,e,c,d⟩:=id st';exact ⟨u,rfl,A71 (s:={ s with heap:=h' }) e c d (by decide) ⟨x,H,I1,ru,⟨rfl,fun ys hy=>by rw [I.list_inj hy hq]; exact hx⟩,st',fun b hb=>(hf b hb).1⟩⟩
 done:=by
  intro X hP hw hK hc i pins s σ H E I hf st hg;subst hP hw hK;obtain ⟨xs,hq,hx⟩:=hg;obtain ⟨its,rv,p,hz⟩:=I.list hq;obtain ⟨f0,f1,f2,f3,f4,f5⟩:=hf it (by simp);have hl:=rv.length;exact wpAny_pyNext_list_end (I.ok.hd hc) st p.isList (by simp; omega) fun h' eb=>⟨rfl,I.turned (t':=s.toks) (fun b o hb e=>eb b o hb e) f0 f1 f3 f4 f5⟩
 self:=fun _ _ _ _ _ st h=>wpAny_pyIter_listiter st h
theorem A69 {P:Program} {w:World} {K:PySem.W.Frag} {tg:Expr} (a it:Addr):Turn P w K tg (Itt K a) [it] it (fun i h=>h.IsTupleIter it a i) where
 mem:=by simp
 obj:=fun i h st b hb=>by
  have e:b=it:=by simpa using hb
  subst e;obtain ⟨o,e,c,d⟩:=st;exact ⟨o,e,fun v z=>by rw [d] at z; cases z⟩
 keep:=fun i h h' st k=>st.at fun o e=>k it (by simp) o e
 item:=by
  intro X hP hw hK hc i pins s σ H E I hf st hg;subst hP hw hK;obtain ⟨xs,x,hq,hx⟩:=hg;obtain ⟨its,rv,p,hz⟩:=I.tuple hq;obtain ⟨u,hu,ru⟩:=rv.get hx;obtain ⟨f0,f1,f2,f3,f4,f5⟩:=hf it (by simp);refine wpAny_pyNext_tuple_item st (show s.heap.IsTuple a its.toArray from p) (x:=u) (by simpa using hu) fun h' st' sb=>?_;have I1:Inv X pins σ H { s with heap:=h' }:=I.turned (t':=s.toks) (fun b o hb e=>(sb.2 b hb).trans e) f0 f1 f3 f4 f5;obtain ⟨o,e,c,d⟩:=id st';exact ⟨u,rfl,A71 (s:={ s with heap:=h' }) e c d (by decide) ⟨x,H,I1,ru,⟨rfl,fun ys hy=>by rw [I.tuple_inj hy hq]; exact hx⟩,st',fun b hb=>(hf b hb).1⟩⟩
 done:=by
  intro X hP hw hK hc i pins s σ H E I hf st hg;subst hP hw hK;obtain ⟨xs,hq,hx⟩:=hg;obtain ⟨its,rv,p,hz⟩:=I.tuple hq;obtain ⟨f0,f1,f2,f3,f4,f5⟩:=hf it (by simp);have hl:=rv.length;exact wpAny_pyNext_tuple_end (I.ok.hd hc) st (show s.heap.IsTuple a its.toArray from p) (by simp; omega) fun h' eb=>⟨rfl,I.turned (t':=s.toks) (fun b o hb e=>eb b o hb e) f0 f1 f3 f4 f5⟩
 self:=fun _ _ _ _ _ st h=>wpAny_pyIter_tupleiter st h
theorem A7a {P:Program} {w:World} {K:PySem.W.Frag} {tg:Expr} (it:Addr) (lo:Int) (n:Nat):Turn P w K tg (Itr lo n) [it] it (fun i h=>IsRangeIter h it (lo + (i:Nat) * 1) ((n:Int) - (i:Nat)) 1) where
 mem:=by simp
 obj:=fun i h st b hb=>by
  have e:b=it:=by simpa using hb
  subst e;exact ⟨_,st,fun v z=>by
   have z':Data.fields _=Data.cell v:=z;cases z'⟩
 keep:=fun i h h' st k=>k it (by simp) _ st
 item:=by
  intro X hP hw hK hc i pins s σ H E I hf st hg;subst hP hw hK;obtain ⟨f0,f1,f2,f3,f4,f5⟩:=hf it (by simp);have W:=Walks.range (prog:=X.prog) (w:=X.w) (I.ok.hd hc) it lo 1 n;refine W.item i s _ _ hg st fun v h' tk hv st' kk=>?_;obtain ⟨t,rfl⟩:=hv;have I1:Inv X pins σ H { s with heap:=h',toks:=tk }:=I.turned (fun b o hb e=>kk b o (by simpa using hb) e) f0 f1 f3 f4 f5;refine ⟨_,rfl,A71 (s:={ s with heap:=h',toks:=tk }) (n:="range_iterator") st' rfl rfl (by decide) ⟨.int (lo + i),H,I1,⟨t,?_⟩,⟨rfl,rfl⟩,st',fun b hb=>(hf b hb).1⟩⟩;rw [Int.mul_one]
 done:=by
  intro X hP hw hK hc i pins s σ H E I hf st hg;subst hP hw hK;obtain ⟨f0,f1,f2,f3,f4,f5⟩:=hf it (by simp);exact wpAny_pyNext_range_end (I.ok.hd hc) st (by have:n<=i:=hg; omega) fun h' eb=>⟨rfl,I.turned (t':=s.toks) (fun b o hb e=>eb b o hb e) f0 f1 f3 f4 f5⟩
 self:=fun _ _ _ _ _ st h=>wpAny_pyIter_rangeiter st h
end L2
namespace L2
open PySem PySem.Spec PyProof.Rows
section
variable {X:Cx} {tg:Expr}
theorem A46 {pins:List (Addr × Obj)} {σ:St} {H:Hp} {s:Shared} {R:It->Hp->Prop} {E:Value->Shared->Prop} {lo hi:Int} {t u v:Tok} {tk:Nat} (I:Inv X pins σ H s) (h1:-(2 ^ 62)<=lo) (h2:lo < 2 ^ 62) (h3:-(2 ^ 62)<=hi) (h4:hi < 2 ^ 62)
  (q:R (Itr lo (hi - lo).toNat) H):wpAny (model X.prog X.w) X.A (pyIter (.ref s.heap.objs.size)) (PIE X pins σ tg R) E { s with heap:=s.heap.push { cls:=.type "range",data:=.fields #[.int lo t,.int hi u,.int 1 v] },toks:=tk }:=by
 refine wpAny_pyIter_range (IsRange.new ..) (small_one h1 h2 h3 h4) ?_;have I1:Inv X pins σ H { s with heap:=s.heap.push { cls:=.type "range",data:=.fields #[.int lo t,.int hi u,.int 1 v] },toks:=tk }:=I.kept fun b o e=>Heap.get?_push_of_some _ e;refine ⟨(s.heap.push { cls:=.type "range",data:=.fields #[.int lo t,.int hi u,.int 1 v] }).objs.size,[(s.heap.push { cls:=.type "range",data:=.fields #[.int lo t,.int hi u,.int 1 v] }).objs.size],_,_,H,rfl,
  I1.kept (t':=tk) fun b o e=>Heap.get?_push_of_some _ e,A7a _ lo (hi - lo).toNat,?_,fun b hb=>?_,q⟩
 ·have e1:lo + ((0:Nat):Int) * 1=lo:=by simp
  have e2:(((hi - lo).toNat:Nat):Int) - ((0:Nat):Int)=Builtin.Range.rangeSize lo hi 1:=by rw [rangeSize_one]; split <;> omega
  show IsRangeIter _ _ (lo + ((0:Nat):Int) * 1) ((((hi - lo).toNat:Nat):Int) - ((0:Nat):Int)) 1;rw [e1,e2];exact Heap.get?_push_size _ rfl
 ·have e:b=(s.heap.push { cls:=.type "range",data:=.fields #[.int lo t,.int hi u,.int 1 v] }).objs.size:=by simpa using hb
  subst e;exact I1.fpOk (Zv _) (I1.hok.fresh (Zv _))
def C2o (ta:TA):TI:=fun σ H R=>ta σ H fun vs H1=>∃ j:Int,vs=[.int j]/\-(2 ^ 62)<=j/\j < 2 ^ 62/\R (Itr 0 j.toNat) H1
def C2n (ta:TA):TI:=fun σ H R=>ta σ H fun vs H1=>∃ i j:Int,vs=[.int i,.int j]/\(-(2 ^ 62)<=i/\i < 2 ^ 62/\-(2 ^ 62)<=j/\j < 2 ^ 62)/\R (Itr i (j - i).toNat) H1
theorem A2g {a:Expr} {ta:TA} {p pos:Pos} (hg:Gl X "range") (hm:X.mg "range"=none) (ha:PA X [a] ta) (hs:starEach [a] X.env=[(false,eval a X.env)]:=by rfl):PI X tg (.Call (.Name "range" p) [a] [] pos) (C2o ta):=by
 intro pins s σ H R I h;refine Call_ (P5 I hg hm boot_range (PyProof.Rows.callWith_type1 (thn (ha pos pins s σ H _ I h) fun us s1 ⟨vs,H1,I1,r1,q1⟩=>?_) hs rfl));obtain ⟨j,e,q1,q2,q⟩:=q1;subst e;cases r1 with
 | cons r rr =>
  cases rr;obtain ⟨t,rfl⟩:=r;exact call_range_1 (A46 I1 (by omega) (by omega) q1 q2 (by simpa using q))
theorem A9y {a b:Expr} {ta:TA} {p pos:Pos} (hg:Gl X "range") (hm:X.mg "range"=none) (ha:PA X [a,b] ta) (hs:starEach [a,b] X.env=[(false,eval a X.env),(false,eval b X.env)]:=by rfl) (hs2:starEach [b] X.env=[(false,eval b X.env)]:=by rfl) :
  PI X tg (.Call (.Name "range" p) [a,b] [] pos) (C2n ta):=by
 intro pins s σ H R I h;refine Call_ (P5 I hg hm boot_range (PyProof.Rows.callWith_type1 (thn (ha pos pins s σ H _ I h) fun us s1 ⟨vs,H1,I1,r1,q1⟩=>?_) (by rw [hs,hs2]) (by rw [hs2]; rfl)));obtain ⟨i,j,e,⟨q1,q2,q3,q4⟩,q⟩:=q1;subst e;cases r1 with
 | cons r rr =>
  cases rr with
  | cons r' rr =>
   cases rr;obtain ⟨t,rfl⟩:=r;obtain ⟨t',rfl⟩:=r';exact call_range_2 (A46 I1 q1 q2 q3 q4 q)
def tFor (wi:TI) (g:TG) (tb:TS):TS:=fun D σ H=>wi σ H fun J H1=>∃ W:Nat->Nat->St->Hp->Prop,(∃ m,W 0 m σ H1)/\∀ i m σ H,W i m σ H ->
 (J.stop i H/\D.nx σ H)\/(J.go i H/\∃ N:St->Hp->Prop,(∀ σ' H',N σ' H'->∃ m',m' < m/\W (i + 1) m' σ' H')/\∀ x H',J.yld i H x H'->g x σ H' fun σ2 H2=>tb { D with nx:=N,ct:=N,bk:=D.nx } σ2 H2)
def W9 (fp:List Addr) (h:Heap):List (Addr × Obj):=fp.filterMap fun b=>(h.get? b).map fun o=>(b,o)
theorem J0 {fp:List Addr} {h:Heap} {b:Addr} {o:Obj} (hb:b ∈ fp) (e:h.get? b=some o):(b,o) ∈ W9 fp h:=List.mem_filterMap.mpr ⟨b,hb,by rw [e]; rfl⟩
theorem B1m {fp:List Addr} {h:Heap} {p:Addr × Obj} (hp:p ∈ W9 fp h):p.1 ∈ fp/\h.get? p.1=some p.2:=by
 obtain ⟨b,hb,e⟩:=List.mem_filterMap.mp hp;cases q:h.get? b with
 | none=>rw [q] at e; cases e
 | some o =>
  rw [q] at e;have e':(b,o)=p:=Zj e;subst e';exact ⟨hb,q⟩
theorem Inv.pinned {pins:List (Addr × Obj)} {σ:St} {H:Hp} {s:Shared} {fp:List Addr} (I:Inv X pins σ H s) (hf:∀ b ∈ fp,FpOk X pins H b) (ho:∀ b ∈ fp,∃ o,s.heap.get? b=some o/\∀ v,o.data≠.cell v):Inv X (pins++W9 fp s.heap) σ H s :=
 I.pins_of fun p hp=>(Za hp).elim (fun z=>I.pin p (Zw _ z)) fun z=>by
  obtain ⟨hb,e⟩:=B1m z;obtain ⟨f0,f1,f2,_⟩:=hf p.1 hb;obtain ⟨o,e',d⟩:=ho p.1 hb;rw [e] at e'; cases e';exact ⟨e,f0,f1,f2,d⟩
theorem Inv.unpinned {pins pl:List (Addr × Obj)} {σ:St} {H:Hp} {s:Shared} (I:Inv X (pins++pl) σ H s):Inv X pins σ H s:=I.pins_of fun p hp=>I.pin p (Zw _ (Zt _ hp))
theorem B7q {iter:Expr} {body:List Stmt} {wi:TI} {g:TG} {tb:TS} {pos:Pos} (hp:PassesOwn (model X.prog X.w) X.A X.env X.xe) (hc:X.calm=true) (hi:PI X tg iter wi) (hg:PG X tg g) (hb:PSs X body tb)
  (hs:∀ x,foldedSetIterable iter X.env x=pure x:=by intro _; rfl):PS X (.For tg iter body [] pos) (tFor wi g tb):=by
 intro pins s σ H D I h;refine wpAny_For (thn (hi pins s σ H _ I h) fun v s1 h1=>thn h1 fun itv s2 h2=>?_) hs;obtain ⟨it,fp,tn,J,H2,e,I2,T,st2,f2,W,⟨m0,w0⟩,turn⟩:=h2;subst e;have stat:∀ {H':Hp},(∀ b ∈ fp,H' b=none)->∀ b ∈ fp,FpOk X pins H' b:=fun hn b hb=>⟨hn b hb,(f2 b hb).2⟩;refine codeAny_forLoop_any (fun n s'=>∃ i σ' H',Inv X pins σ' H' s'/\tn i s'.heap/\(∀ b ∈ fp,H' b=none)/\W i n σ' H') ?_ m0 ⟨0,σ,H2,I2,st2,fun b hb=>(f2 b hb).1,w0⟩;rintro n s3 ⟨i,σ3,H3,I3,st3,fr3,w3⟩;rcases turn i n σ3 H3 w3 with ⟨stop,qn⟩ | ⟨go,N,hN,step⟩
 ·refine wpAny_passesOwn hp (thn (T.done X rfl rfl rfl hc i pins s3 σ3 H3 X.xe I3 (stat fr3) st3 stop) fun r s4 ⟨hr,I4⟩=>?_);subst hr;exact wpAny_execs_nil ⟨σ3,H3,I4,qn⟩
 ·refine wpAny_passesOwn hp (thn (T.item X rfl rfl rfl hc i pins s3 σ3 H3 X.xe I3 (stat fr3) st3 go) fun r s4 ⟨u,hr,h4⟩=>?_);subst hr;refine wpAny_passesOwn hp (thn h4 fun _ s5 ⟨x,H5,I5,r5,y5,st5,fr5⟩=>?_);have I5':=I5.pinned (stat fr5) (T.obj _ _ st5);refine wpAny_passesOwn hp (thn (hg _ s5 σ3 H5 x u _ I5' r5 (step x H5 y5)) fun _ s6 ⟨σ6,H6,I6,q6⟩=>?_);refine wpAny_passesOwn hp (thn (hb _ s6 σ6 H6 _ I6 q6) fun f s7 q7=>?_);have again:∀ {σ7:St} {H7:Hp},Inv X (pins++W9 fp s5.heap) σ7 H7 s7->N σ7 H7->∃ m,m < n/\∃ i σ' H',Inv X pins σ' H' s7/\tn i s7.heap/\(∀ b ∈ fp,H' b=none)/\W i m σ' H':=fun {σ7 H7} I7 n7=>by
   obtain ⟨m',hm,w7⟩:=hN σ7 H7 n7;refine ⟨m',hm,i + 1,σ7,H7,I7.unpinned,T.keep _ _ _ st5 fun b hb o e=>(I7.pin (b,o) (Zw _ (Zw _ (J0 hb e)))).1,fun b hb=>?_,w7⟩;obtain ⟨o,e,d⟩:=T.obj _ _ st5 b hb;exact (I7.pin (b,o) (Zw _ (Zw _ (J0 hb e)))).2.1
  cases f with
  | next=>obtain ⟨σ7,H7,I7,n7⟩:=q7; exact again I7 n7
  | cont=>obtain ⟨σ7,H7,I7,n7⟩:=q7; exact again I7 n7
  | brk=>obtain ⟨σ7,H7,I7,q7⟩:=q7; exact ⟨σ7,H7,I7.unpinned,q7⟩
  | ret v=>obtain ⟨x7,σ7,H7,I7,r7,q7⟩:=q7; exact ⟨x7,σ7,H7,I7.unpinned,r7,q7⟩
end
theorem B32 {lo:Int} {n:Nat} {g:TG} {tb:TS} {D:Ends} {σ:St} {H:Hp} (Pv:Nat->St->Hp->Prop) (h0:Pv 0 σ H)
  (hs:∀ i σ H,i < n->Pv i σ H->g (.int (lo + i)) σ H fun σ2 H2=>tb { D with nx:=Pv (i + 1),ct:=Pv (i + 1),bk:=D.nx } σ2 H2) (hd:∀ σ H,Pv n σ H->D.nx σ H) :
  ∃ W:Nat->Nat->St->Hp->Prop,(∃ m,W 0 m σ H)/\∀ i m σ H,W i m σ H ->
   ((Itr lo n).stop i H/\D.nx σ H)\/((Itr lo n).go i H/\∃ N:St->Hp->Prop,(∀ σ' H',N σ' H'->∃ m',m' < m/\W (i + 1) m' σ' H')/\∀ x H',(Itr lo n).yld i H x H'->g x σ H' fun σ2 H2=>tb { D with nx:=N,ct:=N,bk:=D.nx } σ2 H2):=by
 refine ⟨fun i m σ H=>m=n - i/\i<=n/\Pv i σ H,⟨n,by simp,Nat.zero_le _,h0⟩,?_⟩;rintro i m σ H ⟨rfl,hi,p⟩;by_cases hlt:i < n
 ·refine .inr ⟨hlt,Pv (i + 1),fun σ' H' p'=>⟨n - (i + 1),by omega,rfl,hlt,p'⟩,fun x H' y=>?_⟩;obtain ⟨e,y⟩:=y;subst e y;exact hs i σ _ hlt p
 ·have e:i=n:=by omega
  subst e;exact .inl ⟨Zv _,hd σ H p⟩
end L2
namespace L2
open PySem PySem.Spec PyProof.Rows
abbrev R2:=V->V->Hp->VK->Prop
def OpR (X:Cx) (f:Value->Value->Sem Value) (r:R2):Prop :=
 ∀ (pins:List (Addr × Obj)) (s:Shared) (σ:St) (H:Hp) (x y:V) (v u:Value) (Q:VK),Inv X pins σ H s->RelV x v->RelV y u->r x y H Q ->
  wpAny (model X.prog X.w) X.A (f v u) (EP X pins σ Q) X.xe s
def UnR (X:Cx) (f:Value->Sem Value) (r:V->Hp->VK->Prop):Prop :=
 ∀ (pins:List (Addr × Obj)) (s:Shared) (σ:St) (H:Hp) (x:V) (v:Value) (Q:VK),Inv X pins σ H s->RelV x v->r x H Q ->
  wpAny (model X.prog X.w) X.A (f v) (EP X pins σ Q) X.xe s
def CallR (X:Cx) (f:Value) (r:List V->Hp->VK->Prop):Prop :=
 ∀ (pins:List (Addr × Obj)) (s:Shared) (σ:St) (H:Hp) (xs:List V) (us:List Value) (Q:VK),Inv X pins σ H s->Vals xs us->r xs H Q ->
  wpAny (model X.prog X.w) X.A (call f us) (EP X pins σ Q) X.xe s
def tOp (r:R2) (ta tb:TE):TE:=fun σ H Q=>ta σ H fun x H1=>tb σ H1 fun y H2=>r x y H2 Q
def tUn (r:V->Hp->VK->Prop) (ta:TE):TE:=fun σ H Q=>ta σ H fun x H1=>r x H1 Q
def rI (C:Int->Int->Prop) (g:Int->Int->V):R2:=fun x y H Q=>∃ i j,x=.int i/\y=.int j/\C i j/\Q (g i j) H
def rI0 (g:Int->Int->V):R2:=fun x y H Q=>∃ i j,x=.int i/\y=.int j/\Q (g i j) H
def rU (g:Int->V):V->Hp->VK->Prop:=fun x H Q=>∃ i,x=.int i/\Q (g i) H
section
variable {X:Cx} {a b c:Expr} {ta tb tc:TE} {pos:Pos}
theorem binT (ha:PE X a ta) (hb:PE X b tb) {pins:List (Addr × Obj)} {s:Shared} {σ:St} {H:Hp} {R:V->V->Hp->Prop} (I:Inv X pins σ H s)
  (h:ta σ H fun x H1=>tb σ H1 fun y H2=>R x y H2) {Q:Value->Shared->Prop} {f:Value->Value->Sem Value}
  (hf:∀ v u s2 x y H2,Inv X pins σ H2 s2->RelV x v->RelV y u->R x y H2->wpAny (model X.prog X.w) X.A (f v u) Q X.xe s2) :
  wpAny (model X.prog X.w) X.A (eval a X.env) (fun v s₁=>wpAny (model X.prog X.w) X.A (eval b X.env) (fun u s₂=>wpAny (model X.prog X.w) X.A (f v u) Q X.xe s₂) X.xe s₁) X.xe s:=by
 refine thn (ha pins s σ H _ I h) fun v s1 ⟨x,H1,I1,r1,q1⟩=>?_;refine thn (hb pins s1 σ H1 _ I1 q1) fun u s2 ⟨y,H2,I2,r2,q2⟩=>?_;exact hf v u s2 x y H2 I2 r1 r2 q2
theorem L5 {op:Operator} {r:R2} (ho:OpR X (binaryOp op) r) (ha:PE X a ta) (hb:PE X b tb):PE X (.BinOp a op b pos) (tOp r ta tb):=by
 intro pins s σ H Q I h;exact wpAny_BinOp (binT ha hb I h fun v u s2 x y H2 I2 rx ry q=>ho pins s2 σ H2 x y v u Q I2 rx ry q)
theorem C7i {op:UnaryOp} {r:V->Hp->VK->Prop} (ho:UnR X (unaryOp op) r) (ha:PE X a ta):PE X (.UnaryOp op a pos) (tUn r ta):=by
 intro pins s σ H Q I h;exact UnaryOp_ (thn (ha pins s σ H _ I h) fun v s1 ⟨x,H1,I1,r1,q1⟩=>ho pins s1 σ H1 x v Q I1 r1 q1)
theorem opI {f:Value->Value->Sem Value} {C:Int->Int->Prop} {g:Int->Int->Int}
  (rule:∀ (i j:Int) (t u:Tok) (s:Shared) (Q:Value->Shared->Prop) (E:Value->Shared->Prop),C i j->Q (.int (g i j) s.toks) { s with toks:=s.toks + 1 }->wpAny (model X.prog X.w) X.A (f (.int i t) (.int j u)) Q E s) :
  OpR X f (rI C fun i j=>.int (g i j)):=by
 intro pins s σ H x y v u Q I rx ry h;obtain ⟨i,j,rfl,rfl,hc,q⟩:=h;obtain ⟨t,rfl⟩:=rx;obtain ⟨t',rfl⟩:=ry;exact rule i j t t' s _ _ hc ⟨.int (g i j),H,I.tok _,⟨_,rfl⟩,q⟩
theorem opI0 {f:Value->Value->Sem Value} {g:Int->Int->Int}
  (rule:∀ (i j:Int) (t u:Tok) (s:Shared) (Q:Value->Shared->Prop) (E:Value->Shared->Prop),Q (.int (g i j) s.toks) { s with toks:=s.toks + 1 }->wpAny (model X.prog X.w) X.A (f (.int i t) (.int j u)) Q E s) :
  OpR X f (rI0 fun i j=>.int (g i j)):=by
 intro pins s σ H x y v u Q I rx ry h;obtain ⟨i,j,rfl,rfl,q⟩:=h;obtain ⟨t,rfl⟩:=rx;obtain ⟨t',rfl⟩:=ry;exact rule i j t t' s _ _ ⟨.int (g i j),H,I.tok _,⟨_,rfl⟩,q⟩
theorem opB0 {f:Value->Value->Sem Value} {g:Int->Int->Bool}
  (rule:∀ (i j:Int) (t u:Tok) (s:Shared) (Q:Value->Shared->Prop) (E:Value->Shared->Prop),Q (.bool (g i j)) s->wpAny (model X.prog X.w) X.A (f (.int i t) (.int j u)) Q E s) :
  OpR X f (rI0 fun i j=>.bl (g i j)):=by
 intro pins s σ H x y v u Q I rx ry h;obtain ⟨i,j,rfl,rfl,q⟩:=h;obtain ⟨t,rfl⟩:=rx;obtain ⟨t',rfl⟩:=ry;exact rule i j t t' s _ _ ⟨.bl (g i j),H,I,rfl,q⟩
def CPow (i j:Int):Prop:=0<=j/\j<=1000000/\i.natAbs < 2 ^ 64
theorem F7:OpR X (binaryOp .Add) (rI0 fun i j=>.int (i + j)):=opI0 fun _ _ _ _ _ _ _ q=>add_int q
theorem A0q:OpR X (binaryOp .Sub) (rI0 fun i j=>.int (i - j)):=opI0 fun _ _ _ _ _ _ _ q=>sub_int q
theorem M3:OpR X (binaryOp .Mod) (rI (fun _ j=>0 < j) fun i j=>.int (i % j)):=opI fun i j _ _ _ _ _ hc q=>by
 have h1:(0:Int) < j:=hc;exact mod_int' (by omega) (by rw [Int.fmod_eq_emod_of_nonneg i (by omega)]; exact q)
theorem B07:OpR X (binaryOp .Pow) (rI CPow fun i j=>.int (i ^ j.toNat)):=opI fun _ _ _ _ _ _ _ hc q=>pow_int_small hc.1 hc.2.1 hc.2.2 q
theorem unI {f:Value->Sem Value} {g:Int->Int}
  (rule:∀ (i:Int) (t:Tok) (s:Shared) (Q:Value->Shared->Prop) (E:Value->Shared->Prop),Q (.int (g i) s.toks) { s with toks:=s.toks + 1 }->wpAny (model X.prog X.w) X.A (f (.int i t)) Q E s) :
  UnR X f (rU fun i=>.int (g i)):=by
 intro pins s σ H x v Q I rx h;obtain ⟨i,rfl,q⟩:=h;obtain ⟨t,rfl⟩:=rx;exact rule i t s _ _ ⟨.int (g i),H,I.tok _,⟨_,rfl⟩,q⟩
theorem U0:UnR X (unaryOp .USub) (rU fun i=>.int (-i)):=unI fun _ _ _ _ _ q=>neg_int q
end
section
variable {X:Cx} {a b c:Expr} {ta tb tc:TE} {pos:Pos}
theorem B9t {pins:List (Addr × Obj)} {σ:St} {H:Hp} {s:Shared} {Q:VK} {k k':Bool} (I:Inv X pins σ H s) (q:Q (.bl k) H) (e:k=k'):EP X pins σ Q (.bool k') s:=by
 subst e;exact ⟨.bl k,H,I,rfl,q⟩
theorem A1c:OpR X (compareOp .Lt) (rI0 fun i j=>.bl (decide (i < j))):=opB0 fun _ _ _ _ _ _ _ q=>lt_int q
theorem A37:OpR X (compareOp .LtE) (rI0 fun i j=>.bl (decide (i<=j))):=opB0 fun _ _ _ _ _ _ _ q=>le_int q
theorem A2m:OpR X (compareOp .Gt) (rI0 fun i j=>.bl (decide (j < i))):=opB0 fun _ _ _ _ _ _ _ q=>gt_int q
theorem C5a:OpR X (compareOp .GtE) (rI0 fun i j=>.bl (decide (j<=i))):=opB0 fun _ _ _ _ _ _ _ q=>ge_int q
theorem C47:OpR X (compareOp .Is) (fun x y H Q=>y=.non/\Q (.bl (decide (x=.non))) H):=by
 intro pins s σ H x y v u Q I rx ry h;obtain ⟨rfl,q⟩:=h;cases ry;refine is_none_gen (B9t I q ?_);cases x <;> first
  | (cases rx; rfl)
  | (obtain ⟨t,rfl⟩:=rx; rfl)
theorem B4 (b:Expr) {op:CmpOp} (h:op≠.In:=by decide) (h2:op≠.NotIn:=by decide):behindInMarks op b=false:=by
 have e1:(op == CmpOp.In)=false:=by cases op <;> first | rfl | exact absurd rfl h
 have e2:(op == CmpOp.NotIn)=false:=by cases op <;> first | rfl | exact absurd rfl h2
 cases b <;> simp [behindInMarks,e1,e2]
theorem A08 {op:CmpOp} {r:R2} (ho:OpR X (compareOp op) r) (ha:PE X a ta) (hb:PE X b tb) (hm:behindInMarks op b=false):PE X (.Compare a [op] [b] pos) (tOp r ta tb):=by
 intro pins s σ H Q I h;exact wpAny_Compare1 (binT ha hb I h fun v u s2 x y H2 I2 rx ry q=>ho pins s2 σ H2 x y v u Q I2 rx ry q) hm
def A8y (t:TE):TT:=fun σ H Q=>t σ H fun x H'=>∃ k,x=.bl k/\Q k H'
theorem A9h {op:CmpOp} {r:R2} (ho:OpR X (compareOp op) r) (ha:PE X a ta) (hb:PE X b tb) (hm:behindInMarks op b=false):PT X (.Compare a [op] [b] pos) (A8y (tOp r ta tb)):=by
 intro pins s σ H Q I h;refine wpAny_isTrue_Compare1 (thn (ha pins s σ H _ I h) fun v s1 ⟨x,H1,I1,r1,q1⟩=>thn (hb pins s1 σ H1 _ I1 q1) fun u s2 ⟨y,H2,I2,r2,q2⟩ =>
  thn (ho pins s2 σ H2 x y v u _ I2 r1 r2 q2) fun c s3 ⟨z,H3,I3,r3,k,e,q3⟩=>?_) hm
 subst e;cases r3;exact wpAny_truthy_bool ⟨H3,I3,q3⟩
def A1y (r r':R2) (ta tb tc:TE):TE:=fun σ H Q=>ta σ H fun x H1=>tb σ H1 fun y H2=>r x y H2 fun z H3=>∃ k,z=.bl k /\
 (if k=true then tc σ H3 fun w' H4=>r' y w' H4 Q else Q (.bl false) H3)
theorem B5s {op op':CmpOp} {r r':R2} (ho:OpR X (compareOp op) r) (ho':OpR X (compareOp op') r') (ha:PE X a ta) (hb:PE X b tb) (hc:PE X c tc)
  (hm:lastMarks [op,op'] [b,c]=false:=by with_unfolding_all rfl):PE X (.Compare a [op,op'] [b,c] pos) (A1y r r' ta tb tc):=by
 intro pins s σ H Q I h;refine Compare_chain (thn (ha pins s σ H _ I h) fun v s1 ⟨x,H1,I1,r1,q1⟩=>chain_link (thn (hb pins s1 σ H1 _ I1 q1) fun u s2 ⟨y,H2,I2,r2,q2⟩ =>
  thn (ho pins s2 σ H2 x y v u _ I2 r1 r2 q2) fun d s3 ⟨z,H3,I3,r3,k,e,q3⟩=>?_)) hm
 subst e;cases r3;refine wpAny_truthy_bool ?_;cases k with
 | false=>exact ite_ff ⟨.bl false,H3,I3,rfl,q3⟩
 | true=>exact ite_tt (chain_last (thn (hc pins s3 σ H3 _ I3 q3) fun w' s4 ⟨z',H4,I4,r4,q4⟩=>ho' pins s4 σ H4 y z' u w' Q I4 r2 r4 q4))
theorem B5i {op op':CmpOp} {r r':R2} (ho:OpR X (compareOp op) r) (ho':OpR X (compareOp op') r') (ha:PE X a ta) (hb:PE X b tb) (hc:PE X c tc)
  (hm:lastMarks [op,op'] [b,c]=false:=by with_unfolding_all rfl):PT X (.Compare a [op,op'] [b,c] pos) (A8y (A1y r r' ta tb tc)):=by
 intro pins s σ H Q I h;refine isTrue_chain (thn (ha pins s σ H _ I h) fun v s1 ⟨x,H1,I1,r1,q1⟩=>test_link (thn (hb pins s1 σ H1 _ I1 q1) fun u s2 ⟨y,H2,I2,r2,q2⟩ =>
  thn (ho pins s2 σ H2 x y v u _ I2 r1 r2 q2) fun d s3 ⟨z,H3,I3,r3,k,e,q3⟩=>?_)) hm
 subst e;cases r3;refine wpAny_truthy_bool ?_;cases k with
 | false =>
  obtain ⟨k',e',q'⟩:=q3;cases e';exact ite_ff ⟨H3,I3,q'⟩
 | true =>
  refine ite_tt (test_last (thn (hc pins s3 σ H3 _ I3 q3) fun w' s4 ⟨z',H4,I4,r4,q4⟩=>thn (ho' pins s4 σ H4 y z' u w' _ I4 r2 r4 q4) fun d' s5 ⟨z2,H5,I5,r5,k2,e2,q5⟩=>?_));subst e2;cases r5;exact wpAny_truthy_bool ⟨H5,I5,q5⟩
theorem A0s:(sizeLine:Nat) < 2 ^ 63:=by rw [sizeLine_eq]; decide
theorem A1x {x:V} {us:List Value} (r:Vals [x] us):∃ u,us=[u]/\RelV x u:=by
 cases r with
 | cons r1 r2=>cases r2; exact ⟨_,rfl,r1⟩
theorem C24 {x y:V} {us:List Value} (r:Vals [x,y] us):∃ u w',us=[u,w']/\RelV x u/\RelV y w':=by
 cases r with
 | cons r1 r2 =>
  cases r2 with
  | cons r3 r4=>cases r4; exact ⟨_,_,rfl,r1,r3⟩
theorem B6r:CallR X (.builtin "abs") (fun xs H Q=>∃ i,xs=[.int i]/\Q (.int (if i < 0 then -i else i)) H):=by
 intro pins s σ H xs us Q I r h;obtain ⟨i,rfl,q⟩:=h;obtain ⟨u,rfl,t,rfl⟩:=A1x r;exact call_abs_int fun u tk=>⟨.int (if i < 0 then -i else i),H,I.tok _,⟨_,rfl⟩,q⟩
theorem B4n (hc:X.calm=true):CallR X (.builtin "max") (fun xs H Q=>∃ i j,xs=[.int i,.int j]/\Q (.int (if j > i then j else i)) H):=by
 intro pins s σ H xs us Q I r h;obtain ⟨i,j,rfl,q⟩:=h;obtain ⟨u,w',rfl,⟨t,rfl⟩,⟨t',rfl⟩⟩:=C24 r;refine max_two_ints (I.ok.hd hc) fun h' tk k=>⟨_,H,I.kept k,?_,q⟩;by_cases hj:j > i
 ·rw [if_pos hj,if_pos hj]; exact ⟨_,rfl⟩
 ·rw [if_neg hj,if_neg hj]; exact ⟨_,rfl⟩
theorem B4l (hc:X.calm=true):CallR X (.builtin "min") (fun xs H Q=>∃ i j,xs=[.int i,.int j]/\Q (.int (if j < i then j else i)) H):=by
 intro pins s σ H xs us Q I r h;obtain ⟨i,j,rfl,q⟩:=h;obtain ⟨u,w',rfl,⟨t,rfl⟩,⟨t',rfl⟩⟩:=C24 r;refine min_two_ints (I.ok.hd hc) fun h' tk k=>⟨_,H,I.kept k,?_,q⟩;by_cases hj:j < i
 ·rw [if_pos hj,if_pos hj]; exact ⟨_,rfl⟩
 ·rw [if_neg hj,if_neg hj]; exact ⟨_,rfl⟩
theorem A3b:CallR X (.type "int") (fun xs H Q=>(∃ i,xs=[.int i]/\Q (.int i) H)\/∃ k,xs=[.bl k]/\Q (.int (if k then 1 else 0)) H):=by
 intro pins s σ H xs us Q I r h;rcases h with ⟨i,rfl,q⟩ | ⟨k,rfl,q⟩
 ·obtain ⟨u,rfl,t,rfl⟩:=A1x r;exact call_int_int ⟨.int i,H,I,⟨_,rfl⟩,q⟩
 ·obtain ⟨u,rfl,r1⟩:=A1x r;cases r1;exact call_int_bool ⟨.int (if k then 1 else 0),H,I.tok _,⟨_,rfl⟩,q⟩
end
end L2
namespace L2
open PySem PySem.Spec PyProof.Rows
section
variable {prog:Program} {w:World} {A:Around} {E:Value->Shared->Prop} {s:Shared} {K:PySem.W.Frag} {x dx C f:Addr} {mA:Str->Option Value} {name:Str} {v:Value}
end
theorem RelO.none_of {o:Option Value} (r:RelO none o):o=none:=by
 cases o with
 | none=>rfl
 | some u=>exact (show False from r).elim
section
variable {P:Program} {w:World} {H H':Hp} {h h':Heap} {a C dx:Addr} {fs fs':List (Str × V)}
end
structure Cls (K:PySem.W.Frag) (C:Addr):Prop where
 pg:PySem.W.plainGet K C Str.empty=true
 hd:PySem.W.hasDictIn K C=true
 po:PySem.W.plainOver K C=true
 sa:PySem.W.findIn K (.ref C) "__setattr__"=some (some (.builtin "object.__setattr__"))
theorem Cls.get {K:PySem.W.Frag} {C:Addr} (c:Cls K C) (f:Str):PySem.W.plainGet K C f=true:=c.pg
section
variable {X:Cx} {pins:List (Addr × Obj)} {σ:St} {H:Hp} {s:Shared} {a C dx:Addr} {fs:List (Str × V)} {f:Str} {v:V} {A:Around} {E:Value->Shared->Prop}
end
section
variable {X:Cx} {o e value:Expr} {f:Str} {pos pos' tpos:Pos} {ta tv:TE}
end
section
variable {X:Cx} {pins:List (Addr × Obj)} {σ:St} {H:Hp} {s:Shared} {A:Around} {E:Value->Shared->Prop} {Q:Value->Shared->Prop} {c:Value} {b:Bool}
end
end L2
namespace L2
open PySem PySem.Spec PyProof.Rows
structure Room (k:Nat) (A:Around):Prop where
 hd:A.handled=none
 gd:A.guards=some []
 dp:A.depth + 3 * k + 5 < recursionLimit
 un:A.units + 16 * k + 200 < cLine
theorem Room.mono {j k:Nat} {A:Around} (r:Room k A) (h:j<=k):Room j A:=⟨r.hd,r.gd,by have:=r.dp; omega,by have:=r.un; omega⟩
theorem Room.mo {j k:Nat} {A:Around} (r:Room k A) (h:j<=k:=by first | decide | omega):Room j A:=r.mono h
theorem Room.deeper {k:Nat} {A:Around} (r:Room (k + 1) A) (env:Env):Room k (A.deeper env) :=
 ⟨r.hd,r.gd,by have:=r.dp; show A.depth + 1 + 3 * k + 5 < _; omega,by have:=r.un; show A.units + 3 + 16 * k + 200 < _; omega⟩
theorem Room.depth {k:Nat} {A:Around} (r:Room k A):A.depth < recursionLimit:=by have:=r.dp; omega
theorem Room.units {k:Nat} {A:Around} (r:Room k A):A.units + 64 < cLine:=by have:=r.un; omega
def tNil:TA:=fun _ H Q=>Q [] H
def F9 (ta:TE) (tr:TA):TA:=fun σ H Q=>ta σ H fun x H1=>tr σ H1 fun xs H2=>Q (x :: xs) H2
section
variable {X:Cx} {e:Expr} {es:List Expr} {te:TE} {t:TA} {pos:Pos}
theorem A2i:PA X [] tNil:=fun _ _ _ _ H Q I h=>Calls.spliced_nil ⟨[],H,I,.nil,h⟩
theorem P8 (ha:PE X e te) (hr:PA X es t) (hs:starEach (e :: es) X.env=(false,eval e X.env) :: starEach es X.env:=by rfl):PA X (e :: es) (F9 te t):=by
 intro pos pins s σ H Q I h;rw [hs];show wpAny _ _ (spliced ((false,eval e X.env) :: backTo pos (starEach es X.env))) _ _ s;refine Calls.spliced_cons (thn (ha pins s σ H _ I h) fun u s1 ⟨x,H1,I1,r1,q1⟩=>?_);exact thn (hr pos pins s1 σ H1 _ I1 q1) fun us s2 ⟨xs,H2,I2,r2,q2⟩=>⟨x :: xs,H2,I2,.cons r1 r2,q2⟩
def tTup (t:TA):TE:=fun σ H Q=>t σ H fun xs H1=>xs.length<=sizeLine/\∀ p,H1 p=none->Q (.ref p) (upd H1 p (.tup xs))
def tLst (t:TA):TE:=fun σ H Q=>t σ H fun xs H1=>xs.length<=sizeLine/\∀ p,H1 p=none->Q (.ref p) (upd H1 p (.lst xs))
theorem C36 {x1} (h:PA X es t):PE X (.Tuple es x1 pos) (tTup t):=by
 intro pins s σ H Q I hq;refine wpAny_Tuple_spliced (thn (h pos pins s σ H _ I hq) fun us s1 ⟨xs,H1,I1,r,z,q⟩=>⟨by rw [<- r.length]; exact z,?_⟩);have hf:H1 s1.heap.objs.size=none:=I1.hok.fresh (Zv _);refine ⟨.ref s1.heap.objs.size,upd H1 s1.heap.objs.size (.tup xs),I1.laid (t':=s1.toks) (fun b u e=>Heap.get?_push_of_some _ e) (Zv _) ?_,rfl,q _ hf⟩;exact ⟨z,us,r,⟨_,Heap.get?_push_size _ rfl,rfl,_,rfl⟩⟩
theorem B7r (h:PA X es t):PE X (.List es pos) (tLst t):=by
 intro pins s σ H Q I hq;refine wpAny_List_spliced (thn (h pos pins s σ H _ I hq) fun us s1 ⟨xs,H1,I1,r,z,q⟩=>⟨by rw [<- r.length]; exact z,?_⟩);have hf:H1 s1.heap.objs.size=none:=I1.hok.fresh (Zv _);refine ⟨.ref s1.heap.objs.size,upd H1 s1.heap.objs.size (.lst xs),I1.laid (t':=s1.toks) (fun b u e=>Heap.get?_push_of_some _ e) (Zv _) ?_,rfl,q _ hf⟩;exact ⟨z,us,0,r,Heap.get?_push_size _ rfl⟩
end
abbrev Sp:=List V->Hp->VK->XK->Prop
abbrev CXT:=List Env->Hp->Shared->XK->Value->Shared->Prop
structure Env0 (P:Program) (w:World) (K:PySem.W.Frag) (mg:Str->Option Value) (base:Heap) (A:Around) (outer:List Env) (s:Shared) (H:Hp):Prop where
 frames:A.frames=some outer
 mod:Mod K mg base
 bs:∀ b o,base.get? b=some o->s.heap.get? b=some o/\H b=none
 bsz:base.objs.size<=s.heap.objs.size
 funs:s.heap.FunFrames base outer
 frf:∀ b ∈ frs outer,H b=none
 hok:HOk P w H s.heap
 bare:AllBare s.gens
def CE (outer:List Env) (P:Program) (w:World) (H:Hp) (s:Shared) (Q:VK) (u:Value) (s':Shared):Prop :=
 ∃ v H',s'.os=s.os/\AllBare s'.gens/\Un (frs outer) [] H H' s.heap s'.heap/\HOk P w H' s'.heap/\RelV v u/\Q v H'
def CR (CX:CXT) (outer:List Env) (P:Program) (w:World) (H:Hp) (s:Shared) (Q:VK) (E:XK) (r:Result) (s':Shared):Prop :=
 match r with
 | .ok (.ret u)=>CE outer P w H s Q u s'
 | .ok _=>False
 | .error e=>CX outer H s E e s'
structure FnOk (P:Program) (w:World) (K:PySem.W.Frag) (mg:Str->Option Value) (base:Heap) (CX:CXT) (k:Nat) (f:Addr) (fd:FuncData) (ps:List Str) (sp:Sp):Prop where
 len:∀ vs H Q E,sp vs H Q E->vs.length=ps.length
 run:∀ (A:Around) (outer:List Env) (s:Shared) (H:Hp) (args:Args) (us:List Value) (vs:List V) (Q:VK) (E:XK),Room k A->Env0 P w K mg base A outer s H->BindsTo s fd args (ps.zip us)->Vals vs us->sp vs H Q E ->
  codeAny (model P w) A (.call (.ref f) args) (CR CX outer P w H s Q E) s
theorem FnOk.imp {P:Program} {w:World} {K:PySem.W.Frag} {mg:Str->Option Value} {base:Heap} {CX:CXT} {k:Nat} {f:Addr} {fd:FuncData} {ps:List Str} {sp sp':Sp} (F:FnOk P w K mg base CX k f fd ps sp)
  (h:∀ vs H Q E,sp' vs H Q E->sp vs H Q E):FnOk P w K mg base CX k f fd ps sp' :=
 ⟨fun vs H Q E q=>F.len vs H Q E (h _ _ _ _ q),fun A outer s H args us vs Q E hr he hb hv hs=>F.run A outer s H args us vs Q E hr he hb hv (h _ _ _ _ hs)⟩
section
variable {X:Cx} {pins:List (Addr × Obj)} {σ:St} {H:Hp} {s s':Shared}
theorem Inv.env0 (I:Inv X pins σ H s):Env0 X.prog X.w X.K X.mg X.base X.A X.stack s H :=
 ⟨I.ok.frames,I.ok.mod,I.bs,Zx I.ok.bsz I.sz,I.stack,I.stkFree,I.hok,I.bare⟩
theorem Inv.after {Q:VK} {u:Value} (I:Inv X pins σ H s) (h:CE X.stack X.prog X.w H s Q u s'):EP X pins σ Q u s':=by
 obtain ⟨v,H',os,bare,un,hok,r,q⟩:=h;obtain ⟨hh,g,d,t,os'⟩:=s';obtain rfl:os'=s.os:=os;exact ⟨v,H',I.call (h':=hh) (g':=g) (d':=d) (t':=t) (ch:=[]) un hok bare (fun b z=>absurd z (by simp)),r,q⟩
end
def A1z (sp:Sp) (dvs:List V) (E:XK) (t:TA):TE:=fun σ H Q=>t σ H fun vs H1=>sp (vs++dvs) H1 Q E
def Binds (K:PySem.W.Frag) (fd:FuncData) (ps:List Str) (ds:List Value):Prop :=
 ∀ (s:Shared) (us:List Value),K.In s.heap->(us++ds).length=ps.length->BindsTo s fd ⟨us,[]⟩ (ps.zip (us++ds))
theorem Binds.all {K:PySem.W.Frag} {fd:FuncData} {ps:List Str} (h:∀ us:List Value,us.length=ps.length->bindArgs fd ⟨us,[]⟩=pure (ps.zip us)):Binds K fd ps []:=fun s us _ hl=>by
 rw [List.append_nil] at hl ⊢;exact .of_eq (h us hl)
def A68 (CX:CXT) (X:Cx) (E:XK):Prop:=∀ (pins:List (Addr × Obj)) (σ:St) (H:Hp) (s:Shared) (e:Value) (s':Shared),Inv X pins σ H s->CX X.stack H s E e s'->X.xe e s'
section
variable {X:Cx} {CX:CXT} {k:Nat} {f C:Addr} {fd:FuncData} {ps:List Str} {sp:Sp} {dvs:List V} {ds:List Value} {E:XK} {x m:Str} {p pos apos:Pos} {e o:Expr} {es:List Expr} {ta:TE} {t:TA}
theorem C3o {pins:List (Addr × Obj)} {σ:St} {H:Hp} {s:Shared} {Q:VK} {us:List Value} {vs:List V} (F:FnOk X.prog X.w X.K X.mg X.base CX k f fd ps sp) (hr:Room k X.A) (hb:Binds X.K fd ps ds) (hd:Vals dvs ds) (hx:A68 CX X E)
  (I:Inv X pins σ H s) (r:Vals vs us) (h:sp (vs++dvs) H Q E):wpAny (model X.prog X.w) X.A (call (.ref f) us) (EP X pins σ Q) X.xe s:=by
 have r2:Vals (vs++dvs) (us++ds):=r.append hd;have hl:(us++ds).length=ps.length:=by rw [<- r2.length]; exact F.len _ _ _ _ h
 refine wpAny_call (codeAny_mono (F.run X.A X.stack s H ⟨us,[]⟩ (us++ds) (vs++dvs) Q E hr I.env0 (hb s us I.kIn hl) r2 h) fun r s' hq=>?_);cases r with
 | error e=>exact hx pins σ H s e s' I hq
 | ok fl =>
  cases fl with
  | ret u=>exact I.after hq
  | next=>exact False.elim hq
  | brk=>exact False.elim hq
  | cont=>exact False.elim hq
theorem C1a (F:FnOk X.prog X.w X.K X.mg X.base CX k f fd ps sp) (hr:Room k X.A) (hg:Gl X x) (hm:X.mg x=some (.ref f)) (hk:PySem.W.keepIn X.K (.ref f)=true) (hb:Binds X.K fd ps ds) (hd:Vals dvs ds) (hx:A68 CX X E)
  (ha:PA X (e :: es) t) (hdb:(x == ("__debug__":Str))=false:=by decide) (he:starEach (e :: es) X.env=(false,eval e X.env) :: starEach es X.env:=by rfl) (hpl:(backTo pos (starEach es X.env)).any (·.1)=false:=by rfl) :
  PE X (.Call (.Name x p) (e :: es) [] pos) (A1z sp dvs E t):=by
 intro pins s σ H Q I h;refine wpAny_Call_Name_kw (B2r I hg hm ?_ hdb);refine PySem.W.callWith_K (h₀:=X.base) I.ok.mod.kin hk (thn (ha pos pins s σ H _ I h) fun us s1 ⟨vs,H1,I1,r,q⟩=>⟨I1.kIn,?_⟩) he hpl;exact C3o F hr hb hd hx I1 r q
end
section
variable {X:Cx} {CX:CXT} {k:Nat} {f C:Addr} {fd:FuncData} {ps ks:List Str} {sp:Sp} {E:XK} {x m:Str} {p pos apos kpos:Pos} {e o:Expr} {es:List Expr} {kws:List Keyword} {te ta:TE} {t tk:TA} {nm:Option Str}
variable {g:List Value->List Value->List Value} {gV:List V->List V->List V}
end
structure FnScope (N P:List Str) (sc:Scope):Prop where
 kind:sc.kind=.function
 co:sc.isCoroutine=false
 gen:sc.isGenerator=false
 nd:N.Nodup
 pre:N.take P.length=P
 par:∀ x ∈ P,sc.names.lookup x=some .local\/sc.names.lookup x=some .cell
 nofree:∀ y ∈ sc.names,y.2≠.free
theorem A3g {kindOf:Str->Option NameKind} {x:Str}:∀ {binds:List (Str × Value)} {m:Str->Option Value},(∀ v,(x,v) ∉ binds)->bindL kindOf binds m x=m x
 | [],_,_=>rfl
 | (n,v) :: r,m,h=>by
  unfold bindL;rw [A3g fun w hw=>h w (Zr _ hw)];split
  ·have:x≠n:=by rintro rfl; exact h v Zy
   simp [this]
  ·rfl
theorem A3i {kindOf:Str->Option NameKind} {x:Str}:∀ {binds:List (Str × Value)} {m:Str->Option Value},(∀ v,(x,v) ∉ binds)->bindC kindOf binds m x=m x
 | [],_,_=>rfl
 | (n,v) :: r,m,h=>by
  unfold bindC;rw [A3i fun w hw=>h w (Zr _ hw)];split
  ·rfl
  ·have:x≠n:=by rintro rfl; exact h v Zy
   simp [this]
theorem A3h {kindOf:Str->Option NameKind} {x:Str} {v:Value}:∀ {P:List Str} {vs:List Value} {i:Nat} {m:Str->Option Value},P.Nodup->P[i]?=some x->vs[i]?=some v->kindOf x=some .local ->
  bindL kindOf (P.zip vs) m x=some v
 | [],_,_,_,_,h,_,_=>by simp at h
 | _ :: _,[],_,_,_,_,h,_=>by simp at h
 | p :: P,w :: vs,0,m,nd,h1,h2,hk=>by
  simp at h1 h2; subst h1; subst h2;show bindL kindOf ((p,w) :: P.zip vs) m p=_;unfold bindL;rw [A3g fun v hv=>(List.nodup_cons.mp nd).1 (List.of_mem_zip hv).1,if_pos hk];simp
 | p :: P,w :: vs,i + 1,m,nd,h1,h2,hk=>by
  show bindL kindOf ((p,w) :: P.zip vs) m x=_;unfold bindL;exact A3h (i:=i) (List.nodup_cons.mp nd).2 (by simpa using h1) (by simpa using h2) hk
theorem A3j {kindOf:Str->Option NameKind} {x:Str} {v:Value}:∀ {P:List Str} {vs:List Value} {i:Nat} {m:Str->Option Value},P.Nodup->P[i]?=some x->vs[i]?=some v->kindOf x≠some .local ->
  bindC kindOf (P.zip vs) m x=some v
 | [],_,_,_,_,h,_,_=>by simp at h
 | _ :: _,[],_,_,_,_,h,_=>by simp at h
 | p :: P,w :: vs,0,m,nd,h1,h2,hk=>by
  simp at h1 h2; subst h1; subst h2;show bindC kindOf ((p,w) :: P.zip vs) m p=_;unfold bindC;rw [A3i fun v hv=>(List.nodup_cons.mp nd).1 (List.of_mem_zip hv).1,if_neg hk];simp
 | p :: P,w :: vs,i + 1,m,nd,h1,h2,hk=>by
  show bindC kindOf ((p,w) :: P.zip vs) m x=_;unfold bindC;exact A3j (i:=i) (List.nodup_cons.mp nd).2 (by simpa using h1) (by simpa using h2) hk
def start (N:List Str) (vs:List V):St:=vs.map some++List.replicate (N.length - vs.length) none
def cxOf (CX:CXT) (P:Program) (w:World) (K:PySem.W.Frag) (mg:Str->Option Value) (base:Heap) (N:List Str) (qual:Str) (scope:Scope) (f:Addr) (cd:Value) (A:Around) (outer:List Env) (s:Shared) (H:Hp) (E:XK):Cx where
 prog:=P
 w:=w
 K:=K
 mg:=mg
 base:=base
 A:=A.deeper (envOfC qual scope s.heap.objs.size f cd)
 N:=N
 s₀:=s
 H₀:=H
 env:=envOfC qual scope s.heap.objs.size f cd
 outer:=outer
 stack:=envOfC qual scope s.heap.objs.size f cd :: outer
 ex:=[]
 calm:=true
 fn:=fun _=>true
 pn:=[]
 xe:=fun e s'=>wpAny (model P w) (A.deeper (envOfC qual scope s.heap.objs.size f cd)) (leaving (envOfC qual scope s.heap.objs.size f cd) e) (fun _ s''=>CX outer H s E e s'') (fun e' s''=>CX outer H s E e' s'') s'
theorem A6y {sc:Scope} {n:Nat} {x:Str} (h:sc.names.lookup x=some .cell):∃ c,(cellsFrom n sc.names []).lookup x=some c:=by
 have q:=PySem.W.cellsFrom_some sc.names n [] (.inl h);exact Option.isSome_iff_exists.mp q
theorem B3t {CX:CXT} {P:Program} {w:World} {K:PySem.W.Frag} {mg:Str->Option Value} {base:Heap} {N ps:List Str} {qual:Str} {scope:Scope} {f:Addr} {cd:Value} {A:Around} {outer:List Env} {s s1:Shared} {H:Hp} {E:XK} {us:List Value} {vs:List V}
  (S:FnScope N ps scope) (hd:A.handled=none) (e0:Env0 P w K mg base A outer s H) (hl:vs.length=ps.length) (r:Vals vs us)
  (x:InCallC s s.heap.objs.size (bindL (envOfC qual scope s.heap.objs.size f cd).kindOf (ps.zip us) fun _=>none) (cellsFrom (s.heap.objs.size + 1) scope.names []) (bindC (envOfC qual scope s.heap.objs.size f cd).kindOf (ps.zip us) fun _=>none) s1) :
  Inv (cxOf CX P w K mg base N qual scope f cd A outer s H E) [] (start N vs) H s1:=by
 have hpl:ps.length<=N.length:=by have:=congrArg List.length S.pre; rw [List.length_take] at this; omega
 obtain ⟨h1,tk,rfl,hk⟩:=x.done;have noA:∀ b:Addr,b ∉ (cxOf CX P w K mg base N qual scope f cd A outer s H E).ex:=fun b z=>absurd (show b ∈ ([]:List Addr) from z) (by simp);refine ⟨⟨e0.mod,S.kind,rfl,rfl,Zv _,fun y z c h1 h2=>?_,fun y hy=>?_,fun y c _ h=>?_,fun _=>hd,Around.frames_deeper e0.frames,.inr ⟨rfl,rfl⟩,fun b z=>absurd z (noA b),e0.bs,e0.bsz,fun b _ _=>noA b,fun b z=>absurd z (noA b),e0.funs,e0.frf⟩,
  rfl,e0.bare,Un.kept hk,⟨_,x.toInCall.ns,fun i y v h1 h2 h3=>?_⟩,fun y c h=>⟨_,x.cell y c h⟩,e0.hok.fresh (Zv _),fun y c h=>?_,fun p hp=>absurd (show p ∈ ([]:List (Addr × Obj)) from hp) (by simp),e0.hok.kept hk,?_⟩
 ·exact name_of_addr x.apart (PySem.mem_of_lookup h1) (PySem.mem_of_lookup h2)
 ·have hy:scope.names.lookup y=some .cell\/scope.names.lookup y=some .free:=hy;rcases hy with hy | hy
  ·exact A6y hy
  ·exact absurd rfl (S.nofree _ (PySem.mem_of_lookup hy))
 ·exact Nat.le_of_lt (x.above y c (PySem.mem_of_lookup h))
 ·have hi:i < vs.length:=by
   unfold start at h2;by_cases hi:i < vs.length
   ·exact hi
   ·rw [List.getElem?_append_right (by simpa using hi)] at h2;rw [List.getElem?_replicate] at h2;split at h2 <;> cases h2
  have ha:vs[i]?=some v:=by
   unfold start at h2;rw [List.getElem?_append_left (by simpa using hi),Zh] at h2;cases e:vs[i]? with
   | none=>rw [e] at h2; cases h2
   | some a=>rw [e] at h2; cases h2; rfl
  obtain ⟨u,hu,rv⟩:=r.get ha;have hp:ps[i]?=some y:=by
   rw [<- S.pre,List.getElem?_take_of_lt (by omega)]; exact h1
  have ndP:ps.Nodup:=by rw [<- S.pre]; exact S.nd.sublist (List.take_sublist _ _)
  refine ⟨u,rv,?_⟩;rcases S.par y (Zm hp) with k | k
  ·exact .inl ⟨k,A3h ndP hp hu k⟩
  ·obtain ⟨c,e⟩:=A6y (n:=s.heap.objs.size + 1) k;refine .inr ⟨.inl k,c,e,?_⟩;have q:=x.cell y c e;rw [A3j ndP hp hu (by show scope.names.lookup y≠_; rw [k]; decide)] at q;exact q
 ·exact e0.hok.fresh (Nat.le_of_lt (x.above y c (PySem.mem_of_lookup h)))
 ·unfold start;show _=N.length;rw [Ze,Zl,List.length_replicate];omega
theorem C6l {CX:CXT} {P:Program} {w:World} {K:PySem.W.Frag} {mg:Str->Option Value} {base:Heap} {k:Nat} {f:Addr} {name qual:Str} {params:Arguments} {body:List Stmt} {scope:Scope} {dV kV doc pm cdv ct oc:Value} {an od:Option Addr}
  {osl:Array (Option Value)} {N ps:List Str} {sp:Sp} (lk:K.lookup f=some ⟨oc,od,.func (PySem.W.fnOf name qual params body scope dV kV doc pm an cdv ct),osl⟩) (hcd:PySem.W.codeIn K cdv qual=true) (S:FnScope N ps scope)
  (len:∀ vs H Q E,sp vs H Q E->vs.length=ps.length)
  (hbody:∀ (A:Around) (outer:List Env) (s:Shared) (H:Hp) (vs:List V) (Q:VK) (E:XK),Room k (A.deeper (envOfC qual scope s.heap.objs.size f cdv))->sp vs H Q E ->
   ∃ t,PSs (cxOf CX P w K mg base N qual scope f cdv A outer s H E) body t/\t { nx:=fun _ H'=>Q .non H',rt:=Q } (start N vs) H) :
  FnOk P w K mg base CX (k + 1) f (PySem.W.fnOf name qual params body scope dV kV doc pm an cdv ct) ps sp:=by
 refine ⟨len,fun A outer s H args us vs Q E hr e0 hb r hsp=>?_⟩;have hl:=len _ _ _ _ hsp;have KX:K.In s.heap:=e0.mod.kin.keeps fun b o e=>(e0.bs b o e).1;have lim:s.heap.NoLimit:=e0.mod.nolimit.keeps fun b o e=>(e0.bs b o e).1;have hkind:∀ y ∈ ps.zip us,scope.names.lookup y.1=some .local\/(scope.names.lookup y.1=some .cell/\((cellsFrom (s.heap.objs.size + 1) scope.names []).lookup y.1).isSome=true):=fun ⟨n,v⟩ hy=>by
  rcases S.par n (List.of_mem_zip hy).1 with q | q
  ·exact .inl q
  ·exact .inr ⟨q,PySem.W.cellsFrom_some _ _ _ (.inl q)⟩
 refine codeAny_call_function hr.depth (KX _ _ lk) rfl S.co S.gen rfl (PySem.W.codeRec_of KX hcd) (hb _ _ _ _ ?_);refine wpAny_newFunctionEnv_cells S.kind hkind fun env he s1 x=>?_;subst he;refine ⟨lim.keeps x.toInCall.keep,codeAny_func ?_⟩;obtain ⟨t,ht,hq⟩:=hbody A outer s H vs Q E (hr.deeper _) hsp;have I:Inv (cxOf CX P w K mg base N qual scope f cdv A outer s H E) [] (start N vs) H s1:=B3t S hr.hd e0 hl r x;refine wpAny_mono (ht [] s1 (start N vs) H _ I hq) (fun fl s' hs=>?_) fun e s' hs=>hs;have fin:∀ {σ':St} {H':Hp} {v:V} {u:Value},Inv (cxOf CX P w K mg base N qual scope f cdv A outer s H E) [] σ' H' s'->RelV v u->Q v H'->CE outer P w H s Q u s' :=
  fun {σ' H' v u} J rv q=>⟨v,H',J.os,J.bare,J.base,J.hok,rv,q⟩
 cases fl with
 | ret u =>
  obtain ⟨v,σ',H',J,rv,q⟩:=hs;exact fin J rv q
 | next =>
  obtain ⟨σ',H',J,q⟩:=hs;exact fin (v:=V.non) (u:=Value.none) J rfl q
 | brk =>
  obtain ⟨_,_,_,q⟩:=hs;exact False.elim q
 | cont =>
  obtain ⟨_,_,_,q⟩:=hs;exact False.elim q
end L2
namespace L2
open PySem PySem.Spec PyProof.Rows
section
variable {X:Cx} {x:Str} {p pos:Pos} {e:Expr} {es:List Expr} {t:TA} {id T:String} {r:List V->Hp->VK->Prop}
def tCB (r:List V->Hp->VK->Prop) (t:TA):TE:=fun σ H Q=>t σ H fun vs H1=>r vs H1 Q
theorem A5f (hc:CallR X (.builtin id) r) (hg:Gl X x) (hm:X.mg x=none) (hv:bootBuiltins x=some (.builtin id)) (ha:PA X (e :: es) t) (hn:x≠"__name__":=by decide) (hdb:(x == ("__debug__":Str))=false:=by decide)
  (he:starEach (e :: es) X.env=(false,eval e X.env) :: starEach es X.env:=by rfl) (hpl:(backTo pos (starEach es X.env)).any (·.1)=false:=by rfl):PE X (.Call (.Name x p) (e :: es) [] pos) (tCB r t):=by
 intro pins s σ H Q I h;refine wpAny_Call_Name_kw (P5 I hg hm hv ?_ hn hdb);exact PyProof.Rows.callWith_builtin1 (thn (ha pos pins s σ H _ I h) fun us s1 ⟨vs,H1,I1,r1,q1⟩=>hc pins s1 σ H1 vs us Q I1 r1 q1) he hpl
theorem A2h (hc:CallR X (.type T) r) (hg:Gl X x) (hm:X.mg x=none) (hv:bootBuiltins x=some (.type T)) (ha:PA X (e :: es) t) (hn:x≠"__name__":=by decide) (hdb:(x == ("__debug__":Str))=false:=by decide)
  (he:starEach (e :: es) X.env=(false,eval e X.env) :: starEach es X.env:=by rfl) (hpl:(backTo pos (starEach es X.env)).any (·.1)=false:=by rfl):PE X (.Call (.Name x p) (e :: es) [] pos) (tCB r t):=by
 intro pins s σ H Q I h;refine wpAny_Call_Name_kw (P5 I hg hm hv ?_ hn hdb);exact PyProof.Rows.callWith_type1 (thn (ha pos pins s σ H _ I h) fun us s1 ⟨vs,H1,I1,r1,q1⟩=>hc pins s1 σ H1 vs us Q I1 r1 q1) he hpl
end
end L2
namespace HT
open PySem PyProof.Rows
section
open PySem.SeqAt
open PySem.AutoSeq1 (wpAny_loadPart')
open PySem.MeetsSeq PySem.MeetsSeq2 PySem.MeetsSeq3
end
section
variable {prog:Program} {w:World} {A:Around} {E:Value->Shared->Prop} {s:Shared}
def sIx (n d:Nat):Option Int->Nat
 | none=>d
 | some v=>if v < 0 then (v + (n:Int)).toNat else min v.toNat n
theorem sIx_none (n d:Nat):sIx n d none=d:=rfl
theorem sIx_nat (n d k:Nat):sIx n d (some (k:Int))=min k n:=by
 show (if (k:Int) < 0 then ((k:Int) + (n:Int)).toNat else min (k:Int).toNat n)=min k n;rw [if_neg (by omega),Int.toNat_natCast]
theorem C3n (n d:Nat) (hd:d<=n) (o:Option Int):sIx n d o<=n:=by
 cases o with
 | none=>exact hd
 | some v =>
  show (if v < 0 then (v + (n:Int)).toNat else min v.toNat n)<=n;by_cases hv:v < 0
  ·rw [if_pos hv]; omega
  ·rw [if_neg hv]; exact Nat.min_le_right _ _
theorem B4i (v:Int) (n d:Nat):(if v < 0 then max (v + (n:Int)) 0 else min v (n:Int))=((sIx n d (some v):Nat):Int):=by
 show (if v < 0 then max (v + (n:Int)) 0 else min v (n:Int))=(((if v < 0 then (v + (n:Int)).toNat else min v.toNat n):Nat):Int);by_cases hv:v < 0
 ·simp only [if_pos hv]; omega
 ·simp only [if_neg hv]; omega
theorem A79 (lo hi:Option Int) (n:Nat):Builtin.Slice.sliceAdjust lo hi 1 (n:Int)=(((sIx n 0 lo:Nat):Int),((sIx n n hi:Nat):Int)):=by
 have h1:¬ ((1:Int) < 0):=by omega
 unfold Builtin.Slice.sliceAdjust;simp only [h1,if_false];refine Prod.ext ?_ ?_
 ·cases lo with
  | none=>rfl
  | some v=>exact B4i v n 0
 ·cases hi with
  | none=>rfl
  | some v=>exact B4i v n n
theorem A7q (i j:Nat):Builtin.Slice.slicePlaces (i:Int) (j:Int) 1=j - i:=by
 unfold Builtin.Slice.slicePlaces;have h1:(1:Int) > 0:=by omega
 simp only [h1,if_true,Int.ediv_one];split <;> omega
theorem A0l {v:Value} {o:Option Int} {Q:Option Int->Shared->Prop} (p:IsPart v o) (h:Q o s):wpAny (model prog w) A (Builtin.Slice.slicePartIndex v) Q E s:=by
 cases p with
 | none=>exact slicePart_none h
 | int i t=>exact slicePart_int h
theorem U4 {sl:Addr} {vl vu:Value} {lo hi:Option Int} {n:Nat} {Q:Int × Int × Nat->Shared->Prop} (hs:s.heap.IsSliceOf sl vl vu .none) (pl:IsPart vl lo) (pu:IsPart vu hi)
  (h:Q (((sIx n 0 lo:Nat):Int),1,sIx n n hi - sIx n 0 lo) s):wpAny (model prog w) A (Builtin.Slice.sliceApplied (.ref sl) (pure (n:Int))) Q E s:=by
 obtain ⟨os,hos,hcs,hds⟩:=id hs;unfold Builtin.Slice.sliceApplied Builtin.Slice.sliceFields;refine wpAny_bind (wpAny_bind (wpAny_field hos hds (x:=vl) rfl (wpAny_bind (wpAny_field hos hds (x:=vu) rfl (wpAny_bind (wpAny_field hos hds (x:=.none) rfl (wpAny_pure ?_)))))));refine wpAny_bind (slicePart_none ?_);show wpAny _ _ (if ((1:Int) == 0)=true then _ else _) _ _ s;rw [if_neg (by decide)];refine wpAny_bind (A0l pl (wpAny_bind (A0l pu (wpAny_bind (wpAny_pure ?_)))));show wpAny _ _ (match Builtin.Slice.sliceAdjust lo hi 1 (n:Int) with | (lo,hi)=>pure (lo,(1:Int),Builtin.Slice.slicePlaces lo hi 1)) _ _ s;rw [A79 lo hi n];show wpAny _ _ (pure (((sIx n 0 lo:Nat):Int),(1:Int),Builtin.Slice.slicePlaces ((sIx n 0 lo:Nat):Int) ((sIx n n hi:Nat):Int) 1)) _ _ s;rw [A7q];exact wpAny_pure h
theorem B5n (xs:Array Value) (i k:Nat):((List.range k).filterMap fun (m:Nat)=>xs[((i:Int) + (m:Int) * 1).toNat]?).toArray=((xs.toList.drop i).take k).toArray:=by
 have e:(fun (m:Nat)=>xs[((i:Int) + (m:Int) * 1).toNat]?)=fun m=>xs[i + m]?:=by
  funext m
  have:((i:Int) + (m:Int) * 1).toNat=i + m:=by omega
  rw [this]
 rw [e];have:=pick_run xs i k;rw [List.filterMap_map] at this;have e2:((fun x=>xs[x]?) ∘ fun x=>i + x)=fun m=>xs[i + m]?:=rfl;rw [e2] at this;rw [this]
theorem getItem_tuple_cut {t sl:Addr} {items:Array Value} {vl vu:Value} {lo hi:Option Int} {Q:Value->Shared->Prop} (ht:IsTup s.heap t items) (hs:s.heap.IsSliceOf sl vl vu .none) (pl:IsPart vl lo) (pu:IsPart vu hi)
  (hw:¬ (sIx items.size 0 lo=0/\sIx items.size items.size hi=items.size))
  (h:Q (.ref s.heap.objs.size) { s with heap:=s.heap.push { cls:=.type "tuple",data:=.seq ((items.toList.drop (sIx items.size 0 lo)).take (sIx items.size items.size hi - sIx items.size 0 lo)).toArray } })
  (hsz:items.size<=sizeLine):wpAny (model prog w) A (getItem (.ref t) (.ref sl)) Q E s:=by
 have htake:sizeOk (.seq ((items.toList.drop (sIx items.size 0 lo)).take (sIx items.size items.size hi - sIx items.size 0 lo)).toArray):=by
  show ((items.toList.drop (sIx items.size 0 lo)).take (sIx items.size items.size hi - sIx items.size 0 lo)).toArray.size<=sizeLine;rw [List.size_toArray,List.length_take,List.length_drop,Array.length_toList];omega
 have hj:sIx items.size items.size hi<=items.size:=C3n _ _ (Zv _) hi;obtain ⟨os,hos,hcs,hds⟩:=id hs;have hTs:s.TypeIs (.ref sl) "slice":=⟨os,hos,hcs⟩;unfold getItem;try with_reducible refine wpAny_holding ?_
 first | refine wpAny_bind (wpAny_pure ?_) | skip
 refine wpAny_bind (wpAny_sequenceKey ht.typeIs (by decide) ?_);refine wpAny_bind (wpAny_callSpecial?_slot (name:=Str.ofString "__getitem__") ht.typeIs PyProof.Rows.slot_tuple_getitem
  (wpAny_call_entry PyProof.Rows.slot_tuple_getitem ht.typeIs entry_tuple_getitem ?_ (args_tuple_getitem _ _)))
 show wpAny _ _ (Builtin.Tuple.tupleItemsOf (.ref t) >>= _) _ _ s;refine wpAny_bind (tupleItemsOf_ ht ?_);refine wpAny_bind (wpAny_typeOf hTs ?_);rw [if_pos (by decide)];refine wpAny_bind (U4 hs pl pu ?_);have hno:¬ ((((sIx items.size 0 lo:Nat):Int) == 0 && (1:Int) == 1 && (sIx items.size items.size hi - sIx items.size 0 lo) == items.size)=true):=by
  intro q;rw [Bool.and_eq_true,Bool.and_eq_true] at q;have q1:((sIx items.size 0 lo:Nat):Int)=0:=eq_of_beq q.1.1;have q2:sIx items.size items.size hi - sIx items.size 0 lo=items.size:=eq_of_beq q.2;exact hw ⟨by omega,by omega⟩
 show wpAny _ _ (if (((sIx items.size 0 lo:Nat):Int) == 0 && (1:Int) == 1 && (sIx items.size items.size hi - sIx items.size 0 lo) == items.size)=true then _ else _) _ _ s;rw [if_neg hno,B5n];first
  | exact wpAny_bind (m:=Builtin.Tuple.tupleExact _) (wpAny_newObj_type (wpAny_pure ⟨_,rfl,wpAny_pure h⟩) htake)
  | exact wpAny_bind (m:=Builtin.Tuple.tupleExact _) (wpAny_newObj_type (wpAny_bind (wpAny_pure (wpAny_pure ⟨_,rfl,wpAny_pure h⟩))) htake)
  | exact wpAny_bind (wpAny_bind (m:=Builtin.Tuple.tupleExact _) (wpAny_newObj_type (wpAny_pure (wpAny_pure ⟨_,rfl,wpAny_pure h⟩)) htake))
  | exact wpAny_bind (wpAny_bind (m:=Builtin.Tuple.tupleExact _) (wpAny_newObj_type (wpAny_pure ⟨_,rfl,wpAny_pure h⟩) htake))
end
end HT
namespace L2
open PySem PySem.Spec PyProof.Rows
abbrev TO:=St->Hp->(Option Int->Hp->Prop)->Prop
def PO (X:Cx) (e:Option Expr) (t:TO):Prop :=
 ∀ (pins:List (Addr × Obj)) (s:Shared) (σ:St) (H:Hp) (Q:Option Int->Hp->Prop),Inv X pins σ H s->t σ H Q ->
  wpAny (model X.prog X.w) X.A (evalPart e X.env) (fun u s'=>∃ o H',Inv X pins σ H' s'/\IsPart u o/\Q o H') X.xe s
def A3q:TO:=fun _ H Q=>Q none H
def B97 (t:TE):TO:=fun σ H Q=>t σ H fun x H1=>∃ i,x=.int i/\Q (some i) H1
section
variable {X:Cx} {e:Expr} {te:TE} {lo hi:Option Expr} {tl th:TO} {pos p2:Pos}
theorem C01:PO X none A3q:=by
 intro pins s σ H Q I h;rw [evalPart_none];exact wpAny_pure ⟨none,H,I,.none,h⟩
theorem C00 (h:PE X e te):PO X (some e) (B97 te):=by
 intro pins s σ H Q I hw;rw [evalPart_some];refine thn (h pins s σ H _ I hw) fun u s1 ⟨x,H1,I1,r1,q1⟩=>?_;obtain ⟨i,rfl,q⟩:=q1;obtain ⟨t,rfl⟩:=r1;exact ⟨some i,H1,I1,.int i t,q⟩
def SlR (X:Cx) (r:V->Option Int->Option Int->Hp->VK->Prop):Prop :=
 ∀ (pins:List (Addr × Obj)) (s:Shared) (σ:St) (H:Hp) (x:V) (v vl vu:Value) (lo hi:Option Int) (sl:Addr) (Q:VK),Inv X pins σ H s->RelV x v->s.heap.IsSliceOf sl vl vu .none->IsPart vl lo->IsPart vu hi->r x lo hi H Q ->
  ∃ T id,typeLookup (.type T) "__getitem__"=pure (some (.builtin id))/\s.TypeIs v T/\wpAny (model X.prog X.w) X.A (getItem v (.ref sl)) (EP X pins σ Q) X.xe s
theorem SlR.or {r r':V->Option Int->Option Int->Hp->VK->Prop} (h:SlR X r) (h':SlR X r'):SlR X (fun x lo hi H Q=>r x lo hi H Q\/r' x lo hi H Q):=by
 intro pins s σ H x v vl vu lo hi sl Q I rx hs pl pu q;rcases q with q | q
 ·exact h pins s σ H x v vl vu lo hi sl Q I rx hs pl pu q
 ·exact h' pins s σ H x v vl vu lo hi sl Q I rx hs pl pu q
def tSl (r:V->Option Int->Option Int->Hp->VK->Prop) (te:TE) (tl th:TO):TE:=fun σ H Q=>te σ H fun x H1=>tl σ H1 fun l H2=>th σ H2 fun u H3=>r x l u H3 Q
theorem B5q {r:V->Option Int->Option Int->Hp->VK->Prop} (hr:SlR X r) (he:PE X e te) (hl:PO X lo tl) (hu:PO X hi th):PE X (.Subscript e (.Slice lo hi none p2) pos) (tSl r te tl th):=by
 intro pins s σ H Q I h;refine Subscript_ (thn (he pins s σ H _ I h) fun v s1 ⟨x,H1,I1,r1,q1⟩=>?_);refine wpAny_Slice (thn (hl pins s1 σ H1 _ I1 q1) fun vl s2 ⟨l,H2,I2,pl,q2⟩=>thn (hu pins s2 σ H2 _ I2 q2) fun vu s3 ⟨u,H3,I3,pu,q3⟩=>?_);rw [evalPart_none];refine wpAny_pure ?_;have I4:Inv X pins σ H3 { s3 with heap:=s3.heap.push { cls:=.type "slice",data:=.fields #[vl,vu,.none] } }:=I3.kept (t':=s3.toks) fun b ob q=>Heap.get?_push_of_some _ q;obtain ⟨T,id,hT,ht,hg⟩:=hr pins { s3 with heap:=s3.heap.push { cls:=.type "slice",data:=.fields #[vl,vu,.none] } } σ H3 x v vl vu l u s3.heap.objs.size Q I4 r1 (Heap.IsSliceOf.new ..) pl pu q3;show wpAny (model X.prog X.w) X.A (subscriptTail e (.Slice lo hi none p2) v (.ref s3.heap.objs.size)) (EP X pins σ Q) X.xe { s3 with heap:=s3.heap.push { cls:=.type "slice",data:=.fields #[vl,vu,.none] } };exact tail_any (ops:=[.ref s3.heap.objs.size,v]) ht hT hg (by with_unfolding_all rfl)
def cutV (xs:List V) (lo hi:Option Int):List V:=(xs.drop (HT.sIx xs.length 0 lo)).take (HT.sIx xs.length xs.length hi - HT.sIx xs.length 0 lo)
theorem Y4 (xs:List V) (lo hi:Option Int):(cutV xs lo hi).length<=xs.length:=by
 unfold cutV;rw [List.length_take,List.length_drop];omega
def rSlT (K:PySem.W.Frag):V->Option Int->Option Int->Hp->VK->Prop:=fun x lo hi H Q=>∃ a xs,x=.ref a/\SqT K H a xs /\
 ¬ (HT.sIx xs.length 0 lo=0/\HT.sIx xs.length xs.length hi=xs.length)/\∀ p,H p=none->Q (.ref p) (upd H p (.tup (cutV xs lo hi)))
theorem C3f:SlR X (rSlT X.K):=by
 intro pins s σ H x v vl vu lo hi sl Q I rx hs pl pu h;obtain ⟨a,xs,rfl,hx,hw,q⟩:=h;cases rx;obtain ⟨its,r,ht,hz⟩:=I.tuple hx;have hlen:its.toArray.size=xs.length:=by rw [List.size_toArray]; exact r.length.symm
 refine ⟨"tuple",_,PyProof.Rows.slot_tuple_getitem.lookup,ht.typeIs,?_⟩;refine HT.getItem_tuple_cut ht hs pl pu (by rw [hlen]; exact hw) ?_ (by rw [hlen]; exact hz);rw [hlen];refine ⟨.ref s.heap.objs.size,_,I.laid (t':=s.toks) (o:=.tup (cutV xs lo hi)) (fun b ob q=>Heap.get?_push_of_some _ q) (Zv _) ?_,rfl,q _ (I.hok.fresh (Zv _))⟩;exact ⟨Zx (Y4 xs lo hi) hz,_,(r.drop (HT.sIx xs.length 0 lo)).take (HT.sIx xs.length xs.length hi - HT.sIx xs.length 0 lo),IsTup.new _ _⟩
theorem Vals.nil_iff {xs:List V} {us:List Value} (r:Vals xs us):us=[] ↔ xs=[]:=by
 cases r with
 | nil=>simp
 | cons _ _=>simp
end
end L2
namespace L2
open PySem PySem.Spec PyProof.Rows
def ixN (n:Nat) (i:Int):Option Nat:=if 0<=i then (if i < n then some i.toNat else none) else if -(n:Int)<=i then some (i + n).toNat else none
def atI {α:Type} (xs:List α) (i:Int):Option α:=(ixN xs.length i).bind fun j=>xs[j]?
theorem B3p {n:Nat} {i:Int} {j:Nat} (h:ixN n i=some j):seqIndex? i n=some j/\j < n/\-(n:Int)<=i/\i < n:=by
 unfold ixN at h;by_cases h0:0<=i
 ·rw [if_pos h0] at h;by_cases h1:i < n
  ·rw [if_pos h1] at h;have e:i.toNat=j:=Zj h;exact ⟨by rw [seqIndex_of h0 h1,e],by omega,by omega,h1⟩
  ·rw [if_neg h1] at h; cases h
 ·rw [if_neg h0] at h;by_cases h1:-(n:Int)<=i
  ·rw [if_pos h1] at h;have e:(i + n).toNat=j:=Zj h;exact ⟨by rw [seqIndex_neg (by omega) h1,e],by omega,h1,by omega⟩
  ·rw [if_neg h1] at h; cases h
theorem A4n {α:Type} {xs:List α} {i:Int} {v:α} (h:atI xs i=some v):∃ j,seqIndex? i xs.length=some j/\xs[j]?=some v/\j < xs.length/\-(xs.length:Int)<=i/\i < xs.length:=by
 unfold atI at h;cases e:ixN xs.length i with
 | none=>rw [e] at h; cases h
 | some j =>
  rw [e] at h;obtain ⟨h1,h2,h3,h4⟩:=B3p e;exact ⟨j,h1,h,h2,h3,h4⟩
theorem F6 {α:Type} {xs:List α} {j:Nat} {v:α} (h:xs[j]?=some v):atI xs (j:Int)=some v:=by
 have hj:j < xs.length:=(Zs h).1;have e:ixN xs.length (j:Int)=some j:=by
  unfold ixN;rw [if_pos (by omega),if_pos (by omega)]; simp
 unfold atI; rw [e]; exact h
def A4o (b:Expr):Prop:=∀ o i,subscripted b false o i=operate [o,i] (getItem o i)
def IxR (X:Cx) (r:R2):Prop :=
 ∀ (value slice:Expr) (pins:List (Addr × Obj)) (s:Shared) (σ:St) (H:Hp) (x y:V) (v u:Value) (Q:VK),Inv X pins σ H s->RelV x v->RelV y u->r x y H Q ->
  subscripted slice false v u=operate [v,u] (getItem v u)->wpAny (model X.prog X.w) X.A (subscriptTail value slice v u) (EP X pins σ Q) X.xe s
def MtR (X:Cx) (id:String) (r:V->List V->Hp->VK->Prop):Prop :=
 ∀ (pins:List (Addr × Obj)) (s:Shared) (σ:St) (H:Hp) (x:V) (xs:List V) (v:Value) (us:List Value) (Q:VK),Inv X pins σ H s->RelV x v->Vals xs us->r x xs H Q ->
  wpAny (model X.prog X.w) X.A (call (.builtin id) (v :: us)) (EP X pins σ Q) X.xe s
section
variable {X:Cx} {a b:Expr} {ta tb:TE} {pos:Pos}
theorem IxR.or {r r':R2} (h:IxR X r) (h':IxR X r'):IxR X (fun x y H Q=>r x y H Q\/r' x y H Q):=by
 intro value slice pins s σ H x y v u Q I rx ry q hs;rcases q with q | q
 ·exact h value slice pins s σ H x y v u Q I rx ry q hs
 ·exact h' value slice pins s σ H x y v u Q I rx ry q hs
theorem A07 {r:R2} (hr:IxR X r) (ha:PE X a ta) (hb:PE X b tb) (hs:A4o b):PE X (.Subscript a b pos) (tOp r ta tb):=by
 intro pins s σ H Q I h;exact Subscript_ (binT ha hb I h fun v u s2 x y H2 I2 rx ry q=>hr a b pins s2 σ H2 x y v u Q I2 rx ry q (hs _ _))
def rIxL (K:PySem.W.Frag):R2:=fun x y H Q=>∃ p xs i v,x=.ref p/\y=.int i/\SqL K H p xs/\atI xs i=some v/\Q v H
def rIxT (K:PySem.W.Frag):R2:=fun x y H Q=>∃ p xs i v,x=.ref p/\y=.int i/\SqT K H p xs/\atI xs i=some v/\Q v H
def rIxS:R2:=fun x y H Q=>∃ z i c,x=.str z/\y=.int i/\z.length<=sizeLine/\atI z.cps.toList i=some c/\Q (.str ⟨#[c]⟩) H
theorem ix_list:IxR X (rIxL X.K):=by
 intro value slice pins s σ H x y v u Q I rx ry h hs;obtain ⟨p,xs,i,z,rfl,rfl,hq,he,q⟩:=h;cases rx;obtain ⟨t,rfl⟩:=ry;obtain ⟨its,r,pl,hz⟩:=I.list hq;obtain ⟨j,h1,h2,h3,h4,h5⟩:=A4n he;obtain ⟨w,ew,rw'⟩:=r.get h2;have hl:=r.length;have hn:=A0s;have fin:EP X pins σ Q w s:=⟨z,H,I,rw',q⟩;by_cases h0:0<=i
 ·have hj:i.toNat=j:=by
   rw [seqIndex_of h0 h5] at h1;exact Zj h1
  exact item_listR pl.isList h0 (by omega) (by rw [hj]; simpa using ew) fin hs
 ·have hj:(i + (its.toArray.size:Int)).toNat=j:=by
   rw [seqIndex_neg (by omega) h4] at h1;rw [List.size_toArray,<- hl];exact Zj h1
  exact subscriptTail_builtinR (x:=w) pl.isList.typeIs slot_list_getitem.lookup
   (wpAny_getItem_list_neg (Q:=fun r s'=>r=w/\EP X pins σ Q r s') pl.isList (by omega) (by rw [List.size_toArray] <;> omega) (by omega) (by rw [hj]; simpa using ew) ⟨rfl,fin⟩) hs
theorem ix_tup:IxR X (rIxT X.K):=by
 intro value slice pins s σ H x y v u Q I rx ry h hs;obtain ⟨p,xs,i,z,rfl,rfl,hq,he,q⟩:=h;cases rx;obtain ⟨t,rfl⟩:=ry;obtain ⟨its,r,pl,hz⟩:=I.tuple hq;obtain ⟨j,h1,h2,h3,h4,h5⟩:=A4n he;obtain ⟨w,ew,rw'⟩:=r.get h2;have hl:=r.length;have hn:=A0s;have fin:EP X pins σ Q w s:=⟨z,H,I,rw',q⟩;exact subscriptTail_builtinR (x:=w) pl.typeIs slot_tuple_getitem.lookup
  (getItem_tuple (j:=j) (Q:=fun r s'=>r=w/\EP X pins σ Q r s') pl (by omega) (by omega) (by rw [List.size_toArray,<- hl]; exact h1) (by simpa using ew) ⟨rfl,fin⟩) hs
theorem C6c:IxR X rIxS:=by
 intro value slice pins s σ H x y v u Q I rx ry h hs;obtain ⟨z,i,c,rfl,rfl,hz,he,q⟩:=h;obtain ⟨t,rfl⟩:=rx;obtain ⟨t',rfl⟩:=ry;obtain ⟨j,h1,h2,h3,h4,h5⟩:=A4n he;have hl:z.cps.toList.length=z.length:=by simp [Str.length]
 rw [hl] at h1 h4 h5;have hn:=A0s;exact tail_any (typeIs_str s z t) slot_str_getitem.lookup (getItem_str (c:=c) (by
  have e1:decide (i < -(2 ^ 63:Int))=false:=Zd (by omega);have e2:decide (i ≥ 2 ^ 63)=false:=Zd (by omega);rw [e1,e2,Bool.or_false]) (by rw [h1]; simpa using h2) ⟨.str ⟨#[c]⟩,H,I.tok _,⟨_,rfl⟩,q⟩) hs
def rIx (K:PySem.W.Frag):R2:=fun x y H Q=>rIxL K x y H Q\/rIxT K x y H Q\/rIxS x y H Q
theorem C6d:IxR X (rIx X.K):=ix_list.or (ix_tup.or C6c)
theorem A70 (its:List Value) (n j:Nat) (u:Value):Obj.mapSeq (·.setIfInBounds j u) { cls:=.type "list",data:=.seq its.toArray n }={ cls:=.type "list",data:=.seq (its.set j u).toArray n }:=by
 simp [Obj.mapSeq]
theorem Inv.lst {pins:List (Addr × Obj)} {σ:St} {H:Hp} {s:Shared} {p:Addr} {xs:List V} (I:Inv X pins σ H s) (h:H p=some (.lst xs)) :
  ∃ (its:List Value) (n:Nat),Vals xs its/\s.heap.get? p=some { cls:=.type "list",data:=.seq its.toArray n }/\xs.length<=sizeLine:=by
 obtain ⟨z,its,n,r,e⟩:=I.hok p _ h;exact ⟨its,n,r,e,z⟩
theorem Inv.lstUpd {pins:List (Addr × Obj)} {σ:St} {H:Hp} {s:Shared} {p:Addr} {xs ys:List V} {its its':List Value} {n n':Nat} {f:Obj->Obj} (I:Inv X pins σ H s) (h:H p=some (.lst xs))
  (ho:s.heap.get? p=some { cls:=.type "list",data:=.seq its.toArray n }) (hf:f { cls:=.type "list",data:=.seq its.toArray n }={ cls:=.type "list",data:=.seq its'.toArray n' }) (r:Vals ys its') (hz:ys.length<=sizeLine) (t:Nat) :
  Inv X pins σ (upd H p (.lst ys)) { s with heap:=s.heap.update p f,toks:=t }:=by
 have e:(s.heap.update p f).get? p=some { cls:=.type "list",data:=.seq its'.toArray n' }:=by
  rw [Heap.get?_update_self f ho (by rw [hf] <;> rfl),hf]
 refine I.write (x:=p) (e:=p) (by rw [h]; trivial) (.inl rfl) (fun b u hb q=>(Heap.get?_update_other _ _ (Ne.symm hb)).trans q) ⟨_,e⟩ ?_;exact ⟨hz,its',n',r,e⟩
def C3p:V->V->V->Hp->(Hp->Prop)->Prop:=fun o i v H Q=>∃ p xs k j,o=.ref p/\i=.int k/\H p=some (.lst xs)/\ixN xs.length k=some j/\Q (upd H p (.lst (xs.set j v)))
theorem V0:PSet X C3p:=by
 intro pins s σ H o i v ov iv u Q I ro ri rv h;obtain ⟨p,xs,k,j,rfl,rfl,hp,hj,q⟩:=h;cases ro;obtain ⟨t,rfl⟩:=ri;obtain ⟨its,n,r,ho,hz⟩:=I.lst hp;obtain ⟨h1,h2,h3,h4⟩:=B3p hj;have hl:=r.length;have hn:=A0s;have I':Inv X pins σ (upd H p (.lst (xs.set j v))) { s with heap:=s.heap.update p (Obj.mapSeq (·.setIfInBounds j u)) } :=
  I.lstUpd hp ho (A70 its n j u) (r.set rv j) (by rw [List.length_set]; exact hz) s.toks
 by_cases h0:0<=k
 ·have hk:k.toNat=j:=by
   rw [seqIndex_of h0 h4] at h1;exact Zj h1
  exact PySem.W.ki_setAt ho h0 (by omega) (by rw [List.size_toArray,<- hl]; exact h4) (by rw [hk]; exact ⟨_,I',q⟩)
 ·have hk:(k + (its.toArray.size:Int)).toNat=j:=by
   rw [seqIndex_neg (by omega) h3] at h1;rw [List.size_toArray,<- hl];exact Zj h1
  exact PySem.W.ki_setBack ho (by omega) (by rw [List.size_toArray,<- hl]; exact h3) (by omega) (by rw [hk]; exact ⟨_,I',q⟩)
theorem A17 (lo hi:Option Int) (n:Nat):(sliceBounds lo hi none n).1=((HT.sIx n 0 lo:Nat):Int)/\(sliceBounds lo hi none n).2.1=((HT.sIx n n hi:Nat):Int)/\(sliceBounds lo hi none n).2.2=1:=by
 refine ⟨?_,?_,rfl⟩
 ·cases lo with
  | none=>simp [sliceBounds,HT.sIx]
  | some i =>
   simp only [sliceBounds,HT.sIx,Option.getD_none,show (1:Int) > 0 by decide,if_true];by_cases h:i < 0
   ·simp only [h,if_true] <;> omega
   ·simp only [h,if_false] <;> omega
 ·cases hi with
  | none=>simp [sliceBounds,HT.sIx]
  | some i =>
   simp only [sliceBounds,HT.sIx,Option.getD_none,show (1:Int) > 0 by decide,if_true];by_cases h:i < 0
   ·simp only [h,if_true] <;> omega
   ·simp only [h,if_false] <;> omega
theorem A05 (its:List Value) (lo hi:Option Int):slicePick its.toArray lo hi none=((its.drop (HT.sIx its.length 0 lo)).take (HT.sIx its.length its.length hi - HT.sIx its.length 0 lo)).toArray:=by
 obtain ⟨h1,h2,h3⟩:=A17 lo hi its.toArray.size;unfold slicePick;rw [h1,h2,h3];simp only [sliceRange_one,pick_run,List.size_toArray] <;> rfl
def rSlL (K:PySem.W.Frag):V->Option Int->Option Int->Hp->VK->Prop:=fun x lo hi H Q=>∃ a xs,x=.ref a/\SqL K H a xs/\∀ p,H p=none->Q (.ref p) (upd H p (.lst (cutV xs lo hi)))
theorem C0g:SlR X (rSlL X.K):=by
 intro pins s σ H x v vl vu lo hi sl Q I rx hs pl pu h;obtain ⟨a,xs,rfl,hx,q⟩:=h;cases rx;obtain ⟨its,r,ht,hz⟩:=I.list hx;have hlen:=r.length;refine ⟨"list",_,slot_list_getitem.lookup,ht.isList.typeIs,?_⟩;refine wpAny_getItem_list_slice ht.isList hs pl pu .none (by simp) ?_ (by rw [List.size_toArray] <;> omega)
 rw [A05,<- hlen];refine ⟨.ref s.heap.objs.size,_,I.laid (t':=s.toks) (o:=.lst (cutV xs lo hi)) (fun b ob q=>Heap.get?_push_of_some _ q) (Zv _) ?_,rfl,q _ (I.hok.fresh (Zv _))⟩;exact ⟨Zx (Y4 xs lo hi) hz,_,0,(r.drop (HT.sIx xs.length 0 lo)).take (HT.sIx xs.length xs.length hi - HT.sIx xs.length 0 lo),Heap.get?_push_size _ rfl⟩
theorem call_len_seq:CallR X (.builtin "len") (fun xs H Q=>∃ p ys,xs=[.ref p]/\(SqL X.K H p ys\/SqT X.K H p ys)/\Q (.int ys.length) H):=by
 intro pins s σ H xs us Q I r h;obtain ⟨p,ys,rfl,hq,q⟩:=h;obtain ⟨u,rfl,rx⟩:=A1x r;cases rx;have hn:=A0s;rcases hq with hq | hq
 ·obtain ⟨its,r',pl,hz⟩:=I.list hq;have hlen:=r'.length;exact Calls.call_len_list pl.isList (by simp only [List.size_toArray] <;> omega) ⟨.int ys.length,H,I.tok _,⟨s.toks + 1,by rw [List.size_toArray,hlen]⟩,q⟩
 ·obtain ⟨its,r',pl,hz⟩:=I.tuple hq;have hlen:=r'.length;exact len_tuple pl (by simp only [List.size_toArray] <;> omega) ⟨.int ys.length,H,I.tok _,⟨s.toks + 1,by rw [List.size_toArray,hlen]⟩,q⟩
theorem A3a:CallR X (.builtin "len") (fun xs H Q=>∃ z,xs=[.str z]/\z.length<=sizeLine/\Q (.int z.length) H):=by
 intro pins s σ H xs us Q I r h;obtain ⟨z,rfl,hz,q⟩:=h;obtain ⟨u,rfl,t,rfl⟩:=A1x r;have hn:=A0s;exact len_str (by omega) ⟨.int z.length,H,I.tok _,⟨_,rfl⟩,q⟩
theorem CallR.or {f:Value} {r r':List V->Hp->VK->Prop} (h:CallR X f r) (h':CallR X f r'):CallR X f (fun xs H Q=>r xs H Q\/r' xs H Q):=by
 intro pins s σ H xs us Q I rs q;rcases q with q | q
 ·exact h pins s σ H xs us Q I rs q
 ·exact h' pins s σ H xs us Q I rs q
theorem A29:CallR X (.type "list") (fun xs H Q=>∃ p ys,xs=[.ref p]/\(SqL X.K H p ys\/SqT X.K H p ys)/\∀ l,H l=none->Q (.ref l) (upd H l (.lst ys))):=by
 intro pins s σ H xs us Q I r h;obtain ⟨p,ys,rfl,hq,q⟩:=h;obtain ⟨u,rfl,rx⟩:=A1x r;cases rx;have fin:∀ (its:List Value),Vals ys its->ys.length<=sizeLine->∀ (h':Heap) (c':Nat),(∀ b o',s.heap.get? b=some o'->h'.get? b=some o') ->
   h'.get? s.heap.objs.size=some { cls:=.type "list",dict:=none,data:=.seq its.toArray c',slots:=#[] }->EP X pins σ Q (.ref s.heap.objs.size) { s with heap:=h' }:=fun its r' hz h' c' kp e =>
  ⟨.ref s.heap.objs.size,_,I.laid (t':=s.toks) kp (Zv _) (show ObjOk X.prog X.w _ h' _ (.lst ys) from ⟨hz,its,c',r',e⟩),rfl,q _ (I.hok.fresh (Zv _))⟩
 rcases hq with hq | hq
 ·obtain ⟨its,r',pl,hz⟩:=I.list hq;have hlen:=r'.length;obtain ⟨o,ho,hc,n,hd⟩:=pl.isList;exact call_list_seq p (.inl rfl) ho hc hd (fun h' c' kp e=>fin its r' hz h' c' kp e) (by simp only [List.size_toArray] <;> omega)
 ·obtain ⟨its,r',pl,hz⟩:=I.tuple hq;have hlen:=r'.length;obtain ⟨o,ho,hc,n,hd⟩:=pl;exact call_list_seq p (.inr rfl) ho hc hd (fun h' c' kp e=>fin its r' hz h' c' kp e) (by simp only [List.size_toArray] <;> omega)
def tyV (K:PySem.W.Frag) (T:String) (x:V) (H:Hp):Prop:=match x with
 | .str _=>T="str"
 | .int _=>T="int"
 | .ref p=>(T="list"/\∃ xs,SqL K H p xs)\/(T="tuple"/\∃ o,K.lookup p=some o/\o.cls=.type "tuple"/\o.dict=none) \/
   (T="dict"/\((∃ kvs,H p=some (.dK kvs))\/∃ kvs,H p=some (.dT kvs)))\/(T="set"/\∃ S n,H p=some (.set S n))
 | _=>False
theorem B69 {pins:List (Addr × Obj)} {σ:St} {H:Hp} {s:Shared} {T:String} {x:V} {v:Value} (I:Inv X pins σ H s) (r:RelV x v) (ty:tyV X.K T x H) :
  s.TypeIs v T/\∀ a,v=.ref a->∃ ob,s.heap.get? a=some ob/\ob.dict=none:=by
 cases x with
 | str z =>
  obtain ⟨t,rfl⟩:=r;cases (show T="str" from ty);exact ⟨typeIs_str s z t,fun _ e=>nomatch e⟩
 | int i =>
  obtain ⟨t,rfl⟩:=r;cases (show T="int" from ty);exact ⟨typeIs_int s i t,fun _ e=>nomatch e⟩
 | ref p =>
  cases r;rcases ty with ⟨rfl,xs,hq⟩ | ⟨rfl,o,hk,hc,hd⟩ | ⟨rfl,hk⟩ | ⟨rfl,S,n,hk⟩
  ·obtain ⟨its,_,pl,_⟩:=I.list hq;refine ⟨pl.isList.typeIs,fun a e=>?_⟩;cases e;obtain ⟨o,n,e,c,hd,_⟩:=pl;exact ⟨o,e,hd⟩
  ·refine ⟨⟨o,I.kIn p o hk,hc⟩,fun a e=>?_⟩;cases e;exact ⟨o,I.kIn _ o hk,hd⟩
  ·have z:∃ o,s.heap.get? p=some o/\o.ExactDict:=by
    rcases hk with ⟨kvs,hk⟩ | ⟨kvs,hk⟩
    ·obtain ⟨_,_,_,_,o,_,_,e,ex,_⟩:=I.hok p _ hk;exact ⟨o,e,ex⟩
    ·obtain ⟨_,_,_,_,o,_,_,e,ex,_⟩:=I.hok p _ hk;exact ⟨o,e,ex⟩
   obtain ⟨o,e,ex⟩:=z;refine ⟨⟨o,e,ex.1⟩,fun a e2=>?_⟩;cases e2;exact ⟨o,e,ex.2.1⟩
  ·obtain ⟨o,_,_,_,e,ex,_⟩:=I.hok p _ hk;refine ⟨⟨o,e,ex.1⟩,fun a e2=>?_⟩;cases e2;exact ⟨o,e,ex.2.1⟩
 | _=>exact False.elim ty
def tBM0 (K:PySem.W.Frag) (T:String) (r:V->List V->Hp->VK->Prop) (to:TE):TE:=fun σ H Q=>to σ H fun x H1=>tyV K T x H1/\r x [] H1 Q
def tBM (K:PySem.W.Frag) (T:String) (r:V->List V->Hp->VK->Prop) (to:TE) (t:TA):TE:=fun σ H Q=>to σ H fun x H1=>tyV K T x H1/\t σ H1 fun xs H2=>r x xs H2 Q
variable {o e:Expr} {es:List Expr} {to:TE} {t:TA} {name:Str} {apos cpos:Pos} {T id:String} {r:V->List V->Hp->VK->Prop}
theorem C4b (pa:PlainAttrs T) (slot:Slot T name id) (hty:typeOf (.builtin id)=pure (.type "method_descriptor")) (hm:MtR X id r) (ho:PE X o to)
  (hbase:attributeBase o name X.env (eval o X.env)=eval o X.env:=by rfl) (hline:(apos.endLine == cpos.line)=true:=by rfl):PE X (.Call (.Attribute o name apos) [] [] cpos) (tBM0 X.K T r to):=by
 intro pins s σ H Q I h;refine wpAny_Call_method0_late hbase hline (thn (ho pins s σ H _ I h) fun v s1 ⟨x,H1,I1,r1,ty,q1⟩=>?_);obtain ⟨h1,h2⟩:=B69 I1 r1 ty;exact ⟨T,id,pa,slot,hty,h1,h2,Calls.callWith_builtin rfl (PySem.evalArgs_none (hm pins s1 σ H1 x [] v [] Q I1 r1 .nil q1))⟩
theorem C7k (pa:PlainAttrs T) (slot:Slot T name id) (hty:typeOf (.builtin id)=pure (.type "method_descriptor")) (hm:MtR X id r) (ho:PE X o to) (ha:PA X (e :: es) t)
  (hbase:attributeBase o name X.env (eval o X.env)=eval o X.env:=by rfl)
  (hfew:((backTo cpos (starEach (e :: es) X.env)).all (fun x=>!x.1) && (backToKw cpos (keywordEach [] X.env)).all (fun x=>x.1.isSome)
   && decide ((e :: es).length + ([]:List Keyword).length + (if ([]:List Keyword).isEmpty then 0 else 1) < 30))=true:=by rfl)
  (hline:(apos.endLine == cpos.line)=true:=by rfl) (hs:starEach (e :: es) X.env=(false,eval e X.env) :: starEach es X.env:=by rfl) (hplain:(backTo cpos (starEach es X.env)).any (·.1)=false:=by rfl) :
  PE X (.Call (.Attribute o name apos) (e :: es) [] cpos) (tBM X.K T r to t):=by
 intro pins s σ H Q I h;refine wpAny_Call_method_late hbase hfew hline rfl (thn (ho pins s σ H _ I h) fun v s1 ⟨x,H1,I1,r1,ty,q1⟩=>?_);obtain ⟨h1,h2⟩:=B69 I1 r1 ty;refine ⟨T,id,pa,slot,hty,h1,h2,?_⟩;have hA:=ha cpos pins s1 σ H1 _ I1 q1;rw [hs] at hA ⊢;refine Calls.callWith_builtin (by show (false || (backTo cpos (starEach es X.env)).any (·.1))=false; rw [hplain] <;> rfl) (Calls.evalArgs_plain ?_)
 exact thn hA fun us s2 ⟨vs,H2,I2,r2,q2⟩=>hm pins s2 σ H2 x vs v us Q I2 r1 r2 q2
end
end L2
namespace L2
open PySem PySem.Spec PyProof.Rows
def MtM (X:Cx) (id:String) (r:V->List V->Hp->VK->Prop):Prop :=
 ∀ (pins:List (Addr × Obj)) (s:Shared) (σ:St) (H:Hp) (x:V) (xs:List V) (v:Value) (us:List Value) (Q:VK),Inv X pins σ H s->RelV x v->Vals xs us->r x xs H Q ->
  wpAny (model X.prog X.w) X.A (call (.builtin id) (v :: us)) (EP X pins σ Q) X.xe s
theorem Vals.one:∀ {x:V} {us:List Value},Vals [x] us->∃ u,us=[u]/\RelV x u
 | _,_,.cons r .nil=>⟨_,rfl,r⟩
theorem Vals.two:∀ {x y:V} {us:List Value},Vals [x,y] us->∃ u v,us=[u,v]/\RelV x u/\RelV y v
 | _,_,_,.cons r (.cons q .nil)=>⟨_,_,rfl,r,q⟩
theorem Vals.zero:∀ {us:List Value},Vals [] us->us=[]
 | _,.nil=>rfl
theorem Vals.dropLast {xs:List V} {us:List Value} (h:Vals xs us):Vals xs.dropLast us.dropLast:=by
 induction h with
 | nil=>exact .nil
 | cons r t ih =>
  cases t with
  | nil=>exact .nil
  | cons q t'=>exact .cons r ih
theorem Vals.eraseIdx:∀ {xs:List V} {us:List Value} (i:Nat),Vals xs us->Vals (xs.eraseIdx i) (us.eraseIdx i)
 | _,_,_,.nil=>.nil
 | _,_,0,.cons _ t=>t
 | _,_,i + 1,.cons r t=>.cons r (Vals.eraseIdx i t)
theorem Vals.reverse {xs:List V} {us:List Value} (h:Vals xs us):Vals xs.reverse us.reverse:=by
 induction h with
 | nil=>exact .nil
 | cons r t ih=>rw [List.reverse_cons,List.reverse_cons]; exact Vals.append ih (.cons r .nil)
theorem Vals.rep {xs:List V} {us:List Value} (h:Vals xs us):∀ k:Nat,Vals (List.replicate k xs).flatten (List.replicate k us).flatten
 | 0=>.nil
 | k + 1=>by
  rw [List.replicate_succ,List.replicate_succ,List.flatten_cons,List.flatten_cons];exact Vals.append h (Vals.rep h k)
theorem A72 {α:Type} (l:List α):l.eraseIdx (l.length - 1)=l.dropLast:=by
 induction l with
 | nil=>rfl
 | cons a r ih =>
  cases r with
  | nil=>rfl
  | cons b r =>
   have e:(a :: b :: r).length - 1=((b :: r).length - 1) + 1:=by
    have h1:(a :: b :: r).length=r.length + 2:=rfl;have h2:(b :: r).length=r.length + 1:=rfl;omega
   rw [e,List.eraseIdx_cons_succ,ih];all_goals rfl
theorem A2r {α:Type}:∀ (l:List α) (i:Nat),(l.eraseIdx i).length<=l.length
 | [],_=>Zv _
 | _ :: _,0=>Nat.le_succ _
 | _ :: r,i + 1=>Nat.succ_le_succ (A2r r i)
section
variable {X:Cx} {pins:List (Addr × Obj)} {σ:St} {H:Hp} {s:Shared} {l b:Addr} {xs ys zs:List V}
theorem Inv.lset {its its':List Value} {n:Nat} {f:Array Value->Array Value} {t':Nat} (I:Inv X pins σ H s) (hH:H l=some (.lst xs))
  (e:s.heap.get? l=some { cls:=.type "list",data:=.seq its.toArray n }) (hf:f its.toArray=its'.toArray) (hv:Vals ys its') (hz:ys.length<=sizeLine) :
  Inv X pins σ (upd H l (.lst ys)) { s with heap:=s.heap.update l (Obj.mapSeq f),toks:=t' }:=by
 have q:=PySem.IsL.update e f;rw [hf] at q;refine I.write (x:=l) (e:=l) (by rw [hH]; exact trivial) (.inl rfl) (fun b' u hb hu=>(Heap.get?_update_other s.heap (Obj.mapSeq f) (Ne.symm hb)).trans hu) ⟨_,q⟩ ?_;exact ⟨hz,its',_,hv,q⟩
theorem Inv.lnew {its:List Value} {t':Nat} (I:Inv X pins σ H s) (hv:Vals ys its) (hz:ys.length<=sizeLine) :
  Inv X pins σ (upd H s.heap.objs.size (.lst ys)) { s with heap:=s.heap.push { cls:=.type "list",data:=.seq its.toArray },toks:=t' } :=
 I.laid (fun _ _ q=>Heap.get?_push_of_some _ q) (Zv _) ⟨hz,its,0,hv,Heap.get?_push_size _ rfl⟩
theorem Inv.fresh (I:Inv X pins σ H s):H s.heap.objs.size=none:=I.hok.fresh (Zv _)
theorem Inv.lstM (I:Inv X pins σ H s) (hH:H l=some (.lst xs)):xs.length<=sizeLine/\∃ (its:List Value) (n:Nat),Vals xs its/\xs.length=its.length/\s.heap.get? l=some { cls:=.type "list",data:=.seq its.toArray n }:=by
 obtain ⟨z,its,n,r,e⟩:=I.hok l _ hH;exact ⟨z,its,n,r,r.length,e⟩
end
section
variable {X:Cx}
def W2:V->List V->Hp->VK->Prop:=fun x vs H Q=>∃ l xs y,x=.ref l/\vs=[y]/\H l=some (.lst xs)/\xs.length < sizeLine/\Q .non (upd H l (.lst (xs++[y])))
theorem C8:MtM X "list.append" W2:=by
 intro pins s σ H x vs v us Q I rx rv h;obtain ⟨l,xs,y,rfl,rfl,hH,hz,q⟩:=h;cases rx;obtain ⟨u,rfl,ru⟩:=rv.one;obtain ⟨z,its,n,r,hl,e⟩:=I.lstM hH;refine call_meets F.slot_list_append ⟨_,e,rfl⟩ F.entry_list_append (F.args_list_append_2 _ _) (PySem.list_append l its.toArray n u (by rw [List.size_toArray]; omega)) ⟨e,?_⟩;refine ⟨.non,_,I.lset (its':=its++[u]) hH e (by simp) (r.append (.cons ru .nil)) ?_,rfl,q⟩;rw [Ze,List.length_singleton];omega
def rPop:V->List V->Hp->VK->Prop:=fun x vs H Q=>∃ l xs y,x=.ref l/\vs=[]/\H l=some (.lst xs)/\xs[xs.length - 1]?=some y/\Q y (upd H l (.lst xs.dropLast))
theorem C5x:MtM X "list.pop" rPop:=by
 intro pins s σ H x vs v us Q I rx rv h;obtain ⟨l,xs,y,rfl,rfl,hH,hy,q⟩:=h;cases rx;have hus:=rv.zero;subst hus;obtain ⟨z,its,n,r,hl,e⟩:=I.lstM hH;obtain ⟨u,hu,ru⟩:=r.get hy;have hy':its.toArray[its.toArray.size - 1]?=some u:=by
  show its.toArray[its.length - 1]?=some u;rw [<- Array.getElem?_toList,<- hl];exact hu
 refine call_meets F.slot_list_pop ⟨_,e,rfl⟩ F.entry_list_pop (F.args_list_pop_1 _) (MeetsSeq.list_pop_last l its.toArray n u hy' (by rw [List.size_toArray]; omega)) ⟨e,?_⟩;refine ⟨y,_,I.lset (its':=its.dropLast) hH e ?_ r.dropLast ?_,ru,q⟩
 ·show its.toArray.eraseIdxIfInBounds (its.toArray.size - 1)=its.dropLast.toArray;rw [List.size_toArray,List.eraseIdxIfInBounds_toArray,A72]
 ·rw [List.length_dropLast];omega
def B7m:V->List V->Hp->VK->Prop:=fun x vs H Q=>∃ l xs i k y,x=.ref l/\vs=[.int i]/\H l=some (.lst xs)/\-(2 ^ 63)<=i/\i < 2 ^ 63/\seqIndex? i xs.length=some k/\xs[k]?=some y/\Q y (upd H l (.lst (xs.eraseIdx k)))
theorem B59:MtM X "list.pop" B7m:=by
 intro pins s σ H x vs v us Q I rx rv h;obtain ⟨l,xs,i,k,y,rfl,rfl,hH,h1,h2,hk,hy,q⟩:=h;cases rx;obtain ⟨u,rfl,ru⟩:=rv.one;obtain ⟨t,rfl⟩:=ru;obtain ⟨z,its,n,r,hl,e⟩:=I.lstM hH;obtain ⟨w,hw,rw'⟩:=r.get hy;refine call_meets F.slot_list_pop ⟨_,e,rfl⟩ F.entry_list_pop (F.args_list_pop_2 _ _)
  (MeetsSeq.list_pop_at l its.toArray n i t k w (fitsIndex_both h1 h2) (by rw [List.size_toArray,<- hl]; exact hk) (by rw [<- Array.getElem?_toList]; exact hw) (by rw [List.size_toArray]; omega)) ⟨e,?_⟩
 refine ⟨y,_,I.lset (its':=its.eraseIdx k) hH e ?_ (r.eraseIdx k) ?_,rw',q⟩
 ·show its.toArray.eraseIdxIfInBounds k=(its.eraseIdx k).toArray;rw [List.eraseIdxIfInBounds_toArray]
 ·have:=A2r xs k;omega
def A9d:V->List V->Hp->VK->Prop:=fun x vs H Q=>∃ l xs,x=.ref l/\vs=[]/\H l=some (.lst xs)/\Q .non (upd H l (.lst []))
theorem A1f:MtM X "list.clear" A9d:=by
 intro pins s σ H x vs v us Q I rx rv h;obtain ⟨l,xs,rfl,rfl,hH,q⟩:=h;cases rx;have hus:=rv.zero;subst hus;obtain ⟨z,its,n,r,hl,e⟩:=I.lstM hH;refine call_meets F.slot_list_clear ⟨_,e,rfl⟩ F.entry_list_clear (F.args_list_clear_1 _) (AutoSeq1.list_clear_list_0 l its.toArray n (by rw [List.size_toArray]; omega)) ⟨e,?_⟩;exact ⟨.non,_,I.lset (its':=[]) (ys:=[]) hH e rfl .nil (Nat.zero_le _),rfl,q⟩
end
section
variable {prog:Program} {w:World} {A:Around} {E:Value->Shared->Prop} {s:Shared}
end
section
variable {X:Cx}
end
end L2
namespace Att
open PySem PySem.W PySem.Calls PyProof.Rows
theorem Y1 {P:Params} {h:Heap}:∀ (ns:List Int) (vs:List Value),WellAll P h vs (ns.map WData.int)->IntsAre vs ns:=by
 intro ns;induction ns with
 | nil =>
  intro vs w;rw [List.map_nil] at w;cases w;exact .nil
 | cons n ns ih =>
  intro vs w;rw [List.map_cons] at w;cases w with
  | cons a b =>
   cases a;exact .cons _ _ (ih _ b)
theorem A87 {l:OpenLaw} {n:Nat} (hn:l.most=some n) {P:Params} {h:Heap} {args:List WData} {vals:List Value}
  (hpre:l.row.toRowW.claim.pre args=true) (hwl:WellAll P h vals args) :
  ∃ a vs ns,vals=[Value.ref a]/\args=[WData.list (ns.map WData.int)]/\h.get? a=some { cls:=.type "list",data:=.seq vs.toArray }/\IntsAre vs ns/\ns.length<=n:=by
 have hsh:WShape.hasAll [] args [.list .int]=true:=(pre_splitW hpre).1;have hc:l.pre.holds [] { args:=args }=true:=(pre_splitW hpre).2;obtain ⟨d,r,rfl,h1,h2⟩:=hasAllW_cons hsh;obtain rfl:=hasAllW_nil h2;obtain ⟨xs,rfl,h3⟩:=hasW_list h1;obtain ⟨ns,rfl⟩:=items_int h3;have hlen:ns.length<=n:=by
  unfold OpenLaw.pre at hc;have h4:(WTm.not (.lt (.lit (.int (n:Int))) (.len (.arg 0)))).holds [] { args:=[.list (ns.map .int)] }=true:=by
   have h4:=(holds_andW hc).1;rw [hn] at h4;exact h4
  have h5:=condW_of h4 (w_not (w_lt w_lit (w_len_list (w_arg rfl))));rw [Zl] at h5;refine Nat.le_of_not_lt fun q=>?_;have q':(n:Int) < ((ns.length:Nat):Int):=by omega
  first
   | (rw [Zk q'] at h5; exact absurd h5 (by decide))
   | (simp at h5; omega)
 cases hwl with
 | cons w1 w2 =>
  cases w2;cases w1 with
  | list ho hall=>exact ⟨_,_,ns,rfl,rfl,ho,Y1 ns _ hall,hlen⟩
theorem A9v (l:OpenLaw) (args:List WData):l.row.toRowW.claim.post args (.bool true) args=true :=
 postW_of (r:=l.row.toRowW) (X:=(true == true))
  (show WShape.has [] (.bool true) .bool=true by first | rfl | decide | simp [WShape.has,WShape.arms,WShape.armsAll])
  (show (WTm.eq .res (.lit (.bool true))).value [] { args:=args,res:=some (.bool true),after:=args }=some (.bool (true == true)) from w_eq_bool (w_res rfl) w_lit) rfl
theorem attach_call {l:OpenLaw} {n:Nat} {q:Program} {loose:List Str} {XP:(Str->Option Value)->Heap->Prop} {YP:World->Heap->Prop} {d:DefRec}
  (hn:l.most=some n) (hdf:d.params.defaults=[])
  (call:∀ (w:World) (s₀ s₁:Shared) (mg mb:Str->Option Value) (fa:Addr) (o:Obj) (pm cd doc:Value) (a:Addr) (vs:List Value) (ns:List Int),
   Ground q loose [] XP w s₀ mg mb s₁.heap->YP w s₁.heap ->
   s₁.heap.get? fa=some o->o.data=.func (docDef d.name d.params d.body d.scope pm cd doc)->s₁.heap.CodeRec cd d.name->mg d.name=some (.ref fa) ->
   s₁.heap.get? a=some { cls:=.type "list",data:=.seq vs.toArray }->IntsAre vs ns->ns.length<=n->s₁.gens=#[] ->
   codeAny (model l.prog w) callerA (.call (.ref fa) ⟨[.ref a],[]⟩) (fun r s'=>r=.ok (.ret (.bool true))/\OldK s₁.heap s'.heap/\s'.os=s₁.os/\AllBare s'.gens) s₁) :
  WalkO q loose XP YP l.row.toRowW d [] (fun f vs=>PySem.call f vs):=by
 intro w s₀ s₁ mg mb G Y fa o pm cd doc dV kV ho hd hcd hD hmg hg args vals as hpre hlay hrd hwl hlo;obtain rfl:dV=.none:=Dflts.none hD hdf;obtain rfl:kV=.none:=Dflts.noKw hD;obtain ⟨a,vs,ns,rfl,rfl,hobj,hints,hlen⟩:=A87 hn hpre hwl;refine enter_call (codeAny_mono (call w s₀ s₁ mg mb fa o pm cd doc a vs ns G Y ho (fd_plain hd) hcd hmg hobj hints hlen hg) fun r s' hq=>?_);obtain ⟨rfl,h2,h3,h4⟩:=hq;exact ⟨.inl ⟨.bool true,.bool true,[],rfl,fun _=>rfl,.bool true,A9v l _,fun _=>⟨List.Pairwise.nil,fun _ hm=>(nomatch hm)⟩⟩,h2,h3,h4⟩
section
variable {prog:Program} {w:World} {A:Around} {E:Value->Shared->Prop} {s:Shared} {K:Frag}
end
end Att
namespace L2
open PySem PySem.Spec PyProof.Rows
theorem A1w:∀ {vs:List Value} {ns:List Int},IntsAre vs ns->Vals (ns.map V.int) vs
 | _,_,.nil=>.nil
 | _,_,.cons n t h=>.cons ⟨t,rfl⟩ (A1w h)
def Only (H:Hp):Prop:=∀ b,H b=none\/∃ o xs,H b=some (.frz o (.lst xs))
theorem B6e {P:Program} {w:World} {K:PySem.W.Frag} {mg mb:Str->Option Value} {CX:CXT} {k:Nat} {fa a:Addr} {fd:FuncData} {x:Str} {sp:Sp} {s₁:Shared} {vs:List Value} {ns:List Int}
  (KX:K.In s₁.heap) (hns:s₁.heap.Ns mainGlobals mg) (hb:s₁.heap.Ns builtinsNs mb) (hbb:∀ x:Str,x≠"__name__"->mb x=bootBuiltins x) (hlim:s₁.heap.NoLimit) (hg:s₁.gens=#[])
  (ha:s₁.heap.get? a=some { cls:=.type "list",data:=.seq vs.toArray }) (hi:IntsAre vs ns) (hl:ns.length<=sizeLine) (hr:Room k callerA)
  (F:∀ base:Heap,K.In base->base.Ns mainGlobals mg->FnOk P w K mg base CX k fa fd [x] sp) (hbind:∀ (s:Shared) (u:Value),BindsTo s fd ⟨[u],[]⟩ [(x,u)])
  (hsp:∀ H:Hp,Only H->SqL K H a (ns.map V.int)->sp [.ref a] H (fun v _=>v=.bl true) fun _ _ _=>False)
  (hCX:∀ H e s',CX [] H s₁ (fun _ _ _=>False) e s'->False) :
  codeAny (model P w) callerA (.call (.ref fa) ⟨[.ref a],[]⟩) (fun r s'=>r=.ok (.ret (.bool true))/\OldK s₁.heap s'.heap/\s'.os=s₁.os/\AllBare s'.gens) s₁:=by
 have rv:=A1w hi;have lenV:=hi.length;have core:∀ H:Hp,Only H->SqL K H a (ns.map V.int)->HOk P w H s₁.heap->(∀ b,H b≠none->b=a)->(H a≠none->K.lookup a=none) ->
   codeAny (model P w) callerA (.call (.ref fa) ⟨[.ref a],[]⟩) (fun r s'=>r=.ok (.ret (.bool true))/\OldK s₁.heap s'.heap/\s'.os=s₁.os/\AllBare s'.gens) s₁:=by
  intro H hO hS hok hA hK;have base_of:∀ {b:Addr} {o:Obj},s₁.heap.get? b=some o->H b=none->(hidT s₁.heap H).get? b=some o:=fun e n=>B6j e n;have noA:∀ {b:Addr} {o:Obj} {es:Array DictEntry} {ep:Nat},s₁.heap.get? b=some o->o.data=.dict es ep->H b=none:=fun {b o es ep} e d=>by
   cases q:H b with
   | none=>rfl
   | some u =>
    have e':b=a:=hA b (by rw [q]; simp);subst e';rw [ha] at e; cases e;have d':Data.seq vs.toArray _=Data.dict es ep:=d;cases d'
  have nsK:∀ {b:Addr} {m:Str->Option Value},s₁.heap.Ns b m->(hidT s₁.heap H).Ns b m:=fun {b m} ⟨o,es,ep,e,d,r⟩=>⟨o,es,ep,base_of e (noA e d),d,r⟩;have hKb:K.In (hidT s₁.heap H):=fun b o e=>base_of (KX b o e) (by
   cases q:H b with
   | none=>rfl
   | some u =>
    have e':b=a:=hA b (by rw [q]; simp);subst e';rw [hK (by rw [q]; simp)] at e; cases e)
  have hM:Mod K mg (hidT s₁.heap H):=⟨hKb,nsK hns,⟨mb,nsK hb,hbb⟩,let ⟨mc,h1,h2⟩:=hlim; ⟨mc,nsK h1,h2⟩⟩;have e0:Env0 P w K mg (hidT s₁.heap H) callerA [] s₁ H:=⟨rfl,hM,fun b o e=>C19 e,Nat.le_of_eq (B3x _ _),trivial,fun b hb=>absurd (show b ∈ ([]:List Addr) from hb) (by simp),hok,.of_eq hg⟩;refine codeAny_mono ((F _ hKb (nsK hns)).run callerA [] s₁ H ⟨[.ref a],[]⟩ [.ref a] [.ref a] _ _ hr e0 (hbind s₁ (.ref a)) (.cons rfl .nil) (hsp H hO hS)) fun r s' h=>?_;cases r with
  | error e=>exact (hCX H e s' h).elim
  | ok fl =>
   cases fl with
   | next=>exact False.elim h
   | brk=>exact False.elim h
   | cont=>exact False.elim h
   | ret u =>
    obtain ⟨v,H',os,bare,un,hok',r',q⟩:=h;have q':v=.bl true:=q;subst q';obtain rfl:u=Value.bool true:=r';refine ⟨rfl,OldK.of_keep fun b o e=>?_,os,bare⟩;cases q:H b with
    | none=>exact un.keep b o e q (by intro z; exact absurd (show b ∈ ([]:List Addr) from z) (by simp)) (by simp)
    | some u =>
     rcases hO b with z | ⟨ob,xs,z⟩
     ·rw [q] at z; cases z
     ·have z2:=un.frzs b ob _ z;obtain ⟨e1,_⟩:=hok b _ z;obtain ⟨e2,_⟩:=hok' b _ z2;rw [e] at e1; cases e1;exact e2
 cases hk:K.lookup a with
 | some o =>
  have e:=KX a o hk;rw [ha] at e;cases e;refine core (fun _=>none) (fun _=>.inl rfl) (.inr ⟨_,vs.toArray,_,hk,rfl,rfl,rfl,by rw [List.size_toArray,lenV]; exact hl,by simpa using rv⟩) (fun b u z=>by have z':(none:Option HO)=some u:=z; cases z') (fun b z=>absurd rfl z) fun z=>absurd rfl z
 | none =>
  refine core (fun b=>if b=a then some (.frz { cls:=.type "list",data:=.seq vs.toArray } (.lst (ns.map V.int))) else none) (fun b=>?_) (.inl (.inr ⟨{ cls:=.type "list",data:=.seq vs.toArray },if_pos rfl⟩)) (fun b u z=>?_) (fun b z=>?_) fun _=>hk
  ·by_cases hb:b=a
   ·exact .inr ⟨_,_,if_pos hb⟩
   ·exact .inl (if_neg hb)
  ·by_cases hb:b=a
   ·have z':=(if_pos hb).symm.trans z;cases z';subst hb;exact ⟨ha,by rw [Zl]; exact hl,vs,_,rv,ha⟩
   ·have z':=(if_neg hb).symm.trans z;cases z'
  ·by_cases hb:b=a
   ·exact hb
   ·exact absurd (if_neg hb) z
end L2
namespace L2
open PySem PySem.Spec PyProof.Rows
theorem B93 {l:PySem.W.OpenLaw} {n k:Nat} {q:Program} {loose:List Str} {XP:(Str->Option Value)->Heap->Prop} {YP:World->Heap->Prop} {d:DefRec} {K:Params->PySem.W.Frag} {CX:World->CXT} {sp:World->Sp} {x:Str}
  (hn:l.most=some n) (hn2:n<=sizeLine) (hdf:d.params.defaults=[]) (hr:Room k callerA)
  (hY:∀ (w:World) (h:Heap),YP w h->(K w.params).In h)
  (F:∀ (w:World) (mg:Str->Option Value) (fa:Addr) (h:Heap),(K w.params).In h->h.Ns mainGlobals mg->mg d.name=some (.ref fa) ->
   ∃ fd:FuncData,(∀ (s:Shared) (u:Value),BindsTo s fd ⟨[u],[]⟩ [(x,u)]) /\
    ∀ base:Heap,(K w.params).In base->base.Ns mainGlobals mg->FnOk l.prog w (K w.params) mg base (CX w) k fa fd [x] (sp w))
  (hsp:∀ (w:World) (H:Hp) (a:Addr) (ns:List Int),ns.length<=n->Only H->SqL (K w.params) H a (ns.map V.int)->sp w [.ref a] H (fun v _=>v=.bl true) fun _ _ _=>False)
  (hCX:∀ (w:World) (H:Hp) (s:Shared) (e:Value) (s':Shared),CX w [] H s (fun _ _ _=>False) e s'->False) :
  PySem.W.WalkO q loose XP YP l.row.toRowW d [] (fun f vs=>PySem.call f vs):=by
 refine Att.attach_call hn hdf fun w s₀ s₁ mg mb fa o pm cd doc a vs ns G Y ho hd hcd hmg hobj hints hlen hg=>?_;have KX:=hY w _ Y;obtain ⟨fd,hb,hF⟩:=F w mg fa _ KX G.T.g hmg;exact B6e KX G.T.g G.T.b G.T.builtins G.T.nolimit hg hobj hints (Zx hlen hn2) hr hF hb (fun H hO hS=>hsp w H a ns hlen hO hS) fun H e s'=>hCX w H s₁ e s'
end L2
namespace L2
open PySem PySem.Spec PyProof.Rows
abbrev CX0:CXT:=fun _ _ _ _ _ _=>False
abbrev E0:XK:=fun _ _ _=>False
theorem C7m {X:Cx}:A68 CX0 X E0:=fun _ _ _ _ _ _ _ h=>h.elim
structure Fun (K:PySem.W.Frag) (x qual:Str) (st:Stmt) (f:Addr) (fd:FuncData):Prop where
 ex:∃ (oc:Value) (od:Option Addr) (kV doc pm:Value) (an:Option Addr) (cdv ct:Value) (osl:Array (Option Value)),
  fd=PySem.W.fnOf x qual (K6 st) (J5 st) (A5 st) .none kV doc pm an cdv ct/\K.lookup f=some ⟨oc,od,.func fd,osl⟩/\PySem.W.codeIn K cdv qual=true
 kp:PySem.W.keepIn K (.ref f)=true
section
variable {P:Program} {w:World} {K:PySem.W.Frag} {mg:Str->Option Value} {base:Heap}
theorem Fun.ok {x qual:Str} {st:Stmt} {f:Addr} {fd:FuncData} {N ps:List Str} {k:Nat} {sp:Sp} (F:Fun K x qual st f fd) (S:FnScope N ps (A5 st)) (len:∀ vs H Q E,sp vs H Q E->vs.length=ps.length)
  (hbody:∀ (cdv:Value) (A:Around) (outer:List Env) (s:Shared) (H:Hp) (vs:List V) (Q:VK) (E:XK),Room k (A.deeper (envOfC qual (A5 st) s.heap.objs.size f cdv))->sp vs H Q E ->
   ∃ t,PSs (cxOf CX0 P w K mg base N qual (A5 st) f cdv A outer s H E).nox (J5 st) t/\t { nx:=fun _ H'=>Q .non H',rt:=Q } (start N vs) H):FnOk P w K mg base CX0 (k + 1) f fd ps sp:=by
 obtain ⟨oc,od,kV,doc,pm,an,cdv,ct,osl,rfl,lk,hcd⟩:=F.ex;refine C6l lk hcd S len fun A outer s H vs Q E hr hsp=>?_;obtain ⟨t,h,q⟩:=hbody cdv A outer s H vs Q E hr hsp;exact ⟨t,h.nox,q⟩
theorem Fun.binds {x qual:Str} {st:Stmt} {f:Addr} {fd:FuncData} {ps:List Str} (F:Fun K x qual st f fd)
  (h:∀ (kV doc pm:Value) (an:Option Addr) (cdv ct:Value) (us:List Value),us.length=ps.length->bindArgs (PySem.W.fnOf x qual (K6 st) (J5 st) (A5 st) .none kV doc pm an cdv ct) ⟨us,[]⟩=pure (ps.zip us)):Binds K fd ps []:=by
 obtain ⟨oc,od,kV,doc,pm,an,cdv,ct,osl,rfl,lk,hcd⟩:=F.ex;exact .all (h kV doc pm an cdv ct)
theorem B9r {x qual:Str} {st:Stmt} {f:Addr} {oc:Value} {od an:Option Addr} {osl:Array (Option Value)} {kV doc pm cdv ct:Value} (l:K.lookup f=some ⟨oc,od,.func (PySem.W.fnOf x qual (K6 st) (J5 st) (A5 st) .none kV doc pm an cdv ct),osl⟩)
  (c:PySem.W.codeIn K cdv qual=true) (k:PySem.W.keepIn K (.ref f)=true):Fun K x qual st f (PySem.W.fnOf x qual (K6 st) (J5 st) (A5 st) .none kV doc pm an cdv ct):=⟨⟨oc,od,kV,doc,pm,an,cdv,ct,osl,rfl,l,c⟩,k⟩
end
theorem O0 {n:Nat} (h:n<=1000):n < sizeLine:=Nat.lt_of_le_of_lt h (by decide)
section
variable {X:Cx}
theorem pv (i:Nat) {x:Str} {pos:Pos} (hN:X.N[i]?=some x:=by rfl) (hv:Vis X.env.scope x:=by first | exact Or.inl rfl | exact Or.inr (Or.inl rfl) | exact Or.inr (Or.inr rfl)) (hd:(x == ("__debug__":Str))=false:=by decide)
  (hcd:(x == ("__classdict__":Str))=false:=by decide):PE X (.Name x pos) (tVar i):=C35 hN hv hd hcd
end
theorem iteF {A B:Prop} (h:B):if false=true then A else B:=by
 rw [if_neg Bool.false_ne_true];exact h
theorem iteT {A B:Prop} (h:A):if true=true then A else B:=by
 rw [if_pos rfl];exact h
theorem ite2 {c A B:Prop} [Decidable c] (h1:c->A) (h2:¬ c->B):if c then A else B:=by
 by_cases h:c
 ·rw [if_pos h];exact h1 h
 ·rw [if_neg h];exact h2 h
def Same (H H':Hp):Prop:=∀ b o,H b=some o->H' b=some o
theorem Same.refl (H:Hp):Same H H:=fun _ _ h=>h
theorem Same.trans {H H1 H2:Hp} (a:Same H H1) (b:Same H1 H2):Same H H2:=fun c o h=>b c o (a c o h)
theorem Same.seq {K:PySem.W.Frag} {H H':Hp} {a:Addr} {xs:List V} (e:Same H H') (h:SqL K H a xs):SqL K H' a xs:=by
 rcases h with (h | ⟨o,h⟩) | h
 ·exact .inl (.inl (e _ _ h))
 ·exact .inl (.inr ⟨o,e _ _ h⟩)
 ·exact .inr h
end L2
namespace My
def Sm (k:Nat) (x:Int):Prop:=x.natAbs < 2 ^ k
theorem Sm.mono {k l:Nat} {x:Int} (h:Sm k x) (e:k<=l):Sm l x:=Nat.lt_of_lt_of_le h (Zp (by decide) e)
theorem Sm.mul {k l:Nat} {x y:Int} (h:Sm k x) (g:Sm l y):Sm (k + l) (x * y):=by
 unfold Sm at *;rw [Int.natAbs_mul,Nat.pow_add];rcases Nat.eq_zero_or_pos y.natAbs with e | e
 ·rw [e,Nat.mul_zero]; exact Nat.mul_pos (Nat.two_pow_pos _) (Nat.two_pow_pos _)
 ·exact Nat.lt_of_lt_of_le (Nat.mul_lt_mul_of_pos_right h e) (Nat.mul_le_mul_left _ (Nat.le_of_lt g))
theorem Sm.add {k:Nat} {x y:Int} (h:Sm k x) (g:Sm k y):Sm (k + 1) (x + y):=by
 unfold Sm at *;rw [Nat.pow_succ];have:=Int.natAbs_add_le x y;omega
theorem Sm.neg {k:Nat} {x:Int} (h:Sm k x):Sm k (-x):=by
 unfold Sm at *;rw [Int.natAbs_neg]; exact h
theorem Sm.sub {k:Nat} {x y:Int} (h:Sm k x) (g:Sm k y):Sm (k + 1) (x - y):=by
 rw [Int.sub_eq_add_neg]; exact h.add g.neg
theorem Sm.le {k:Nat} {x y:Int} (h:Sm k x) (g:y.natAbs<=x.natAbs):Sm k y:=Nat.lt_of_le_of_lt g h
theorem Sm.log {k:Nat} {x:Int} (h:Sm k x) (hk:0 < k):x.natAbs.log2 < k:=by
 by_cases h0:x.natAbs=0
 ·rw [h0]; exact hk
 ·exact (Nat.log2_lt h0).mpr h
theorem B30 (a b:Int):Int.gcd b (a % b)=Int.gcd a b:=by
 have h:a % b=a + b * (-(a / b)):=by
  have:=Int.emod_def a b;rw [this,Int.mul_neg]; omega
 rw [h,Int.gcd_add_mul_left_right,Int.gcd_comm]
theorem C2q (a b:Int):Int.gcd (if a < 0 then -a else a) (if b < 0 then -b else b)=Int.gcd a b:=by
 unfold Int.gcd;congr 1
 ·split <;> omega
 ·split <;> omega
theorem A6o (a:Int) (h:0<=a):((Int.gcd a 0:Nat):Int)=a:=by
 rw [Int.gcd_zero_right]; omega
def sh (t b:Int):Int:=if b < 0 then -((Int.gcd t b:Nat):Int) else ((Int.gcd t b:Nat):Int)
theorem C3h {t b:Int} (h:b≠0):sh t b≠0:=by
 have:Int.gcd t b≠0:=fun e=>h (Int.gcd_eq_zero_iff.mp e).2;unfold sh; split <;> omega
theorem C3i (t b:Int):(sh t b).natAbs=Int.gcd t b:=by
 unfold sh; split <;> omega
theorem A43 (t b:Int):sh t b ∣ t:=by
 unfold sh; split
 ·exact Int.neg_dvd.mpr (Int.gcd_dvd_left ..)
 ·exact Int.gcd_dvd_left ..
theorem B49 (t b:Int):sh t b ∣ b:=by
 unfold sh; split
 ·exact Int.neg_dvd.mpr (Int.gcd_dvd_right ..)
 ·exact Int.gcd_dvd_right ..
theorem A4e {t b:Int} (h:b≠0):t.fdiv (sh t b)=(Rat.divInt t b).num:=by
 rw [Int.fdiv_eq_ediv_of_dvd (A43 t b),Rat.num_divInt,Int.gcd_comm b t];unfold sh;split
 ·rename_i h1;rw [Int.sign_eq_neg_one_of_neg h1,Int.ediv_neg,Int.neg_one_mul,Int.neg_ediv_of_dvd (Int.gcd_dvd_left ..)]
 ·rename_i h1;rw [Int.sign_eq_one_of_pos (by omega),Int.one_mul]
theorem B2o {t b:Int} (h:b≠0):b.fdiv (sh t b)=((Rat.divInt t b).den:Int):=by
 rw [Int.fdiv_eq_ediv_of_dvd (B49 t b),Rat.den_divInt,if_neg h,Int.gcd_comm b t];unfold sh;split
 ·rename_i h1;rw [Int.ediv_neg,Int.natCast_ediv];have e:(b.natAbs:Int)=-b:=by omega
  rw [e,Int.neg_ediv_of_dvd (Int.gcd_dvd_right ..)]
 ·rename_i h1;rw [Int.natCast_ediv];have e:(b.natAbs:Int)=b:=by omega
  rw [e]
theorem C5q (t b:Int):(Rat.divInt t b).num.natAbs<=t.natAbs:=by
 by_cases h:b=0
 ·subst h; simp [Rat.divInt_zero]
 ·rw [<- A4e h,Int.fdiv_eq_ediv_of_dvd (A43 t b)];have:=Int.natAbs_ediv_le_natAbs t (sh t b);exact this
theorem C6s {t b:Int} (h:b≠0):(Rat.divInt t b).den<=b.natAbs:=by
 rw [Rat.den_divInt,if_neg h];exact Nat.div_le_self _ _
def SmQ (k:Nat) (q:Rat):Prop:=Sm k q.num/\Sm k (q.den:Int)
theorem den0 (q:Rat):(q.den:Int)≠0:=by have:=q.den_nz; omega
theorem denp (q:Rat):0 < (q.den:Int):=by have:=q.den_nz; omega
theorem den2 (p q:Rat):(p.den:Int) * (q.den:Int)≠0:=Int.mul_ne_zero (den0 p) (den0 q)
theorem C3w (p q:Rat):Rat.divInt (p.num * q.den + q.num * p.den) ((p.den:Int) * q.den)=p + q:=by
 rw [<- Rat.divInt_add_divInt _ _ (den0 p) (den0 q),Rat.num_divInt_den,Rat.num_divInt_den]
theorem C3u (p q:Rat):Rat.divInt (p.num * q.den - q.num * p.den) ((p.den:Int) * q.den)=p - q:=by
 rw [<- Rat.divInt_sub_divInt _ _ (den0 p) (den0 q),Rat.num_divInt_den,Rat.num_divInt_den]
theorem C3v (p q:Rat):Rat.divInt (p.num * q.num) ((p.den:Int) * q.den)=p * q:=by
 rw [<- Rat.divInt_mul_divInt,Rat.num_divInt_den,Rat.num_divInt_den]
theorem C7e (p q:Rat):Rat.divInt (p.num * q.den) ((p.den:Int) * q.num)=p / q:=by
 rw [Rat.div_def,Rat.inv_def,<- Rat.divInt_mul_divInt,Rat.num_divInt_den]
def W:List Rat->Nat
 | []=>1
 | q :: r=>q.den * W r
def S:List Rat->Rat
 | []=>0
 | q :: r=>q + S r
end My
namespace My
def SmR (n d:Nat) (q:Rat):Prop:=Sm n q.num/\Sm d (q.den:Int)
theorem SmR.mono {n d n' d':Nat} {q:Rat} (h:SmR n d q) (h1:n<=n') (h2:d<=d'):SmR n' d' q:=⟨h.1.mono h1,h.2.mono h2⟩
theorem SmR.q {n d:Nat} {q:Rat} (h:SmR n d q) (h1:n<=3900) (h2:d<=3900):SmQ 3900 q:=⟨h.1.mono h1,h.2.mono h2⟩
theorem SmR.low {n d:Nat} {t b:Int} (h:Sm n t) (g:Sm d b) (hb:b≠0):SmR n d (Rat.divInt t b) :=
 ⟨h.le (C5q t b),g.le (by simpa using C6s hb)⟩
theorem SmR.add {a b c e:Nat} {p q:Rat} (h:SmR a b p) (g:SmR c e q):SmR (max (a + e) (c + b) + 1) (b + e) (p + q):=by
 rw [<- C3w];exact SmR.low (((h.1.mul g.2).mono (Nat.le_max_left ..)).add ((g.1.mul h.2).mono (Nat.le_max_right ..))) (h.2.mul g.2) (den2 p q)
theorem SmR.sub {a b c e:Nat} {p q:Rat} (h:SmR a b p) (g:SmR c e q):SmR (max (a + e) (c + b) + 1) (b + e) (p - q):=by
 rw [<- C3u];exact SmR.low (((h.1.mul g.2).mono (Nat.le_max_left ..)).sub ((g.1.mul h.2).mono (Nat.le_max_right ..))) (h.2.mul g.2) (den2 p q)
theorem SmR.mul {a b c e:Nat} {p q:Rat} (h:SmR a b p) (g:SmR c e q):SmR (a + c) (b + e) (p * q):=by
 rw [<- C3v];exact SmR.low (h.1.mul g.1) (h.2.mul g.2) (den2 p q)
theorem B2i {q:Rat} (h:q≠0):q.num≠0:=fun e=>h (Rat.num_eq_zero.mp e)
theorem SmR.div {a b c e:Nat} {p q:Rat} (h:SmR a b p) (g:SmR c e q) (hq:q≠0):SmR (a + e) (b + c) (p / q):=by
 rw [<- C7e];exact SmR.low (h.1.mul g.2) (h.2.mul g.1) (Int.mul_ne_zero (den0 p) (B2i hq))
theorem A48 {t b:Int} (h:0<=t) (hb:0 < b):0<=Rat.divInt t b:=(Rat.divInt_nonneg_iff_of_pos_right hb).mpr h
theorem C7d {t b:Int} (h:0 < t) (hb:0 < b):0 < Rat.divInt t b:=by
 refine Rat.lt_of_le_of_ne (A48 (by omega) hb) fun e=>?_;have h1:Rat.divInt 0 b=Rat.divInt t b:=by rw [Rat.zero_divInt]; exact e
 have:=(Rat.divInt_eq_divInt_iff (by omega) (by omega)).mp h1;have h2:t * b=0:=by simpa using this.symm
 rcases Int.mul_eq_zero.mp h2 with z | z <;> omega
theorem B6d (p q:Rat):decide (p.num * q.den < q.num * p.den)=decide (p < q):=by
 rw [Bool.eq_iff_iff,decide_eq_true_iff,decide_eq_true_iff,Rat.lt_iff]
def Dec:LR->Prop
 | []=>True
 | [_]=>True
 | c :: d :: r=>d.1 < c.1/\Dec (d :: r)
theorem Dec.tail {c:Rat × Rat} {r:LR} (h:Dec (c :: r)):Dec r:=by
 cases r with
 | nil=>trivial
 | cons d r=>exact h.2
theorem Dec.lt {c:Rat × Rat} {r:LR} (h:Dec (c :: r)):∀ d ∈ r,d.1 < c.1:=by
 induction r generalizing c with
 | nil=>intro d hd; exact absurd hd (by simp)
 | cons e r ih =>
  intro d hd;rcases List.mem_cons.mp hd with rfl | hd
  ·exact h.1
  ·have h3:=ih h.2 d hd;have h4:e.1 < c.1:=h.1;grind
theorem Dec.snoc:∀ {r:LR} {c d:Rat × Rat},Dec (r++[c])->d.1 < c.1->Dec (r++[c]++[d])
 | [],c,d,_,h=>⟨h,trivial⟩
 | [e],c,d,hd,h=>⟨hd.1,h,trivial⟩
 | e :: f :: r,c,d,hd,h=>⟨hd.1,Dec.snoc (r:=f :: r) hd.2 h⟩
end My
namespace L2
open PySem PySem.Spec PyProof.Rows
section
variable {X:Cx}
theorem A0v {x:Int} (h:My.Sm 8000 x):Builtin.Int.intBits x<=2 ^ 20:=by
 have e:(2:Nat) ^ 20=1048576:=by decide
 have h2:=h.log (by decide);unfold Builtin.Int.intBits;split <;> omega
def C21 (i j:Int):Prop:=My.Sm 8000 i/\My.Sm 8000 j
def C70 (_ j:Int):Prop:=j≠0/\My.Sm 8000 j
theorem F1:OpR X (binaryOp .Mult) (rI C21 fun i j=>.int (i * j)):=opI fun _ _ _ _ _ _ _ hc q=>mul_int q (.of_bits (A0v hc.1) (A0v hc.2))
theorem G5:OpR X (binaryOp .FloorDiv) (rI C70 fun i j=>.int (i.fdiv j)):=opI fun _ _ _ _ _ _ _ hc q =>
 floordiv_int hc.1 q (.inl (PyProof.noPylong_of_log2 (Nat.lt_of_lt_of_le (hc.2.log (by decide)) (by decide))))
def kitB (T c:String):Option Bool:=if (Value.type T == Value.type c)=true then some true else if PySem.W.kitMeta c=true then (fastBuiltinMro T).map (·.contains (Value.type c)) else none
theorem A6f (K:PySem.W.Frag) {T c:String} {b:Bool} (h:kitB T c=some b):PySem.W.kitOne K (.type T) (.type c)=some b:=h
def TyV (K:PySem.W.Frag) (H:Hp) (x:V) (T:String):Prop:=match x with
 | .non=>T="NoneType"
 | .bl _=>T="bool"
 | .int _=>T="int"
 | .str _=>T="str"
 | .ref a=>(T="list"/\∃ xs,SqL K H a xs)\/(T="tuple"/\∃ xs,SqT K H a xs)\/(T="dict"/\∃ kvs,H a=some (.dK kvs))
 | _=>False
theorem A4l:CallR X (.builtin "isinstance") (fun xs H Q=>∃ x c T b,xs=[x,.ty c]/\TyV X.K H x T/\kitB T c=some b/\Q (.bl b) H):=by
 intro pins s σ H xs us Q I r h;obtain ⟨x,c,T,b,rfl,ty,e,q⟩:=h;obtain ⟨u,v,rfl,ru,rv⟩:=Vals.two r;cases (show v=Value.type c from rv);have fin:∀ tk,EP X pins σ Q (.bool b) { s with toks:=tk }:=fun tk=>⟨.bl b,H,I.tok tk,rfl,q⟩;have e':=A6f X.K e;cases x with
 | non=>cases (show T=_ from ty); cases (show u=Value.none from ru); exact PySem.W.kia_one PySem.W.kitx_none I.kIn True.intro e' (fun z=>nomatch z) fin
 | bl y=>cases (show T=_ from ty); cases (show u=Value.bool y from ru); exact PySem.W.kia_one PySem.W.kitx_bool I.kIn True.intro e' (fun z=>nomatch z) fin
 | int i=>cases (show T=_ from ty); obtain ⟨t,q'⟩:=(show ∃ t,u=Value.int i t from ru); cases q'; exact PySem.W.kia_one PySem.W.kitx_int I.kIn True.intro e' (fun z=>nomatch z) fin
 | str y=>cases (show T=_ from ty); obtain ⟨t,q'⟩:=(show ∃ t,u=Value.str y t from ru); cases q'; exact PySem.W.kia_one PySem.W.kitx_str I.kIn True.intro e' (fun z=>nomatch z) fin
 | ref a =>
  cases (show u=Value.ref a from ru);rcases (show _\/_\/_ from ty) with ⟨rfl,xs,h⟩ | ⟨rfl,xs,h⟩ | ⟨rfl,kvs,h⟩
  ·obtain ⟨its,_,⟨o,n,h1,h2,_⟩,_⟩:=I.list h;exact PySem.W.kia_one PySem.W.kitx_list I.kIn ⟨o,h1,h2⟩ e' (fun z=>nomatch z) fin
  ·obtain ⟨its,_,⟨o,h1,h2,_⟩,_⟩:=I.tuple h;exact PySem.W.kia_one PySem.W.kitx_tuple I.kIn ⟨o,h1,h2⟩ e' (fun z=>nomatch z) fin
  ·obtain ⟨_,_,vs,_,p⟩:=(show ObjOk X.prog X.w H s.heap a (.dK kvs) from I.hok a _ h);obtain ⟨o,es,ep,h1,h2,_⟩:=p;exact PySem.W.kia_one PySem.W.kitx_dict I.kIn ⟨o,h1,h2.1⟩ e' (fun z=>nomatch z) fin
 | byt _=>exact (show False from ty).elim
 | flt _=>exact (show False from ty).elim
 | ty _=>exact (show False from ty).elim
end
def encV:V->PyData
 | .int i=>.int i
 | .str x=>.str x
 | _=>.none
def encK:Key->PyData
 | .inl i=>.int i
 | .inr x=>.str x
def C2t (p:Key × V):PyData × PyData:=(encK p.1,encV p.2)
def NSI (xs:List V):Prop:=∀ c i,xs≠[V.str c,V.int i]
def SqD (K:PySem.W.Frag) (H:Hp) (a:Addr) (xs:List V):Prop:=SqT K H a xs/\(H a=some (.tup xs)\/NSI xs)
theorem SqD.of {K:PySem.W.Frag} {H:Hp} {a:Addr} {xs:List V} (h:H a=some (.tup xs)):SqD K H a xs:=⟨SqT.of h,.inl h⟩
mutual
inductive Den (K:PySem.W.Frag) (H:Hp):V->PyData->Prop
 | non:Den K H .non .none
 | bl (b:Bool):Den K H (.bl b) (.bool b)
 | int (i:Int):Den K H (.int i) (.int i)
 | str (x:Str):Den K H (.str x) (.str x)
 | lst {a:Addr} {xs:List V} {ds:LP}:SqL K H a xs->DenAll K H xs ds->Den K H (.ref a) (.list ds)
 | tup {a:Addr} {xs:List V} {ds:LP}:SqD K H a xs->DenAll K H xs ds->Den K H (.ref a) (.tuple ds)
 | dct {a:Addr} {kvs:List (Key × V)}:H a=some (.dK kvs)->Den K H (.ref a) (.dict (kvs.map C2t))
inductive DenAll (K:PySem.W.Frag) (H:Hp):List V->LP->Prop
 | nil:DenAll K H [] []
 | cons {x:V} {xs:List V} {d:PyData} {ds:LP}:Den K H x d->DenAll K H xs ds->DenAll K H (x :: xs) (d :: ds)
end
section
variable {X:Cx} {pins:List (Addr × Obj)} {σ:St} {H:Hp} {s:Shared}
mutual
theorem Den.reads (I:Inv X pins σ H s):∀ {x:V} {d:PyData} {u:Value},Den X.K H x d->RelV x u->d.canLay0=true->∃ as,Reads s.heap u d as
 | _,_,u,.non,r,_=>by cases (show u=Value.none from r); exact ⟨_,.none⟩
 | _,_,u,.bl b,r,_=>by cases (show u=Value.bool b from r); exact ⟨_,.bool b⟩
 | _,_,u,.int i,r,_=>by obtain ⟨t,q⟩:=(show ∃ t,u=Value.int i t from r); cases q; exact ⟨_,.int i t⟩
 | _,_,u,.str x,r,_=>by obtain ⟨t,q⟩:=(show ∃ t,u=Value.str x t from r); cases q; exact ⟨_,.str x t⟩
 | _,_,u,.lst (a:=a) h ds,r,cl=>by
  cases (show u=Value.ref a from r);obtain ⟨its,rv,⟨o,n,h1,h2,_,h3⟩,_⟩:=I.list h;obtain ⟨as,q⟩:=DenAll.reads I ds rv cl;exact ⟨_,.list h1 h2 h3 (by simpa using q)⟩
 | _,_,u,.tup (a:=a) h ds,r,cl=>by
  cases (show u=Value.ref a from r);obtain ⟨its,rv,⟨o,h1,h2,n,h3⟩,_⟩:=I.tuple h.1;obtain ⟨as,q⟩:=DenAll.reads I ds rv cl;exact ⟨_,.tuple h1 h2 h3 (by simpa using q)⟩
 | _,_,_,.dct _,_,cl=>absurd (show false=true from cl) Bool.false_ne_true
theorem DenAll.reads (I:Inv X pins σ H s):∀ {xs:List V} {ds:LP} {us:List Value},DenAll X.K H xs ds->Vals xs us->PyData.canLayAll0 ds=true->∃ as,ReadsAll s.heap us ds as
 | _,_,_,.nil,.nil,_=>⟨_,.nil⟩
 | _,d :: ds,_,.cons h t,.cons r rs,cl=>by
  have cl':(d.canLay0 && PyData.canLayAll0 ds)=true:=cl;rw [Bool.and_eq_true] at cl';obtain ⟨as,q⟩:=Den.reads I h r cl'.1;obtain ⟨bs,q'⟩:=DenAll.reads I t rs cl'.2;exact ⟨_,.cons q q'⟩
end
end
section
variable {X:Cx}
def rEqD (K:PySem.W.Frag):R2:=fun x y H Q=>∃ dx dy,Den K H x dx/\Den K H y dy/\dx.canLay0=true/\dy.canLay0=true/\dx.depth<=60/\Q (.bl (PyData.eqv dx dy)) H
def rNeD (K:PySem.W.Frag):R2:=fun x y H Q=>∃ dx dy,Den K H x dx/\Den K H y dy/\dx.canLay0=true/\dy.canLay0=true/\dx.depth<=60/\Q (.bl (!PyData.eqv dx dy)) H
theorem C5b (hu:X.A.units + 64 < cLine):OpR X (compareOp .Eq) (rEqD X.K):=by
 intro pins s σ H x y v u Q I rx ry h;obtain ⟨dx,dy,h1,h2,c1,c2,hd,q⟩:=h;obtain ⟨as,r1⟩:=h1.reads I rx c1;obtain ⟨bs,r2⟩:=h2.reads I ry c2;exact PySem.SeqAt.compareEq_reads r1 r2 c1 c2 (by omega) ⟨.bl _,H,I,rfl,q⟩
theorem C46 (hu:X.A.units + 64 < cLine):OpR X (compareOp .NotEq) (rNeD X.K):=by
 intro pins s σ H x y v u Q I rx ry h;obtain ⟨dx,dy,h1,h2,c1,c2,hd,q⟩:=h;obtain ⟨as,r1⟩:=h1.reads I rx c1;obtain ⟨bs,r2⟩:=h2.reads I ry c2;exact PySem.SeqAt.compareNe_reads r1 r2 c1 c2 (by omega) ⟨.bl _,H,I,rfl,q⟩
end
def Kp (p:Addr) (H H':Hp):Prop:=∀ b o,b≠p->H b=some o->H' b=some o
theorem Kp.upd {p:Addr} {H:Hp} {o:HO}:Kp p H (upd H p o):=fun b u n e=>by rw [C4 n]; exact e
theorem Kp.trans {p:Addr} {H H1 H2:Hp} (a:Kp p H H1) (b:Kp p H1 H2):Kp p H H2:=fun c o n e=>b c o n (a c o n e)
theorem Kp.refl {p:Addr} {H:Hp}:Kp p H H:=fun _ _ _ e=>e
theorem Same.kp {p:Addr} {H H':Hp} (a:Same H H'):Kp p H H':=fun b o _ e=>a b o e
theorem Same.upd {p:Addr} {H:Hp} {o:HO} (h:H p=none):Same H (upd H p o):=fun b u e=>by rw [C4 (E8 e h)]; exact e
theorem SqT.same {K:PySem.W.Frag} {H H':Hp} {a:Addr} {xs:List V} (e:Same H H') (h:SqT K H a xs):SqT K H' a xs:=by
 rcases h with (h | ⟨o,h⟩) | h
 ·exact .inl (.inl (e _ _ h))
 ·exact .inl (.inr ⟨o,e _ _ h⟩)
 ·exact .inr h
theorem at0 {α:Type} {x:α} {xs:List α}:atI (x :: xs) 0=some x:=F6 (j:=0) rfl
theorem at1 {α:Type} {x y:α} {xs:List α}:atI (x :: y :: xs) 1=some y:=F6 (j:=1) rfl
theorem at2 {α:Type} {x y z:α} {xs:List α}:atI (x :: y :: z :: xs) 2=some z:=F6 (j:=2) rfl
theorem at3 {α:Type} {x y z w:α} {xs:List α}:atI (x :: y :: z :: w :: xs) 3=some w:=F6 (j:=3) rfl
end L2
namespace L2
open PySem PySem.Spec PyProof.Rows
theorem A26 {prog:Program} {w:World} {A:Around} {R:Result->Shared->Prop} {s:Shared} {elt target iter:Expr} {ifs:List Expr} {scope:Scope} {pos:Pos} {it acc:Value} {env:Env} (I:Nat->Shared->Prop)
    (turn:∀ n s,I n s->wpAny (model prog w) A (pyNext it) (fun r s₁=>match r with
      | none=>R (.ok .next) s₁
      | some v=>wpAny (model prog w) A (letOwnedTupleGo target it v) (fun _ s₁'=>wpAny (model prog w) A (assign target env v) (fun _ s₂ =>
          wpAny (model prog w) A (forIn ifs true fun c r=>if r=true then do let ok <- isTrue c env (eval c env); pure (ForInStep.yield ok) else pure (ForInStep.yield r)) (fun ok s₃ =>
            if ok=true then wpAny (model prog w) A (eval elt env) (fun x s₄ =>
              wpAny (model prog w) A (call (.builtin "list.append") [acc,x]) (fun _ s₅=>∃ m,m < n/\I m s₅) (fun _ _=>False) s₄) (fun _ _=>False) s₃
            else ∃ m,m < n/\I m s₃) (fun _ _=>False) s₂) (fun _ _=>False) s₁') (fun _ _=>False) s₁) (fun _ _=>False) s)
    (n:Nat) (h:I n s):codeAny (model prog w) A (.compLoop (.ListComp elt [⟨target,iter,ifs,0⟩] scope pos) 0 it acc env) R s:=by
  refine codeAny_loop rfl I (fun n s hI=>?_) n h;show wpAny _ A ((compTurn (.ListComp elt [⟨target,iter,ifs,0⟩] scope pos) 0 it acc env).onRaise (fun x=>do noteFrame x env; theTreesLotGoes x)) _ _ s;refine wpAny_noted ?_;rw [compTurn_list];refine wpAny_bind (wpAny_standAt (wpAny_bind (wpAny_mono (turn n s hI) (fun r s₁ h₁=>?_) fun _ _ h'=>h'.elim)));cases r with
  | none=>exact wpAny_pure h₁
  | some v =>
    refine wpAny_bind (wpAny_mono h₁ (fun _ s₁' h₁'=>?_) fun _ _ h'=>h'.elim);refine wpAny_bind (wpAny_mono h₁' (fun _ s₂ h₂=>wpAny_bind (wpAny_mono h₂ (fun ok s₃ h₃=>?_) fun _ _ h'=>h'.elim)) fun _ _ h'=>h'.elim);cases ok with
    | false=>exact wpAny_pure ⟨rfl,h₃⟩
    | true =>
      exact wpAny_bind (wpAny_bind (wpAny_mono h₃ (fun x s₄ h₄=>wpAny_bind (wpAny_mono h₄ (fun _ s₅ h₅=>wpAny_pure (wpAny_pure ⟨rfl,h₅⟩)) fun _ _ h'=>h'.elim)) fun _ _ h'=>h'.elim))
def PTs (X:Cx) (ifs:List Expr) (t:TT):Prop :=
 ∀ (pins:List (Addr × Obj)) (s:Shared) (σ:St) (H:Hp) (Q:Bool->Hp->Prop),Inv X pins σ H s->t σ H Q ->
  wpAny (model X.prog X.w) X.A (forIn ifs true fun c r=>if r=true then do let ok <- isTrue c X.env (eval c X.env); pure (ForInStep.yield ok) else pure (ForInStep.yield r)) (TP X pins σ Q) X.xe s
def tYes:TT:=fun _ H Q=>Q true H
theorem C0r {X:Cx}:PTs X [] tYes:=fun pins s σ H Q I h=>wpAny_tests_nil ⟨H,I,h⟩
theorem C0q {X:Cx} {c:Expr} {t:TT} (h:PT X c t):PTs X [c] t:=fun pins s σ H Q I hw=>wpAny_tests_one (h pins s σ H Q I hw)
def Cx.block (X:Cx) (scope:Scope) (cl:List (Str × Addr)) (N':List Str) (s2:Shared) (H2:Hp) (fp:List Addr):Cx where
 prog:=X.prog
 w:=X.w
 K:=X.K
 mg:=X.mg
 base:=X.base
 A:=X.A
 N:=N'
 s₀:=s2
 H₀:=H2
 env:=compEnvC scope cl s2.heap.objs.size X.env
 outer:=X.stack
 stack:=X.stack
 ex:=fp
 fn:=fun _=>false
 calm:=X.calm
 pn:=[]
 xe:=fun _ _=>False
structure CompSc (X:Cx) (scope:Scope) (cl:List (Str × Addr)) (N':List Str) (cap:List (Option Nat)):Prop where
 clos:closureFor scope X.env=pure cl
 sub:∀ x c,cl.lookup x=some c->X.env.cells.lookup x=some c
 has:∀ x,((relabel scope X.env).names.lookup x=some .cell\/(relabel scope X.env).names.lookup x=some .free)->∃ c,cl.lookup x=some c
 kind:scope.kind=.function
 cell:∀ y ∈ scope.names,y.2≠.cell
 names:∀ y ∈ scope.names,y.2=.local->scope.names.lookup y.1=some .local
 nd:N'.Nodup
 len:cap.length=N'.length
 noloc:∀ x c,cl.lookup x=some c->X.env.kindOf x≠some .local
 capt:∀ (i:Nat) (x:Str) (j:Nat),N'[i]?=some x->cap[i]?=some (some j)->X.N[j]?=some x/\((relabel scope X.env).names.lookup x=some .cell\/(relabel scope X.env).names.lookup x=some .free)/\Vis X.env.scope x/\∃ c,cl.lookup x=some c
def capσ (cap:List (Option Nat)) (σ:St):St:=cap.map fun o=>o.bind fun j=>(σ[j]?).join
section
variable {X:Cx} {pins:List (Addr × Obj)} {σ:St} {H:Hp} {s:Shared} {scope:Scope} {cl:List (Str × Addr)} {N':List Str} {cap:List (Option Nat)} {fp:List Addr}
theorem B6v (I:Inv X pins σ H s) (C:CompSc X scope cl N' cap) (hf:∀ b ∈ fp,FpOk X pins H b) (ho:∀ b ∈ fp,∃ o,s.heap.get? b=some o):(X.block scope cl N' s H fp).Ok where
 mod:=I.ok.mod
 kind:=C.kind
 glob:=I.ok.glob
 blt:=I.ok.blt
 above:=Zv _
 inj:=fun x y c h1 h2=>I.ok.inj x y c (C.sub x c h1) (C.sub y c h2)
 has:=fun x h=>C.has x h
 cab:=fun x c h _=>absurd (show false=true from h) Bool.false_ne_true
 hd:=I.ok.hd
 frames:=I.ok.frames
 stk:=.inl rfl
 exf:=fun b hb=>⟨fun z=>by
  obtain ⟨o,e⟩:=ho b hb;exact absurd (Heap.lt_size e) (by rw [z]; exact Nat.lt_irrefl _),fun x c h=>(hf b hb).2.2.2.2.1 x c (C.sub x c h)⟩
 bs:=I.bs
 bsz:=Zx I.ok.bsz I.sz
 noex:=fun b o e hb=>by
  rcases (hf b hb).2.2.2.1 with z | z
  ·exact I.ok.noex b o e z
  ·exact absurd (Nat.lt_of_lt_of_le (Heap.lt_size e) (Zx I.ok.bsz z)) (Nat.lt_irrefl _)
 exfs:=fun b hb z=>by
  rcases List.mem_cons.mp (I.stkSub b z) with e | e
  ·exact (hf b hb).2.1 e
  ·exact (hf b hb).2.2.1 e
 funs:=I.stack
 frf:=I.stkFree
theorem A3f {h1:Heap} {tk:Nat} {m:Str->Option Value} (I:Inv X pins σ H s) (C:CompSc X scope cl N' cap) (hf:∀ b ∈ fp,FpOk X pins H b) (ho:∀ b ∈ fp,∃ o,s.heap.get? b=some o)
  (hn:h1.Ns s.heap.objs.size m) (hk:∀ b o,s.heap.get? b=some o->h1.get? b=some o):Inv (X.block scope cl N' s H fp) [] (capσ cap σ) H { s with heap:=h1,toks:=tk } where
 ok:=B6v I C hf ho
 os:=rfl
 bare:=I.bare
 base:=Un.kept hk
 loc:=⟨m,hn,fun i x v h1' h2 h3=>by
  unfold capσ at h2;rw [Zh] at h2;cases e:cap[i]? with
  | none=>rw [e] at h2; cases h2
  | some o =>
   rw [e] at h2;cases o with
   | none=>cases h2
   | some j =>
    obtain ⟨q1,q2,q3,c,q4⟩:=C.capt i x j h1' e;have hv:(σ[j]?).join=some v:=Zj h2;have hσ:σ[j]?=some (some v):=by
     cases z:σ[j]? with
     | none=>rw [z] at hv; cases hv
     | some y=>rw [z] at hv; cases (show y=some v from hv); rfl
    obtain ⟨m0,hn0,hl0⟩:=I.loc;obtain ⟨u,r,l⟩:=hl0 j x v q1 hσ q3;refine ⟨u,r,.inr ⟨q2,c,q4,?_⟩⟩;rcases l with ⟨l1,_⟩ | ⟨_,c',l2,l3⟩
    ·exact absurd l1 (C.noloc x c q4)
    ·have:=C.sub x c q4;rw [l2] at this;cases this;exact l3.keeps hk⟩
 cell:=fun x c h=>by
  obtain ⟨v,z⟩:=I.cell x c (C.sub x c h);exact ⟨v,z.keeps hk⟩
 free:=I.hok.fresh (Zv _)
 freeC:=fun x c h=>I.freeC x c (C.sub x c h)
 pin:=fun p hp=>absurd (show p ∈ ([]:List (Addr × Obj)) from hp) (by simp)
 hok:=I.hok.kept hk
 len:=by unfold capσ; rw [Zl]; exact C.len
theorem A3e {H':Hp} {s':Shared} {h':Heap} {σ':St} {pl:List (Addr × Obj)} (I:Inv X pins σ H s) (J:Inv (X.block scope cl N' s H fp) pl σ' H' s') (hf:∀ b ∈ fp,FpOk X pins H b) (hs:Heap.SameBut s.heap.objs.size s'.heap h') :
  Inv X pins σ H' { s' with heap:=h' }:=by
 have ne:∀ b o,s.heap.get? b=some o->b≠s.heap.objs.size:=fun b o e=>Nat.ne_of_lt (Heap.lt_size e);have B:Un (frs X.stack) fp H H' s.heap s'.heap:=J.base;refine I.call' (s':={ s' with heap:=h' }) (ch:=fp) J.os ⟨fun b o e n h1 h2=>?_,fun b o e n h1 h2=>?_,B.free,fun b o e h2=>?_,B.tups,B.frzs,B.tbls⟩ ?_ J.bare (fun b hb=>?_)
 ·show h'.get? b=some o;rw [hs.2 b (ne b o e)]; exact B.keep b o e n h1 h2
 ·show ∃ sl,h'.get? b=_;rw [hs.2 b (ne b o e)]; exact B.slot b o e n h1 h2
 ·show ∃ o',h'.get? b=_;rw [hs.2 b (ne b o e)]; exact B.there b o e h2
 ·intro b u e;have hfree:H' s.heap.objs.size=none:=J.free;have nC:∀ c v,H' c=some v->c≠s.heap.objs.size:=fun c v q z=>by rw [z,hfree] at q; cases q
  refine (J.hok b u e).stay (fun c v hc q=>?_) (fun _ q=>q) fun _ _ q=>q;show h'.get? c=some v;have:c≠s.heap.objs.size:=by
   rcases hc with z | z
   ·rw [z]; exact nC b u e
   ·exact nC c _ z
  rw [hs.2 c this]; exact q
 ·obtain ⟨f0,f1,f2,f3,f4,f5⟩:=hf b hb;exact ⟨f3,f1,f4,f5⟩
end
def Y5 (J:It) (g:TG) (tt:TT) (te:TE) (D:Addr) (Fin:Hp->Prop) (σ0:St) (H1:Hp):Prop :=
 ∃ W:Nat->Nat->St->Hp->List V->Prop,(∃ m,W 0 m σ0 (upd H1 D (.lst [])) [])/\∀ i m σ' H' ys,W i m σ' H' ys->H' D=some (.lst ys)/\ys.length < sizeLine /\
  ((J.stop i H'/\Fin H')\/(J.go i H'/\∀ x H2,J.yld i H' x H2->g x σ' H2 fun σ2 H3=>tt σ2 H3 fun b H4=>if b=true then
   te σ2 H4 fun y H5=>∃ zs,H5 D=some (.lst zs)/\zs.length < sizeLine/\∃ m',m' < m/\W (i + 1) m' σ2 (upd H5 D (.lst (zs++[y]))) (zs++[y])
   else ∃ m',m' < m/\W (i + 1) m' σ2 H4 ys))
def A7b (wi:TI) (g:TG) (tt:TT) (te:TE) (cap:List (Option Nat)):TE:=fun σ H Q=>wi σ H fun J H1=>∀ D,H1 D=none->Y5 J g tt te D (fun H'=>Q (.ref D) H') (capσ cap σ) H1
section
variable {X:Cx} {scope:Scope} {cl:List (Str × Addr)} {N':List Str} {cap:List (Option Nat)} {elt tg iter:Expr} {ifs:List Expr} {wi:TI} {g:TG} {tt:TT} {te:TE} {pos:Pos}
theorem A3d {pins:List (Addr × Obj)} {σ:St} {H2:Hp} {s2:Shared} {it:Addr} {fp:List Addr} {tn:Nat->Heap->Prop} {J:It} {E:Value->Shared->Prop} {RR:Value->Addr->Result->Shared->Prop} {Fin:Addr->Hp->Prop}
  (hc:X.calm=true) (C:CompSc X scope cl N' cap) (I2:Inv X pins σ H2 s2) (T:Turn X.prog X.w X.K tg J fp it tn) (st2:tn 0 s2.heap) (f2:∀ b ∈ fp,FpOk X pins H2 b)
  (hg:∀ s3 H3 fp,PG (X.block scope cl N' s3 H3 fp) tg g) (ht:∀ s3 H3 fp,PTs (X.block scope cl N' s3 H3 fp) ifs tt) (he:∀ s3 H3 fp,PE (X.block scope cl N' s3 H3 fp) elt te)
  (go:∀ D,H2 D=none->Y5 J g tt te D (Fin D) (capσ cap σ) H2)
  (out:∀ (D C:Addr) (s':Shared) (m:Str->Option Value) (H':Hp),s'.heap.Ns C m->C≠X.env.locals->H' C=none->X.s₀.heap.objs.size<=C->(∀ x c,X.env.cells.lookup x=some c->c≠C)->(∀ p ∈ X.pn++pins,p.1≠C)->Fin D H'->Inv X pins σ H' s'->RR (.ref D) C (.ok .next) s') :
  wpAny (model X.prog X.w) X.A (newList []) (fun acc s₃=>wpAny (model X.prog X.w) X.A (newFunctionEnv scope X.env.globals cl [] X.env.qual none .none (some X.env)) (fun cenv s₄ =>
   codeAny (model X.prog X.w) X.A (.compStart (.ListComp elt [⟨tg,iter,ifs,0⟩] scope pos) 0 (.ref it) acc { cenv with scope:=relabel scope X.env }) (RR acc cenv.locals) s₄) E s₃) E s2:=by
 refine wpAny_newObj_type (wpAny_newFunctionEnv C.cell (by intro y hy; simp at hy) (fun h₁ hns₁ hsb₁=>?_) C.kind);have hD:H2 s2.heap.objs.size=none:=I2.hok.fresh (Zv _);obtain ⟨W,⟨m0,w0⟩,turn⟩:=go _ hD;have I3:Inv X pins σ (upd H2 s2.heap.objs.size (.lst [])) { s2 with heap:=s2.heap.push { cls:=.type "list",dict:=none,data:=.seq ([]:List Value).toArray } } :=
  I2.laid (t':=s2.toks) (o:=.lst []) (fun b u e=>Heap.get?_push_of_some _ e) (Zv _) ⟨Nat.zero_le _,[],0,.nil,Heap.get?_push_size _ rfl⟩
 have f3:∀ b ∈ fp,FpOk X pins (upd H2 s2.heap.objs.size (.lst [])) b:=fun b hb=>by
  obtain ⟨f0,fr⟩:=f2 b hb;obtain ⟨o,e,_⟩:=T.obj _ _ st2 b hb;exact ⟨by rw [C4 (Nat.ne_of_lt (Heap.lt_size e))]; exact f0,fr⟩
 generalize hs3:({ s2 with heap:=s2.heap.push { cls:=.type "list",dict:=none,data:=.seq ([]:List Value).toArray } }:Shared)=s3 at hns₁ hsb₁ I3 ⊢;have o3:∀ b o,s2.heap.get? b=some o->s3.heap.get? b=some o:=fun b o e=>by rw [<- hs3]; exact Heap.get?_push_of_some _ e
 have hk:∀ b o,s3.heap.get? b=some o->h₁.get? b=some o:=fun b o e=>by
  rw [hsb₁.2 b (Nat.ne_of_lt (Heap.lt_size e))]; exact Heap.get?_push_of_some _ e
 have st3:tn 0 s3.heap:=T.keep _ _ _ st2 fun b _ o e=>o3 b o e;have ho:∀ b ∈ fp,∃ o,s3.heap.get? b=some o:=fun b hb=>let ⟨o,e,_⟩:=T.obj _ _ st3 b hb; ⟨o,e⟩;have I4:=A3f (tk:=s3.toks + ([]:List (Str × Value)).length) I3 C f3 ho hns₁ hk;have st4:tn 0 h₁:=T.keep _ _ _ st3 fun b _ o e=>hk b o e;have hX:∀ {H':Hp} {pl:List (Addr × Obj)},(∀ b ∈ fp,H' b=none)->(∀ p ∈ pl,p.1 ∉ fp)->∀ b ∈ fp,FpOk (X.block scope cl N' s3 (upd H2 s2.heap.objs.size (.lst [])) fp) pl H' b:=fun {H' pl} hn hp b hb=>by
  refine ⟨hn b hb,I4.ok.exf b hb |>.1,I4.ok.exfs b hb,.inl hb,(I4.ok.exf b hb).2,fun p hp' z=>?_⟩;have hp'':p ∈ pl:=by simpa [Cx.block] using hp'
  exact hp p hp'' (by rw [z]; exact hb)
 have fr3:∀ b ∈ fp,(upd H2 s2.heap.objs.size (.lst [])) b=none:=fun b hb=>(f3 b hb).1;have loop:∀ s₅:Shared,s₅={ s3 with heap:=h₁,toks:=s3.toks + ([]:List (Str × Value)).length } ->
   codeAny (model X.prog X.w) X.A (.compLoop (.ListComp elt [⟨tg,iter,ifs,0⟩] scope pos) 0 (.ref it) (.ref s2.heap.objs.size) (compEnvC scope cl s3.heap.objs.size X.env)) (RR (.ref s2.heap.objs.size) s3.heap.objs.size) s₅:=by
  rintro s₅ rfl;refine A26 (fun n s'=>∃ i σ' H' ys,Inv (X.block scope cl N' s3 (upd H2 s2.heap.objs.size (.lst [])) fp) [] σ' H' s'/\tn i s'.heap/\(∀ b ∈ fp,H' b=none)/\W i n σ' H' ys) ?_ m0 ⟨0,_,_,[],I4,st4,fr3,w0⟩;rintro n s6 ⟨i,σ6,H6,ys,I6,st6,fr6,w6⟩;obtain ⟨hl6,hz6,hgo⟩:=turn i n σ6 H6 ys w6;rcases hgo with ⟨stop,fin⟩ | ⟨go',step⟩
  ·refine wpAny_mono (T.done (X.block scope cl N' s3 (upd H2 s2.heap.objs.size (.lst [])) fp) rfl rfl rfl hc i [] s6 σ6 H6 (fun _ _=>False) I6 (hX fr6 (fun _ z=>nomatch z)) st6 stop) (fun r s7 ⟨hr,I7⟩=>?_) fun _ _ z=>z.elim;subst hr;obtain ⟨m7,hn7,_⟩:=id I7.loc;refine out _ _ s7 m7 H6 hn7 (Nat.ne_of_gt I3.lt) I7.free I3.sz (fun x c e z=>?_) (fun p hp z=>?_) fin (A3e I3 I7 f3 (.refl ..))
   ·obtain ⟨v,q⟩:=I3.cell x c e;exact absurd q.lt (by rw [z]; exact Nat.lt_irrefl _)
   ·exact absurd (Heap.lt_size (I3.pin p hp).1) (by rw [z]; exact Nat.lt_irrefl _)
  ·refine wpAny_mono (T.item (X.block scope cl N' s3 (upd H2 s2.heap.objs.size (.lst [])) fp) rfl rfl rfl hc i [] s6 σ6 H6 (fun _ _=>False) I6 (hX fr6 (fun _ z=>nomatch z)) st6 go') (fun r s7 ⟨u,hr,h7⟩=>?_) fun _ _ z=>z.elim;subst hr;refine wpAny_mono h7 (fun _ s8 ⟨x,H8,I8,r8,y8,st8,fr8⟩=>?_) fun _ _ z=>z.elim;have I8':=I8.pinned (hX fr8 (fun _ z=>nomatch z)) (T.obj _ _ st8);have again:∀ {s9:Shared} {σ9:St} {H9:Hp},Inv (X.block scope cl N' s3 (upd H2 s2.heap.objs.size (.lst [])) fp) ([]++W9 fp s8.heap) σ9 H9 s9->∀ {zs:List V},(∃ m',m' < n/\W (i + 1) m' σ9 H9 zs) ->
     ∃ m,m < n/\∃ i σ' H' ys,Inv (X.block scope cl N' s3 (upd H2 s2.heap.objs.size (.lst [])) fp) [] σ' H' s9/\tn i s9.heap/\(∀ b ∈ fp,H' b=none)/\W i m σ' H' ys:=fun {s9 σ9 H9} I9 {zs} ⟨m',hm,w9⟩=>by
    refine ⟨m',hm,i + 1,σ9,H9,zs,I9.unpinned,T.keep _ _ _ st8 fun b hb o e=>(I9.pin (b,o) (Zw _ (Zw _ (J0 hb e)))).1,fun b hb=>?_,w9⟩;obtain ⟨o,e,d⟩:=T.obj _ _ st8 b hb;exact (I9.pin (b,o) (Zw _ (Zw _ (J0 hb e)))).2.1
   refine wpAny_mono (hg _ _ _ _ s8 σ6 H8 x u _ I8' r8 (step x H8 y8)) (fun _ s9 ⟨σ9,H9,I9,q9⟩=>?_) fun _ _ z=>z.elim;refine wpAny_mono (ht _ _ _ _ s9 σ9 H9 _ I9 q9) (fun ok s10 ⟨H10,I10,q10⟩=>?_) fun _ _ z=>z.elim;cases ok with
   | false=>exact again I10 q10
   | true =>
    rw [if_pos rfl];refine wpAny_mono (he _ _ _ _ s10 σ9 H10 _ I10 q10) (fun yv s11 ⟨y,H11,I11,r11,zs,hz,hlen,q11⟩=>?_) fun _ _ z=>z.elim;refine wpAny_mono (C8 (X:=X.block scope cl N' s3 (upd H2 s2.heap.objs.size (.lst [])) fp) _ s11 σ9 H11 (.ref s2.heap.objs.size) [y] (.ref s2.heap.objs.size) [yv] (fun _ H'=>∃ m',m' < n/\W (i + 1) m' σ9 H' (zs++[y])) I11 rfl (.cons r11 .nil) ⟨_,zs,y,rfl,rfl,hz,hlen,q11⟩) (fun _ s12 ⟨_,H12,I12,_,q12⟩=>?_) fun _ _ z=>z.elim;exact again I12 q12
 exact codeAny_compStart_list (loop _ rfl) (T.self _ 0 _ _ _ st4 (loop _ rfl))
theorem C09 (hc:X.calm=true) (C:CompSc X scope cl N' cap) (hi:PI X tg iter wi) (hg:∀ s3 H3 fp,PG (X.block scope cl N' s3 H3 fp) tg g) (ht:∀ s3 H3 fp,PTs (X.block scope cl N' s3 H3 fp) ifs tt)
  (he:∀ s3 H3 fp,PE (X.block scope cl N' s3 H3 fp) elt te) (hs:∀ x,foldedSetIterable iter X.env x=pure x:=by intro _; rfl):PE X (.ListComp elt [⟨tg,iter,ifs,0⟩] scope pos) (A7b wi g tt te cap):=by
 intro pins s σ H Q I h;rw [eval_ListComp];refine wpAny_comprehension_free (use:=none) rfl hs C.clos C.kind C.names (thn (hi pins s σ H _ I h) fun v s1 h1=>thn h1 fun itv s2 h2=>?_);obtain ⟨it,fp,tn,J,H2,e,I2,T,st2,f2,go⟩:=h2;subst e;refine A3d (RR:=fun acc C=>compPost (model X.prog X.w) X.A X.xe none (EP X pins σ Q) acc C) (Fin:=fun D H'=>Q (.ref D) H') hc C I2 T st2 f2 hg ht he go ?_;intro D C' s' m H' hn n1 n2 n3 n4 n5 fin inv;exact ⟨m,hn,fun h' hs'=>⟨.ref D,H',inv.turned (t':=s'.toks) (fun b o hb e=>(hs'.2 b hb).trans e) n2 n1 (.inr n3) n4 n5,rfl,fin⟩⟩
end
end L2
namespace L2
open PySem PySem.Spec PyProof.Rows
def A28 (env:Env):List (Str × NameKind)->List (Str × Addr)->List (Str × Addr)
 | [],acc=>acc
 | (n,k) :: r,acc=>A28 env r (if (k == .free)=true then (n,(env.cells.lookup n).getD 0) :: acc else acc)
theorem A1m {env:Env}:∀ (l:List (Str × NameKind)) (acc:List (Str × Addr)),(∀ p ∈ l,p.2=.free->(env.cells.lookup p.1).isSome=true) ->
  (forIn l acc (fun x s=>match x with
   | (name,kind)=>if (kind == NameKind.free)=true then do
     let a <- cellOf env name
     pure (ForInStep.yield ((name,a) :: s))
    else pure (ForInStep.yield s)):Sem (List (Str × Addr)))=pure (A28 env l acc)
 | [],acc,_=>rfl
 | (n,k) :: r,acc,h=>by
  rw [List.forIn_cons];have hr:=fun p hp=>h p (Zr _ hp);by_cases hk:(k == NameKind.free)=true
  ·have h1:=h (n,k) Zy (by simpa using hk);obtain ⟨c,hc⟩:=Option.isSome_iff_exists.mp h1;have hc:env.cells.lookup n=some c:=hc;have e1:cellOf env n=pure c:=by unfold cellOf; rw [hc]
   simp only [hk,if_true,e1,pure_bind];rw [A1m r _ hr];show _=pure (A28 env r (if (k == .free)=true then (n,(env.cells.lookup n).getD 0) :: acc else acc));rw [if_pos hk,hc];rfl
  ·simp only [hk,Bool.false_eq_true,if_false,pure_bind];rw [A1m r _ hr];show _=pure (A28 env r (if (k == .free)=true then (n,(env.cells.lookup n).getD 0) :: acc else acc));rw [if_neg hk]
theorem A27 {env:Env}:∀ (l:List (Str × NameKind)) (acc:List (Str × Addr)) (p:Str × Addr),p ∈ A28 env l acc->p ∈ acc\/((p.1,NameKind.free) ∈ l/\p.2=(env.cells.lookup p.1).getD 0)
 | [],acc,p,h=>.inl h
 | (n,k) :: r,acc,p,h=>by
  rcases A27 r _ p h with z | ⟨z,e⟩
  ·by_cases hk:(k == NameKind.free)=true
   ·rw [if_pos hk] at z;rcases List.mem_cons.mp z with rfl | z
    ·right;have:k=.free:=by simpa using hk
     subst this;exact ⟨Zy,rfl⟩
    ·exact .inl z
   ·rw [if_neg hk] at z;exact .inl z
  ·exact .inr ⟨Zr _ z,e⟩
theorem Y6 {env:Env}:∀ (l:List (Str × NameKind)) (acc:List (Str × Addr)) (x:Str),((∃ c,(x,c) ∈ acc)\/(x,NameKind.free) ∈ l)->∃ c,(x,c) ∈ A28 env l acc
 | [],acc,x,h=>by
  rcases h with h | h
  ·exact h
  ·exact absurd h (by simp)
 | (n,k) :: r,acc,x,h=>by
  refine Y6 r _ x ?_;rcases h with ⟨c,h⟩ | h
  ·left;by_cases hk:(k == NameKind.free)=true
   ·rw [if_pos hk]; exact ⟨c,Zr _ h⟩
   ·rw [if_neg hk]; exact ⟨c,h⟩
  ·rcases List.mem_cons.mp h with e | h
   ·left;cases e;rw [if_pos (by rfl)];exact ⟨_,Zy⟩
   ·exact .inr h
theorem N3 {β:Type} {x:Str}:∀ {l:List (Str × β)} {c:β},(x,c) ∈ l->∃ c',l.lookup x=some c'
 | (n,d) :: r,c,h=>by
  by_cases e:x=n
  ·subst e; exact ⟨d,by simp [List.lookup_cons]⟩
  ·rcases List.mem_cons.mp h with z | z
   ·cases z; exact absurd rfl e
   ·obtain ⟨c',q⟩:=N3 z;refine ⟨c',?_⟩;rw [List.lookup_cons];have:(x == n)=false:=by simpa using e
    rw [this]; exact q
theorem P3 {scope:Scope} {env:Env} {x:Str} {k:NameKind} (hcell:∀ y ∈ scope.names,y.2≠.cell) (h:(relabel scope env).names.lookup x=some k) (hk:k=.cell\/k=.free):(x,NameKind.free) ∈ scope.names:=by
 have h1:=PySem.mem_of_lookup h;obtain ⟨⟨n,k'⟩,hm,e⟩:=List.mem_map.mp (show (x,k) ∈ scope.names.map _ from h1);dsimp only at e;split at e
 ·rename_i q;cases e;simp only [Bool.and_eq_true] at q;have:k'=.free:=by simpa using q.1.1
  subst this;exact hm
 ·cases e;rcases hk with rfl | rfl
  ·exact absurd rfl (hcell _ hm)
  ·exact hm
theorem O1 {env:Env} {x:Str}:∀ {l:List (Str × NameKind)},l.lookup x=some .free ->
  (l.map fun (n,k)=>if (k == NameKind.free && env.scope.kind == .function && env.kindOf n == some .cell) then (n,NameKind.cell) else (n,k)).lookup x=some .cell \/
  (l.map fun (n,k)=>if (k == NameKind.free && env.scope.kind == .function && env.kindOf n == some .cell) then (n,NameKind.cell) else (n,k)).lookup x=some .free
 | [],h=>by simp at h
 | (n,k) :: r,h=>by
  rw [List.lookup_cons] at h;rw [List.map_cons];dsimp only;by_cases e:(x == n)=true
  ·rw [e] at h;have hk:k=.free:=by simpa using h
   subst hk;by_cases q:(NameKind.free == NameKind.free && env.scope.kind == .function && env.kindOf n == some .cell)=true
   ·left; rw [if_pos q,List.lookup_cons,e]
   ·right; rw [if_neg q,List.lookup_cons,e]
  ·have e':(x == n)=false:=by simpa using e
   rw [e'] at h;have:=O1 (env:=env) h;by_cases q:(k == NameKind.free && env.scope.kind == .function && env.kindOf n == some .cell)=true
   ·rw [if_pos q,List.lookup_cons,e']; exact this
   ·rw [if_neg q,List.lookup_cons,e']; exact this
theorem A19 {scope:Scope} {env:Env} {x:Str} (h:scope.names.lookup x=some .free):(relabel scope env).names.lookup x=some .cell\/(relabel scope env).names.lookup x=some .free:=O1 h
theorem B9 {X:Cx} {scope:Scope} (N':List Str) (cap:List (Option Nat))
  (h1:scope.names.all (fun p=>!(p.2 == .free) || ((X.env.cells.lookup p.1).isSome && !(X.env.kindOf p.1 == some .local)))=true:=by exact rfl)
  (hk:scope.kind=.function:=by exact rfl) (h2:scope.names.all (fun p=>!(p.2 == .cell))=true:=by exact rfl) (h3:scope.names.all (fun p=>!(p.2 == .local) || scope.names.lookup p.1 == some .local)=true:=by exact rfl)
  (nd:N'.Nodup:=by decide +kernel) (len:cap.length=N'.length:=by exact rfl)
  (h4:(N'.zip cap).all (fun q=>match q.2 with | none=>true | some j=>(X.N[j]? == some q.1) && (scope.names.lookup q.1 == some .free) && (X.env.scope.names.lookup q.1 == some .cell || X.env.scope.names.lookup q.1 == some .free))=true:=by exact rfl) :
  CompSc X scope (A28 X.env scope.names []) N' cap:=by
 have hfree:∀ p ∈ scope.names,p.2=.free->(X.env.cells.lookup p.1).isSome=true/\X.env.kindOf p.1≠some .local:=fun p hp e=>by
  have:=List.all_eq_true.mp h1 p hp;rw [e] at this;have this:((X.env.cells.lookup p.1).isSome && !(X.env.kindOf p.1 == some .local))=true:=this;rw [Bool.and_eq_true] at this;refine ⟨this.1,fun z=>?_⟩;rw [z] at this;exact absurd this.2 (by decide)
 have hcell:∀ y ∈ scope.names,y.2≠.cell:=fun y hy e=>by
  have:=List.all_eq_true.mp h2 y hy;rw [e] at this;exact absurd this (by decide)
 have memsub:∀ x c,(A28 X.env scope.names []).lookup x=some c->(x,NameKind.free) ∈ scope.names/\X.env.cells.lookup x=some c:=fun x c h=>by
  rcases A27 _ _ _ (PySem.mem_of_lookup h) with z | ⟨z,e⟩
  ·exact absurd z (by simp)
  ·refine ⟨z,?_⟩;obtain ⟨c',hc'⟩:=Option.isSome_iff_exists.mp (hfree _ z rfl).1;have hc':X.env.cells.lookup x=some c':=hc';have e:c=(X.env.cells.lookup x).getD 0:=e;rw [hc'] at e ⊢;exact congrArg some e.symm
 refine ⟨?_,fun x c h=>(memsub x c h).2,fun x h=>?_,hk,hcell,fun y hy e=>?_,nd,len,fun x c h=>(hfree _ (memsub x c h).1 rfl).2,fun i x j hi hc=>?_⟩
 ·unfold closureFor;show (forIn scope.names [] _ >>= fun r=>pure r)=_;rw [A1m scope.names [] fun p hp e=>(hfree p hp e).1];rfl
 ·have hm:(x,NameKind.free) ∈ scope.names:=by
   rcases h with h | h
   ·exact P3 hcell h (.inl rfl)
   ·exact P3 hcell h (.inr rfl)
  obtain ⟨c,hc⟩:=Y6 (env:=X.env) scope.names [] x (.inr hm);exact N3 hc
 ·have:=List.all_eq_true.mp h3 y hy;rw [e] at this;simpa using this
 ·have hz:(x,some j) ∈ N'.zip cap:=by
   refine List.mem_iff_getElem?.mpr ⟨i,?_⟩;rw [List.getElem?_zip_eq_some];exact ⟨hi,hc⟩
  have:=List.all_eq_true.mp h4 _ hz;simp only [Bool.and_eq_true,Bool.or_eq_true,beq_iff_eq] at this;obtain ⟨⟨q1,q2⟩,q3⟩:=this;refine ⟨q1,A19 q2,?_,?_⟩
  ·rcases q3 with q | q
   ·exact .inr (.inl q)
   ·exact .inr (.inr q)
  ·obtain ⟨c,hc⟩:=Y6 (env:=X.env) scope.names [] x (.inr (PySem.mem_of_lookup q2));exact N3 hc
def M9 (wi:TI) (g:TG) (tt:TT) (te:TE) (cap:List (Option Nat)) (i:Nat):TS:=fun D σ H=>wi σ H fun J H1=>∀ l,H1 l=none->Y5 J g tt te l (fun H'=>D.nx (σ.set i (some (.ref l))) H') (capσ cap σ) H1
section
variable {X:Cx} {scope:Scope} {cl:List (Str × Addr)} {N':List Str} {cap:List (Option Nat)} {elt tg iter:Expr} {ifs:List Expr} {wi:TI} {g:TG} {tt:TT} {te:TE} {pos spos py:Pos} {y:Str} {i:Nat}
theorem A7i (hc:X.calm=true) (hN:X.N.Nodup) (hi:X.N[i]?=some y) (hy:X.env.scope.names.lookup y=some .local) (C:CompSc X scope cl N' cap) (hit:PI X tg iter wi) (hg:∀ s3 H3 fp,PG (X.block scope cl N' s3 H3 fp) tg g)
  (ht:∀ s3 H3 fp,PTs (X.block scope cl N' s3 H3 fp) ifs tt) (he:∀ s3 H3 fp,PE (X.block scope cl N' s3 H3 fp) elt te)
  (hsw:swapsWith (.ListComp elt [⟨tg,iter,ifs,0⟩] scope pos) (some (.Name y py)) spos.line X.env=pure true) (hs:∀ x,foldedSetIterable iter X.env x=pure x:=by intro _; rfl) :
  PS X (.Assign [.Name y py] (.ListComp elt [⟨tg,iter,ifs,0⟩] scope pos) spos) (M9 wi g tt te cap i):=by
 intro pins s σ H D I h;rw [exec_Assign_Name_used _ _ _ _ hsw];refine wpAny_bind (wpAny_standAt (wpAny_bind ?_));show wpAny _ X.A (do let _ <- comprehension (.ListComp elt [⟨tg,iter,ifs,0⟩] scope pos) scope X.env _ (newList []) false (eval iter X.env) (some (assign (.Name y py) X.env))) _ _ s;refine wpAny_bind (wpAny_mono (wpAny_comprehension_free (use:=some (assign (.Name y py) X.env)) (Q:=fun _ s'=>SP X pins D .next s') rfl hs C.clos C.kind C.names
  (thn (hit pins s σ H _ I h) fun v s1 h1=>thn h1 fun itv s2 h2=>?_)) (fun _ s' hq=>wpAny_pure (wpAny_pure hq)) fun _ _ e=>e)
 obtain ⟨it,fp,tn,J,H2,e,I2,T,st2,f2,go⟩:=h2;subst e;refine A3d (RR:=fun acc C=>compPost (model X.prog X.w) X.A X.xe (some (assign (.Name y py) X.env)) (fun _ s'=>SP X pins D .next s') acc C) (Fin:=fun l H'=>D.nx (σ.set i (some (.ref l))) H') hc C I2 T st2 f2 hg ht he go ?_;intro l C' s' m H' hn n1 n2 n3 n4 n5 fin inv;show wpAny _ X.A (assign (.Name y py) X.env (.ref l)) _ _ _;refine wpAny_assign_Name (V9 (v:=.ref l) inv hN hi (.inl hy) rfl (fun s'' I'' ⟨a,sb,ha⟩=>?_) (.inr hy));have na:C'≠a:=by
  rcases ha with e | e
  ·rw [e]; exact n1
  ·exact (n4 _ _ e).symm
 exact ⟨m,hn.sameBut sb na,fun h' hs'=>⟨_,H',I''.turned (t':=s''.toks) (fun b o hb e=>(hs'.2 b hb).trans e) n2 n1 (.inr n3) n4 n5,fin⟩⟩
end
section
variable {X:Cx} {K:PySem.W.Frag}
theorem C07 {pos:Pos} {es:List Expr} {k:Nat} {t:TGs} {n:Nat} (h:X.K=K) (hc:X.calm=true) (hg:PGs X es t)
  (hn:(assignEach es X.env).length=n:=by rfl) (hst:(assignEach es X.env).findIdx? (·.1)=none:=by rfl):PG X (.Tuple es k pos) (gTup K n t):=by subst h; exact C34 hc hg hn hst
end
end L2
namespace Prf
open PySem L2 My
abbrev Hpp:=L2.Hp
theorem ifD {p:Prop} [Decidable p] {A B:Prop} (h1:p->A) (h2:¬ p->B):if decide p=true then A else B:=by
 by_cases h:p
 ·rw [Zk h]; exact h1 h
 ·rw [Zd h]; exact h2 h
structure StAt (H:Hpp) (p:Addr):Prop where
 ex:∃ (c m:Int) (f:Bool),H p=some (.lst [.int c,.int m,.bl f])/\0<=m/\m < 2147483648
theorem StAt.same {H H':Hpp} {p:Addr} (h:StAt H p) (e:Same H H'):StAt H' p:=by
 obtain ⟨c,m,f,h,r⟩:=h.ex; exact ⟨c,m,f,e _ _ h,r⟩
theorem StAt.kp {H H':Hpp} {p l:Addr} (h:StAt H p) (n:p≠l) (e:Kp l H H'):StAt H' p:=by
 obtain ⟨c,m,f,h,r⟩:=h.ex; exact ⟨c,m,f,e _ _ n h,r⟩
def A41 (K:PySem.W.Frag):Sp:=fun vs H Q _=>∃ (a:Addr) (ns:List Int) (k:Int),vs=[.ref a,.int k]/\SqL K H a (ns.map V.int)/\0<=k/\k<=63/\∀ p H',H p=none->StAt H' p->Kp p H H'->Q (.ref p) H'
def A82:Sp:=fun vs H Q _=>∃ (p:Addr) (n:Int),vs=[.ref p,.int n]/\StAt H p/\0 < n/\Sm 4000 n/\∀ d H',0<=d->d < n->StAt H' p->Kp p H H'->Q (.int d) H'
def C0c (K:PySem.W.Frag):Sp:=fun vs H Q _=>∃ (a:Addr) (ns:List Int),vs=[.ref a]/\SqL K H a (ns.map V.int)/\ns.length<=63/\∀ H',Q (.bl true) H'
theorem sm32 {m:Int} (h0:0<=m) (h1:m < 2147483648):Sm 8000 m:=Sm.mono (k:=32) (by unfold Sm; omega) (by decide)
theorem A0k {m:Int} (n:Nat) (h:m.natAbs < 2 ^ 64:=by decide):Sm 8000 m:=Sm.mono (k:=64) h (by decide)
theorem A14 {k:Nat} {t b:Int} (h:Sm k b) (hb:b≠0):Sm k ((Int.gcd t b:Nat):Int):=by
 have h1:Int.gcd t b ∣ b.natAbs:=Nat.gcd_dvd_right _ _;have h2:=Nat.le_of_dvd (by omega) h1;exact h.le (by simpa using h2)
theorem C3c {k:Nat} {t b:Int} (h:Sm k b) (hb:b≠0):Sm k (sh t b):=by
 have h1:Int.gcd t b ∣ b.natAbs:=Nat.gcd_dvd_right _ _;have h2:=Nat.le_of_dvd (by omega) h1;exact h.le (by rw [C3i]; exact h2)
end Prf
namespace Prf
open PySem L2 My
theorem B4g (n:Nat) (h:(n:Int)<=1000000:=by decide):CPow 10 (n:Int):=⟨by omega,h,by decide⟩
theorem sm4 (n:Int) (h:n.natAbs < 2 ^ 64:=by decide):Sm 4000 n:=Sm.mono (k:=64) h (by decide)
theorem A42 {k:Int} (h0:0<=k) (h1:k<=63):Sm 8000 k:=sm32 h0 (by omega)
theorem C3d {k:Int} (h0:0<=k) (h1:k<=63):Sm 20 k:=by unfold Sm; omega
theorem C3e (b:Bool):Sm 8000 (if b=true then (1:Int) else 0):=by cases b <;> exact A0k 0
theorem B87:kitB "tuple" "tuple"=some true:=by decide +kernel
theorem B9h:kitB "int" "bool"=some false:=by decide +kernel
end Prf
namespace Prf
open PySem L2 My
inductive R2L {α:Type} (P:Addr->α->Prop):List V->List α->Prop
 | nil:R2L P [] []
 | cons {a:Addr} {q:α} {rs:List V} {qs:List α}:P a q->R2L P rs qs->R2L P (.ref a :: rs) (q :: qs)
section
variable {α:Type} {P P':Addr->α->Prop}
theorem R2L.get:∀ {rs qs} {i:Nat} {x:V},R2L P rs qs->rs[i]?=some x->∃ a q,x=.ref a/\qs[i]?=some q/\P a q
 | _,_,_,_,.nil,e=>by simp at e
 | _,_,0,_,.cons h _,e=>by simp at e; subst e; exact ⟨_,_,rfl,rfl,h⟩
 | _,_,i + 1,x,.cons _ t,e=>by
  obtain ⟨a,q,h1,h2,h3⟩:=R2L.get (i:=i) (x:=x) t (by simpa using e);exact ⟨a,q,h1,by simpa using h2,h3⟩
end
structure OfOk (cs:LR) (a b c d:Nat):Prop where
 ne:1<=cs.length
 le:cs.length<=5
 dec:Dec cs
 sm:∀ x ∈ cs,SmR a b x.1/\SmR c d x.2
def dq (q:Rat):PyData:=.tuple [.int q.num,.int q.den]
def dcn (c:Rat × Rat):PyData:=.tuple [dq c.1,dq c.2]
theorem B4e:∀ cs:LR,PyData.canLayAll0 (cs.map dcn)=true
 | []=>rfl
 | c :: r=>by
  show ((dcn c).canLay0 && PyData.canLayAll0 (r.map dcn))=true;rw [show (dcn c).canLay0=true from rfl,B4e r]; rfl
theorem A24:∀ cs:LR,PyData.depthAll (cs.map dcn)<=2
 | []=>Nat.zero_le _
 | c :: r=>by
  show max (dcn c).depth (PyData.depthAll (r.map dcn))<=2;have h1:=A24 r;have h2:(dcn c).depth=2:=rfl;omega
theorem Q3 {k:Nat} {z:Int} {B:Nat} (h0:-(B:Int)<=z) (h1:z<=B) (hB:B < 2 ^ k):Sm k z:=by
 unfold Sm; omega
end Prf
set_option maxHeartbeats 4000000
namespace L2
open PySem
theorem SqD.same {K:PySem.W.Frag} {F F':Hp} {a:Addr} {xs:List V} (e:Same F F') (h:SqD K F a xs):SqD K F' a xs:=⟨SqT.same e h.1,h.2.imp (e _ _) id⟩
mutual
theorem Den.same {K:PySem.W.Frag} {F F':Hp} (e:Same F F'):∀ {v:V} {x:PyData},Den K F v x->Den K F' v x
 | _,_,.non=>.non
 | _,_,.bl b=>.bl b
 | _,_,.int i=>.int i
 | _,_,.str x=>.str x
 | _,_,.lst h t=>.lst (e.seq h) (DenAll.same e t)
 | _,_,.tup h t=>.tup (SqD.same e h) (DenAll.same e t)
 | _,_,.dct h=>.dct (e _ _ h)
theorem DenAll.same {K:PySem.W.Frag} {F F':Hp} (e:Same F F'):∀ {vs:List V} {xs:LP},DenAll K F vs xs->DenAll K F' vs xs
 | _,_,.nil=>.nil
 | _,_,.cons h t=>.cons (Den.same e h) (DenAll.same e t)
end
section
variable {K:PySem.W.Frag} {F:Hp}
theorem Den.intE {v:V} {i:Int} (h:Den K F v (.int i)):v=.int i:=by cases h; rfl
theorem Den.blE {v:V} {b:Bool} (h:Den K F v (.bool b)):v=.bl b:=by cases h; rfl
theorem Den.strE {v:V} {s:Str} (h:Den K F v (.str s)):v=.str s:=by cases h; rfl
theorem Den.nonE {v:V} (h:Den K F v .none):v=.non:=by cases h; rfl
theorem Den.tupE {v:V} {xs:LP} (h:Den K F v (.tuple xs)):∃ a vs,v=.ref a/\SqT K F a vs/\DenAll K F vs xs:=by cases h with | tup h t=>exact ⟨_,_,rfl,h.1,t⟩
theorem Den.lstE {v:V} {xs:LP} (h:Den K F v (.list xs)):∃ a vs,v=.ref a/\SqL K F a vs/\DenAll K F vs xs:=by cases h; exact ⟨_,_,rfl,‹_›,‹_›⟩
theorem DenAll.len:∀ {vs:List V} {xs:LP},DenAll K F vs xs->vs.length=xs.length
 | _,_,.nil=>rfl
 | _,_,.cons _ t=>congrArg (· + 1) (DenAll.len t)
theorem DenAll.get:∀ {vs:List V} {xs:LP} {i:Nat} {v:V},DenAll K F vs xs->vs[i]?=some v->∃ x,xs[i]?=some x/\Den K F v x
 | _,_,_,_,.nil,e=>by simp at e
 | _,_,0,_,.cons h _,e=>by simp at e; subst e; exact ⟨_,rfl,h⟩
 | _,_,i + 1,v,.cons _ t,e=>by
  obtain ⟨x,h1,h2⟩:=DenAll.get (i:=i) (v:=v) t (by simpa using e);exact ⟨x,by simpa using h1,h2⟩
theorem DenAll.at:∀ {vs:List V} {xs:LP} {i:Nat} {x:PyData},DenAll K F vs xs->xs[i]?=some x->∃ v,vs[i]?=some v/\Den K F v x
 | _,_,_,_,.nil,e=>by simp at e
 | _,_,0,_,.cons h _,e=>by simp at e; subst e; exact ⟨_,rfl,h⟩
 | _,_,i + 1,x,.cons _ t,e=>by
  obtain ⟨v,h1,h2⟩:=DenAll.at (i:=i) (x:=x) t (by simpa using e);exact ⟨v,by simpa using h1,h2⟩
theorem DenAll.app:∀ {vs us:List V} {xs ys:LP},DenAll K F vs xs->DenAll K F us ys->DenAll K F (vs++us) (xs++ys)
 | _,_,_,_,.nil,h=>h
 | _,_,_,_,.cons h t,h'=>.cons h (DenAll.app t h')
theorem DenAll.drop:∀ {vs:List V} {xs:LP} (n:Nat),DenAll K F vs xs->DenAll K F (vs.drop n) (xs.drop n)
 | _,_,0,h=>by simpa using h
 | _,_,_ + 1,.nil=>by simpa using DenAll.nil
 | _,_,n + 1,.cons _ t=>by simpa using DenAll.drop n t
theorem DenAll.take:∀ {vs:List V} {xs:LP} (n:Nat),DenAll K F vs xs->DenAll K F (vs.take n) (xs.take n)
 | _,_,0,_=>by simpa using DenAll.nil
 | _,_,_ + 1,.nil=>by simpa using DenAll.nil
 | _,_,n + 1,.cons h t=>by simpa using DenAll.cons h (DenAll.take n t)
theorem DenAll.dropLast {vs:List V} {xs:LP} (h:DenAll K F vs xs):DenAll K F vs.dropLast xs.dropLast:=by
 rw [List.dropLast_eq_take,List.dropLast_eq_take,h.len]; exact h.take _
theorem DenAll.atIE {vs:List V} {xs:LP} {i:Int} {x:PyData} (h:DenAll K F vs xs) (e:L2.atI xs i=some x):∃ v,L2.atI vs i=some v/\Den K F v x:=by
 unfold L2.atI at *;rw [h.len];cases q:ixN xs.length i with
 | none=>rw [q] at e; cases e
 | some j=>rw [q] at e; exact DenAll.at h e
end
end L2
namespace Pu
open PySem L2 My Prf
abbrev Frag:=PySem.W.Frag
inductive OT where
 | leaf (x:PyData) | nd (b:Bool) (a:Addr) (k:OT) | nil | cons (h t:OT)
def OT.fp:OT->List Addr
 | .leaf _=>[]
 | .nd _ a k=>a :: k.fp
 | .nil=>[]
 | .cons h t=>h.fp++t.fp
def OT.dat:OT->LP
 | .leaf x=>[x]
 | .nd true _ k=>[.list k.dat]
 | .nd false _ k=>[.tuple k.dat]
 | .nil=>[]
 | .cons h t=>h.dat++t.dat
def OT.put (a:Addr) (n:OT):OT->OT
 | .leaf x=>.leaf x
 | .nd b a' k=>.nd b a' (if a'=a then n else OT.put a n k)
 | .nil=>.nil
 | .cons h t=>.cons (OT.put a n h) (OT.put a n t)
inductive SV where
 | d (x:PyData) | own (xs:LP) | bor (xs:LP) | st | tr (t:OT) | bt (t:OT) | al (a:Addr) | dk (ks:List (Str × Int))
def SV.foot (v:V):SV->Addr->Prop
 | .own _,a=>v=.ref a
 | .dk _,a=>v=.ref a
 | .tr t,a=>a ∈ t.fp
 | _,_=>False
def SV.isRes:SV->Bool
 | .bor _=>false
 | .bt _=>false
 | .al _=>false
 | _=>true
abbrev PEnv:=List (Option SV)
structure Wd where
 M:Addr->Prop
 H:Hpp
 F:Hpp
structure Wd.Ok (w:Wd):Prop where
 sub:Same w.F w.H
 st:∀ p,w.M p->StAt w.H p
 nf:∀ p,w.M p->w.F p=none
structure Lw (w w':Wd):Prop where
 f:Same w.F w'.F
 h:∀ b o,w.H b=some o->¬ w.M b->w'.H b=some o
 m:∀ b,w.M b->w'.M b
 mn:∀ b,w'.M b->w.M b\/w.H b=none
 dom:∀ b,w'.H b=none->w.H b=none
structure Le (w w':Wd):Prop extends Lw w w' where
 n:∀ a o,w'.F a=some o->w.F a=some o\/w.H a=none
theorem Lw.refl (w:Wd):Lw w w:=⟨Same.refl _,fun _ _ h _=>h,fun _ h=>h,fun _ h=>.inl h,fun _ h=>h⟩
theorem Le.refl (w:Wd):Le w w:=⟨Lw.refl w,fun _ _ h=>.inl h⟩
theorem Lw.nm {w w':Wd} (a:Lw w w') {b:Addr} (h:w.H b≠none) (n:¬ w.M b):¬ w'.M b:=fun z=>(a.mn b z).elim n h
theorem Lw.trans {w w1 w2:Wd} (a:Lw w w1) (b:Lw w1 w2):Lw w w2 :=
 ⟨a.f.trans b.f,fun c o h n=>b.h c o (a.h c o h n) (a.nm (by rw [h]; simp) n),fun c h=>b.m c (a.m c h),
  fun c h=>(b.mn c h).elim (a.mn c) fun z=>.inr (a.dom c z),fun c h=>a.dom c (b.dom c h)⟩
theorem Le.trans {w w1 w2:Wd} (a:Le w w1) (b:Le w1 w2):Le w w2 :=
 ⟨a.toLw.trans b.toLw,fun c o h=>(b.n c o h).elim (a.n c o) fun z=>.inr (a.dom c z)⟩
theorem Le.fnone {w w':Wd} (a:Le w w') {l:Addr} (h:w.F l=none) (h':w.H l≠none):w'.F l=none:=by
 cases q:w'.F l with
 | none=>rfl
 | some o =>
  rcases a.n l o q with z | z
  ·rw [h] at z; cases z
  ·exact absurd z h'
structure Ct where
 K:Frag
 w0:Wd
 Z:Addr->Prop
def VV (K:Frag) (w:Wd) (v:V) (x:PyData):Prop:=Den K w.F v x\/∃ l vs xs,v=.ref l/\x=.list xs/\w.H l=some (.lst vs)/\¬ w.M l/\DenAll K w.F vs xs
def ho:Bool->List V->HO
 | true,vs=>.lst vs
 | false,vs=>.tup vs
def Tre (K:Frag) (w:Wd):OT->List V->Prop
 | .leaf x,vs=>∃ v,vs=[v]/\Den K w.F v x
 | .nd b a k,vs=>vs=[.ref a]/\∃ us,w.H a=some (ho b us)/\Tre K w k us
 | .nil,vs=>vs=[]
 | .cons h t,vs=>∃ v r,vs=v :: r/\Tre K w h [v]/\Tre K w t r
theorem Tre.mono {K:Frag} {w w':Wd} (a:Lw w w'):∀ {t:OT} {vs:List V},Tre K w t vs->(∀ a ∈ t.fp,¬ w.M a)->Tre K w' t vs
 | .leaf _,_,⟨v,e,h⟩,_=>⟨v,e,Den.same a.f h⟩
 | .nd _ p _,_,⟨e,us,h,k⟩,n=>⟨e,us,a.h _ _ h (n p (by simp [OT.fp])),Tre.mono a k fun q hq=>n q (by simp [OT.fp,hq])⟩
 | .nil,_,e,_=>e
 | .cons _ _,_,⟨v,r,e,h,t⟩,n=>⟨v,r,e,Tre.mono a h fun q hq=>n q (by simp [OT.fp,hq]),Tre.mono a t fun q hq=>n q (by simp [OT.fp,hq])⟩
theorem Tre.sameF {K:Frag} {M:Addr->Prop} {H F F':Hpp} (e:Same F F'):∀ {t:OT} {vs:List V},Tre K ⟨M,H,F⟩ t vs->Tre K ⟨M,H,F'⟩ t vs
 | .leaf _,_,⟨v,q,h⟩=>⟨v,q,Den.same e h⟩
 | .nd _ _ _,_,⟨q,us,h,k⟩=>⟨q,us,h,Tre.sameF e k⟩
 | .nil,_,q=>q
 | .cons _ _,_,⟨v,r,q,h,t⟩=>⟨v,r,q,Tre.sameF e h,Tre.sameF e t⟩
def VR (c:Ct) (w:Wd) (v:V):SV->Prop
 | .d x=>Den c.K w.F v x
 | .own xs=>∃ l vs,v=.ref l/\w.H l=some (.lst vs)/\w.F l=none/\¬ w.M l/\c.w0.H l=none/\DenAll c.K w.F vs xs
 | .bor xs=>Den c.K w.F v (.list xs)\/∃ l vs,v=.ref l/\c.w0.H l=some (.lst vs)/\¬ c.w0.M l/\DenAll c.K w.F vs xs
 | .st=>∃ p,v=.ref p/\w.M p
 | .tr t=>Tre c.K w t [v]/\(∀ a ∈ t.fp,w.H a≠none/\w.F a=none/\¬ w.M a/\c.w0.H a=none)/\t.fp.Nodup
 | .bt t=>Tre c.K ⟨c.w0.M,c.w0.H,w.F⟩ t [v]/\∀ a ∈ t.fp,¬ c.w0.M a
 | .al a=>v=.ref a
 | .dk ks=>∃ l,v=.ref l/\w.H l=some (.dT (ks.map fun k=>([Sum.inr k.1,Sum.inl k.2],V.bl true)))/\w.F l=none/\¬ w.M l/\c.w0.H l=none
theorem B45 {H:Hpp} {p b:Addr} {o:HO} (h:upd H p o b=none):H b=none:=by
 unfold upd at h; split at h
 ·cases h
 ·exact h
theorem VR.foot {c:Ct} {w:Wd} {v:V} {a:Addr}:∀ {s:SV},VR c w v s->s.foot v a->w.H a≠none/\w.F a=none/\¬ w.M a/\c.w0.H a=none
 | .own _,⟨l,vs,e,h1,h2,h3,h4,_⟩,f=>by
  have:V.ref l=.ref a:=e.symm.trans f;cases this;exact ⟨by rw [h1]; simp,h2,h3,h4⟩
 | .dk _,⟨l,e,h1,h2,h3,h4⟩,f=>by
  have:V.ref l=.ref a:=e.symm.trans f;cases this;exact ⟨by rw [h1]; simp,h2,h3,h4⟩
 | .tr _,h,f=>h.2.1 a f
theorem VV.mono {K:Frag} {w w':Wd} {v:V} {x:PyData} (a:Lw w w') (h:VV K w v x):VV K w' v x:=by
 rcases h with h | ⟨l,vs,xs,e,e',h1,h2,h3⟩
 ·exact .inl (Den.same a.f h)
 ·exact .inr ⟨l,vs,xs,e,e',a.h _ _ h1 h2,a.nm (by rw [h1]; simp) h2,DenAll.same a.f h3⟩
theorem VV.den {K:Frag} {w:Wd} {v:V} {x:PyData} (o:w.Ok) (h:VV K w v x):Den K w.H v x:=by
 rcases h with h | ⟨l,vs,xs,e,e',h1,h2,h3⟩
 ·exact Den.same o.sub h
 ·rw [e,e']; exact .lst (SqL.of h1) (DenAll.same o.sub h3)
theorem VR.mono {c:Ct} {w w':Wd} {v:V} (a:Le w w'):∀ {s:SV},VR c w v s->VR c w' v s
 | .d _,h=>Den.same a.f h
 | .own xs,⟨l,vs,e,h1,h2,h3,h4,h5⟩=>⟨l,vs,e,a.h _ _ h1 h3,a.fnone h2 (by rw [h1]; simp),a.nm (by rw [h1]; simp) h3,h4,DenAll.same a.f h5⟩
 | .bor xs,.inl h=>.inl (Den.same a.f h)
 | .bor xs,.inr ⟨l,vs,e,h1,h2,h3⟩=>.inr ⟨l,vs,e,h1,h2,DenAll.same a.f h3⟩
 | .st,⟨p,e,h⟩=>⟨p,e,a.m p h⟩
 | .bt t,⟨h,o⟩=>⟨h.sameF a.f,o⟩
 | .al _,h=>h
 | .dk _,⟨l,e,h1,h2,h3,h4⟩=>⟨l,e,a.h _ _ h1 h3,a.fnone h2 (by rw [h1]; simp),a.nm (by rw [h1]; simp) h3,h4⟩
 | .tr t,⟨h,o,d⟩=>⟨h.mono a.toLw fun q hq=>(o q hq).2.2.1,fun q hq=>let ⟨h1,h2,h3,h4⟩:=o q hq; ⟨fun z=>h1 (a.dom q z),a.fnone h2 h1,a.nm h1 h3,h4⟩,d⟩
theorem Tre.writ {K:Frag} {w:Wd} {l:Addr} {wo:HO}:∀ {t:OT} {vs:List V},Tre K w t vs->l ∉ t.fp->Tre K ⟨w.M,upd w.H l wo,w.F⟩ t vs
 | .leaf _,_,h,_=>h
 | .nd _ p _,_,⟨e,ys,h,k⟩,n=>⟨e,ys,by show upd w.H l _ p=_; rw [C4 (fun z=>n (by simp [OT.fp,z]))]; exact h,Tre.writ k fun q=>n (by simp [OT.fp,q])⟩
 | .nil,_,e,_=>e
 | .cons _ _,_,⟨v,r,e,h,t⟩,n=>⟨v,r,e,Tre.writ h fun q=>n (by simp [OT.fp,q]),Tre.writ t fun q=>n (by simp [OT.fp,q])⟩
theorem VR.writ {c:Ct} {w:Wd} {v:V} {l:Addr} {wo:HO} (hl:w.H l≠none):∀ {s:SV},VR c w v s->¬ s.foot v l->VR c ⟨w.M,upd w.H l wo,w.F⟩ v s
 | .d _,h,_=>h
 | .own _,⟨l',vs,e,k1,k2,k3,k4,k5⟩,n=>⟨l',vs,e,by show upd w.H l _ l'=_; rw [C4 (fun z=>n (by rw [<- z]; exact e))]; exact k1,k2,k3,k4,k5⟩
 | .bor _,h,_=>h
 | .st,h,_=>h
 | .bt _,h,_=>h
 | .al _,h,_=>h
 | .dk _,⟨l',e,k1,k2,k3,k4⟩,n=>⟨l',e,by show upd w.H l _ l'=_; rw [C4 (fun z=>n (by rw [<- z]; exact e))]; exact k1,k2,k3,k4⟩
 | .tr _,⟨h,o,d⟩,n=>⟨h.writ n,fun a ha=>⟨fun z=>(o a ha).1 (B45 z),(o a ha).2⟩,d⟩
structure EnvOk (c:Ct) (w:Wd) (env:PEnv) (σ:St):Prop where
 wok:w.Ok
 le0:Le c.w0 w
 len:env.length=σ.length
 at':∀ (i:Nat) s,env[i]?=some (some s)->∃ v,σ[i]?=some (some v)/\VR c w v s
 own:∀ (i j:Nat) s t v u a,env[i]?=some (some s)->env[j]?=some (some t)->σ[i]?=some (some v)->σ[j]?=some (some u)->s.foot v a->t.foot u a->i=j
 zf:∀ a,c.Z a->w.F a=none/\w.H a≠none/\¬ w.M a
 zo:∀ a (j:Nat) t u,c.Z a->env[j]?=some (some t)->σ[j]?=some (some u)->¬ t.foot u a
def New (c:Ct) (env:PEnv) (σ:St) (v:V) (s:SV):Prop:=∀ a,s.foot v a->(∀ (j:Nat) t u,env[j]?=some (some t)->σ[j]?=some (some u)->¬ t.foot u a)/\¬ c.Z a
theorem EnvOk.look {c:Ct} {w:Wd} {env:PEnv} {σ:St} (E:EnvOk c w env σ) {j:Nat} {t:SV} {u:V} (h:env[j]?=some (some t)) (hu:σ[j]?=some (some u)):VR c w u t:=by
 obtain ⟨v,h1,h2⟩:=E.at' j t h;rw [hu] at h1; cases h1; exact h2
theorem EnvOk.fresh {c:Ct} {w:Wd} {env:PEnv} {σ:St} (E:EnvOk c w env σ) {p:Addr} (hp:w.H p=none):(∀ (j:Nat) t u,env[j]?=some (some t)->σ[j]?=some (some u)->¬ t.foot u p)/\¬ c.Z p :=
 ⟨fun _ _ _ h hu f=>((E.look h hu).foot f).1 hp,fun z=>(E.zf p z).2.1 hp⟩
theorem Lw.hsome {w w':Wd} (a:Lw w w') {l:Addr} (h:w.H l≠none):w'.H l≠none:=fun z=>h (a.dom l z)
theorem EnvOk.mono {c:Ct} {w w':Wd} {env:PEnv} {σ:St} (E:EnvOk c w env σ) (ok:w'.Ok) (a:Le w w'):EnvOk c w' env σ :=
 ⟨ok,E.le0.trans a,E.len,fun i s e=>let ⟨v,h1,h2⟩:=E.at' i s e; ⟨v,h1,h2.mono a⟩,E.own,fun b z=>let ⟨h1,h2,h3⟩:=E.zf b z; ⟨a.fnone h1 h2,a.hsome h2,a.nm h2 h3⟩,E.zo⟩
structure Res (c:Ct) (w:Wd) (env:PEnv) (σ:St) (w':Wd) (v:V) (s:SV):Prop where
 ev:EnvOk c w' env σ
 lw:Lw w w'
 val:VR c w' v s
 new:New c env σ v s
 res:s.isRes=true
theorem Res.data {c:Ct} {w:Wd} {env:PEnv} {σ:St} {v:V} {x:PyData} (E:EnvOk c w env σ) (h:Den c.K w.F v x):Res c w env σ w v (.d x) :=
 ⟨E,Lw.refl w,h,fun _ e=>(nomatch e),rfl⟩
def Wd.tup (w:Wd) (p:Addr) (o:HO):Wd:=⟨w.M,upd w.H p o,upd w.F p o⟩
def Wd.lay (w:Wd) (p:Addr) (o:HO):Wd:=⟨w.M,upd w.H p o,w.F⟩
theorem Wd.Ok.fnone {w:Wd} (o:w.Ok) {p:Addr} (h:w.H p=none):w.F p=none:=by
 cases q:w.F p with
 | none=>rfl
 | some u=>have:=o.sub p u q; rw [h] at this; cases this
theorem Wd.Ok.mne {w:Wd} (o:w.Ok) {p q:Addr} (h:w.H p=none) (hq:w.M q):q≠p:=by
 obtain ⟨c,m,f,e,_⟩:=(o.st q hq).ex;exact E8 e h
theorem K5 {H:Hpp} {p b:Addr} {o:HO} (h:upd H p o b=none):H b=none:=by
 unfold upd at h; split at h
 ·cases h
 ·exact h
theorem Wd.tup_ok {w:Wd} {p:Addr} {o:HO} (ok:w.Ok) (h:w.H p=none):(w.tup p o).Ok :=
 ⟨fun b u e=>by
  show upd w.H p o b=some u;have e':upd w.F p o b=some u:=e;unfold upd at e' ⊢;split at e'
  ·rename_i z; rw [if_pos z]; exact e'
  ·rename_i z; rw [if_neg z]; exact ok.sub b u e',
  fun q hq=>(ok.st q hq).same (Same.upd h),fun q hq=>by
  show upd w.F p o q=none;rw [C4 (ok.mne h hq)]; exact ok.nf q hq⟩
theorem Wd.lay_ok {w:Wd} {p:Addr} {o:HO} (ok:w.Ok) (h:w.H p=none):(w.lay p o).Ok :=
 ⟨ok.sub.trans (Same.upd h),fun q hq=>(ok.st q hq).same (Same.upd h),ok.nf⟩
theorem Wd.tup_le {w:Wd} {p:Addr} {o:HO} (ok:w.Ok) (h:w.H p=none):Le w (w.tup p o) :=
 ⟨⟨Same.upd (ok.fnone h),fun b u e _=>Same.upd h b u e,fun _ z=>z,fun _ z=>.inl z,fun b z=>K5 z⟩,fun a u e=>by
  have e':upd w.F p o a=some u:=e;unfold upd at e';split at e'
  ·rename_i z; rw [z]; exact .inr h
  ·exact .inl e'⟩
theorem Wd.lay_le {w:Wd} {p:Addr} {o:HO} (h:w.H p=none):Le w (w.lay p o) :=
 ⟨⟨Same.refl _,fun b u e _=>Same.upd h b u e,fun _ z=>z,fun _ z=>.inl z,fun b z=>K5 z⟩,fun a u e=>.inl e⟩
theorem Res.tup {c:Ct} {w:Wd} {env:PEnv} {σ:St} {p:Addr} {vs:List V} {xs:LP} (E:EnvOk c w env σ) (h:w.H p=none) (hd:DenAll c.K w.F vs xs):Res c w env σ (w.tup p (.tup vs)) (.ref p) (.d (.tuple xs)) :=
 ⟨E.mono (Wd.tup_ok E.wok h) (Wd.tup_le E.wok h),(Wd.tup_le E.wok h).toLw,.tup (SqD.of B3) (DenAll.same (Wd.tup_le E.wok h).f hd),fun _ e=>(nomatch e),rfl⟩
theorem Res.lst {c:Ct} {w:Wd} {env:PEnv} {σ:St} {p:Addr} {vs:List V} {xs:LP} (E:EnvOk c w env σ) (h:w.H p=none) (hd:DenAll c.K w.F vs xs):Res c w env σ (w.lay p (.lst vs)) (.ref p) (.own xs) :=
 ⟨E.mono (Wd.lay_ok E.wok h) (Wd.lay_le h),(Wd.lay_le h).toLw,⟨p,vs,rfl,B3,E.wok.fnone h,fun z=>E.wok.mne h z rfl,E.le0.dom p h,hd⟩,
  fun a f=>(by
  have:V.ref p=.ref a:=f;cases this;exact E.fresh h),rfl⟩
theorem Res.frz {c:Ct} {w w1:Wd} {env:PEnv} {σ:St} {v:V} {xs:LP} (R:Res c w env σ w1 v (.own xs)):∃ w',w'.H=w1.H/\EnvOk c w' env σ/\Lw w w'/\Den c.K w'.F v (.list xs):=by
 obtain ⟨E,lw,⟨l,vs,e,h1,h2,h3,h4,h5⟩,new,_⟩:=R;subst e;obtain ⟨n1,n2⟩:=new l rfl;have up:Same w1.F (upd w1.F l (.lst vs)):=Same.upd h2;have lw':Lw w1 ⟨w1.M,w1.H,upd w1.F l (.lst vs)⟩:=⟨up,fun _ _ h _=>h,fun _ h=>h,fun _ h=>.inl h,fun _ h=>h⟩;refine ⟨⟨w1.M,w1.H,upd w1.F l (.lst vs)⟩,rfl,⟨⟨fun b u q=>?_,E.wok.st,fun p hp=>?_⟩,⟨E.le0.toLw.trans lw',fun a u q=>?_⟩,E.len,fun i s q=>?_,E.own,fun a za=>?_,E.zo⟩,lw.trans lw',.lst (SqL.of B3) (DenAll.same up h5)⟩
 ·have q':upd w1.F l (.lst vs) b=some u:=q;unfold upd at q';split at q'
  ·rename_i z; rw [z]; exact h1.trans q'
  ·exact E.wok.sub b u q'
 ·show upd w1.F l (.lst vs) p=none;rw [C4 (fun z=>h3 (by rw [<- z]; exact hp))]; exact E.wok.nf p hp
 ·have q':upd w1.F l (.lst vs) a=some u:=q;unfold upd at q';split at q'
  ·rename_i z; rw [z]; exact .inr h4
  ·exact E.le0.n a u q'
 ·obtain ⟨v,g1,g2⟩:=E.at' i s q;refine ⟨v,g1,?_⟩;cases s with
  | d x=>exact Den.same up g2
  | own ys =>
   obtain ⟨l',us,e',k1,k2,k3,k4,k5⟩:=g2;subst e';refine ⟨l',us,rfl,k1,?_,k3,k4,DenAll.same up k5⟩;show upd w1.F l (.lst vs) l'=none;rw [C4 (fun z=>n1 i _ _ q g1 (by subst z; rfl))]; exact k2
  | bor ys =>
   rcases g2 with g | ⟨l',us,e',k1,k2,k3⟩
   ·exact .inl (Den.same up g)
   ·exact .inr ⟨l',us,e',k1,k2,DenAll.same up k3⟩
  | st=>exact g2
  | bt t=>exact ⟨g2.1.sameF up,g2.2⟩
  | al a=>exact g2
  | dk ks =>
   obtain ⟨l',e',k1,k2,k3,k4⟩:=g2;subst e';refine ⟨l',rfl,k1,?_,k3,k4⟩;show upd w1.F l (.lst vs) l'=none;rw [C4 (fun z=>n1 i _ _ q g1 (by subst z; rfl))]; exact k2
  | tr t =>
   obtain ⟨k1,k2,k3⟩:=g2;refine ⟨k1.mono lw' fun p hp=>(k2 p hp).2.2.1,fun p hp=>⟨(k2 p hp).1,?_,(k2 p hp).2.2⟩,k3⟩;show upd w1.F l (.lst vs) p=none;rw [C4 (fun z=>n1 i _ _ q g1 (by subst z; exact hp))]; exact (k2 p hp).2.1
 ·obtain ⟨z1,z2,z3⟩:=E.zf a za;refine ⟨?_,z2,z3⟩;show upd w1.F l (.lst vs) a=none;rw [C4 (fun z=>n2 (by subst z; exact za))]; exact z1
theorem EnvOk.set {c:Ct} {w:Wd} {env:PEnv} {σ:St} {v:V} {s:SV} {i:Nat} (E:EnvOk c w env σ) (h:VR c w v s) (new:New c env σ v s) :
  EnvOk c w (env.set i (some s)) (σ.set i (some v)):=by
 have hl:=E.len;have hd:∀ {j:Nat} {t:SV} {u:V},(env.set i (some s))[j]?=some (some t)->(σ.set i (some v))[j]?=some (some u)->(i=j/\t=s/\u=v)\/(i≠j/\env[j]?=some (some t)/\σ[j]?=some (some u)):=by
  intro j t u q q';rw [List.getElem?_set] at q q';by_cases e:i=j
  ·subst e;rw [if_pos rfl] at q q';split at q
   ·rename_i z;rw [if_pos (by omega)] at q';cases q; cases q'; exact .inl ⟨rfl,rfl,rfl⟩
   ·cases q
  ·rw [if_neg e] at q q';exact .inr ⟨e,q,q'⟩
 refine ⟨E.wok,E.le0,by simpa using hl,fun j t q=>?_,fun j k s1 t1 v1 u1 a q1 q2 q3 q4 f1 f2=>?_,E.zf,fun a j t u za q q'=>?_⟩
 ·rw [List.getElem?_set] at q ⊢;by_cases e:i=j
  ·subst e;rw [if_pos rfl] at q ⊢;split at q
   ·rename_i z;rw [if_pos (by omega)];cases q;exact ⟨v,rfl,h⟩
   ·cases q
  ·rw [if_neg e] at q ⊢;exact E.at' j t q
 ·rcases hd q1 q3 with ⟨e1,rfl,rfl⟩ | ⟨e1,p1,p3⟩
  ·rcases hd q2 q4 with ⟨e2,rfl,rfl⟩ | ⟨e2,q2,q4⟩
   ·exact e1.symm.trans e2
   ·exact absurd f2 ((new a f1).1 k _ _ q2 q4)
  ·rcases hd q2 q4 with ⟨e2,rfl,rfl⟩ | ⟨e2,p2,p4⟩
   ·exact absurd f1 ((new a f2).1 j _ _ p1 p3)
   ·exact E.own j k _ _ _ _ a p1 p2 p3 p4 f1 f2
 ·rcases hd q q' with ⟨_,rfl,rfl⟩ | ⟨_,q,q'⟩
  ·exact fun f=>(new a f).2 za
  ·exact E.zo a j t u za q q'
end Pu
namespace Pu
open PySem L2 My Prf
abbrev PX:=PEnv->(SV->PEnv->Prop)->Prop
abbrev PDt:=PEnv->(PyData->PEnv->Prop)->Prop
abbrev PTt:=PEnv->(Bool->PEnv->Prop)->Prop
abbrev PAr:=PEnv->(LP->PEnv->Prop)->Prop
abbrev PAs:=PEnv->(List SV->PEnv->Prop)->Prop
theorem Res.pre {c:Ct} {w w1 w2:Wd} {env:PEnv} {σ:St} {v:V} {s:SV} (a:Lw w w1) (R:Res c w1 env σ w2 v s):Res c w env σ w2 v s:=⟨R.ev,a.trans R.lw,R.val,R.new,R.res⟩
class RE (K:Frag) (te:TE) (pe:outParam PX):Prop where
 ok:∀ (c:Ct) (w:Wd) (env:PEnv) (σ:St) (Qp:SV->PEnv->Prop) (Q:VK),c.K=K->EnvOk c w env σ->pe env Qp->(∀ v s env' w',Res c w env' σ w' v s->Qp s env'->Q v w'.H)->te σ w.H Q
class RD (K:Frag) (te:TE) (pd:outParam PDt):Prop where
 ok:∀ (c:Ct) (w:Wd) (env:PEnv) (σ:St) (Qp:PyData->PEnv->Prop) (Q:VK),c.K=K->EnvOk c w env σ->pd env Qp->(∀ v x env' w',EnvOk c w' env' σ->Lw w w'->Den K w'.F v x->Qp x env'->Q v w'.H)->te σ w.H Q
class RW (K:Frag) (te:TE) (pd:outParam PDt):Prop where
 ok:∀ (c:Ct) (w:Wd) (env:PEnv) (σ:St) (Qp:PyData->PEnv->Prop) (Q:VK),c.K=K->EnvOk c w env σ->pd env Qp->(∀ v x env' w',EnvOk c w' env' σ->Lw w w'->VV K w' v x->Qp x env'->Q v w'.H)->te σ w.H Q
def SV.asD (s:SV) (k:PyData->Prop):Prop:=match s with
 | .d x=>k x
 | .own xs=>k (.list xs)
 | _=>False
def pdat (pe:PX) (env:PEnv) (Q:PyData->PEnv->Prop):Prop:=pe env fun s e=>s.asD fun x=>Q x e
instance C7c {K:Frag} {te:TE} {pe:PX} [h:RE K te pe]:RD K te (pdat pe) where
 ok:=by
  rintro c w env σ Qp Q rfl E p k;refine h.ok c w env σ _ Q rfl E p fun v s env' w' R q=>?_;cases s with
  | d x=>exact k v x env' w' R.ev R.lw R.val q
  | own xs =>
   obtain ⟨w2,e,E2,l2,d2⟩:=R.frz;rw [<- e];exact k v _ env' w2 E2 l2 d2 q
  | bor xs=>exact (show False from q).elim
  | st=>exact (show False from q).elim
  | tr t=>exact (show False from q).elim
  | bt t=>exact (show False from q).elim
  | al t=>exact (show False from q).elim
  | dk t=>exact (show False from q).elim
instance (priority:=low) rw_of {K:Frag} {te:TE} {pd:PDt} [h:RD K te pd]:RW K te pd where
 ok:=fun c w env σ Qp Q e E p k=>h.ok c w env σ Qp Q e E p fun v x env' w' E' l d q=>k v x env' w' E' l (.inl d) q
def pVar (i:Nat) (env:PEnv) (Q:SV->PEnv->Prop):Prop:=match env[i]? with
 | some (some (.d x))=>Q (.d x) env
 | some (some (.own xs))=>Q (.d (.list xs)) (env.set i (some (.d (.list xs))))
 | some (some .st)=>Q .st env
 | _=>False
def C1f (i:Nat) (env:PEnv) (Q:PyData->PEnv->Prop):Prop:=match env[i]? with
 | some (some (.d x))=>Q x env
 | some (some (.own xs))=>Q (.list xs) env
 | some (some (.bor xs))=>Q (.list xs) env
 | _=>False
theorem EnvOk.frz {c:Ct} {w:Wd} {env:PEnv} {σ:St} {i:Nat} {xs:LP} (E:EnvOk c w env σ) (h:env[i]?=some (some (.own xs))) :
  ∃ w' v,w'.H=w.H/\σ[i]?=some (some v)/\EnvOk c w' (env.set i (some (.d (.list xs)))) σ/\Lw w w'/\Den c.K w'.F v (.list xs):=by
 obtain ⟨v,hv,hV⟩:=E.at' i _ h;have hV':=hV;obtain ⟨l,vs,e,h1,h2,h3,h4,h5⟩:=hV';have up:∀ {j:Nat} {t:SV},(env.set i none)[j]?=some (some t)->i≠j/\env[j]?=some (some t):=by
  intro j t q;rw [List.getElem?_set] at q;split at q
  ·split at q <;> cases q
  ·rename_i z; exact ⟨z,q⟩
 have E':EnvOk c w (env.set i none) σ:=⟨E.wok,E.le0,by simpa using E.len,fun j s q=>E.at' j s (up q).2,fun j k s t v u a q1 q2=>E.own j k s t v u a (up q1).2 (up q2).2,E.zf,fun a j t u za q=>E.zo a j t u za (up q).2⟩;have R:Res c w (env.set i none) σ w v (.own xs):=⟨E',Lw.refl w,hV,fun a f=>⟨fun j t u q z g=>(up q).1 (E.own i j _ _ _ _ a h (up q).2 hv z f g),fun za=>E.zo a i _ _ za h hv f⟩,rfl⟩;obtain ⟨w',e',E2,l2,d2⟩:=R.frz;refine ⟨w',v,e',hv,?_,l2,d2⟩;have E3:=E2.set (i:=i) (v:=v) (s:=.d (.list xs)) d2 (fun _ z=>nomatch z);rw [List.set_set] at E3;have hi:i < σ.length:=(Zs hv).1
 rwa [show σ.set i (some v)=σ by
  refine List.ext_getElem? fun j=>?_;rw [List.getElem?_set];split
  ·rename_i z; subst z; simp [hv]
  ·rfl] at E3
instance re_var {K:Frag} {i:Nat}:RE K (tVar i) (pVar i) where
 ok:=by
  rintro c w env σ Qp Q rfl E p k;unfold pVar at p;split at p
  ·rename_i x e;obtain ⟨v,h1,h2⟩:=E.at' i _ e;exact ⟨v,h1,k v _ env w (Res.data E h2) p⟩
  ·rename_i xs e;obtain ⟨w',v,e',hv,E',l,d⟩:=E.frz e;refine ⟨v,hv,?_⟩;rw [<- e'];exact k v (.d (.list xs)) _ w' ⟨E',l,d,fun _ z=>(nomatch z),rfl⟩ p
  ·rename_i e;obtain ⟨v,h1,h2⟩:=E.at' i _ e;exact ⟨v,h1,k v _ env w ⟨E,Lw.refl w,h2,fun _ z=>(nomatch z),rfl⟩ p⟩
  ·exact p.elim
theorem VR.vv {c:Ct} {w:Wd} {v:V} {xs:LP} (l:Le c.w0 w) (h:VR c w v (.bor xs)):VV c.K w v (.list xs):=by
 rcases h with h | ⟨l',vs,e,h1,h2,h3⟩
 ·exact .inl h
 ·exact .inr ⟨l',vs,xs,e,rfl,l.h _ _ h1 h2,l.nm (by rw [h1]; simp) h2,h3⟩
instance rw_var {K:Frag} {i:Nat}:RW K (tVar i) (C1f i) where
 ok:=by
  rintro c w env σ Qp Q rfl E p k;unfold C1f at p;split at p
  ·rename_i x e;obtain ⟨v,h1,h2⟩:=E.at' i _ e;exact ⟨v,h1,k v _ env w E (Lw.refl w) (.inl h2) p⟩
  ·rename_i xs e;obtain ⟨v,h1,l,vs,e',g1,g2,g3,g4,g5⟩:=E.at' i _ e;exact ⟨v,h1,k v _ env w E (Lw.refl w) (.inr ⟨l,vs,xs,e',rfl,g1,g3,g5⟩) p⟩
  ·rename_i xs e;obtain ⟨v,h1,h2⟩:=E.at' i _ e;exact ⟨v,h1,k v _ env w E (Lw.refl w) (h2.vv E.le0) p⟩
  ·exact p.elim
def pC (x:PyData) (env:PEnv) (Q:SV->PEnv->Prop):Prop:=Q (.d x) env
theorem Q4 {K:Frag} {v:V} {x:PyData} (h:∀ F,Den K F v x):RE K (tC v) (pC x) where
 ok:=by
  rintro c w env σ Qp Q rfl E p k;exact k _ _ env w (Res.data E (h _)) p
instance re_int {K:Frag} {i:Int}:RE K (tC (.int i)) (pC (.int i)):=Q4 fun _=>.int i
instance re_bl {K:Frag} {b:Bool}:RE K (tC (.bl b)) (pC (.bool b)):=Q4 fun _=>.bl b
instance re_non {K:Frag}:RE K (tC .non) (pC .none):=Q4 fun _=>.non
instance re_str {K:Frag} {x:Str}:RE K (tC (.str x)) (pC (.str x)):=Q4 fun _=>.str x
class GD (K:Frag) (a:Addr) (x:outParam PyData):Prop where
 ok:∀ F,Den K F (.ref a) x
instance re_glob {K:Frag} {a:Addr} {x:PyData} [h:GD K a x]:RE K (tC (.ref a)) (pC x):=Q4 h.ok
class RO (K:Frag) (r:R2) (pr:outParam (PyData->PyData->(SV->Prop)->Prop)):Prop where
 ok:∀ (c:Ct) (w:Wd) (env:PEnv) (σ:St) (x y:V) (dx dy:PyData) (Qp:SV->Prop) (Q:VK),c.K=K->EnvOk c w env σ->VV K w x dx->VV K w y dy->pr dx dy Qp->(∀ v s w',Res c w env σ w' v s->Qp s->Q v w'.H)->r x y w.H Q
def pOp (pr:PyData->PyData->(SV->Prop)->Prop) (pa pb:PDt) (env:PEnv) (Q:SV->PEnv->Prop):Prop:=pa env fun x e1=>pb e1 fun y e2=>pr x y fun s=>Q s e2
instance re_op {K:Frag} {r:R2} {ta tb:TE} {pr:PyData->PyData->(SV->Prop)->Prop} {pa pb:PDt} [h:RO K r pr] [ha:RW K ta pa] [hb:RW K tb pb]:RE K (tOp r ta tb) (pOp pr pa pb) where
 ok:=by
  rintro c w env σ Qp Q rfl E p k;refine ha.ok c w env σ _ _ rfl E p fun x dx e1 w1 E1 l1 v1 q1=>?_;refine hb.ok c w1 e1 σ _ _ rfl E1 q1 fun y dy e2 w2 E2 l2 v2 q2=>?_;exact h.ok c w2 e2 σ x y dx dy _ _ rfl E2 (v1.mono l2) v2 q2 fun v s w' R q=>k v s e2 w' (R.pre (l1.trans l2)) q
class SG (g:Int->Int->V) (gd:outParam (Int->Int->PyData)):Prop where
 ok:∀ i j K F,Den K F (g i j) (gd i j)
instance sg_int {f:Int->Int->Int}:SG (fun i j=>.int (f i j)) (fun i j=>.int (f i j)):=⟨fun _ _ _ _=>.int _⟩
instance sg_bl {f:Int->Int->Bool}:SG (fun i j=>.bl (f i j)) (fun i j=>.bool (f i j)):=⟨fun _ _ _ _=>.bl _⟩
def pI (C:Int->Int->Prop) (gd:Int->Int->PyData) (x y:PyData) (Q:SV->Prop):Prop:=match x,y with
 | .int i,.int j=>C i j/\Q (.d (gd i j))
 | _,_=>False
def pI0 (gd:Int->Int->PyData) (x y:PyData) (Q:SV->Prop):Prop:=match x,y with
 | .int i,.int j=>Q (.d (gd i j))
 | _,_=>False
theorem VV.intE {K:Frag} {w:Wd} {v:V} {i:Int} (h:VV K w v (.int i)):v=.int i:=by
 rcases h with h | ⟨l,vs,xs,e,e',_⟩
 ·exact h.intE
 ·cases e'
theorem VV.blE {K:Frag} {w:Wd} {v:V} {b:Bool} (h:VV K w v (.bool b)):v=.bl b:=by
 rcases h with h | ⟨l,vs,xs,e,e',_⟩
 ·exact h.blE
 ·cases e'
instance ro_I {K:Frag} {C:Int->Int->Prop} {g:Int->Int->V} {gd:Int->Int->PyData} [s:SG g gd]:RO K (rI C g) (pI C gd) where
 ok:=by
  rintro c w env σ x y dx dy Qp Q rfl E vx vy p k;unfold pI at p;split at p
  ·rename_i i j;exact ⟨i,j,vx.intE,vy.intE,p.1,k _ _ w (Res.data E (s.ok i j _ _)) p.2⟩
  ·exact p.elim
instance ro_I0 {K:Frag} {g:Int->Int->V} {gd:Int->Int->PyData} [s:SG g gd]:RO K (rI0 g) (pI0 gd) where
 ok:=by
  rintro c w env σ x y dx dy Qp Q rfl E vx vy p k;unfold pI0 at p;split at p
  ·rename_i i j;exact ⟨i,j,vx.intE,vy.intE,k _ _ w (Res.data E (s.ok i j _ _)) p⟩
  ·exact p.elim
def pEqD (x y:PyData) (Q:SV->Prop):Prop:=x.canLay0=true/\y.canLay0=true/\x.depth<=60/\Q (.d (.bool (PyData.eqv x y)))
def pNeD (x y:PyData) (Q:SV->Prop):Prop:=x.canLay0=true/\y.canLay0=true/\x.depth<=60/\Q (.d (.bool (!PyData.eqv x y)))
def isNo:PyData->Bool
 | .none=>true
 | _=>false
def rIsN:R2:=fun x y H Q=>y=.non/\Q (.bl (decide (x=.non))) H
theorem A38 {X:Cx}:OpR X (compareOp .Is) rIsN:=C47
theorem Den.no {K:Frag} {F:Hpp} {v:V} {x:PyData} (h:Den K F v x):decide (v=.non)=isNo x:=by cases h <;> rfl
theorem VV.no {K:Frag} {w:Wd} {v:V} {x:PyData} (h:VV K w v x):decide (v=.non)=isNo x:=by
 rcases h with h | ⟨l,vs,xs,e,e',_⟩
 ·exact Den.no h
 ·subst e; subst e'; rfl
def pIsN (x y:PyData) (Q:SV->Prop):Prop:=y=.none/\Q (.d (.bool (isNo x)))
def C4p (x y:PyData) (Q:SV->Prop):Prop:=y=.none/\Q (.d (.bool (!isNo x)))
theorem VV.nonE {K:Frag} {w:Wd} {v:V} (h:VV K w v .none):v=.non:=by
 rcases h with h | ⟨l,vs,xs,e,e',_⟩
 ·exact h.nonE
 ·cases e'
instance ro_isN {K:Frag}:RO K rIsN pIsN where
 ok:=by
  rintro c w env σ x y dx dy Qp Q rfl E vx vy ⟨rfl,p⟩ k;refine ⟨vy.nonE,k _ _ w (Res.data E ?_) p⟩;rw [vx.no]; exact .bl _
def pGet (xs:LP) (i:Int) (Q:SV->Prop):Prop:=match atI xs i with
 | some z=>Q (.d z)
 | none=>False
def pIx (x y:PyData) (Q:SV->Prop):Prop:=match x,y with
 | .list xs,.int i=>pGet xs i Q
 | .tuple xs,.int i=>pGet xs i Q
 | _,_=>False
theorem VV.lst {K:Frag} {w:Wd} {v:V} {xs:LP} (o:w.Ok) (h:VV K w v (.list xs)):∃ a vs,v=.ref a/\SqL K w.H a vs/\DenAll K w.F vs xs:=by
 rcases h with h | ⟨l,vs,ys,e,e',h1,h2,h3⟩
 ·obtain ⟨a,vs,e,h1,h2⟩:=h.lstE;exact ⟨a,vs,e,o.sub.seq h1,h2⟩
 ·cases e'; exact ⟨l,vs,e,SqL.of h1,h3⟩
theorem VV.tup {K:Frag} {w:Wd} {v:V} {xs:LP} (o:w.Ok) (h:VV K w v (.tuple xs)):∃ a vs,v=.ref a/\SqT K w.H a vs/\DenAll K w.F vs xs:=by
 rcases h with h | ⟨l,vs,ys,e,e',h1,h2,h3⟩
 ·obtain ⟨a,vs,e,h1,h2⟩:=h.tupE;exact ⟨a,vs,e,SqT.same o.sub h1,h2⟩
 ·cases e'
instance ro_ix {K:Frag}:RO K (rIx K) pIx where
 ok:=by
  rintro c w env σ x y dx dy Qp Q rfl E vx vy p k;unfold pIx at p;split at p
  ·rename_i xs i;unfold pGet at p;split at p
   ·rename_i z hz;obtain ⟨a,vs,e,h1,h2⟩:=vx.lst E.wok;obtain ⟨v,g1,g2⟩:=h2.atIE hz;exact .inl ⟨a,vs,i,v,e,vy.intE,h1,g1,k _ _ w (Res.data E g2) p⟩
   ·exact p.elim
  ·rename_i xs i;unfold pGet at p;split at p
   ·rename_i z hz;obtain ⟨a,vs,e,h1,h2⟩:=vx.tup E.wok;obtain ⟨v,g1,g2⟩:=h2.atIE hz;exact .inr (.inl ⟨a,vs,i,v,e,vy.intE,h1,g1,k _ _ w (Res.data E g2) p⟩)
   ·exact p.elim
  ·exact p.elim
theorem C2k {X:Cx} {K:Frag} (h:X.K=K):IxR X (rIx K):=by subst h; exact C6d
def pU (gd:Int->PyData) (x:PyData) (Q:SV->Prop):Prop:=match x with
 | .int i=>Q (.d (gd i))
 | _=>False
def pUn (f:PyData->(SV->Prop)->Prop) (pa:PDt) (env:PEnv) (Q:SV->PEnv->Prop):Prop:=pa env fun x e=>f x fun s=>Q s e
instance re_neg {K:Frag} {ta:TE} {pa:PDt} {f:Int->Int} [ha:RW K ta pa]:RE K (tUn (rU fun i=>.int (f i)) ta) (pUn (pU fun i=>.int (f i)) pa) where
 ok:=by
  rintro c w env σ Qp Q rfl E p k;refine ha.ok c w env σ _ _ rfl E p fun x dx e1 w1 E1 l1 v1 q1=>?_;unfold pU at q1;split at q1
  ·rename_i i;exact ⟨i,v1.intE,k _ _ e1 w1 ((Res.data E1 (.int _)).pre l1) q1⟩
  ·exact q1.elim
inductive VVs (K:Frag) (w:Wd):List V->LP->Prop
 | nil:VVs K w [] []
 | cons {v:V} {x:PyData} {vs:List V} {xs:LP}:VV K w v x->VVs K w vs xs->VVs K w (v :: vs) (x :: xs)
class RAv (K:Frag) (ta:TA) (pa:outParam PAr):Prop where
 ok:∀ (c:Ct) (w:Wd) (env:PEnv) (σ:St) (Qp:LP->PEnv->Prop) (Q:List V->Hpp->Prop),c.K=K->EnvOk c w env σ->pa env Qp->(∀ vs xs env' w',EnvOk c w' env' σ->Lw w w'->VVs K w' vs xs->Qp xs env'->Q vs w'.H)->ta σ w.H Q
class RAd (K:Frag) (ta:TA) (pa:outParam PAr):Prop where
 ok:∀ (c:Ct) (w:Wd) (env:PEnv) (σ:St) (Qp:LP->PEnv->Prop) (Q:List V->Hpp->Prop),c.K=K->EnvOk c w env σ->pa env Qp->(∀ vs xs env' w',EnvOk c w' env' σ->Lw w w'->DenAll K w'.F vs xs->Qp xs env'->Q vs w'.H)->ta σ w.H Q
def pNil (env:PEnv) (Q:LP->PEnv->Prop):Prop:=Q [] env
def B0w (pa:PDt) (pr:PAr) (env:PEnv) (Q:LP->PEnv->Prop):Prop:=pa env fun x e1=>pr e1 fun xs e2=>Q (x :: xs) e2
instance rav_nil {K:Frag}:RAv K tNil pNil:=⟨fun c w env σ Qp Q _ E p k=>k [] [] env w E (Lw.refl w) .nil p⟩
instance rad_nil {K:Frag}:RAd K tNil pNil:=⟨fun c w env σ Qp Q _ E p k=>k [] [] env w E (Lw.refl w) .nil p⟩
instance rav_cons {K:Frag} {ta:TE} {tr:TA} {pa:PDt} {pr:PAr} [ha:RW K ta pa] [hr:RAv K tr pr]:RAv K (F9 ta tr) (B0w pa pr) where
 ok:=by
  rintro c w env σ Qp Q rfl E p k;refine ha.ok c w env σ _ _ rfl E p fun x dx e1 w1 E1 l1 v1 q1=>?_;refine hr.ok c w1 e1 σ _ _ rfl E1 q1 fun vs xs e2 w2 E2 l2 v2 q2=>?_;exact k _ _ e2 w2 E2 (l1.trans l2) (.cons (v1.mono l2) v2) q2
instance rad_cons {K:Frag} {ta:TE} {tr:TA} {pa:PDt} {pr:PAr} [ha:RD K ta pa] [hr:RAd K tr pr]:RAd K (F9 ta tr) (B0w pa pr) where
 ok:=by
  rintro c w env σ Qp Q rfl E p k;refine ha.ok c w env σ _ _ rfl E p fun x dx e1 w1 E1 l1 v1 q1=>?_;refine hr.ok c w1 e1 σ _ _ rfl E1 q1 fun vs xs e2 w2 E2 l2 v2 q2=>?_;exact k _ _ e2 w2 E2 (l1.trans l2) (.cons (Den.same l2.f v1) v2) q2
def pTup (pa:PAr) (env:PEnv) (Q:SV->PEnv->Prop):Prop:=pa env fun xs e=>xs.length<=1000/\Q (.d (.tuple xs)) e
def pLst (pa:PAr) (env:PEnv) (Q:SV->PEnv->Prop):Prop:=pa env fun xs e=>xs.length<=1000/\Q (.own xs) e
instance re_tup {K:Frag} {ta:TA} {pa:PAr} [ha:RAd K ta pa]:RE K (tTup ta) (pTup pa) where
 ok:=by
  rintro c w env σ Qp Q rfl E p k;refine ha.ok c w env σ _ _ rfl E p fun vs xs e1 w1 E1 l1 v1 q1=>⟨?_,fun p hp=>?_⟩
  ·rw [v1.len]; exact Nat.le_of_lt (O0 q1.1)
  ·exact k _ _ e1 _ ((Res.tup E1 hp v1).pre l1) q1.2
instance re_lst {K:Frag} {ta:TA} {pa:PAr} [ha:RAd K ta pa]:RE K (tLst ta) (pLst pa) where
 ok:=by
  rintro c w env σ Qp Q rfl E p k;refine ha.ok c w env σ _ _ rfl E p fun vs xs e1 w1 E1 l1 v1 q1=>⟨?_,fun p hp=>?_⟩
  ·rw [v1.len]; exact Nat.le_of_lt (O0 q1.1)
  ·exact k _ _ e1 _ ((Res.lst E1 hp v1).pre l1) q1.2
class RB (K:Frag) (r:List V->Hpp->VK->Prop) (pr:outParam (LP->(SV->Prop)->Prop)):Prop where
 ok:∀ (c:Ct) (w:Wd) (env:PEnv) (σ:St) (vs:List V) (xs:LP) (Qp:SV->Prop) (Q:VK),c.K=K->EnvOk c w env σ->VVs K w vs xs->pr xs Qp->(∀ v s w',Res c w env σ w' v s->Qp s->Q v w'.H)->r vs w.H Q
def pCB (pr:LP->(SV->Prop)->Prop) (pa:PAr) (env:PEnv) (Q:SV->PEnv->Prop):Prop:=pa env fun xs e=>pr xs fun s=>Q s e
instance re_cb {K:Frag} {r:List V->Hpp->VK->Prop} {ta:TA} {pr:LP->(SV->Prop)->Prop} {pa:PAr} [h:RB K r pr] [ha:RAv K ta pa]:RE K (tCB r ta) (pCB pr pa) where
 ok:=by
  rintro c w env σ Qp Q rfl E p k;refine ha.ok c w env σ _ _ rfl E p fun vs xs e1 w1 E1 l1 v1 q1=>?_;exact h.ok c w1 e1 σ vs xs _ _ rfl E1 v1 q1 fun v s w' R q=>k v s e1 w' (R.pre l1) q
def rAbs:List V->Hpp->VK->Prop:=fun xs H Q=>∃ i,xs=[.int i]/\Q (.int (if i < 0 then -i else i)) H
def rMax:List V->Hpp->VK->Prop:=fun xs H Q=>∃ i j,xs=[.int i,.int j]/\Q (.int (if j > i then j else i)) H
def rMin:List V->Hpp->VK->Prop:=fun xs H Q=>∃ i j,xs=[.int i,.int j]/\Q (.int (if j < i then j else i)) H
def rInt:List V->Hpp->VK->Prop:=fun xs H Q=>(∃ i,xs=[.int i]/\Q (.int i) H)\/∃ k,xs=[.bl k]/\Q (.int (if k then 1 else 0)) H
def B7n (K:Frag):List V->Hpp->VK->Prop:=fun xs H Q=>∃ p ys,xs=[.ref p]/\(SqL K H p ys\/SqT K H p ys)/\∀ l,H l=none->Q (.ref l) (upd H l (.lst ys))
def rIsi (K:Frag):List V->Hpp->VK->Prop:=fun xs H Q=>∃ x c T b,xs=[x,.ty c]/\TyV K H x T/\kitB T c=some b/\Q (.bl b) H
section
variable {X:Cx}
theorem A3c:CallR X (.builtin "abs") rAbs:=B6r
theorem B4m (hc:X.calm=true):CallR X (.builtin "max") rMax:=B4n hc
theorem B4k (hc:X.calm=true):CallR X (.builtin "min") rMin:=B4l hc
theorem Y7:CallR X (.type "int") rInt:=A3b
theorem G4 {K:Frag} (h:X.K=K):CallR X (.type "list") (B7n K):=by subst h; exact A29
theorem C6 {K:Frag} (h:X.K=K):CallR X (.builtin "isinstance") (rIsi K):=by subst h; exact A4l
end
def pLen (xs:LP) (Q:SV->Prop):Prop:=match xs with
 | [.list ys]=>Q (.d (.int ys.length))
 | [.tuple ys]=>Q (.d (.int ys.length))
 | _=>False
def pAbs (xs:LP) (Q:SV->Prop):Prop:=match xs with
 | [.int i]=>Q (.d (.int (if i < 0 then -i else i)))
 | _=>False
def pMax (xs:LP) (Q:SV->Prop):Prop:=match xs with
 | [.int i,.int j]=>Q (.d (.int (if j > i then j else i)))
 | _=>False
def pMin (xs:LP) (Q:SV->Prop):Prop:=match xs with
 | [.int i,.int j]=>Q (.d (.int (if j < i then j else i)))
 | _=>False
def pInt (xs:LP) (Q:SV->Prop):Prop:=match xs with
 | [.int i]=>Q (.d (.int i))
 | [.bool k]=>Q (.d (.int (if k then 1 else 0)))
 | _=>False
def A5k (xs:LP) (Q:SV->Prop):Prop:=match xs with
 | [.list ys]=>Q (.own ys)
 | [.tuple ys]=>Q (.own ys)
 | _=>False
instance rb_abs {K:Frag}:RB K rAbs pAbs where
 ok:=by
  rintro c w env σ vs xs Qp Q rfl E vv p k;unfold pAbs at p;split at p
  ·cases vv with | cons h t=>cases t; exact ⟨_,by rw [h.intE],k _ _ w (Res.data E (.int _)) p⟩
  ·exact p.elim
instance rb_max {K:Frag}:RB K rMax pMax where
 ok:=by
  rintro c w env σ vs xs Qp Q rfl E vv p k;unfold pMax at p;split at p
  ·cases vv with | cons h t=>cases t with | cons h' t=>cases t; exact ⟨_,_,by rw [h.intE,h'.intE],k _ _ w (Res.data E (.int _)) p⟩
  ·exact p.elim
instance rb_min {K:Frag}:RB K rMin pMin where
 ok:=by
  rintro c w env σ vs xs Qp Q rfl E vv p k;unfold pMin at p;split at p
  ·cases vv with | cons h t=>cases t with | cons h' t=>cases t; exact ⟨_,_,by rw [h.intE,h'.intE],k _ _ w (Res.data E (.int _)) p⟩
  ·exact p.elim
instance rb_int {K:Frag}:RB K rInt pInt where
 ok:=by
  rintro c w env σ vs xs Qp Q rfl E vv p k;unfold pInt at p;split at p
  ·cases vv with | cons h t=>cases t; exact .inl ⟨_,by rw [h.intE],k _ _ w (Res.data E (.int _)) p⟩
  ·cases vv with | cons h t=>cases t; exact .inr ⟨_,by rw [h.blE],k _ _ w (Res.data E (.int _)) p⟩
  ·exact p.elim
instance rb_lst {K:Frag}:RB K (B7n K) A5k where
 ok:=by
  rintro c w env σ vs xs Qp Q rfl E vv p k;unfold A5k at p;split at p
  ·cases vv with | cons h t=>cases t; obtain ⟨a,us,e,h1,h2⟩:=h.lst E.wok; exact ⟨a,us,by rw [e],.inl h1,fun l hl=>k _ _ _ (Res.lst E hl h2) p⟩
  ·cases vv with | cons h t=>cases t; obtain ⟨a,us,e,h1,h2⟩:=h.tup E.wok; exact ⟨a,us,by rw [e],.inr h1,fun l hl=>k _ _ _ (Res.lst E hl h2) p⟩
  ·exact p.elim
def tyD:PyData->String
 | .none=>"NoneType"
 | .bool _=>"bool"
 | .int _=>"int"
 | .str _=>"str"
 | .list _=>"list"
 | .tuple _=>"tuple"
 | .dict _=>"dict"
theorem Den.ty {K:Frag} {H:Hpp} {v:V} {x:PyData} (h:Den K H v x):TyV K H v (tyD x):=by
 cases h with
 | non=>rfl
 | bl=>rfl
 | int=>rfl
 | str=>rfl
 | lst h _=>exact .inl ⟨rfl,_,h⟩
 | tup h _=>exact .inr (.inl ⟨rfl,_,h.1⟩)
 | dct h=>exact .inr (.inr ⟨rfl,_,h⟩)
def pIsi (c:String) (pa:PDt) (env:PEnv) (Q:SV->PEnv->Prop):Prop:=pa env fun x e=>match kitB (tyD x) c with
 | some b=>Q (.d (.bool b)) e
 | none=>False
instance (priority:=high) re_isi {K:Frag} {ta:TE} {pa:PDt} {c:String} [ha:RW K ta pa]:RE K (tCB (rIsi K) (F9 ta (F9 (tC (.ty c)) tNil))) (pIsi c pa) where
 ok:=by
  rintro ct w env σ Qp Q rfl E p k;refine ha.ok ct w env σ _ _ rfl E p fun x dx e1 w1 E1 l1 v1 q1=>?_;split at q1
  ·rename_i b hb;exact ⟨x,c,_,b,rfl,Den.ty (v1.den E1.wok),hb,k _ _ e1 w1 ((Res.data E1 (.bl _)).pre l1) q1⟩
  ·exact q1.elim
end Pu
namespace Pu
open PySem L2 My Prf
class RT (K:Frag) (tt:TT) (pt:outParam PTt):Prop where
 ok:∀ (c:Ct) (w:Wd) (env:PEnv) (σ:St) (Qp:Bool->PEnv->Prop) (Q:Bool->Hpp->Prop),c.K=K->EnvOk c w env σ->pt env Qp->(∀ b env' w',EnvOk c w' env' σ->Lw w w'->Qp b env'->Q b w'.H)->tt σ w.H Q
def asB (x:PyData) (k:Bool->Prop):Prop:=match x with
 | .bool b=>k b
 | _=>False
def A93 (pa:PDt) (env:PEnv) (Q:Bool->PEnv->Prop):Prop:=pa env fun x e=>asB x fun b=>Q b e
instance rt_test {K:Frag} {ta:TE} {pa:PDt} [ha:RW K ta pa]:RT K (A8y ta) (A93 pa) where
 ok:=by
  rintro c w env σ Qp Q rfl E p k;refine ha.ok c w env σ _ _ rfl E p fun x dx e1 w1 E1 l1 v1 q1=>?_;unfold asB at q1;split at q1
  ·exact ⟨_,v1.blE,k _ e1 w1 E1 l1 q1⟩
  ·exact q1.elim
instance rt_B {K:Frag} {ta:TE} {pa:PDt} [ha:RW K ta pa]:RT K (tB ta) (A93 pa) where
 ok:=by
  rintro c w env σ Qp Q rfl E p k;refine ha.ok c w env σ _ _ rfl E p fun x dx e1 w1 E1 l1 v1 q1=>?_;unfold asB at q1;split at q1
  ·exact ⟨_,v1.blE,k _ e1 w1 E1 l1 q1⟩
  ·exact q1.elim
def pYes (env:PEnv) (Q:Bool->PEnv->Prop):Prop:=Q true env
instance rt_yes {K:Frag}:RT K tYes pYes:=⟨fun c w env σ Qp Q _ E p k=>k true env w E (Lw.refl w) p⟩
def pNot (pa:PTt) (env:PEnv) (Q:Bool->PEnv->Prop):Prop:=pa env fun b e=>Q (!b) e
def pAnd (pa pb:PTt) (env:PEnv) (Q:Bool->PEnv->Prop):Prop:=pa env fun b e=>if b=true then pb e Q else Q false e
def pOr (pa pb:PTt) (env:PEnv) (Q:Bool->PEnv->Prop):Prop:=pa env fun b e=>if b=true then Q true e else pb e Q
instance rt_not {K:Frag} {ta:TT} {pa:PTt} [ha:RT K ta pa]:RT K (tNot ta) (pNot pa) where
 ok:=by
  rintro c w env σ Qp Q rfl E p k;exact ha.ok c w env σ _ _ rfl E p fun b e1 w1 E1 l1 q1=>k _ e1 w1 E1 l1 q1
instance rt_and {K:Frag} {ta tb:TT} {pa pb:PTt} [ha:RT K ta pa] [hb:RT K tb pb]:RT K (tAnd ta tb) (pAnd pa pb) where
 ok:=by
  rintro c w env σ Qp Q rfl E p k;refine ha.ok c w env σ _ _ rfl E p fun b e1 w1 E1 l1 q1=>?_;cases b with
  | true=>exact hb.ok c w1 e1 σ _ _ rfl E1 q1 fun b e2 w2 E2 l2 q2=>k _ e2 w2 E2 (l1.trans l2) q2
  | false=>exact k _ e1 w1 E1 l1 q1
instance rt_or {K:Frag} {ta tb:TT} {pa pb:PTt} [ha:RT K ta pa] [hb:RT K tb pb]:RT K (tOr ta tb) (pOr pa pb) where
 ok:=by
  rintro c w env σ Qp Q rfl E p k;refine ha.ok c w env σ _ _ rfl E p fun b e1 w1 E1 l1 q1=>?_;cases b with
  | false=>exact hb.ok c w1 e1 σ _ _ rfl E1 q1 fun b e2 w2 E2 l2 q2=>k _ e2 w2 E2 (l1.trans l2) q2
  | true=>exact k _ e1 w1 E1 l1 q1
def C1l (pa:PDt) (env:PEnv) (Q:SV->PEnv->Prop):Prop:=pa env fun x e=>asB x fun b=>Q (.d (.bool (!b))) e
def C11 (pa:PDt) (pb:PX) (env:PEnv) (Q:SV->PEnv->Prop):Prop:=pa env fun x e=>asB x fun b=>if b=true then pb e Q else Q (.d (.bool false)) e
def pOrV (pa:PDt) (pb:PX) (env:PEnv) (Q:SV->PEnv->Prop):Prop:=pa env fun x e=>asB x fun b=>if b=true then Q (.d (.bool true)) e else pb e Q
instance re_notV {K:Frag} {ta:TE} {pa:PDt} [ha:RW K ta pa]:RE K (B98 ta) (C1l pa) where
 ok:=by
  rintro c w env σ Qp Q rfl E p k;refine ha.ok c w env σ _ _ rfl E p fun x dx e1 w1 E1 l1 v1 q1=>?_;unfold asB at q1;split at q1
  ·exact ⟨_,v1.blE,k _ _ e1 w1 ((Res.data E1 (.bl _)).pre l1) q1⟩
  ·exact q1.elim
instance re_andV {K:Frag} {ta tb:TE} {pa:PDt} {pb:PX} [ha:RW K ta pa] [hb:RE K tb pb]:RE K (C0a ta tb) (C11 pa pb) where
 ok:=by
  rintro c w env σ Qp Q rfl E p k;refine ha.ok c w env σ _ _ rfl E p fun x dx e1 w1 E1 l1 v1 q1=>?_;unfold asB at q1;split at q1
  ·rename_i b;refine ⟨_,v1.blE,?_⟩;cases b with
   | true=>exact hb.ok c w1 e1 σ _ _ rfl E1 q1 fun v s e2 w2 R q2=>k _ _ e2 w2 (R.pre l1) q2
   | false=>exact k _ _ e1 w1 ((Res.data E1 (.bl _)).pre l1) q1
  ·exact q1.elim
instance re_orV {K:Frag} {ta tb:TE} {pa:PDt} {pb:PX} [ha:RW K ta pa] [hb:RE K tb pb]:RE K (tOrV ta tb) (pOrV pa pb) where
 ok:=by
  rintro c w env σ Qp Q rfl E p k;refine ha.ok c w env σ _ _ rfl E p fun x dx e1 w1 E1 l1 v1 q1=>?_;unfold asB at q1;split at q1
  ·rename_i b;refine ⟨_,v1.blE,?_⟩;cases b with
   | false=>exact hb.ok c w1 e1 σ _ _ rfl E1 q1 fun v s e2 w2 R q2=>k _ _ e2 w2 (R.pre l1) q2
   | true=>exact k _ _ e1 w1 ((Res.data E1 (.bl _)).pre l1) q1
  ·exact q1.elim
def pIfE (pt:PTt) (pa pb:PX) (env:PEnv) (Q:SV->PEnv->Prop):Prop:=pt env fun b e=>if b=true then pa e Q else pb e Q
instance re_if {K:Frag} {tt:TT} {ta tb:TE} {pt:PTt} {pa pb:PX} [ht:RT K tt pt] [ha:RE K ta pa] [hb:RE K tb pb]:RE K (tIf tt ta tb) (pIfE pt pa pb) where
 ok:=by
  rintro c w env σ Qp Q rfl E p k;refine ht.ok c w env σ _ _ rfl E p fun b e1 w1 E1 l1 q1=>?_;cases b with
  | true=>exact ha.ok c w1 e1 σ _ _ rfl E1 q1 fun v s e2 w2 R q2=>k _ _ e2 w2 (R.pre l1) q2
  | false=>exact hb.ok c w1 e1 σ _ _ rfl E1 q1 fun v s e2 w2 R q2=>k _ _ e2 w2 (R.pre l1) q2
inductive Md where
 | dat | vw | st | bt
def TV (K:Frag) (w:Wd) (v:V) (t:OT):Prop:=Tre K w t [v]/\∀ a ∈ t.fp,¬ w.M a
theorem TV.mono {K:Frag} {w w':Wd} {v:V} {t:OT} (a:Lw w w') (h:TV K w v t) (hs:∀ a ∈ t.fp,w.H a≠none):TV K w' v t :=
 ⟨h.1.mono a h.2,fun b hb=>a.nm (hs b hb) (h.2 b hb)⟩
theorem Tre.has {K:Frag} {w:Wd}:∀ {t:OT} {vs:List V},Tre K w t vs->∀ a ∈ t.fp,w.H a≠none
 | .leaf _,_,_,_,z=>nomatch z
 | .nd _ p _,_,⟨_,_,h,k⟩,a,z=>(List.mem_cons.mp z).elim (fun e=>by rw [e,h]; simp) (Tre.has k a)
 | .nil,_,_,_,z=>nomatch z
 | .cons _ _,_,⟨_,_,_,h,t⟩,a,z=>(Za z).elim (Tre.has h a) (Tre.has t a)
inductive Args (K:Frag) (w:Wd):List Md->List V->List SV->Prop
 | nil:Args K w [] [] []
 | dat {v:V} {x:PyData} {md:List Md} {vs:List V} {as:List SV}:Den K w.F v x->Args K w md vs as->Args K w (.dat :: md) (v :: vs) (.d x :: as)
 | vw {v:V} {xs:LP} {md:List Md} {vs:List V} {as:List SV}:VV K w v (.list xs)->Args K w md vs as->Args K w (.vw :: md) (v :: vs) (.bor xs :: as)
 | bt {v:V} {t:OT} {md:List Md} {vs:List V} {as:List SV}:TV K w v t->Args K w md vs as->Args K w (.bt :: md) (v :: vs) (.bt t :: as)
 | st {v:V} {md:List Md} {vs:List V} {as:List SV}:(∃ p,v=.ref p/\w.M p)->Args K w md vs as->Args K w (.st :: md) (v :: vs) (.st :: as)
theorem Args.len {K:Frag} {w:Wd}:∀ {md vs as},Args K w md vs as->vs.length=md.length
 | _,_,_,.nil=>rfl
 | _,_,_,.dat _ t=>congrArg (· + 1) (Args.len t)
 | _,_,_,.vw _ t=>congrArg (· + 1) (Args.len t)
 | _,_,_,.st _ t=>congrArg (· + 1) (Args.len t)
 | _,_,_,.bt _ t=>congrArg (· + 1) (Args.len t)
abbrev PSp:=List SV->(SV->Prop)->Prop
def noZ:Addr->Prop:=fun _=>False
def spOf (K:Frag) (md:List Md) (psp:PSp):Sp:=fun vs H Q _=>∃ (w:Wd) (as:List SV) (Qp:SV->Prop),w.H=H/\w.Ok/\Args K w md vs as/\psp as Qp /\
 ∀ v s w',w'.Ok->Le w w'->VR ⟨K,w,noZ⟩ w' v s->s.isRes=true->Qp s->Q v w'.H
theorem spOf.len {K:Frag} {md:List Md} {psp:PSp} {n:Nat} (h:md.length=n):∀ vs H Q E,spOf K md psp vs H Q E->vs.length=n:=by
 rintro vs H Q E ⟨w,as,Qp,_,_,a,_⟩;exact a.len.trans h
class RAm (K:Frag) (md:List Md) (ta:TA) (pa:outParam PAs):Prop where
 ok:∀ (c:Ct) (w:Wd) (env:PEnv) (σ:St) (Qp:List SV->PEnv->Prop) (Q:List V->Hpp->Prop),c.K=K->EnvOk c w env σ->pa env Qp->(∀ vs as env' w',EnvOk c w' env' σ->Lw w w'->Args K w' md vs as->Qp as env'->Q vs w'.H)->ta σ w.H Q
def B5v (env:PEnv) (Q:List SV->PEnv->Prop):Prop:=Q [] env
def A5t (pa:PDt) (pr:PAs) (env:PEnv) (Q:List SV->PEnv->Prop):Prop:=pa env fun x e1=>pr e1 fun as e2=>Q (.d x :: as) e2
def asL (x:PyData) (k:LP->Prop):Prop:=match x with
 | .list xs=>k xs
 | _=>False
def B0s (pa:PDt) (pr:PAs) (env:PEnv) (Q:List SV->PEnv->Prop):Prop:=pa env fun x e1=>asL x fun xs=>pr e1 fun as e2=>Q (.bor xs :: as) e2
def isSt (o:Option (Option SV)) (k:Prop):Prop:=match o with
 | some (some .st)=>k
 | _=>False
def A5r (i:Nat) (pr:PAs) (env:PEnv) (Q:List SV->PEnv->Prop):Prop:=isSt env[i]? (pr env fun as e2=>Q (.st :: as) e2)
instance ram_nil {K:Frag}:RAm K [] tNil B5v:=⟨fun c w env σ Qp Q _ E p k=>k [] [] env w E (Lw.refl w) .nil p⟩
instance ram_dat {K:Frag} {md:List Md} {ta:TE} {tr:TA} {pa:PDt} {pr:PAs} [ha:RD K ta pa] [hr:RAm K md tr pr]:RAm K (.dat :: md) (F9 ta tr) (A5t pa pr) where
 ok:=by
  rintro c w env σ Qp Q rfl E p k;refine ha.ok c w env σ _ _ rfl E p fun x dx e1 w1 E1 l1 v1 q1=>?_;refine hr.ok c w1 e1 σ _ _ rfl E1 q1 fun vs xs e2 w2 E2 l2 v2 q2=>?_;exact k _ _ e2 w2 E2 (l1.trans l2) (.dat (Den.same l2.f v1) v2) q2
instance ram_vw {K:Frag} {md:List Md} {ta:TE} {tr:TA} {pa:PDt} {pr:PAs} [ha:RW K ta pa] [hr:RAm K md tr pr]:RAm K (.vw :: md) (F9 ta tr) (B0s pa pr) where
 ok:=by
  rintro c w env σ Qp Q rfl E p k;refine ha.ok c w env σ _ _ rfl E p fun x dx e1 w1 E1 l1 v1 q1=>?_;unfold asL at q1;split at q1
  ·refine hr.ok c w1 e1 σ _ _ rfl E1 q1 fun vs xs e2 w2 E2 l2 v2 q2=>?_;exact k _ _ e2 w2 E2 (l1.trans l2) (.vw (v1.mono l2) v2) q2
  ·exact q1.elim
instance ram_st {K:Frag} {md:List Md} {i:Nat} {tr:TA} {pr:PAs} [hr:RAm K md tr pr]:RAm K (.st :: md) (F9 (tVar i) tr) (A5r i pr) where
 ok:=by
  rintro c w env σ Qp Q rfl E p k;unfold A5r isSt at p;split at p
  ·rename_i e;obtain ⟨v,h1,h2⟩:=E.at' i _ e;refine ⟨v,h1,?_⟩;refine hr.ok c w env σ _ _ rfl E p fun vs xs e2 w2 E2 l2 v2 q2=>?_;obtain ⟨q,e',hm⟩:=h2;exact k _ _ e2 w2 E2 l2 (.st ⟨q,e',l2.m _ hm⟩ v2) q2
  ·exact p.elim
def C1z (psp:PSp) (pa:PAs) (env:PEnv) (Q:SV->PEnv->Prop):Prop:=pa env fun as e=>psp as fun s=>Q s e
theorem Res.called {c:Ct} {w w':Wd} {env:PEnv} {σ:St} {v:V} {s:SV} (E:EnvOk c w env σ) (ok:w'.Ok) (l:Le w w') (h:VR ⟨c.K,w,noZ⟩ w' v s) (r:s.isRes=true):Res c w env σ w' v s:=by
 refine ⟨E.mono ok l,l.toLw,?_,fun a f=>E.fresh (h.foot f).2.2.2,r⟩;cases s with
 | d x=>exact h
 | own xs=>obtain ⟨a,vs,e,h1,h2,h3,h4,h5⟩:=h; exact ⟨a,vs,e,h1,h2,h3,E.le0.dom _ h4,h5⟩
 | bor xs=>cases r
 | bt t=>cases r
 | al t=>cases r
 | dk ks=>obtain ⟨l',e,h1,h2,h3,h4⟩:=h; exact ⟨l',e,h1,h2,h3,E.le0.dom _ h4⟩
 | st=>exact h
 | tr t=>exact ⟨h.1,fun a f=>⟨(h.2.1 a f).1,(h.2.1 a f).2.1,(h.2.1 a f).2.2.1,E.le0.dom _ (h.2.1 a f).2.2.2⟩,h.2.2⟩
instance re_call {K:Frag} {md:List Md} {psp:PSp} {E0':XK} {ta:TA} {pa:PAs} [ha:RAm K md ta pa]:RE K (A1z (spOf K md psp) [] E0' ta) (C1z psp pa) where
 ok:=by
  rintro c w env σ Qp Q rfl E p k;refine ha.ok c w env σ _ _ rfl E p fun vs as e1 w1 E1 l1 a1 q1=>?_;rw [List.append_nil];exact ⟨w1,as,_,rfl,E1.wok,a1,q1,fun v s w' ok l h r q=>k v s e1 w' ((Res.called E1 ok l h r).pre l1) q⟩
structure PEnds where
 nx:PEnv->Prop
 rt:SV->PEnv->Prop
 bk:PEnv->Prop
 ct:PEnv->Prop
abbrev PSt:=PEnds->PEnv->Prop
structure EndsOk (c:Ct) (w:Wd) (Dp:PEnds) (D:Ends):Prop where
 nx:∀ env σ w',EnvOk c w' env σ->Same w.F w'.F->Dp.nx env->D.nx σ w'.H
 rt:∀ v s env σ w',EnvOk c w' env σ->VR c w' v s->s.isRes=true->Dp.rt s env->D.rt v w'.H
 bk:∀ env σ w',EnvOk c w' env σ->Same w.F w'.F->Dp.bk env->D.bk σ w'.H
 ct:∀ env σ w',EnvOk c w' env σ->Same w.F w'.F->Dp.ct env->D.ct σ w'.H
theorem EndsOk.on {c:Ct} {w w1:Wd} {Dp:PEnds} {D:Ends} (h:EndsOk c w Dp D) (s:Same w.F w1.F):EndsOk c w1 Dp D :=
 ⟨fun e σ w' E s'=>h.nx e σ w' E (s.trans s'),h.rt,fun e σ w' E s'=>h.bk e σ w' E (s.trans s'),fun e σ w' E s'=>h.ct e σ w' E (s.trans s')⟩
class RS (K:Frag) (ts:TS) (ps:outParam PSt):Prop where
 ok:∀ (c:Ct) (w:Wd) (env:PEnv) (σ:St) (Dp:PEnds) (D:Ends),c.K=K->EnvOk c w env σ->EndsOk c w Dp D->ps Dp env->ts D σ w.H
def B5w (D:PEnds) (env:PEnv):Prop:=D.nx env
def B8l (D:PEnds) (env:PEnv):Prop:=D.bk env
def C40 (D:PEnds) (env:PEnv):Prop:=D.ct env
def B0a (_:PEnds) (_:PEnv):Prop:=False
def pSeq (p q:PSt) (D:PEnds) (env:PEnv):Prop:=p { D with nx:=q D } env
instance rs_next {K:Frag}:RS K B99 B5w:=⟨fun c w env σ Dp D _ E h p=>h.nx env σ w E (Same.refl _) p⟩
instance rs_never {K:Frag}:RS K A8z B0a:=⟨fun c w env σ Dp D _ E h p=>p.elim⟩
instance rs_seq {K:Frag} {t u:TS} {p q:PSt} [ht:RS K t p] [hu:RS K u q]:RS K (tSeq t u) (pSeq p q) where
 ok:=by
  rintro c w env σ Dp D rfl E h pr;refine ht.ok c w env σ { Dp with nx:=q Dp } _ rfl E ⟨fun e1 σ1 w1 E1 s1 n1=>?_,h.rt,h.bk,h.ct⟩ pr;exact hu.ok c w1 e1 σ1 Dp D rfl E1 (h.on s1) n1
def C1x (pe:PX) (D:PEnds) (env:PEnv):Prop:=pe env fun _ e=>D.nx e
instance (priority:=low) rs_drop {K:Frag} {te:TE} {pe:PX} [he:RE K te pe]:RS K (Z4 te) (C1x pe) where
 ok:=by
  rintro c w env σ Dp D rfl E h p;exact he.ok c w env σ _ _ rfl E p fun v s e1 w1 R q=>h.nx e1 σ w1 R.ev R.lw.f q
def pRet (pe:PX) (D:PEnds) (env:PEnv):Prop:=pe env fun s e=>D.rt s e
instance (priority:=low) rs_ret {K:Frag} {te:TE} {pe:PX} [he:RE K te pe]:RS K (tRet te) (pRet pe) where
 ok:=by
  rintro c w env σ Dp D rfl E h p;exact he.ok c w env σ _ _ rfl E p fun v s e1 w1 R q=>h.rt v s e1 σ w1 R.ev R.val R.res q
def C1j (i:Nat) (D:PEnds) (env:PEnv):Prop:=match env[i]? with
 | some (some (.bor _))=>False
 | some (some (.bt _))=>False
 | some (some (.al _))=>False
 | some (some s)=>D.rt s env
 | _=>False
instance rs_retV {K:Frag} {i:Nat}:RS K (tRet (tVar i)) (C1j i) where
 ok:=by
  rintro c w env σ Dp D rfl E h p;unfold C1j at p;split at p
  ·exact p.elim
  ·exact p.elim
  ·exact p.elim
  ·rename_i s hn hn2 hn3 e;obtain ⟨v,h1,h2⟩:=E.at' i _ e;refine ⟨v,h1,h.rt v s env σ w E h2 ?_ p⟩;cases s with
   | bor xs=>exact absurd rfl (hn xs)
   | bt t=>exact absurd rfl (hn2 t)
   | al t=>exact absurd rfl (hn3 t)
   | _=>rfl
  ·exact p.elim
def C4k (D:PEnds) (env:PEnv):Prop:=D.rt (.d .none) env
def pIf (pt:PTt) (p q:PSt) (D:PEnds) (env:PEnv):Prop:=pt env fun b e=>if b=true then p D e else q D e
instance rs_if {K:Frag} {tt:TT} {t u:TS} {pt:PTt} {p q:PSt} [hc:RT K tt pt] [ht:RS K t p] [hu:RS K u q]:RS K (tIfS tt t u) (pIf pt p q) where
 ok:=by
  rintro c w env σ Dp D rfl E h pr;refine hc.ok c w env σ _ _ rfl E pr fun b e1 w1 E1 l1 q1=>?_;cases b with
  | true=>exact ht.ok c w1 e1 σ Dp D rfl E1 (h.on l1.f) q1
  | false=>exact hu.ok c w1 e1 σ Dp D rfl E1 (h.on l1.f) q1
def pAsg (pe:PX) (i:Nat) (D:PEnds) (env:PEnv):Prop:=pe env fun s e=>D.nx (e.set i (some s))
instance rs_asg {K:Frag} {te:TE} {pe:PX} {i:Nat} [he:RE K te pe]:RS K (tAsg te (P2 i)) (pAsg pe i) where
 ok:=by
  rintro c w env σ Dp D rfl E h p;exact he.ok c w env σ _ _ rfl E p fun v s e1 w1 R q=>h.nx _ _ w1 (R.ev.set R.val R.new) R.lw.f q
class RG (K:Frag) (g:TG) (pg:outParam (PyData->PEnv->(PEnv->Prop)->Prop)):Prop where
 ok:∀ (c:Ct) (w:Wd) (env:PEnv) (σ:St) (v:V) (x:PyData) (Qp:PEnv->Prop) (Q:St->Hpp->Prop),c.K=K->EnvOk c w env σ->Den K w.F v x->pg x env Qp->(∀ env' σ',EnvOk c w env' σ'->Qp env'->Q σ' w.H)->g v σ w.H Q
class RGs (K:Frag) (g:TGs) (pg:outParam (LP->PEnv->(PEnv->Prop)->Prop)):Prop where
 ok:∀ (c:Ct) (w:Wd) (env:PEnv) (σ:St) (vs:List V) (xs:LP) (Qp:PEnv->Prop) (Q:St->Hpp->Prop),c.K=K->EnvOk c w env σ->DenAll K w.F vs xs->pg xs env Qp->(∀ env' σ',EnvOk c w env' σ'->Qp env'->Q σ' w.H)->g vs σ w.H Q
def A7h (i:Nat) (x:PyData) (env:PEnv) (Q:PEnv->Prop):Prop:=Q (env.set i (some (.d x)))
instance rg_name {K:Frag} {i:Nat}:RG K (P2 i) (A7h i) where
 ok:=by
  rintro c w env σ v x Qp Q rfl E d p k;exact k _ _ (E.set (s:=.d x) d (fun _ z=>nomatch z)) p
def qNil (xs:LP) (env:PEnv) (Q:PEnv->Prop):Prop:=match xs with
 | []=>Q env
 | _=>False
def C0o (pg:PyData->PEnv->(PEnv->Prop)->Prop) (pr:LP->PEnv->(PEnv->Prop)->Prop) (xs:LP) (env:PEnv) (Q:PEnv->Prop):Prop:=match xs with
 | x :: r=>pg x env fun e=>pr r e Q
 | []=>False
def qTup (n:Nat) (pr:LP->PEnv->(PEnv->Prop)->Prop) (x:PyData) (env:PEnv) (Q:PEnv->Prop):Prop:=match x with
 | .tuple xs=>xs.length=n/\pr xs env Q
 | _=>False
instance rgs_nil {K:Frag}:RGs K gNil qNil where
 ok:=by
  rintro c w env σ vs xs Qp Q rfl E d p k;unfold qNil at p;split at p
  ·cases d; exact ⟨rfl,k env σ E p⟩
  ·exact p.elim
instance rgs_cons {K:Frag} {g:TG} {gs:TGs} {pg:PyData->PEnv->(PEnv->Prop)->Prop} {pr:LP->PEnv->(PEnv->Prop)->Prop} [hg:RG K g pg] [hr:RGs K gs pr]:RGs K (A0f g gs) (C0o pg pr) where
 ok:=by
  rintro c w env σ vs xs Qp Q rfl E d p k;unfold C0o at p;split at p
  ·cases d with
   | cons h t =>
    refine ⟨_,_,rfl,hg.ok c w env σ _ _ _ _ rfl E h p fun e1 σ1 E1 q1=>?_⟩;exact hr.ok c w e1 σ1 _ _ _ _ rfl E1 t q1 k
  ·exact p.elim
instance rg_tup {K:Frag} {n:Nat} {gs:TGs} {pr:LP->PEnv->(PEnv->Prop)->Prop} [hr:RGs K gs pr]:RG K (gTup K n gs) (qTup n pr) where
 ok:=by
  rintro c w env σ v x Qp Q rfl E d p k;unfold qTup at p;split at p
  ·obtain ⟨a,vs,e,h1,h2⟩:=d.tupE;exact ⟨a,vs,e,SqT.same E.wok.sub h1,h2.len.trans p.1,hr.ok c w env σ _ _ _ _ rfl E h2 p.2 k⟩
  ·exact p.elim
def C10 (pd:PDt) (n:Nat) (pr:LP->PEnv->(PEnv->Prop)->Prop) (D:PEnds) (env:PEnv):Prop:=pd env fun x e=>qTup n pr x e D.nx
instance rs_asgT {K:Frag} {te:TE} {pd:PDt} {n:Nat} {gs:TGs} {pr:LP->PEnv->(PEnv->Prop)->Prop} [he:RD K te pd] [hr:RGs K gs pr]:RS K (tAsg te (gTup K n gs)) (C10 pd n pr) where
 ok:=by
  rintro c w env σ Dp D rfl E h p;refine he.ok c w env σ _ _ rfl E p fun v x e1 w1 E1 l1 d1 q1=>?_;exact rg_tup.ok c w1 e1 σ v x _ _ rfl E1 d1 q1 fun e2 σ2 E2 q2=>h.nx e2 σ2 w1 E2 l1.f q2
def pPar (i j:Nat) (pa:PAr) (D:PEnds) (env:PEnv):Prop:=pa env fun xs e=>match xs with
 | [x,y]=>D.nx ((e.set i (some (.d x))).set j (some (.d y)))
 | _=>False
instance rs_par {K:Frag} {ta:TA} {pa:PAr} {i j:Nat} [ha:RAd K ta pa]:RS K (tPar i j ta) (pPar i j pa) where
 ok:=by
  rintro c w env σ Dp D rfl E h p;refine ha.ok c w env σ _ _ rfl E p fun vs xs e1 w1 E1 l1 d1 q1=>?_;split at q1
  ·cases d1 with
   | cons a t=>cases t with
    | cons b t =>
     cases t;exact ⟨_,_,rfl,h.nx _ _ w1 ((E1.set (s:=.d _) a (fun _ z=>nomatch z)).set (s:=.d _) b (fun _ z=>nomatch z)) l1.f q1⟩
  ·exact q1.elim
def M7 (o:Option (Option SV)) (k:LP->Prop):Prop:=match o with
 | some (some (.own xs))=>k xs
 | _=>False
theorem EnvOk.writeAt {c:Ct} {w:Wd} {env:PEnv} {σ:St} {i:Nat} {s s':SV} {l:Addr} {wo:HO} {v:V} (E:EnvOk c w env σ) (e:env[i]?=some (some s)) (hσ:σ[i]?=some (some v)) (hf:s.foot v l) (hf':∀ a,s'.foot v a->s.foot v a)
  (hd:VR c ⟨w.M,upd w.H l wo,w.F⟩ v s'):EnvOk c ⟨w.M,upd w.H l wo,w.F⟩ (env.set i (some s')) σ:=by
 obtain ⟨h1,h2,h3,h4⟩:=(E.look e hσ).foot hf;have ne:∀ b,w.M b->b≠l:=fun b hb z=>h3 (z ▸ hb);have hd':∀ {j:Nat} {t:SV},(env.set i (some s'))[j]?=some (some t)->(i=j/\t=s')\/(i≠j/\env[j]?=some (some t)):=by
  intro j t q;rw [List.getElem?_set] at q;split at q
  ·rename_i z;split at q
   ·cases q; exact .inl ⟨z,rfl⟩
   ·cases q
  ·rename_i z; exact .inr ⟨z,q⟩
 have ft:∀ {j:Nat} {t:SV} {u:V} {a:Addr},(env.set i (some s'))[j]?=some (some t)->σ[j]?=some (some u)->t.foot u a->∃ t',env[j]?=some (some t')/\t'.foot u a:=by
  intro j t u a q qu f;rcases hd' q with ⟨rfl,rfl⟩ | ⟨_,q⟩
  ·rw [hσ] at qu; cases qu; exact ⟨s,e,hf' a f⟩
  ·exact ⟨t,q,f⟩
 refine ⟨⟨fun b o q=>?_,fun p hp=>(E.wok.st p hp).kp (ne p hp) Kp.upd,E.wok.nf⟩,⟨⟨E.le0.f,fun b o q n=>?_,E.le0.m,E.le0.mn,fun b q=>E.le0.dom b (K5 q)⟩,E.le0.n⟩,by simpa using E.len,fun j t q=>?_,fun j k s1 t1 v1 u1 a q1 q2 q3 q4 f1 f2=>?_,fun a za=>?_,fun a j t u za q q' f=>?_⟩
 ·show upd w.H l wo b=some o;rw [C4 (fun z=>by rw [z,h2] at q; cases q)]; exact E.wok.sub b o q
 ·show upd w.H l wo b=some o;rw [C4 (fun z=>by rw [z,h4] at q; cases q)]; exact E.le0.h b o q n
 ·rcases hd' q with ⟨rfl,rfl⟩ | ⟨z,q⟩
  ·exact ⟨v,hσ,hd⟩
  ·obtain ⟨u,g1,g2⟩:=E.at' j t q;exact ⟨u,g1,g2.writ h1 fun f=>z (E.own i j _ _ _ _ l e q hσ g1 hf f)⟩
 ·obtain ⟨_,p1,g1⟩:=ft q1 q3 f1;obtain ⟨_,p2,g2⟩:=ft q2 q4 f2;exact E.own j k _ _ _ _ a p1 p2 q3 q4 g1 g2
 ·obtain ⟨z1,z2,z3⟩:=E.zf a za;exact ⟨z1,fun q=>z2 (K5 q),z3⟩
 ·obtain ⟨_,p,g⟩:=ft q q' f;exact E.zo a j _ _ za p q' g
theorem EnvOk.write {c:Ct} {w:Wd} {env:PEnv} {σ:St} {i:Nat} {xs ys:LP} {l:Addr} {vs us:List V} (E:EnvOk c w env σ) (e:env[i]?=some (some (.own xs))) (hσ:σ[i]?=some (some (.ref l))) (h1:w.H l=some (.lst vs)) (h2:w.F l=none) (h3:¬ w.M l) (h4:c.w0.H l=none)
  (hd:DenAll c.K w.F us ys):EnvOk c ⟨w.M,upd w.H l (.lst us),w.F⟩ (env.set i (some (.own ys))) σ :=
 E.writeAt e hσ rfl (fun _ f=>f) ⟨l,us,rfl,B3,h2,h3,h4,hd⟩
def pApp (i:Nat) (pd:PDt) (D:PEnds) (env:PEnv):Prop:=M7 env[i]? fun _=>pd env fun x e=>M7 e[i]? fun xs=>xs.length < 1000000/\D.nx (e.set i (some (.own (xs++[x]))))
theorem L1 {n:Nat} (h:n < 1000000):n < sizeLine:=Nat.lt_of_lt_of_le h (by decide)
instance rs_app {K:Frag} {i:Nat} {te:TE} {pd:PDt} [he:RD K te pd]:RS K (Z4 (tBM K "list" W2 (tVar i) (F9 te tNil))) (pApp i pd) where
 ok:=by
  rintro c w env σ Dp D rfl E h p;unfold pApp M7 at p;split at p
  ·rename_i xs0 e0;obtain ⟨v,g0,l,vs,ev,h1,h2,h3,h4,h5⟩:=E.at' i _ e0;subst ev;refine ⟨_,g0,.inl ⟨rfl,_,SqL.of h1⟩,?_⟩;refine he.ok c w env σ _ _ rfl E p fun y x e1 w1 E1 l1 d1 q1=>?_;split at q1
   ·rename_i xs e;obtain ⟨v',g0',l',vs',ev',k1,k2,k3,k4,k5⟩:=E1.at' i _ e;rw [g0] at g0'; cases g0'; cases ev';refine ⟨l,vs',y,rfl,rfl,k1,by rw [k5.len]; exact L1 q1.1,?_⟩;exact h.nx _ σ ⟨w1.M,upd w1.H l (.lst (vs'++[y])),w1.F⟩ (E1.write e g0 k1 k2 k3 k4 (k5.app (.cons d1 .nil))) l1.f q1.2
   ·exact q1.elim
  ·exact p.elim
def B8h (i:Nat) (D:PEnds) (env:PEnv):Prop:=M7 env[i]? fun _=>D.nx (env.set i (some (.own [])))
def B5u (i:Nat) (D:PEnds) (env:PEnv):Prop:=M7 env[i]? fun xs=>0 < xs.length/\D.nx (env.set i (some (.own xs.dropLast)))
instance rs_pop {K:Frag} {i:Nat}:RS K (Z4 (tBM0 K "list" rPop (tVar i))) (B5u i) where
 ok:=by
  rintro c w env σ Dp D rfl E h p;unfold B5u M7 at p;split at p
  ·rename_i xs e;obtain ⟨v,g0,l,vs,ev,h1,h2,h3,h4,h5⟩:=E.at' i _ e;subst ev;have hl:=h5.len;refine ⟨_,g0,.inl ⟨rfl,_,SqL.of h1⟩,l,vs,vs[vs.length - 1]'(by omega),rfl,rfl,h1,Zg _,?_⟩;exact h.nx _ σ ⟨w.M,upd w.H l (.lst vs.dropLast),w.F⟩ (E.write e g0 h1 h2 h3 h4 h5.dropLast) (Same.refl _) p.2
  ·exact p.elim
end Pu
namespace L2
open PySem PySem.Spec PyProof.Rows
section
variable {X:Cx} {tg:Expr}
def iSq (K:PySem.W.Frag) (tl:TE):TI:=fun σ H R=>tl σ H fun x H1=>(∃ a,x=.ref a/\(∃ xs,SqL K H1 a xs)/\R (Itl K a) H1)\/∃ a,x=.ref a/\(∃ xs,SqT K H1 a xs)/\R (Itt K a) H1
theorem C7h {l:Expr} {tl:TE} (hl:PE X l tl):PI X tg l (iSq X.K tl):=by
 intro pins s σ H R I h;refine thn (hl pins s σ H _ I h) fun v s1 ⟨x,H1,I1,r1,q1⟩=>?_;rcases q1 with ⟨a,e,⟨xs,hq⟩,q⟩ | ⟨a,e,⟨xs,hq⟩,q⟩
 ·subst e;cases r1;obtain ⟨its,rv,p,hz⟩:=I1.list hq;refine wpAny_pyIter_list p.isList ?_;refine ⟨s1.heap.objs.size,[s1.heap.objs.size],_,_,H1,rfl,I1.kept (t':=s1.toks) fun b o e=>Heap.get?_push_of_some _ e,A8v a _,⟨_,Heap.get?_push_size _ rfl,rfl,rfl⟩,fun b hb=>?_,q⟩;have e:b=s1.heap.objs.size:=by simpa using hb
  subst e;exact I1.fpOk (Zv _) (I1.hok.fresh (Zv _))
 ·subst e;cases r1;obtain ⟨its,rv,p,hz⟩:=I1.tuple hq;refine wpAny_pyIter_tuple (show s1.heap.IsTuple a its.toArray from p) ?_;refine ⟨s1.heap.objs.size,[s1.heap.objs.size],_,_,H1,rfl,I1.kept (t':=s1.toks) fun b o e=>Heap.get?_push_of_some _ e,A69 a _,⟨_,Heap.get?_push_size _ rfl,rfl,rfl⟩,fun b hb=>?_,q⟩;have e:b=s1.heap.objs.size:=by simpa using hb
  subst e;exact I1.fpOk (Zv _) (I1.hok.fresh (Zv _))
theorem C33 {K:PySem.W.Frag} {l:Expr} {tl:TE} (h:X.K=K) (hl:PE X l tl):PI X tg l (iSq K tl):=by subst h; exact C7h hl
theorem D9 {K:PySem.W.Frag} (h:X.K=K) (hu:X.A.units + 64 < cLine):OpR X (compareOp .Eq) (rEqD K):=by subst h; exact C5b hu
theorem G8 {K:PySem.W.Frag} (h:X.K=K) (hu:X.A.units + 64 < cLine):OpR X (compareOp .NotEq) (rNeD K):=by subst h; exact C46 hu
theorem N1 {K:PySem.W.Frag} (h:X.K=K):SlR X (rSlL K):=by subst h; exact C0g
end
end L2
namespace Pu
open PySem L2 My Prf
def A5g (pt:PTt) (pb:PSt) (D:PEnds) (env:PEnv):Prop:=∃ Inv:Nat->PEnv->Prop,(∃ m,Inv m env)/\∀ m e,Inv m e->pt e fun b e2=>if b=true then pb ⟨fun e3=>∃ m',m' < m/\Inv m' e3,D.rt,D.nx,fun e3=>∃ m',m' < m/\Inv m' e3⟩ e2 else D.nx e2
instance rs_while {K:Frag} {tt:TT} {tb:TS} {pt:PTt} {pb:PSt} [ht:RT K tt pt] [hb:RS K tb pb]:RS K (A8x tt tb) (A5g pt pb) where
 ok:=by
  rintro c w env σ Dp D rfl E h ⟨Inv,⟨m0,i0⟩,step⟩;refine ⟨fun m σ' H'=>∃ e w',w'.H=H'/\EnvOk c w' e σ'/\Same w.F w'.F/\Inv m e,⟨m0,env,w,rfl,E,Same.refl _,i0⟩,?_⟩;rintro m σ1 _ ⟨e1,w1,rfl,E1,s1,i1⟩;refine ht.ok c w1 e1 σ1 _ _ rfl E1 (step m e1 i1) fun b e2 w2 E2 l2 q2=>?_;cases b with
  | true =>
   refine ⟨fun σ' H'=>∃ e w',w'.H=H'/\EnvOk c w' e σ'/\Same w.F w'.F/\∃ m',m' < m/\Inv m' e,fun σ' H' ⟨e,w',e1,E',s',m',hm,i'⟩=>⟨m',hm,e,w',e1,E',s',i'⟩,?_⟩;refine hb.ok c w2 e2 σ1 ⟨fun e3=>∃ m',m' < m/\Inv m' e3,Dp.rt,Dp.nx,fun e3=>∃ m',m' < m/\Inv m' e3⟩ _ rfl E2 ⟨fun e3 σ3 w3 E3 s3 n3=>⟨e3,w3,rfl,E3,s1.trans (l2.f.trans s3),n3⟩,h.rt,fun e3 σ3 w3 E3 s3 n3=>h.nx e3 σ3 w3 E3 (s1.trans (l2.f.trans s3)) n3,fun e3 σ3 w3 E3 s3 n3=>⟨e3,w3,rfl,E3,s1.trans (l2.f.trans s3),n3⟩⟩ q2
  | false=>exact h.nx e2 σ1 w2 E2 (s1.trans l2.f) q2
def Walk (c:Ct) (w1:Wd) (J:It) (xs:LP):Prop :=
 ∀ w',w'.Ok->Le c.w0 w'->Same w1.F w'.F->(∀ i,i < xs.length->J.go i w'.H)/\J.stop xs.length w'.H/\∀ i v H',J.yld i w'.H v H'->i < xs.length->∃ w2 x,w2.H=H'/\w2.Ok/\Le w' w2/\xs[i]?=some x/\Den c.K w2.F v x
class RI (K:Frag) (wi:TI) (pi:outParam PAr):Prop where
 ok:∀ (c:Ct) (w:Wd) (env:PEnv) (σ:St) (Qp:LP->PEnv->Prop) (R:It->Hpp->Prop),c.K=K->EnvOk c w env σ->pi env Qp->(∀ J xs env' w',EnvOk c w' env' σ->Lw w w'->Walk c w' J xs->Qp xs env'->R J w'.H)->wi σ w.H R
theorem L0 {c:Ct} {w1:Wd} {a:Addr} {vs:List V} {xs:LP} (d:DenAll c.K w1.F vs xs) (h:∀ w',w'.Ok->Le c.w0 w'->Same w1.F w'.F->SqL c.K w'.H a vs):Walk c w1 (Itl c.K a) xs:=by
 intro w' ok l s;have q:=h w' ok l s;have hl:=d.len;refine ⟨fun i hi=>⟨vs,vs[i]'(by omega),q,Zg _⟩,⟨vs,q,by omega⟩,fun i v H' y hi=>?_⟩;obtain ⟨e,y⟩:=y;obtain ⟨x,g1,g2⟩:=d.get (y vs q);exact ⟨w',x,e.symm,ok,Le.refl w',g1,Den.same s g2⟩
theorem A4t {c:Ct} {w1:Wd} {a:Addr} {vs:List V} {xs:LP} (d:DenAll c.K w1.F vs xs) (h:∀ w',w'.Ok->Le c.w0 w'->Same w1.F w'.F->SqT c.K w'.H a vs):Walk c w1 (Itt c.K a) xs:=by
 intro w' ok l s;have q:=h w' ok l s;have hl:=d.len;refine ⟨fun i hi=>⟨vs,vs[i]'(by omega),q,Zg _⟩,⟨vs,q,by omega⟩,fun i v H' y hi=>?_⟩;obtain ⟨e,y⟩:=y;obtain ⟨x,g1,g2⟩:=d.get (y vs q);exact ⟨w',x,e.symm,ok,Le.refl w',g1,Den.same s g2⟩
def U8 (x:PyData) (k:LP->Prop):Prop:=match x with
 | .list xs=>k xs
 | .tuple xs=>k xs
 | _=>False
def C1t (pd:PDt) (env:PEnv) (Q:LP->PEnv->Prop):Prop:=pd env fun x e=>U8 x fun xs=>Q xs e
instance (priority:=low) ri_sq {K:Frag} {tl:TE} {pd:PDt} [hl:RD K tl pd]:RI K (iSq K tl) (C1t pd) where
 ok:=by
  rintro c w env σ Qp R rfl E p k;refine hl.ok c w env σ _ _ rfl E p fun v x e1 w1 E1 l1 d1 q1=>?_;unfold U8 at q1;split at q1
  ·obtain ⟨a,vs,e,h1,h2⟩:=d1.lstE;exact .inl ⟨a,e,⟨vs,E1.wok.sub.seq h1⟩,k _ _ e1 w1 E1 l1 (L0 h2 fun w' ok l s=>(s.trans ok.sub).seq h1) q1⟩
  ·obtain ⟨a,vs,e,h1,h2⟩:=d1.tupE;exact .inr ⟨a,e,⟨vs,SqT.same E1.wok.sub h1⟩,k _ _ e1 w1 E1 l1 (A4t h2 fun w' ok l s=>SqT.same (s.trans ok.sub) h1) q1⟩
  ·exact q1.elim
def B0l (i:Nat) (env:PEnv) (Q:LP->PEnv->Prop):Prop:=match env[i]? with
 | some (some (.d x))=>U8 x fun xs=>Q xs env
 | some (some (.own xs))=>Q xs (env.set i (some (.d (.list xs))))
 | some (some (.bor xs))=>Q xs env
 | _=>False
instance ri_var {K:Frag} {i:Nat}:RI K (iSq K (tVar i)) (B0l i) where
 ok:=by
  rintro c w env σ Qp R rfl E p k;unfold B0l at p;split at p
  ·rename_i x e;obtain ⟨v,h1,h2⟩:=E.at' i _ e;refine ⟨v,h1,?_⟩;unfold U8 at p;split at p
   ·obtain ⟨a,vs,e,g1,g2⟩:=Den.lstE h2;exact .inl ⟨a,e,⟨vs,E.wok.sub.seq g1⟩,k _ _ env w E (Lw.refl w) (L0 g2 fun w' ok l s=>(s.trans ok.sub).seq g1) p⟩
   ·obtain ⟨a,vs,e,g1,g2⟩:=Den.tupE h2;exact .inr ⟨a,e,⟨vs,SqT.same E.wok.sub g1⟩,k _ _ env w E (Lw.refl w) (A4t g2 fun w' ok l s=>SqT.same (s.trans ok.sub) g1) p⟩
   ·exact p.elim
  ·rename_i xs e;obtain ⟨w',v,e',hv,E',l,d⟩:=E.frz e;refine ⟨v,hv,?_⟩;obtain ⟨a,vs,e,g1,g2⟩:=d.lstE;have:=k _ _ _ w' E' l (L0 g2 fun w' ok l s=>(s.trans ok.sub).seq g1) p;rw [e'] at this;exact .inl ⟨a,e,⟨vs,by rw [<- e']; exact E'.wok.sub.seq g1⟩,this⟩
  ·rename_i xs e;obtain ⟨v,h1,h2⟩:=E.at' i _ e;refine ⟨v,h1,?_⟩;rcases h2 with h2 | ⟨l,vs,ev,g1,g2,g3⟩
   ·obtain ⟨a,vs,e,g1,g2⟩:=Den.lstE h2;exact .inl ⟨a,e,⟨vs,E.wok.sub.seq g1⟩,k _ _ env w E (Lw.refl w) (L0 g2 fun w' ok l s=>(s.trans ok.sub).seq g1) p⟩
   ·exact .inl ⟨l,ev,⟨vs,SqL.of (E.le0.h _ _ g1 g2)⟩,k _ _ env w E (Lw.refl w) (L0 g3 fun w' ok l' s=>SqL.of (l'.h _ _ g1 g2)) p⟩
  ·exact p.elim
def rngD (lo:Int) (n:Nat):LP:=(List.range n).map fun k:Nat=>PyData.int (lo + (k:Int))
theorem J7 (lo:Int) (n:Nat):(rngD lo n).length=n:=by simp [rngD]
theorem A44 {lo:Int} {n i:Nat} {x:PyData} (h:(rngD lo n)[i]?=some x):i < n/\x=.int (lo + (i:Int)):=by
 unfold rngD at h;rw [Zh] at h;by_cases hi:i < n
 ·rw [List.getElem?_range hi] at h; cases h; exact ⟨hi,rfl⟩
 ·rw [List.getElem?_eq_none (by simpa using hi)] at h; cases h
theorem A4u {c:Ct} {w1:Wd} {lo:Int} {n:Nat}:Walk c w1 (Itr lo n) (rngD lo n):=by
 intro w' ok l s;refine ⟨fun i hi=>by rw [J7] at hi; exact hi,by rw [J7]; exact Zv _,fun i v H' y hi=>?_⟩;obtain ⟨e,y⟩:=y;subst y;rw [J7] at hi;refine ⟨w',.int (lo + i),e.symm,ok,Le.refl w',?_,.int _⟩;unfold rngD;rw [Zh,List.getElem?_range hi]; rfl
def C4j (pa:PAr) (env:PEnv) (Q:LP->PEnv->Prop):Prop:=pa env fun xs e=>match xs with
 | [.int j]=>(-(2 ^ 62)<=j/\j < 2 ^ 62)/\Q (rngD 0 j.toNat) e
 | _=>False
def C4i (pa:PAr) (env:PEnv) (Q:LP->PEnv->Prop):Prop:=pa env fun xs e=>match xs with
 | [.int i,.int j]=>(-(2 ^ 62)<=i/\i < 2 ^ 62/\-(2 ^ 62)<=j/\j < 2 ^ 62)/\Q (rngD i (j - i).toNat) e
 | _=>False
instance ri_rng1 {K:Frag} {ta:TA} {pa:PAr} [ha:RAv K ta pa]:RI K (C2o ta) (C4j pa) where
 ok:=by
  rintro c w env σ Qp R rfl E p k;refine ha.ok c w env σ _ _ rfl E p fun vs xs e1 w1 E1 l1 v1 q1=>?_;split at q1
  ·cases v1 with | cons h t=>cases t; exact ⟨_,by rw [h.intE],q1.1.1,q1.1.2,k _ _ e1 w1 E1 l1 A4u q1.2⟩
  ·exact q1.elim
instance ri_rng2 {K:Frag} {ta:TA} {pa:PAr} [ha:RAv K ta pa]:RI K (C2n ta) (C4i pa) where
 ok:=by
  rintro c w env σ Qp R rfl E p k;refine ha.ok c w env σ _ _ rfl E p fun vs xs e1 w1 E1 l1 v1 q1=>?_;split at q1
  ·cases v1 with | cons h t=>cases t with | cons h' t=>cases t; exact ⟨_,_,by rw [h.intE,h'.intE],q1.1,k _ _ e1 w1 E1 l1 A4u q1.2⟩
  ·exact q1.elim
def A5q (xs:LP) (pg:PyData->PEnv->(PEnv->Prop)->Prop) (pb:PSt) (D:PEnds) (env:PEnv):Prop :=
 ∃ Inv:Nat->PEnv->Prop,Inv 0 env/\(∀ i x e,xs[i]?=some x->Inv i e->pg x e fun e2=>pb ⟨Inv (i + 1),D.rt,D.nx,Inv (i + 1)⟩ e2)/\∀ e,Inv xs.length e->D.nx e
def pFor (pi:PAr) (pg:PyData->PEnv->(PEnv->Prop)->Prop) (pb:PSt) (D:PEnds) (env:PEnv):Prop:=pi env fun xs e=>A5q xs pg pb D e
instance rs_for {K:Frag} {wi:TI} {g:TG} {tb:TS} {pi:PAr} {pg:PyData->PEnv->(PEnv->Prop)->Prop} {pb:PSt} [hi:RI K wi pi] [hg:RG K g pg] [hb:RS K tb pb]:RS K (tFor wi g tb) (pFor pi pg pb) where
 ok:=by
  rintro c w env σ Dp D rfl E h p;refine hi.ok c w env σ _ _ rfl E p fun J xs e1 w1 E1 l1 wk ⟨Iv,i0,step,fin⟩=>?_;refine ⟨fun i m σ' H'=>m=xs.length - i/\i<=xs.length/\∃ e w',w'.H=H'/\EnvOk c w' e σ'/\Same w1.F w'.F/\Iv i e,⟨xs.length,rfl,Nat.zero_le _,e1,w1,rfl,E1,Same.refl _,i0⟩,?_⟩;rintro i m σ2 _ ⟨rfl,hle,e2,w2,rfl,E2,s2,i2⟩;obtain ⟨go,stop,yld⟩:=wk w2 E2.wok E2.le0 s2;by_cases hlt:i < xs.length
  ·refine .inr ⟨go i hlt,fun σ' H'=>i + 1<=xs.length/\∃ e w',w'.H=H'/\EnvOk c w' e σ'/\Same w1.F w'.F/\Iv (i + 1) e,fun σ' H' ⟨q0,q⟩=>⟨xs.length - (i + 1),by omega,rfl,q0,q⟩,fun v H' y=>?_⟩;obtain ⟨w2',x,rfl,ok2,le2,hx,dx⟩:=yld i v H' y hlt;replace E2:=E2.mono ok2 le2;replace s2:=s2.trans le2.f;clear yld go stop y le2 ok2;generalize w2'=w2 at E2 s2 dx;refine hg.ok c w2 e2 σ2 v x _ _ rfl E2 dx (step i x e2 hx i2) fun e3 σ3 E3 q3=>?_;refine hb.ok c w2 e3 σ3 ⟨Iv (i + 1),Dp.rt,Dp.nx,Iv (i + 1)⟩ _ rfl E3 ⟨fun e4 σ4 w4 E4 s4 n4=>⟨hlt,e4,w4,rfl,E4,s2.trans s4,n4⟩,h.rt,fun e4 σ4 w4 E4 s4 n4=>h.nx e4 σ4 w4 E4 (l1.f.trans (s2.trans s4)) n4,fun e4 σ4 w4 E4 s4 n4=>⟨hlt,e4,w4,rfl,E4,s2.trans s4,n4⟩⟩ q3
  ·have e:i=xs.length:=by omega
   subst e;exact .inl ⟨stop,h.nx e2 σ2 w2 E2 (l1.f.trans s2) (fin e2 i2)⟩
theorem T6 {lo:Int} {n:Nat} {pg:PyData->PEnv->(PEnv->Prop)->Prop} {pb:PSt} {D:PEnds} {env:PEnv} (Inv:Nat->PEnv->Prop) (h0:Inv 0 env)
  (hs:∀ (i:Nat) e,i < n->Inv i e->pg (.int (lo + (i:Int))) e fun e2=>pb ⟨Inv (i + 1),D.rt,D.nx,Inv (i + 1)⟩ e2) (hd:∀ e,Inv n e->D.nx e):A5q (rngD lo n) pg pb D env :=
 ⟨Inv,h0,fun i x e hx hi=>by obtain ⟨h1,rfl⟩:=A44 hx; exact hs i e h1 hi,fun e h=>hd e (by rwa [J7] at h)⟩
theorem T5 {xs:LP} {pg:PyData->PEnv->(PEnv->Prop)->Prop} {pb:PSt} {D:PEnds} {env:PEnv} (Inv:Nat->PEnv->Prop) (h0:Inv 0 env)
  (hs:∀ (i:Nat) x e,xs[i]?=some x->Inv i e->pg x e fun e2=>pb ⟨Inv (i + 1),D.rt,D.nx,Inv (i + 1)⟩ e2) (hd:∀ e,Inv xs.length e->D.nx e):A5q xs pg pb D env:=⟨Inv,h0,hs,hd⟩
def SV.lent:SV->Option SV
 | .own xs=>some (.bor xs)
 | .tr _=>none
 | .bt _=>none
 | .dk _=>none
 | s=>some s
def F0 (cap:List (Option Nat)) (env:PEnv):PEnv:=cap.map fun o=>o.bind fun j=>(env[j]?).join.bind SV.lent
theorem EnvOk.writeZ {c:Ct} {w:Wd} {env:PEnv} {σ:St} {l:Addr} {us:List V} (E:EnvOk c w env σ) (z:c.Z l) (h4:c.w0.H l=none):EnvOk c ⟨w.M,upd w.H l (.lst us),w.F⟩ env σ:=by
 obtain ⟨h2,h1,h3⟩:=E.zf l z;have ne:∀ b,w.M b->b≠l:=fun b hb z=>h3 (z ▸ hb);refine ⟨⟨fun b o q=>?_,fun p hp=>(E.wok.st p hp).kp (ne p hp) Kp.upd,E.wok.nf⟩,⟨⟨E.le0.f,fun b o q n=>?_,E.le0.m,E.le0.mn,fun b q=>E.le0.dom b (K5 q)⟩,E.le0.n⟩,E.len,fun j s q=>?_,E.own,fun a za=>?_,E.zo⟩
 ·show upd w.H l (.lst us) b=some o;rw [C4 (fun z=>by rw [z,h2] at q; cases q)]; exact E.wok.sub b o q
 ·show upd w.H l (.lst us) b=some o;rw [C4 (fun z=>by rw [z,h4] at q; cases q)]; exact E.le0.h b o q n
 ·obtain ⟨v,g1,g2⟩:=E.at' j s q;exact ⟨v,g1,g2.writ h1 (E.zo l j s v z q g1)⟩
 ·obtain ⟨z1,z2,z3⟩:=E.zf a za;exact ⟨z1,fun q=>z2 (K5 q),z3⟩
theorem EnvOk.cap {c:Ct} {w:Wd} {env:PEnv} {σ:St} {D:Addr} (cap:List (Option Nat)) (E:EnvOk c w env σ) (hD:w.H D=none):EnvOk ⟨c.K,w,fun a=>a=D⟩ (w.lay D (.lst [])) (F0 cap env) (capσ cap σ):=by
 have nown:∀ (i:Nat) s v a,(F0 cap env)[i]?=some (some s)->¬ s.foot v a:=fun i s0 v a q f=>by
  unfold F0 at q;rw [Zh] at q;cases hc:cap[i]? with
  | none=>rw [hc] at q; cases q
  | some o =>
   rw [hc] at q;cases o with
   | none=>cases q
   | some j =>
    have q':((env[j]?).join.bind SV.lent)=some s0:=Zj q;cases hj:(env[j]?).join with
    | none=>rw [hj] at q'; cases q'
    | some s=>rw [hj] at q'; cases s <;> cases q' <;> exact f
 refine ⟨Wd.lay_ok E.wok hD,Wd.lay_le hD,by simp [F0,capσ],fun i s q=>?_,fun i j s t v u a q _ _ _ f=>absurd f (nown i s v a q),fun a za=>?_,fun a j t u _ q _=>nown j t u a q⟩
 ·unfold F0 at q;unfold capσ;rw [Zh] at q ⊢;cases hc:cap[i]? with
  | none=>rw [hc] at q; cases q
  | some o =>
   rw [hc] at q;cases o with
   | none=>cases q
   | some j =>
    have q':((env[j]?).join.bind SV.lent)=some s:=Zj q;cases hj:env[j]? with
    | none=>rw [hj] at q'; cases q'
    | some t =>
     rw [hj] at q';cases t with
     | none=>cases q'
     | some s0 =>
      have q2:s0.lent=some s:=q';obtain ⟨v,h1,h2⟩:=E.at' j s0 hj;refine ⟨v,by simp [h1],?_⟩;cases s0 with
      | d x=>cases q2; exact h2
      | own xs=>cases q2; obtain ⟨l,vs,e,g1,g2,g3,g4,g5⟩:=h2; exact .inr ⟨l,vs,e,g1,g3,g5⟩
      | bor xs =>
       cases q2;rcases h2.vv E.le0 with g | ⟨l,vs,ys,e,e',g1,g2,g3⟩
       ·exact .inl g
       ·cases e'; exact .inr ⟨l,vs,e,g1,g2,g3⟩
      | st=>cases q2; exact h2
      | tr t=>cases q2
      | bt t=>cases q2
      | al t=>cases q2; exact h2
      | dk t=>cases q2
 ·have e:a=D:=za;subst e;exact ⟨E.wok.fnone hD,by show upd w.H a (.lst []) a≠none; rw [B3]; simp,fun z=>E.wok.mne hD z rfl⟩
theorem Walk.up {c:Ct} {w:Wd} {J:It} {xs:LP} (h:Walk c w J xs) (l:Le c.w0 w):Walk ⟨c.K,w,c.Z⟩ w J xs:=fun w' ok l' s=>h w' ok (l.trans l') s
def N2 (xs:LP) (pg:PyData->PEnv->(PEnv->Prop)->Prop) (pt:PTt) (pd:PDt) (e0:PEnv) (Fin:LP->Prop):Prop :=
 ∃ Pv:Nat->PEnv->LP->Prop,Pv 0 e0 []/\(∀ i x e ys,xs[i]?=some x->Pv i e ys->pg x e fun e2=>pt e2 fun b e3=>if b=true then pd e3 fun y e4=>Pv (i + 1) e4 (ys++[y]) else Pv (i + 1) e3 ys)/\∀ e ys,Pv xs.length e ys->Fin ys
theorem B4h {K:Frag} {g:TG} {tt:TT} {te:TE} {pg:PyData->PEnv->(PEnv->Prop)->Prop} {pt:PTt} {pd:PDt} [hg:RG K g pg] [ht:RT K tt pt] [he:RD K te pd] {c:Ct} {w:Wd} {env:PEnv} {σ:St} {J:It} {xs:LP} {cap:List (Option Nat)} {D:Addr} {Fp:LP->Prop} {Fin:Hpp->Prop}
  (hK:c.K=K) (E:EnvOk c w env σ) (wk:Walk ⟨c.K,w,c.Z⟩ w J xs) (hn:xs.length < 1000000) (p:N2 xs pg pt pd (F0 cap env) Fp) (hD:w.H D=none) (k:∀ w' ys,Res c w env σ w' (.ref D) (.own ys)->Fp ys->Fin w'.H):Y5 J g tt te D Fin (capσ cap σ) w.H:=by
 subst hK;obtain ⟨Pv,p0,step,fin⟩:=p;have hw0:c.w0.H D=none:=E.le0.dom D hD;refine ⟨fun i m σ' H' vs=>m=xs.length - i/\i<=xs.length/\∃ e w' ys,w'.H=H'/\EnvOk ⟨c.K,w,fun a=>a=D⟩ w' e σ'/\w'.H D=some (.lst vs)/\vs.length<=i/\DenAll c.K w'.F vs ys/\Pv i e ys,
  ⟨xs.length,rfl,Nat.zero_le _,F0 cap env,w.lay D (.lst []),[],rfl,E.cap cap hD,B3,Zv _,.nil,p0⟩,?_⟩
 rintro i m σ1 _ vs ⟨rfl,hle,e1,w1,ys,rfl,E1,h1,hvl,d1,q1⟩;refine ⟨h1,L1 (by omega),?_⟩;obtain ⟨go,stop,yld⟩:=wk w1 E1.wok E1.le0 E1.le0.f;by_cases hlt:i < xs.length
 ·refine .inr ⟨go i hlt,fun v H' y=>?_⟩;obtain ⟨w1',x,rfl,ok1',le1,hx,dx⟩:=yld i v H' y hlt;replace h1:=le1.h _ _ h1 (E1.zf D rfl).2.2;replace E1:=E1.mono ok1' le1;replace d1:=DenAll.same le1.f d1;clear yld go stop y le1 ok1';generalize w1'=w1 at E1 h1 d1 dx;refine hg.ok ⟨c.K,w,fun a=>a=D⟩ w1 e1 σ1 v x _ _ rfl E1 dx (step i x e1 ys hx q1) fun e2 σ2 E2 q2=>?_;refine ht.ok ⟨c.K,w,fun a=>a=D⟩ w1 e2 σ2 _ _ rfl E2 q2 fun b e3 w3 E3 l3 q3=>?_;have nm:=(E2.zf D rfl).2.2;have h3:=l3.h _ _ h1 nm;cases b with
  | true =>
   refine he.ok ⟨c.K,w,fun a=>a=D⟩ w3 e3 σ2 _ _ rfl E3 q3 fun y' y e4 w4 E4 l4 d4 q4=>?_;have h4:=l4.h _ _ h3 (E3.zf D rfl).2.2;refine ⟨vs,h4,L1 (by omega),xs.length - (i + 1),by omega,rfl,hlt,e4,⟨w4.M,upd w4.H D (.lst (vs++[y'])),w4.F⟩,ys++[y],rfl,E4.writeZ rfl hD,B3,by rw [Ze]; simp; exact hvl,(DenAll.same (l3.f.trans l4.f) d1).app (.cons d4 .nil),q4⟩
  | false =>
   exact ⟨xs.length - (i + 1),by omega,rfl,hlt,e3,w3,ys,rfl,E3,h3,by omega,DenAll.same l3.f d1,q3⟩
 ·have e:i=xs.length:=by omega
  subst e;obtain ⟨z1,z2,z3⟩:=E1.zf D rfl;refine .inl ⟨stop,k w1 ys ⟨E.mono E1.wok E1.le0,E1.le0.toLw,⟨D,vs,rfl,h1,z1,z3,hw0,d1⟩,fun a f=>?_,rfl⟩ (fin e1 ys q1)⟩;have:V.ref D=.ref a:=f;cases this;exact E.fresh hD
def C41 (pi:PAr) (pg:PyData->PEnv->(PEnv->Prop)->Prop) (pt:PTt) (pd:PDt) (cap:List (Option Nat)) (env:PEnv) (Q:SV->PEnv->Prop):Prop:=pi env fun xs e=>xs.length < 1000000/\N2 xs pg pt pd (F0 cap e) fun ys=>Q (.own ys) e
instance re_comp {K:Frag} {wi:TI} {g:TG} {tt:TT} {te:TE} {cap:List (Option Nat)} {pi:PAr} {pg:PyData->PEnv->(PEnv->Prop)->Prop} {pt:PTt} {pd:PDt} [hi:RI K wi pi] [hg:RG K g pg] [ht:RT K tt pt] [he:RD K te pd]:RE K (A7b wi g tt te cap) (C41 pi pg pt pd cap) where
 ok:=by
  rintro c w env σ Qp Q rfl E p k;refine hi.ok c w env σ _ _ rfl E p fun J xs e1 w1 E1 l1 wk ⟨hn,q⟩ D hD=>?_;exact B4h (pg:=pg) (pt:=pt) (pd:=pd) rfl E1 (wk.up E1.le0) hn q hD fun w' ys R q'=>k _ _ e1 w' (R.pre l1) q'
def A5h (pi:PAr) (pg:PyData->PEnv->(PEnv->Prop)->Prop) (pt:PTt) (pd:PDt) (cap:List (Option Nat)) (i:Nat) (D:PEnds) (env:PEnv):Prop:=pi env fun xs e=>xs.length < 1000000/\N2 xs pg pt pd (F0 cap e) fun ys=>D.nx (e.set i (some (.own ys)))
instance rs_setComp {K:Frag} {wi:TI} {g:TG} {tt:TT} {te:TE} {cap:List (Option Nat)} {i:Nat} {pi:PAr} {pg:PyData->PEnv->(PEnv->Prop)->Prop} {pt:PTt} {pd:PDt} [hi:RI K wi pi] [hg:RG K g pg] [ht:RT K tt pt] [he:RD K te pd]:RS K (M9 wi g tt te cap i) (A5h pi pg pt pd cap i) where
 ok:=by
  rintro c w env σ Dp D rfl E h p;refine hi.ok c w env σ _ _ rfl E p fun J xs e1 w1 E1 l1 wk ⟨hn,q⟩ l hl=>?_;exact B4h (pg:=pg) (pt:=pt) (pd:=pd) rfl E1 (wk.up E1.le0) hn q hl fun w' ys R q'=>h.nx _ _ w' (R.ev.set R.val R.new) (l1.f.trans R.lw.f) q'
class RP (K:Frag) (to:TO) (po:outParam (PEnv->(Option Int->PEnv->Prop)->Prop)):Prop where
 ok:∀ (c:Ct) (w:Wd) (env:PEnv) (σ:St) (Qp:Option Int->PEnv->Prop) (Q:Option Int->Hpp->Prop),c.K=K->EnvOk c w env σ->po env Qp->(∀ o env' w',EnvOk c w' env' σ->Lw w w'->Qp o env'->Q o w'.H)->to σ w.H Q
def A34 (env:PEnv) (Q:Option Int->PEnv->Prop):Prop:=Q none env
def asI (x:PyData) (k:Int->Prop):Prop:=match x with
 | .int i=>k i
 | _=>False
def C1k (pa:PDt) (env:PEnv) (Q:Option Int->PEnv->Prop):Prop:=pa env fun x e=>asI x fun i=>Q (some i) e
instance rp_no {K:Frag}:RP K A3q A34:=⟨fun c w env σ Qp Q _ E p k=>k none env w E (Lw.refl w) p⟩
instance rp_part {K:Frag} {te:TE} {pa:PDt} [ha:RW K te pa]:RP K (B97 te) (C1k pa) where
 ok:=by
  rintro c w env σ Qp Q rfl E p k;refine ha.ok c w env σ _ _ rfl E p fun x dx e1 w1 E1 l1 v1 q1=>?_;unfold asI at q1;split at q1
  ·exact ⟨_,v1.intE,k _ e1 w1 E1 l1 q1⟩
  ·exact q1.elim
def cutD (xs:LP) (lo hi:Option Int):LP:=(xs.drop (HT.sIx xs.length 0 lo)).take (HT.sIx xs.length xs.length hi - HT.sIx xs.length 0 lo)
def pSlL (pa:PDt) (pl ph:PEnv->(Option Int->PEnv->Prop)->Prop) (env:PEnv) (Q:SV->PEnv->Prop):Prop:=pa env fun x e=>asL x fun xs=>pl e fun lo e1=>ph e1 fun hi e2=>Q (.own (cutD xs lo hi)) e2
instance re_sl {K:Frag} {te:TE} {tl th:TO} {pa:PDt} {pl ph:PEnv->(Option Int->PEnv->Prop)->Prop} [ha:RW K te pa] [hl:RP K tl pl] [hh:RP K th ph]:RE K (tSl (rSlL K) te tl th) (pSlL pa pl ph) where
 ok:=by
  rintro c w env σ Qp Q rfl E p k;refine ha.ok c w env σ _ _ rfl E p fun x dx e1 w1 E1 l1 v1 q1=>?_;unfold asL at q1;split at q1
  ·rename_i xs;refine hl.ok c w1 e1 σ _ _ rfl E1 q1 fun lo e2 w2 E2 l2 q2=>?_;refine hh.ok c w2 e2 σ _ _ rfl E2 q2 fun hi e3 w3 E3 l3 q3=>?_;obtain ⟨a,vs,e,g1,g2⟩:=((v1.mono l2).mono l3).lst E3.wok;refine ⟨a,vs,e,g1,fun p hp=>k _ _ e3 _ ((Res.lst E3 hp (xs:=cutD xs lo hi) ?_).pre (l1.trans (l2.trans l3))) q3⟩;unfold cutV cutD;rw [g2.len];exact (g2.drop _).take _
  ·exact q1.elim
def pRev (pa pb:PDt) (env:PEnv) (Q:SV->PEnv->Prop):Prop:=pa env fun x e=>asL x fun xs=>pb e fun k e2=>k=.int (-1)/\Q (.own xs.reverse) e2
theorem M0 {K:Frag} {w:Wd}:∀ {md:List Md} {vs:List V} {as:List SV},Args K w md vs as->as.length=vs.length/\∀ (i:Nat) s,as[i]?=some s->(∃ v,vs[i]?=some v/\VR ⟨K,w,noZ⟩ w v s)/\∀ u a,¬ s.foot u a
 | _,_,_,.nil=>⟨rfl,fun i s h=>by simp at h⟩
 | _,_,_,.dat h t=>⟨by simp [(M0 t).1],fun i s e=>match i,e with
  | 0,e=>by simp at e; subst e; exact ⟨⟨_,rfl,h⟩,fun _ _ z=>z⟩
  | i + 1,e=>by simpa using (M0 t).2 i s (by simpa using e)⟩
 | _,_,_,.vw h t=>⟨by simp [(M0 t).1],fun i s e=>match i,e with
  | 0,e=>by
   simp at e; subst e;refine ⟨⟨_,rfl,?_⟩,fun _ _ z=>z⟩;rcases h with h | ⟨l,vs,ys,e1,e2,h1,h2,h3⟩
   ·exact .inl h
   ·cases e2; exact .inr ⟨l,vs,e1,h1,h2,h3⟩
  | i + 1,e=>by simpa using (M0 t).2 i s (by simpa using e)⟩
 | _,_,_,.bt h t=>⟨by simp [(M0 t).1],fun i s e=>match i,e with
  | 0,e=>by simp at e; subst e; exact ⟨⟨_,rfl,h⟩,fun _ _ z=>z⟩
  | i + 1,e=>by simpa using (M0 t).2 i s (by simpa using e)⟩
 | _,_,_,.st h t=>⟨by simp [(M0 t).1],fun i s e=>match i,e with
  | 0,e=>by simp at e; subst e; exact ⟨⟨_,rfl,h⟩,fun _ _ z=>z⟩
  | i + 1,e=>by simpa using (M0 t).2 i s (by simpa using e)⟩
theorem D6 {K:Frag} {ts:TS} {ps:PSt} [hs:RS K ts ps] {md:List Md} {psp:PSp} {vs:List V} {H:Hpp} {Q:VK} {E:XK} {N:List Str} (h:spOf K md psp vs H Q E)
  (hb:∀ as Qp,psp as Qp->ps ⟨fun _=>Qp (.d .none),fun s _=>Qp s,fun _=>False,fun _=>False⟩ (as.map some++List.replicate (N.length - md.length) none)):ts { nx:=fun _ H'=>Q .non H',rt:=Q } (L2.start N vs) H:=by
 obtain ⟨w,as,Qp,rfl,ok,a,p,k⟩:=h;obtain ⟨hl,hat⟩:=M0 a;have look:∀ (i:Nat) s,(as.map some++List.replicate (N.length - md.length) none)[i]?=some (some s)->as[i]?=some s:=fun i s e=>by
  rw [List.getElem?_append] at e;split at e
  ·rw [Zh] at e;cases q:as[i]? with
   | none=>rw [q] at e; cases e
   | some t=>rw [q] at e; cases e; rfl
  ·rw [List.getElem?_replicate] at e;split at e <;> cases e
 refine hs.ok ⟨K,w,noZ⟩ w (as.map some++List.replicate (N.length - md.length) none) (L2.start N vs) _ _ rfl ⟨ok,Le.refl w,by simp [L2.start,hl,a.len],fun i s e=>?_,fun i j s t v u a e _ _ _ f=>absurd f ((hat i _ (look i _ e)).2 v a),fun a z=>z.elim,fun a j t u z=>z.elim⟩ ⟨fun env σ w' E' _ q=>?_,fun v s _ _ w' E' h r q=>k v s w' E'.wok E'.le0 h r q,fun _ _ _ _ _ z=>z,fun _ _ _ _ _ z=>z⟩ (hb as Qp p)
 ·obtain ⟨⟨v,h1,h2⟩,_⟩:=hat i s (look i s e);refine ⟨v,?_,h2⟩;unfold L2.start;rw [List.getElem?_append_left (by rw [Zl]; exact (Zs h1).1),Zh,h1]; rfl
 ·exact k .non (.d .none) w' E'.wok E'.le0 (show Den _ _ _ _ from .non) rfl q
def pLaw:PSp:=fun as Q=>∃ ns:List Int,as=[.bor (ns.map .int)]/\ns.length<=63/\Q (.d (.bool true))
theorem B4d {K:Frag} {F:Hpp}:∀ ns:List Int,DenAll K F (ns.map V.int) (ns.map .int)
 | []=>.nil
 | n :: r=>.cons (.int n) (B4d r)
theorem C55 {K:Frag}:∀ vs H Q E,C0c K vs H Q E->spOf K [.vw] pLaw vs H Q E:=by
 rintro vs H Q E ⟨a,ns,rfl,hS,hl,k⟩;refine ⟨⟨fun _=>False,H,fun b=>if b=a then H a else none⟩,[.bor (ns.map .int)],fun s=>s=.d (.bool true),rfl,⟨fun b o e=>?_,fun _ z=>z.elim,fun _ z=>z.elim⟩,.vw (.inl (.lst ?_ (B4d ns))) .nil,⟨ns,rfl,hl,rfl⟩,fun v s w' ok l h r e=>?_⟩
 ·dsimp only at e;split at e
  ·rename_i z; rw [z]; exact e
  ·cases e
 ·rcases hS with (h | ⟨o,h⟩) | h
  ·exact .inl (.inl (by dsimp only; rw [if_pos rfl]; exact h))
  ·exact .inl (.inr ⟨o,by dsimp only; rw [if_pos rfl]; exact h⟩)
  ·exact .inr h
 ·subst e;have:v=.bl true:=Den.blE h;subst this;exact k _
end Pu
namespace L2
open PySem PySem.Spec PyProof.Rows
end L2
namespace Pu
open PySem L2 My Prf
theorem B0k {q:Rat} {Q:SV->Prop}:pIx (dq q) (.int 0) Q=Q (.d (.int q.num)):=rfl
theorem B0j {q:Rat} {Q:SV->Prop}:pIx (dq q) (.int 1) Q=Q (.d (.int (q.den:Int))):=rfl
theorem B2u {i:Int}:(PyData.int i).canLay0=true:=rfl
theorem A58 {b:Bool}:(PyData.bool b).canLay0=true:=rfl
theorem A57:PyData.none.canLay0=true:=rfl
theorem B4b {i:Int}:(PyData.int i).depth=0:=rfl
theorem A6w {b:Bool}:(PyData.bool b).depth=0:=rfl
theorem B38 {s:Str}:(PyData.str s).depth=0:=rfl
theorem A6u:PyData.none.depth=0:=rfl
theorem B86 {q:Rat}:(dq q).canLay0=true:=rfl
theorem B9y {q:Rat}:(dq q).depth=1:=rfl
theorem A1l {i j:Int}:PyData.eqv (.int i) (.int j)=decide (i=j):=by
 show (i == j)=_;by_cases h:i=j <;> simp [h]
theorem C0j {p q:Rat} (h1:p.num=q.num) (h2:(p.den:Int)=q.den):p=q:=Rat.ext h1 (by omega)
theorem B9v {p q:Rat}:PyData.eqv (dq p) (dq q)=decide (p=q):=by
 show (PyData.eqv (.int p.num) (.int q.num) && (PyData.eqv (.int (p.den:Int)) (.int (q.den:Int)) && true))=_;rw [A1l,A1l,Bool.and_true];by_cases h:p=q
 ·subst h; simp
 ·rw [Zd h];by_cases h1:p.num=q.num
  ·have h2:¬ (p.den:Int)=(q.den:Int):=fun z=>h (C0j h1 z);rw [Zd h2,Bool.and_false]
  ·rw [Zd h1,Bool.false_and]
theorem A21 {q:Rat}:PyData.eqv .none (dq q)=false:=rfl
theorem A20 {q:Rat}:PyData.eqv (dq q) .none=false:=rfl
theorem B3r {q:Rat}:isNo (dq q)=false:=rfl
theorem A8b:PyData.tuple [.int 0,.int 1]=dq 0:=rfl
theorem B8t:PyData.tuple [.int 1,.int 1]=dq 1:=rfl
theorem B7a {q:Rat}:tyD (dq q)="tuple":=rfl
theorem B9k:kitB "bool" "bool"=some true:=by decide +kernel
theorem B9g:kitB "int" "int"=some true:=by decide +kernel
theorem B9j:kitB "bool" "int"=some true:=by decide +kernel
theorem B9a:kitB "str" "str"=some true:=by decide +kernel
theorem B9e:kitB "list" "list"=some true:=by decide +kernel
theorem B9d:kitB "list" "tuple"=some false:=by decide +kernel
theorem B88:kitB "tuple" "list"=some false:=by decide +kernel
theorem B89:kitB "tuple" "bool"=some false:=by decide +kernel
theorem B9b:kitB "NoneType" "tuple"=some false:=by decide +kernel
theorem B3v {K:Frag} {F:Hpp}:∀ {vs:List V} {ns:List Int},DenAll K F vs (ns.map .int)->vs=ns.map V.int
 | _,[],.nil=>rfl
 | _,n :: r,.cons h t=>by rw [h.intE,B3v t]; rfl
def A9i:PSp:=fun as Q=>∃ n:Int,as=[.st,.d (.int n)]/\0 < n/\Sm 4000 n/\∀ d:Int,0<=d->d < n->Q (.d (.int d))
def A5b:PSp:=fun as Q=>∃ (ns:List Int) (k:Int),as=[.bor (ns.map .int),.d (.int k)]/\0<=k/\k<=63/\Q .st
theorem B96 {K:Frag}:∀ vs H Q E,spOf K [.st,.dat] A9i vs H Q E->A82 vs H Q E:=by
 rintro vs H Q E ⟨w,as,Qp,rfl,ok,a,⟨n,rfl,n0,sn,q⟩,k⟩;cases a with
 | st h t=>cases t with
  | dat h' t =>
   cases t;obtain ⟨p,e,hm⟩:=h;subst e;rw [Den.intE h'];refine ⟨p,n,rfl,ok.st p hm,n0,sn,fun d H' d0 d1 S' kp=>?_⟩;have out:∀ b o,w.H b=some o->b≠p->H' b=some o:=fun b o e ne=>kp b o ne e;have pn:=ok.nf p hm;refine k (.int d) (.d (.int d)) ⟨w.M,H',w.F⟩ ⟨fun b o e=>out b o (ok.sub b o e) (fun z=>by rw [z,pn] at e; cases e),fun r hr=>?_,ok.nf⟩ ⟨⟨Same.refl _,fun b o e nb=>out b o e (fun z=>nb (z ▸ hm)),fun _ z=>z,fun _ z=>.inl z,fun b e=>?_⟩,fun _ _ z=>.inl z⟩ (Den.int d) rfl (q d d0 d1)
   ·by_cases z:r=p
    ·subst z; exact S'
    ·exact (ok.st r hr).kp z kp
   ·cases hb:w.H b with
    | none=>rfl
    | some o =>
     by_cases z:b=p
     ·subst z; obtain ⟨_,_,_,hp,_⟩:=S'.ex; rw [show H' b=none from e] at hp; cases hp
     ·have:=out b o hb z; rw [show H' b=none from e] at this; cases this
theorem B6w {K:Frag}:∀ vs H Q E,spOf K [.vw,.dat] A5b vs H Q E->A41 K vs H Q E:=by
 rintro vs H Q E ⟨w,as,Qp,rfl,ok,a,⟨ns,kk,rfl,k0,k1,q⟩,k⟩;cases a with
 | vw h t=>cases t with
  | dat h' t =>
   cases t;obtain ⟨a,us,e,hS,hd⟩:=h.lst ok;subst e;rw [Den.intE h'];refine ⟨a,ns,kk,rfl,by rw [<- B3v hd]; exact hS,k0,k1,fun p H' hp S' kp=>?_⟩;have out:∀ b o,w.H b=some o->H' b=some o:=fun b o e=>kp b o (E8 e hp) e;refine k (.ref p) .st ⟨fun b=>w.M b\/b=p,H',w.F⟩ ⟨fun b o e=>out b o (ok.sub b o e),fun r hr=>?_,fun r hr=>?_⟩ ⟨⟨Same.refl _,fun b o e _=>out b o e,fun _ z=>.inl z,fun b z=>?_,fun b e=>?_⟩,fun _ _ z=>.inl z⟩ ⟨p,rfl,.inr rfl⟩ rfl q
   ·rcases hr with hr | rfl
    ·exact (ok.st r hr).kp (ok.mne hp hr) kp
    ·exact S'
   ·rcases hr with hr | rfl
    ·exact ok.nf r hr
    ·exact ok.fnone hp
   ·rcases z with z | rfl
    ·exact .inl z
    ·exact .inr hp
   ·cases hb:w.H b with
    | none=>rfl
    | some o=>have:=out b o hb; rw [show H' b=none from e] at this; cases this
def C31:PSp:=fun as Q=>∃ a b:Int,as=[.d (.int a),.d (.int b)]/\Q (.d (.int ((Int.gcd a b:Nat):Int)))
def C0t:PSp:=fun as Q=>∃ t b:Int,as=[.d (.int t),.d (.int b)]/\0 < b/\Sm 8000 t/\Sm 8000 b/\Q (.d (dq (Rat.divInt t b)))
def A0o (f:Rat->Rat->Rat):PSp:=fun as Q=>∃ p q:Rat,as=[.d (dq p),.d (dq q)]/\SmQ 3900 p/\SmQ 3900 q/\Q (.d (dq (f p q)))
def A9j:PSp:=fun as Q=>∃ p q:Rat,as=[.d (dq p),.d (dq q)]/\SmQ 3900 p/\SmQ 3900 q/\q≠0/\Q (.d (dq (p / q)))
def C0u:PSp:=fun as Q=>∃ p q:Rat,as=[.d (dq p),.d (dq q)]/\SmQ 3900 p/\SmQ 3900 q/\Q (.d (.bool (decide (p < q))))
def A9o:PSp:=fun as Q=>∃ (pl:Bool) (le:Int),as=[.st,.d (.bool pl),.d (.int le)]/\(le=0\/le=1)/\∀ q:Rat,0<=q->(le=1->0 < q)->SmR 41 6 q->(pl=true->SmR 3 1 q/\q.den=1)->Q (.d (dq q))
end Pu
namespace L2
open PySem PySem.Spec PyProof.Rows
section
variable {X:Cx} {tg:Expr}
def C3r (K:PySem.W.Frag):R2:=fun x y H Q=>∃ l b xs zs,x=.ref l/\y=.ref b/\SqL K H l xs/\SqL K H b zs/\xs.length + zs.length<=sizeLine/\∀ p,H p=none->Q (.ref p) (upd H p (.lst (xs++zs)))
theorem C14 {K:PySem.W.Frag} (hK:X.K=K):OpR X (binaryOp .Add) (C3r K):=by
 subst hK;intro pins s σ H x y v u Q I rx ry h;obtain ⟨l,b,xs,zs,rfl,rfl,hH,hB,hz,q⟩:=h;cases rx;cases ry;obtain ⟨its,r,hl,z⟩:=I.list hH;obtain ⟨its2,r2,hl2,z2⟩:=I.list hB;have n1:=r.length;have n2:=r2.length;obtain ⟨⟨k1,dd,da,sl⟩,m1,ho,e1,e2,e3⟩:=hl;obtain ⟨⟨k2,dd2,da2,sl2⟩,m2,ho2,e4,e5,e6⟩:=hl2;dsimp only at e1 e2 e3 e4 e5 e6;subst e1 e2 e3 e4 e5 e6;refine concat_meets ⟨_,ho,rfl⟩ ⟨_,ho2,rfl⟩ noFill_list_add seq_list_add F.slot_list_add F.entry_list_add (F.args_list_add_2 _ _) (list_addW l b its.toArray its2.toArray m1 m2 none none sl sl2 (by rw [List.size_toArray,List.size_toArray]; omega)) ⟨ho,ho2,?_⟩;rw [show its.toArray++its2.toArray=(its++its2).toArray by simp];exact ⟨.ref _,_,I.lnew (t':=s.toks) (r.append r2) (by rw [Ze]; omega),rfl,q _ I.fresh⟩
def rAll (K:PySem.W.Frag):List V->Hp->VK->Prop:=fun xs H Q=>∃ (p:Addr) (bs:List Bool),xs=[.ref p]/\SqL K H p (bs.map V.bl)/\Q (.bl (bs.all id)) H
theorem C2w {bs:List Bool}:∀ {us:List Value},Vals (bs.map V.bl) us->us=bs.map Value.bool:=by
 induction bs with
 | nil=>intro us h; cases h; rfl
 | cons b r ih =>
  intro us h;cases h with
  | cons h t=>rw [ih t,show _=Value.bool b from h]; rfl
theorem A89 (bs:List Bool):(List.range bs.length).all (fun i=>bs.getD i false)=bs.all id:=by
 rw [Bool.eq_iff_iff,List.all_eq_true,List.all_eq_true];constructor
 ·intro h b hb;obtain ⟨i,hi,e⟩:=List.mem_iff_getElem.mp hb;have:=h i (List.mem_range.mpr hi);rw [List.getD_eq_getElem?_getD,Zg hi,e] at this;exact this
 ·intro h i hi;have hi:=List.mem_range.mp hi;rw [List.getD_eq_getElem?_getD,Zg hi];exact h _ (List.getElem_mem hi)
theorem B94 {pins:List (Addr × Obj)} {σ:St} {H:Hp} {s:Shared} {p:Addr} {bs:List Bool} (hc:X.calm=true) (I:Inv X pins σ H s) (hS:SqL X.K H p (bs.map V.bl)) {A:Around} (hA:A.handled=none) {Qf:Bool->Value->Shared->Prop} {E:Value->Shared->Prop} {g:(Nat->Bool)->Nat->Bool}
  (hQ:∀ h' tk,Inv X pins σ H { s with heap:=h',toks:=tk }->Qf (g (fun i=>bs.getD i false) bs.length) (.bool (g (fun i=>bs.getD i false) bs.length)) { s with heap:=h',toks:=tk }) :
  wpAny (model X.prog X.w) A (pyIter (.ref p)) (fun it s₂=>∃ J fp wr n P St tr,it=.ref J/\Walks X.prog X.w A J fp wr n P St/\St 0 s₂.heap/\TruthOf X.prog X.w A P tr /\
   ∀ h' tk,(∀ b o,b ∉ wr->s₂.heap.get? b=some o->h'.get? b=some o)->Qf (g tr n) (.bool (g tr n)) { s₂ with heap:=h',toks:=tk }) E s:=by
 obtain ⟨its,r,hl,z⟩:=I.list hS;have e:=C2w r;refine wpAny_pyIter_list hl.isList ?_;have hne:p≠s.heap.objs.size:=by
  obtain ⟨o,_,ho,_⟩:=hl;exact Nat.ne_of_lt (Heap.lt_size ho)
 have W:=Walks.list (prog:=X.prog) (w:=X.w) (A:=A) hA s.heap.objs.size p hne its.toArray;have hn:its.toArray.size=bs.length:=by rw [List.size_toArray,e,Zl]
 rw [hn] at W;refine ⟨s.heap.objs.size,_,_,_,_,_,fun i=>bs.getD i false,rfl,W,⟨⟨_,Heap.get?_push_size _ rfl,rfl,rfl⟩,hl.isList.push _⟩,fun i v s' Q' E' hP q=>?_,fun h' tk hk=>hQ h' tk ?_⟩
 ·dsimp only at hP;rw [List.getElem?_toArray,e,Zh] at hP;cases hb:bs[i]? with
  | none=>rw [hb] at hP; cases hP
  | some b =>
   rw [hb] at hP; cases hP;refine wpAny_truthy_bool ?_;dsimp only at q;rw [List.getD_eq_getElem?_getD,hb] at q;exact q
 ·have I1:Inv X pins σ H { s with heap:=s.heap.push { cls:=.type "list_iterator",data:=.fields #[.ref p,.int 0 0] } }:=I.kept (t':=s.toks) fun b o e=>Heap.get?_push_of_some _ e;have f:=I.fpOk (H':=H) (Zv s.heap.objs.size) I.fresh;exact I1.turned (t':=tk) (fun b o hb e=>hk b o (fun z=>hb (Zn z)) e) f.1 f.2.1 f.2.2.2.1 f.2.2.2.2.1 f.2.2.2.2.2
theorem M5 {K:PySem.W.Frag} (hK:X.K=K) (hc:X.calm=true:=by rfl):CallR X (.builtin "all") (rAll K):=by
 subst hK;intro pins s σ H xs us Q I r h;obtain ⟨p,bs,rfl,hS,q⟩:=h;cases r with
 | cons r rr =>
  cases rr;cases r;refine call_all_walk (B94 hc I hS (A:=X.A.in1) (I.ok.hd hc) (g:=fun tr n=>(List.range n).all tr) (Qf:=fun _=>EP X pins σ Q) fun h' tk I'=>⟨.bl _,H,I',rfl,?_⟩);rw [A89]; exact q
end
end L2
namespace L2
open PySem PySem.Spec PyProof.Rows
section
variable {X:Cx}
def U6 (T:String):List String->Option Bool
 | []=>some false
 | c :: r=>match kitB T c with
  | some true=>some true
  | some false=>U6 T r
  | none=>none
theorem A2t (K:PySem.W.Frag) {T:String}:∀ {cs:List String} {b:Bool},U6 T cs=some b->PySem.W.kitAny K (.type T) (cs.map Value.type)=some b
 | [],b,h=>h
 | c :: r,b,h=>by
  unfold U6 at h;show (match PySem.W.kitOne K (.type T) (.type c) with | some true=>some true | some false=>PySem.W.kitAny K (.type T) (r.map Value.type) | none=>none)=some b;cases e:kitB T c with
  | none=>rw [e] at h; cases h
  | some v =>
   rw [e] at h;rw [A6f K e];cases v with
   | true=>exact h
   | false=>exact A2t K h
theorem C56 {pins:List (Addr × Obj)} {σ:St} {H:Hp} {s:Shared} {x:V} {u:Value} {T:String} (I:Inv X pins σ H s) (ru:RelV x u) (ty:TyV X.K H x T) :
  ∃ Hh,PySem.W.KitX X.K u (.type T) Hh/\Hh s.heap/\u≠.builtin "__main__.__loader__#opaque":=by
 cases x with
 | non=>cases (show T=_ from ty); cases (show u=Value.none from ru); exact ⟨_,PySem.W.kitx_none,True.intro,fun z=>nomatch z⟩
 | bl y=>cases (show T=_ from ty); cases (show u=Value.bool y from ru); exact ⟨_,PySem.W.kitx_bool,True.intro,fun z=>nomatch z⟩
 | int i=>cases (show T=_ from ty); obtain ⟨t,q'⟩:=(show ∃ t,u=Value.int i t from ru); cases q'; exact ⟨_,PySem.W.kitx_int,True.intro,fun z=>nomatch z⟩
 | str y=>cases (show T=_ from ty); obtain ⟨t,q'⟩:=(show ∃ t,u=Value.str y t from ru); cases q'; exact ⟨_,PySem.W.kitx_str,True.intro,fun z=>nomatch z⟩
 | ref a =>
  cases (show u=Value.ref a from ru);rcases (show _\/_\/_ from ty) with ⟨rfl,xs,h⟩ | ⟨rfl,xs,h⟩ | ⟨rfl,kvs,h⟩
  ·obtain ⟨its,_,⟨o,n,h1,h2,_⟩,_⟩:=I.list h;exact ⟨_,PySem.W.kitx_list,⟨o,h1,h2⟩,fun z=>nomatch z⟩
  ·obtain ⟨its,_,⟨o,h1,h2,_⟩,_⟩:=I.tuple h;exact ⟨_,PySem.W.kitx_tuple,⟨o,h1,h2⟩,fun z=>nomatch z⟩
  ·obtain ⟨_,_,vs,_,p⟩:=(show ObjOk X.prog X.w H s.heap a (.dK kvs) from I.hok a _ h);obtain ⟨o,es,ep,h1,h2,_⟩:=p;exact ⟨_,PySem.W.kitx_dict,⟨o,h1,h2.1⟩,fun z=>nomatch z⟩
 | byt _=>exact (show False from ty).elim
 | flt _=>exact (show False from ty).elim
 | ty _=>exact (show False from ty).elim
theorem A8h:∀ {cs:List String} {us:List Value},Vals (cs.map V.ty) us->us=cs.map Value.type
 | [],_,.nil=>rfl
 | c :: r,_,.cons h t=>by rw [A8h t,show _=Value.type c from h]; rfl
def C3q (K:PySem.W.Frag):List V->Hp->VK->Prop:=fun xs H Q=>∃ x t cs T b,xs=[x,.ref t]/\H t=some (.tup (cs.map V.ty))/\TyV K H x T/\U6 T cs=some b/\Q (.bl b) H
theorem A0u {K:PySem.W.Frag} (hK:X.K=K):CallR X (.builtin "isinstance") (C3q K):=by
 subst hK;intro pins s σ H xs us Q I r h;obtain ⟨x,t,cs,T,b,rfl,ht,ty,e,q⟩:=h;obtain ⟨u,v,rfl,ru,rv⟩:=Vals.two r;cases (show v=Value.ref t from rv);obtain ⟨Hh,Z,hz,hx⟩:=C56 I ru ty;obtain ⟨its,r1,⟨⟨k1,dd,da,sl⟩,h1,h2,n,h3⟩,_⟩:=I.tuple (SqT.of (K:=X.K) ht);dsimp only at h2 h3;subst h2 h3;have ei:=A8h r1;subst ei;exact PySem.W.kia_tup Z I.kIn hz h1 (A2t X.K e) hx fun tk=>⟨.bl b,H,I.tok tk,rfl,q⟩
end
end L2
namespace Pu
open PySem L2 My Prf
def dwnD (lo:Int) (n:Nat):LP:=(List.range n).map fun k:Nat=>PyData.int (lo - (k:Int))
def C7n (pa:PAr) (env:PEnv) (Q:LP->PEnv->Prop):Prop:=pa env fun xs e=>match xs with
 | [.int i,.int j,.int k]=>k=-1/\((-(2 ^ 61)<=i/\i < 2 ^ 61)/\-(2 ^ 61)<=j/\j < 2 ^ 61)/\Q (dwnD i (i - j).toNat) e
 | _=>False
def pCat (x y:PyData) (Q:SV->Prop):Prop:=match x,y with
 | .list xs,.list ys=>xs.length + ys.length<=1000000/\Q (.own (xs++ys))
 | _,_=>False
instance ro_cat {K:Frag}:RO K (C3r K) pCat where
 ok:=by
  rintro c w env σ x y dx dy Qp Q rfl E vx vy p k;unfold pCat at p;split at p
  ·obtain ⟨a,vs,e,h1,h2⟩:=vx.lst E.wok;obtain ⟨b,us,e',g1,g2⟩:=vy.lst E.wok;exact ⟨a,b,vs,us,e,e',h1,g1,by rw [h2.len,g2.len]; exact Zx p.1 (by decide),fun q hq=>k _ _ _ (Res.lst E hq (h2.app g2)) p.2⟩
  ·exact p.elim
def blsD:LP->Option (List Bool)
 | []=>some []
 | .bool b :: r=>(blsD r).map (b :: ·)
 | _=>none
theorem A60:∀ bs:List Bool,blsD (bs.map .bool)=some bs
 | []=>rfl
 | b :: r=>by show (blsD (r.map .bool)).map (b :: ·)=_; rw [A60 r]; rfl
theorem A61 {K:Frag} {F:Hpp}:∀ {vs:List V} {xs:LP} {bs:List Bool},DenAll K F vs xs->blsD xs=some bs->vs=bs.map V.bl
 | _,_,bs,.nil,h=>by cases h; rfl
 | _,_,bs,.cons (x:=x) (xs:=vs) (d:=d) (ds:=ds) h t,e=>by
  cases d with
  | bool b =>
   have e':(blsD ds).map (b :: ·)=some bs:=e;cases q:blsD ds with
   | none=>rw [q] at e'; cases e'
   | some r =>
    rw [q] at e'; cases e';rw [h.blE,A61 t q]; rfl
  | _=>cases e
def pAll (xs:LP) (Q:SV->Prop):Prop:=match xs with
 | [.list ys]=>∃ bs,blsD ys=some bs/\Q (.d (.bool (bs.all id)))
 | _=>False
def pAny (xs:LP) (Q:SV->Prop):Prop:=match xs with
 | [.list ys]=>∃ bs,blsD ys=some bs/\Q (.d (.bool (bs.any id)))
 | _=>False
instance rb_all {K:Frag}:RB K (rAll K) pAll where
 ok:=by
  rintro c w env σ vs xs Qp Q rfl E vv p k;unfold pAll at p;split at p
  ·obtain ⟨bs,e,q⟩:=p;cases vv with | cons h t=>cases t; obtain ⟨a,us,e',h1,h2⟩:=h.lst E.wok; exact ⟨a,bs,by rw [e'],by rw [<- A61 h2 e]; exact h1,k _ _ w (Res.data E (.bl _)) q⟩
  ·exact p.elim
class TyA (t:TA) (cs:outParam (List String)):Prop where
 ok:∀ σ H (Q:List V->Hpp->Prop),Q (cs.map V.ty) H->t σ H Q
instance tya_nil:TyA tNil []:=⟨fun _ _ _ h=>h⟩
instance tya_cons {c:String} {t:TA} {cs:List String} [h:TyA t cs]:TyA (F9 (tC (.ty c)) t) (c :: cs):=⟨fun σ H Q q=>h.ok σ H _ q⟩
def C4r (cs:List String) (pa:PDt) (env:PEnv) (Q:SV->PEnv->Prop):Prop:=pa env fun x e=>cs.length<=1000/\match U6 (tyD x) cs with
 | some b=>Q (.d (.bool b)) e
 | none=>False
instance (priority:=high) re_isit {K:Frag} {ta:TE} {pa:PDt} {tt:TA} {cs:List String} [ha:RW K ta pa] [ht:TyA tt cs]:RE K (tCB (C3q K) (F9 ta (F9 (tTup tt) tNil))) (C4r cs pa) where
 ok:=by
  rintro ct w env σ Qp Q rfl E p k;refine ha.ok ct w env σ _ _ rfl E p fun x dx e1 w1 E1 l1 v1 ⟨hl,q1⟩=>?_;refine ht.ok σ _ _ ⟨by rw [Zl]; exact Nat.le_of_lt (O0 hl),fun t ht'=>?_⟩;split at q1
  ·rename_i b hb;have E2:=E1.mono (Wd.lay_ok (o:=.tup (cs.map V.ty)) E1.wok ht') (Wd.lay_le ht');have l2:Lw w1 (w1.lay t (.tup (cs.map V.ty))):=(Wd.lay_le ht').toLw;have v2:=(v1.mono l2).den E2.wok;exact ⟨x,t,cs,_,b,rfl,B3,Den.ty v2,hb,k (.bl b) (.d (.bool b)) e1 (w1.lay t (.tup (cs.map V.ty))) ((Res.data E2 (.bl b)).pre (l1.trans l2)) q1⟩
  ·exact q1.elim
theorem A6e:U6 "bool" ["list","tuple"]=some false:=by decide +kernel
theorem A6b:U6 "NoneType" ["list","tuple"]=some false:=by decide +kernel
theorem A6d:U6 "int" ["list","tuple"]=some false:=by decide +kernel
theorem A6a:U6 "str" ["list","tuple"]=some false:=by decide +kernel
theorem A6c:U6 "list" ["list","tuple"]=some true:=by decide +kernel
theorem A59:U6 "tuple" ["list","tuple"]=some true:=by decide +kernel
theorem C1w {x:PyData} {xs:LP} {Q:SV->Prop}:pGet (x :: xs) 0 Q=Q (.d x):=by unfold pGet; rw [at0]
theorem C1v {x y:PyData} {xs:LP} {Q:SV->Prop}:pGet (x :: y :: xs) 1 Q=Q (.d y):=by unfold pGet; rw [at1]
theorem C4u {x y z:PyData} {xs:LP} {Q:SV->Prop}:pGet (x :: y :: z :: xs) 2 Q=Q (.d z):=by unfold pGet; rw [at2]
theorem C4t {x y z u:PyData} {xs:LP} {Q:SV->Prop}:pGet (x :: y :: z :: u :: xs) 3 Q=Q (.d u):=by unfold pGet; rw [at3]
theorem D1 {xs:LP} {i:Int} {z:PyData} {Q:SV->Prop} (h:atI xs i=some z) (q:Q (.d z)):pGet xs i Q:=by unfold pGet; rw [h]; exact q
theorem B6b {xs:List Int} {d:Int} (h0:0<=d) (h1:d < xs.length):∃ z,z ∈ xs/\atI (xs.map PyData.int) d=some (.int z):=by
 obtain ⟨n,rfl⟩:=Zi h0;have hn:n < xs.length:=by omega
 refine ⟨xs[n],List.getElem_mem hn,F6 ?_⟩;rw [Zh,Zg hn]; rfl
theorem L8 {α:Type} {f:α->PyData} {xs:List α} {n:Nat} {a:α} {Q:SV->Prop} (h:xs[n]?=some a) (q:Q (.d (f a))):pGet (xs.map f) (n:Int) Q :=
 D1 (F6 (by rw [Zh,h]; rfl)) q
theorem Q9 {α:Type} {f:α->PyData} {xs:List α} {a:α} {Q:SV->Prop} (h:xs[xs.length - 1]?=some a) (h1:1<=xs.length) (q:Q (.d (f a))):pGet (xs.map f) (-1) Q:=by
 refine D1 (z:=f a) ?_ q;unfold L2.atI ixN;rw [if_neg (by decide),if_pos (by rw [Zl]; omega)];show (xs.map f)[((-1:Int) + ((xs.map f).length:Int)).toNat]?=_;rw [show ((-1:Int) + ((xs.map f).length:Int)).toNat=xs.length - 1 by rw [Zl]; omega,Zh,h]; rfl
theorem pIxT {xs:LP} {i:Int} {Q:SV->Prop}:pIx (.tuple xs) (.int i) Q=pGet xs i Q:=rfl
end Pu
namespace L2
open PySem PySem.Spec PyProof.Rows
structure QE (X:Cx) (e:Expr) (t:TE):Prop where
 out:PE X e  t
structure QT (X:Cx) (e:Expr) (t:TT):Prop where
 out:PT X e  t
structure QW (X:Cx) (e:Expr) (t:TT):Prop where
 out:PW X e  t
structure QA (X:Cx) (e:List Expr) (t:TA):Prop where
 out:PA X e  t
structure QSs (X:Cx) (e:List Stmt) (t:TS):Prop where
 out:PSs X e  t
structure QS (X:Cx) (e:Stmt) (t:TS):Prop where
 out:PS X e  t
structure QGs (X:Cx) (e:List Expr) (t:TGs):Prop where
 out:PGs X e  t
structure QG (X:Cx) (e:Expr) (t:TG):Prop where
 out:PG X e  t
structure QI (X:Cx) (e e2:Expr) (t:TI):Prop where
 out:PI X e e2  t
structure QTs (X:Cx) (e:List Expr) (t:TT):Prop where
 out:PTs X e  t
structure QO (X:Cx) (e:Option Expr) (t:TO):Prop where
 out:PO X e  t
section
variable {X:Cx}
theorem qpv (i: Nat) {x:Str} {pos:Pos} (hN: X.N[i]?=some x:=by rfl) (hv: Vis X.env.scope x:=by first | exact Or.inl rfl | exact Or.inr (Or.inl rfl) | exact Or.inr (Or.inr rfl)) (hd: (x == ("__debug__":Str))=false:=by decide) (hcd: (x == ("__classdict__":Str))=false:=by decide):QE X (.Name x pos) (tVar i):=⟨pv i hN hv hd hcd⟩
theorem A2 {i j pos}:QE X (.Constant (.int i) j pos) (tC (.int i)):=⟨E9 ⟩
theorem D3 {b j pos}:QE X (.Constant (.bool b) j pos) (tC (.bl b)):=⟨C7l ⟩
theorem A3w {j pos}:QE X (.Constant .none j pos) (tC .non):=⟨C4a ⟩
theorem B7 {x j pos}:QE X (.Constant (.str x) j pos) (tC (.str x)):=⟨C37 ⟩
theorem K7 {x:Str} {v:V} {u:Value} {pos:Pos} (hg: Gl X x) (hm: X.mg x=some u) (r: RelV v u) (hd: (x == ("__debug__":Str))=false:=by decide):QE X (.Name x pos) (tC v):=⟨C08 hg hm r hd⟩
theorem C7 {x:Str} {v:V} {u:Value} {pos:Pos} (hg: Gl X x) (hm: X.mg x=none) (hv: bootBuiltins x=some u) (r: RelV v u) (hn: x≠"__name__":=by decide) (hd: (x == ("__debug__":Str))=false:=by decide):QE X (.Name x pos) (tC v):=⟨C1b hg hm hv r hn hd⟩
theorem B2 {op:Operator} {r:R2} (ho: OpR X (binaryOp op) r) (ha: QE X a ta) (hb: QE X b tb):QE X (.BinOp a op b pos) (tOp r ta tb):=⟨L5 ho ha.out hb.out⟩
theorem U1 {op:UnaryOp} {r:V->Hp->VK->Prop} (ho: UnR X (unaryOp op) r) (ha: QE X a ta):QE X (.UnaryOp op a pos) (tUn r ta):=⟨C7i ho ha.out⟩
theorem A3v (ha: QE X a ta):QE X (.UnaryOp .Not a pos) (B98 ta):=⟨C39 ha.out⟩
theorem D5 {op:CmpOp} {r:R2} (ho: OpR X (compareOp op) r) (ha: QE X a ta) (hb: QE X b tb) (hm: behindInMarks op b=false):QE X (.Compare a [op] [b] pos) (tOp r ta tb):=⟨A08 ho ha.out hb.out hm⟩
theorem A9 {op:CmpOp} {r:R2} (ho: OpR X (compareOp op) r) (ha: QE X a ta) (hb: QE X b tb) (hm: behindInMarks op b=false):QT X (.Compare a [op] [b] pos) (A8y (tOp r ta tb)):=⟨A9h ho ha.out hb.out hm⟩
theorem A2b {op op':CmpOp} {r r':R2} (ho: OpR X (compareOp op) r) (ho': OpR X (compareOp op') r') (ha: QE X a ta) (hb: QE X b tb) (hc: QE X c tc) (hm: lastMarks [op,op'] [b,c]=false:=by with_unfolding_all rfl):QE X (.Compare a [op,op'] [b,c] pos) (A1y r r' ta tb tc):=⟨B5s ho ho' ha.out hb.out hc.out hm⟩
theorem W4 {op op':CmpOp} {r r':R2} (ho: OpR X (compareOp op) r) (ho': OpR X (compareOp op') r') (ha: QE X a ta) (hb: QE X b tb) (hc: QE X c tc) (hm: lastMarks [op,op'] [b,c]=false:=by with_unfolding_all rfl):QT X (.Compare a [op,op'] [b,c] pos) (A8y (A1y r r' ta tb tc)):=⟨B5i ho ho' ha.out hb.out hc.out hm⟩
theorem G1 {rest:List Expr} (ha: QE X a ta) (hb: QE X (.BoolOp .And (b :: rest) pos) tb):QE X (.BoolOp .And (a :: b :: rest) pos) (C0a ta tb):=⟨C4c ha.out hb.out⟩
theorem C3s {rest:List Expr} (ha: QE X a ta) (hb: QE X (.BoolOp .Or (b :: rest) pos) tb):QE X (.BoolOp .Or (a :: b :: rest) pos) (tOrV ta tb):=⟨C7j ha.out hb.out⟩
theorem G3 {op} {t:TE} (h: QE X a t):QE X (.BoolOp op [a] pos) t:=⟨C38 h.out⟩
theorem W3 {rest:List Expr} (ha: QT X a tA) (hb: QW X (.BoolOp .And (b :: rest) pos) tB'):QW X (.BoolOp .And (a :: b :: rest) pos) (tAnd tA tB'):=⟨C3y ha.out hb.out⟩
theorem F8 {rest:List Expr} (ha: QT X a tA) (hb: QW X (.BoolOp .Or (b :: rest) pos) tB'):QW X (.BoolOp .Or (a :: b :: rest) pos) (tOr tA tB'):=⟨C7g ha.out hb.out⟩
theorem Q6 (ha: QT X a tA):QW X (.BoolOp .And [a] pos) tA:=⟨C0p ha.out⟩
theorem F3 (ha: QT X a tA):QW X (.BoolOp .Or [a] pos) tA:=⟨C3x ha.out⟩
theorem B6 (ha: QT X a tA):QT X (.UnaryOp .Not a pos) (tNot tA):=⟨C3z ha.out⟩
theorem B5 {e:Expr} {t:TE} (h: QE X e t) (he: ∀ whole,isTrue e X.env whole=(do let v <- whole; standAt e.pos; holding [v] (truthy v)):=by intro _; rfl):QT X e (tB t):=⟨B7p h.out he⟩
theorem A9e {c:Expr} (hc: QT X c tA) (ha: QE X a ta) (hb: QE X b tb):QE X (.IfExp c a b pos) (tIf tA ta tb):=⟨B5r hc.out ha.out hb.out⟩
theorem F2 (hc: X.calm=true) (C: CompSc X scope cl N' cap) (hi: QI X tg iter wi) (hg: ∀ s3 H3 fp,QG (X.block scope cl N' s3 H3 fp) tg g) (ht: ∀ s3 H3 fp,QTs (X.block scope cl N' s3 H3 fp) ifs tt) (he: ∀ s3 H3 fp,QE (X.block scope cl N' s3 H3 fp) elt te) (hs: ∀ x,foldedSetIterable iter X.env x=pure x:=by intro _; rfl):QE X (.ListComp elt [⟨tg,iter,ifs,0⟩] scope pos) (A7b wi g tt te cap):=⟨C09 hc C hi.out (fun a b c=>(hg a b c).out) (fun a b c=>(ht a b c).out) (fun a b c=>(he a b c).out) hs⟩
theorem G7 (hc: X.calm=true) (hN: X.N.Nodup) (hi: X.N[i]?=some y) (hy: X.env.scope.names.lookup y=some .local) (C: CompSc X scope cl N' cap) (hit: QI X tg iter wi) (hg: ∀ s3 H3 fp,QG (X.block scope cl N' s3 H3 fp) tg g) (ht: ∀ s3 H3 fp,QTs (X.block scope cl N' s3 H3 fp) ifs tt) (he: ∀ s3 H3 fp,QE (X.block scope cl N' s3 H3 fp) elt te) (hsw: swapsWith (.ListComp elt [⟨tg,iter,ifs,0⟩] scope pos) (some (.Name y py)) spos.line X.env=pure true) (hs: ∀ x,foldedSetIterable iter X.env x=pure x:=by intro _; rfl):QS X (.Assign [.Name y py] (.ListComp elt [⟨tg,iter,ifs,0⟩] scope pos) spos) (M9 wi g tt te cap i):=⟨A7i hc hN hi hy C hit.out (fun a b c=>(hg a b c).out) (fun a b c=>(ht a b c).out) (fun a b c=>(he a b c).out) hsw hs⟩
theorem B8 {x1} (h: QA X es t):QE X (.Tuple es x1 pos) (tTup t):=⟨C36 h.out⟩
theorem C3 (h: QA X es t):QE X (.List es pos) (tLst t):=⟨B7r h.out⟩
theorem K3 {lo hi:Option Expr} {r:V->Option Int->Option Int->Hp->VK->Prop} (hr: SlR X r) (he: QE X e te) (hl: QO X lo tl) (hu: QO X hi th):QE X (.Subscript e (.Slice lo hi none p2) pos) (tSl r te tl th):=⟨B5q hr he.out hl.out hu.out⟩
theorem L7 :QO X none A3q:=⟨C01 ⟩
theorem L6 (h: QE X e te):QO X (some e) (B97 te):=⟨C00 h.out⟩
theorem C3t {r:R2} (hr: IxR X r) (ha: QE X a ta) (hb: QE X b tb) (hs: A4o b):QE X (.Subscript a b pos) (tOp r ta tb):=⟨A07 hr ha.out hb.out hs⟩
theorem B5h (F: FnOk X.prog X.w X.K X.mg X.base CX k f fd ps sp) (hr: Room k X.A) (hg: Gl X x) (hm: X.mg x=some (.ref f)) (hk: PySem.W.keepIn X.K (.ref f)=true) (hb: Binds X.K fd ps ds) (hd: Vals dvs ds) (hx: A68 CX X E) (ha: QA X (e :: es) t) (hdb: (x == ("__debug__":Str))=false:=by decide) (he: starEach (e :: es) X.env=(false,eval e X.env) :: starEach es X.env:=by rfl) (hpl: (backTo pos (starEach es X.env)).any (·.1)=false:=by rfl):QE X (.Call (.Name x p) (e :: es) [] pos) (A1z sp dvs E t):=⟨C1a F hr hg hm hk hb hd hx ha.out hdb he hpl⟩
theorem B0 {id:String} (hc: CallR X (.builtin id) r) (hg: Gl X x) (hm: X.mg x=none) (hv: bootBuiltins x=some (.builtin id)) (ha: QA X (e :: es) t) (hn: x≠"__name__":=by decide) (hdb: (x == ("__debug__":Str))=false:=by decide) (he: starEach (e :: es) X.env=(false,eval e X.env) :: starEach es X.env:=by rfl) (hpl: (backTo pos (starEach es X.env)).any (·.1)=false:=by rfl):QE X (.Call (.Name x p) (e :: es) [] pos) (tCB r t):=⟨A5f hc hg hm hv ha.out hn hdb he hpl⟩
theorem D2 (hc: CallR X (.type T) r) (hg: Gl X x) (hm: X.mg x=none) (hv: bootBuiltins x=some (.type T)) (ha: QA X (e :: es) t) (hn: x≠"__name__":=by decide) (hdb: (x == ("__debug__":Str))=false:=by decide) (he: starEach (e :: es) X.env=(false,eval e X.env) :: starEach es X.env:=by rfl) (hpl: (backTo pos (starEach es X.env)).any (·.1)=false:=by rfl):QE X (.Call (.Name x p) (e :: es) [] pos) (tCB r t):=⟨A2h hc hg hm hv ha.out hn hdb he hpl⟩
theorem F4 {K:PySem.W.Frag} (hK:X.K=K) {id:String} (pa: PlainAttrs T) (slot: Slot T name id) (hty: typeOf (.builtin id)=pure (.type "method_descriptor")) (hm: MtR X id r) (ho: QE X o to) (ha: QA X (e :: es) t) (hbase: attributeBase o name X.env (eval o X.env)=eval o X.env:=by rfl) (hfew: ((backTo cpos (starEach (e :: es) X.env)).all (fun x=>!x.1) && (backToKw cpos (keywordEach [] X.env)).all (fun x=>x.1.isSome)
   && decide ((e :: es).length + ([]:List Keyword).length + (if ([]:List Keyword).isEmpty then 0 else 1) < 30))=true:=by rfl) (hline: (apos.endLine == cpos.line)=true:=by rfl) (hs: starEach (e :: es) X.env=(false,eval e X.env) :: starEach es X.env:=by rfl) (hplain: (backTo cpos (starEach es X.env)).any (·.1)=false:=by rfl):QE X (.Call (.Attribute o name apos) (e :: es) [] cpos) (tBM K T r to t):=by subst hK; exact ⟨C7k pa slot hty hm ho.out ha.out hbase hfew hline hs hplain⟩
theorem V3 {K:PySem.W.Frag} (hK:X.K=K) {id:String} (pa: PlainAttrs T) (slot: Slot T name id) (hty: typeOf (.builtin id)=pure (.type "method_descriptor")) (hm: MtR X id r) (ho: QE X o to) (hbase: attributeBase o name X.env (eval o X.env)=eval o X.env:=by rfl) (hline: (apos.endLine == cpos.line)=true:=by rfl):QE X (.Call (.Attribute o name apos) [] [] cpos) (tBM0 K T r to):=by subst hK; exact ⟨C4b pa slot hty hm ho.out hbase hline⟩
theorem A1 :QA X [] tNil:=⟨A2i ⟩
theorem A0 (ha: QE X e te) (hr: QA X es t) (hs: starEach (e :: es) X.env=(false,eval e X.env) :: starEach es X.env:=by rfl):QA X (e :: es) (F9 te t):=⟨P8 ha.out hr.out hs⟩
theorem A8 :QSs X [] B99:=⟨A3z ⟩
theorem A4 {st:Stmt} (h1: QS X st t):QSs X [st] t:=⟨S4 h1.out⟩
theorem A3 {st:Stmt} {rest:List Stmt} (h1: QS X st t) (h2: QSs X rest u):QSs X (st :: rest) (tSeq t u):=⟨J8 h1.out h2.out⟩
theorem L3 {st:Stmt}:QS X st A8z:=⟨B5k ⟩
theorem A6 (he: QE X e te):QS X (.Return (some e) pos) (tRet te):=⟨A5a he.out⟩
theorem C1 (he: QE X e te) (hs: swapsWith e none pos.line X.env=pure false:=by rfl):QS X (.Expr e pos) (Z4 te):=⟨C0w he.out hs⟩
theorem C0 {c:Expr} {a b:List Stmt} {tc:TT} (hc: QT X c tc) (ha: QSs X a t) (hb: QSs X b u):QS X (.If c a b pos) (tIfS tc t u):=⟨C0v hc.out ha.out hb.out⟩
theorem K2 {c:Expr} {body:List Stmt} {tc:TT} {tb:TS} (hp: PassesOwn (model X.prog X.w) X.A X.env X.xe) (hc: QT X c tc) (hb: QSs X body tb):QS X (.While c body [] pos) (A8x tc tb):=⟨B5j hp hc.out hb.out⟩
theorem G0 {iter:Expr} {body:List Stmt} {wi:TI} {g:TG} {tb:TS} {pos:Pos} (hp: PassesOwn (model X.prog X.w) X.A X.env X.xe) (hc: X.calm=true) (hi: QI X tg iter wi) (hg: QG X tg g) (hb: QSs X body tb) (hs: ∀ x,foldedSetIterable iter X.env x=pure x:=by intro _; rfl):QS X (.For tg iter body [] pos) (tFor wi g tb):=⟨B7q hp hc hi.out hg.out hb.out hs⟩
theorem O2 {i:Nat} {x:Str} {e:Expr} {te:TE} {pos':Pos} (hN: X.N.Nodup) (hi: X.N[i]?=some x) (hx: Loc X.env.scope x) (he: QE X e te) (hs: swapsWith e (some (.Name x pos')) pos.line X.env=pure false:=by rfl) (hf: X.fn x=true\/X.env.scope.names.lookup x=some .local:=by first | exact .inl rfl | exact .inr rfl | assumption):QS X (.Assign [.Name x pos'] e pos) (tAsg te (P2 i)):=⟨A0n hN hi hx he.out hs hf⟩
theorem S2 {i j:Nat} {x y:Str} {a b:Expr} {ta:TA} {px py pt:Pos} {kt k2 pt2} (hc: X.calm=true) (hN: X.N.Nodup) (hi: X.N[i]?=some x) (hj: X.N[j]?=some y) (hij: i≠j) (hx: X.env.scope.names.lookup x=some .local) (hy: X.env.scope.names.lookup y=some .local) (ha: QA X [a,b] ta) (hw: swappedStores [.Tuple [.Name x px,.Name y py] kt pt] (.Tuple [a,b] k2 pt2) X.env=pure (some [x,y])) (hs: swapsWithSole [.Tuple [.Name x px,.Name y py] kt pt] (.Tuple [a,b] k2 pt2) pos.line X.env=pure false:=by rfl):QS X (.Assign [.Tuple [.Name x px,.Name y py] kt pt] (.Tuple [a,b] k2 pt2) pos) (tPar i j ta):=⟨C30 hc hN hi hj hij hx hy ha.out hw hs⟩
theorem O3 {tg e:Expr} {te:TE} {g:TG} (he: QE X e te) (hg: QG X tg g) (hs: swapsWithSole [tg] e pos.line X.env=pure false:=by rfl) (hw: swappedStores [tg] e X.env=pure none:=by rfl) (h1: (assignEach [tg] X.env).map (·.2)=[assign tg X.env]:=by rfl):QS X (.Assign [tg] e pos) (tAsg te g):=⟨A5c he.out hg.out hs hw h1⟩
theorem A47 {i:Nat} {x:Str} (hN: X.N.Nodup) (hi: X.N[i]?=some x) (hx: Loc X.env.scope x) (hf: X.fn x=true\/X.env.scope.names.lookup x=some .local:=by first | exact .inl rfl | exact .inr rfl | assumption):QG X (.Name x pos) (P2 i):=⟨A9z hN hi hx hf⟩
theorem D7 :QGs X [] gNil:=⟨C06 ⟩
theorem A7 {e:Expr} {es:List Expr} {t:TG} {u:TGs} (h1: QG X e t) (h2: QGs X es u) (hs: (assignEach (e :: es) X.env).map (·.2)=assign e X.env :: (assignEach es X.env).map (·.2):=by rfl):QGs X (e :: es) (A0f t u):=⟨B5p h1.out h2.out hs⟩
theorem D8 {K:PySem.W.Frag} {pos:Pos} {es:List Expr} {k:Nat} {t:TGs} {n:Nat} (h: X.K=K) (hc: X.calm=true) (hg: QGs X es t) (hn: (assignEach es X.env).length=n:=by rfl) (hst: (assignEach es X.env).findIdx? (·.1)=none:=by rfl):QG X (.Tuple es k pos) (gTup K n t):=⟨C07 h hc hg.out hn hst⟩
theorem I0 {a:Expr} {ta:TA} {p pos:Pos} (hg: Gl X "range") (hm: X.mg "range"=none) (ha: QA X [a] ta) (hs: starEach [a] X.env=[(false,eval a X.env)]:=by rfl):QI X tg (.Call (.Name "range" p) [a] [] pos) (C2o ta):=⟨A2g hg hm ha.out hs⟩
theorem S3 {a b:Expr} {ta:TA} {p pos:Pos} (hg: Gl X "range") (hm: X.mg "range"=none) (ha: QA X [a,b] ta) (hs: starEach [a,b] X.env=[(false,eval a X.env),(false,eval b X.env)]:=by rfl) (hs2: starEach [b] X.env=[(false,eval b X.env)]:=by rfl):QI X tg (.Call (.Name "range" p) [a,b] [] pos) (C2n ta):=⟨A9y hg hm ha.out hs hs2⟩
theorem E6 {K:PySem.W.Frag} {l:Expr} {tl:TE} (h: X.K=K) (hl: QE X l tl):QI X tg l (iSq K tl):=⟨C33 h hl.out⟩
theorem D4 {X:Cx}:QTs X [] tYes:=⟨C0r ⟩
theorem Q7 {X:Cx} {c:Expr} {t:TT} (h: QT X c t):QTs X [c] t:=⟨C0q h.out⟩
theorem QW.pt {X:Cx} {e:Expr} {t:TT} (h:QW X e t):QT X e t:=⟨h.out.pt⟩
end
end L2
namespace Pu
open PySem L2 My Prf
theorem B9w (n:Int):PyData.tuple [.int n,.int 1]=dq (n:Rat):=by
 unfold dq; rw [Rat.num_intCast,Rat.den_intCast]; rfl
theorem A04 {k:Nat} {n:Int} (h:Sm k n):SmR k 1 (n:Rat):=⟨by rw [Rat.num_intCast]; exact h,by rw [Rat.den_intCast]; unfold Sm; decide⟩
theorem C0d {k:Nat} {q:Rat} (h:SmR k 1 q):q.den=1:=by
 have h1:(q.den:Int).natAbs < 2 ^ 1:=h.2;have h2:=q.den_nz;omega
theorem C6g {n:Int} (h:0<=n):(0:Rat)<=(n:Rat):=Rat.intCast_nonneg.mpr h
theorem C6f {n:Int} (h:0 < n):(0:Rat) < (n:Rat):=Rat.intCast_pos.mpr h
theorem A83 {z:Int} (h0:0<=z) (h1:z<=1000000000000000000):Sm 4000 z:=Sm.mono (k:=64) (Q3 (B:=1000000000000000000) (by omega) (by omega) (by decide)) (by decide)
theorem A5n {c:Rat × Rat} {Q:SV->Prop}:pIx (dcn c) (.int 0) Q=Q (.d (dq c.1)):=by unfold dcn; rw [pIxT,C1w]
theorem A5m {c:Rat × Rat} {Q:SV->Prop}:pIx (dcn c) (.int 1) Q=Q (.d (dq c.2)):=by unfold dcn; rw [pIxT,C1v]
theorem R5 {lo:Int} {n:Nat} {pg:PyData->PEnv->(PEnv->Prop)->Prop} {pt:PTt} {pd:PDt} {e0:PEnv} {Fin:LP->Prop} (Pv:Nat->PEnv->LP->Prop) (h0:Pv 0 e0 [])
  (hs:∀ (i:Nat) e ys,i < n->Pv i e ys->pg (.int (lo + (i:Int))) e fun e2=>pt e2 fun b e3=>if b=true then pd e3 fun y e4=>Pv (i + 1) e4 (ys++[y]) else Pv (i + 1) e3 ys) (hd:∀ e ys,Pv n e ys->Fin ys):N2 (rngD lo n) pg pt pd e0 Fin :=
 ⟨Pv,h0,fun i x e ys hx hi=>by obtain ⟨h1,rfl⟩:=A44 hx; exact hs i e ys h1 hi,fun e ys h=>hd e ys (by rwa [J7] at h)⟩
theorem K0 {α:Type} {f:α->PyData} {xs:List α} {pg:PyData->PEnv->(PEnv->Prop)->Prop} {pt:PTt} {pd:PDt} {e0:PEnv} {Fin:LP->Prop} (Pv:Nat->PEnv->LP->Prop) (h0:Pv 0 e0 [])
  (hs:∀ (i:Nat) a e ys,xs[i]?=some a->Pv i e ys->pg (f a) e fun e2=>pt e2 fun b e3=>if b=true then pd e3 fun y e4=>Pv (i + 1) e4 (ys++[y]) else Pv (i + 1) e3 ys) (hd:∀ e ys,Pv xs.length e ys->Fin ys):N2 (xs.map f) pg pt pd e0 Fin:=by
 refine ⟨Pv,h0,fun i x e ys hx hi=>?_,fun e ys h=>hd e ys (by rwa [List.length_map] at h)⟩;rw [Zh] at hx;cases ha:xs[i]? with
 | none=>rw [ha] at hx; cases hx
 | some a=>rw [ha] at hx; cases hx; exact hs i a e ys ha hi
theorem Y3 {α:Type} {f:α->PyData} {xs:List α} {pg:PyData->PEnv->(PEnv->Prop)->Prop} {pb:PSt} {D:PEnds} {env:PEnv} (Iv:Nat->PEnv->Prop) (h0:Iv 0 env)
  (hs:∀ (i:Nat) a e,xs[i]?=some a->Iv i e->pg (f a) e fun e2=>pb ⟨Iv (i + 1),D.rt,D.nx,Iv (i + 1)⟩ e2) (hd:∀ e,Iv xs.length e->D.nx e):A5q (xs.map f) pg pb D env:=by
 refine ⟨Iv,h0,fun i x e hx hi=>?_,fun e h=>hd e (by rwa [List.length_map] at h)⟩;rw [Zh] at hx;cases ha:xs[i]? with
 | none=>rw [ha] at hx; cases hx
 | some a=>rw [ha] at hx; cases hx; exact hs i a e ha hi
theorem A8o:PyData.tuple [.int 2,.int 3]=dq (Rat.divInt 2 3):=by
 unfold dq;rw [show (Rat.divInt 2 3).num=2 by decide +kernel,show (Rat.divInt 2 3).den=3 by decide +kernel]; rfl
theorem B3z:PyData.tuple [.int 1,.int 2]=dq (Rat.divInt 1 2):=by
 unfold dq;rw [show (Rat.divInt 1 2).num=1 by decide +kernel,show (Rat.divInt 1 2).den=2 by decide +kernel]; rfl
end Pu
namespace Pu
open PySem L2 My Prf
theorem sm_zero:SmR 1 1 (0:Rat):=⟨by unfold Sm; decide,by unfold Sm; decide⟩
theorem A65 {q:Rat} {k:LP->Prop}:U8 (dq q) k=k [.int q.num,.int (q.den:Int)]:=rfl
theorem B0e {q:Rat} {Q:SV->Prop}:pLen [dq q] Q=Q (.d (.int 2)):=rfl
theorem A2l {xs:LP} {Q:SV->Prop}:pLen [.list xs] Q=Q (.d (.int xs.length)):=rfl
theorem A5l {xs:LP} {Q:SV->Prop}:pLen [.tuple xs] Q=Q (.d (.int xs.length)):=rfl
theorem B35:PyData.eqv (.list []) (.list [])=true:=rfl
theorem B2s:(PyData.list []).canLay0=true:=rfl
theorem B39:(PyData.list []).depth=1:=rfl
theorem A8k {i:Int}:tyD (.int i)="int":=rfl
theorem A4y {b:Bool}:tyD (.bool b)="bool":=rfl
theorem A8j {s:Str}:tyD (.str s)="str":=rfl
theorem A4v:tyD .none="NoneType":=rfl
theorem A4w {xs:LP}:tyD (.list xs)="list":=rfl
theorem A8i {xs:LP}:tyD (.tuple xs)="tuple":=rfl
theorem A8l {c:Rat × Rat}:tyD (dcn c)="tuple":=rfl
theorem A0y {xs:LP} {k:LP->Prop}:U8 (.list xs) k=k xs:=rfl
theorem A3m {xs:LP} {k:LP->Prop}:U8 (.tuple xs) k=k xs:=rfl
theorem A3n {c:Rat × Rat} {k:LP->Prop}:U8 (dcn c) k=k [dq c.1,dq c.2]:=rfl
theorem A2v:isNo .none=true:=rfl
theorem A6j {i:Int}:isNo (.int i)=false:=rfl
theorem A2x {b:Bool}:isNo (.bool b)=false:=rfl
theorem A6i {s:Str}:isNo (.str s)=false:=rfl
theorem A2w {xs:LP}:isNo (.list xs)=false:=rfl
theorem A6h {xs:LP}:isNo (.tuple xs)=false:=rfl
end Pu
namespace L2
open PySem PySem.Spec PyProof.Rows
section
variable {X:Cx} {pins:List (Addr × Obj)} {σ:St} {H:Hp} {s:Shared} {h':Heap}
theorem Inv.turnL {t':Nat} {wr:List Addr} (I:Inv X pins σ H s) (k:∀ b o,b ∉ wr->s.heap.get? b=some o->h'.get? b=some o) (hf:∀ b ∈ wr,FpOk X pins H b):Inv X pins σ H { s with heap:=h',toks:=t' }:=by
 have nw:∀ b u,H b=some u->b ∉ wr:=fun b u e z=>by have:=(hf b z).1; rw [e] at this; cases this
 refine I.call (g':=s.gens) (d':=s.drawn) (ch:=wr) ⟨fun b o e _ _ hb=>k b o hb e,fun b o e _ _ hb=>⟨o.slots,k b o hb e⟩,fun _ _ _ n _=>n,fun b o e hb=>⟨o,k b o hb e⟩,fun _ _ e=>e,fun _ _ _ e=>e,fun b ps e=>⟨#[],by rw [e]; simp⟩⟩ (fun b u e=>?_) I.bare fun b hb=>?_
 ·refine (I.hok b u e).stay (fun c v hc q=>k c v ?_ q) (fun _ q=>q) fun _ _ q=>q;rcases hc with z | z
  ·rw [z]; exact nw b u e
  ·exact nw c _ z
 ·have f:=hf b hb;exact ⟨f.2.2.2.1,f.2.1,f.2.2.2.2.1,f.2.2.2.2.2⟩
theorem Inv.laidL {t':Nat} {wr:List Addr} {T:Addr} {o:HO} (I:Inv X pins σ H s) (k:∀ b u,b ∉ wr->s.heap.get? b=some u->h'.get? b=some u) (hf:∀ b ∈ wr,FpOk X pins H b) (hp:s.heap.objs.size<=T) (new:ObjOk X.prog X.w (upd H T o) h' T o) :
  Inv X pins σ (upd H T o) { s with heap:=h',toks:=t' }:=by
 have hn:=I.hok.fresh hp;have nw:∀ b u,H b=some u->b ∉ wr:=fun b u e z=>by have:=(hf b z).1; rw [e] at this; cases this
 refine I.call (g':=s.gens) (d':=s.drawn) (ch:=wr) ⟨fun b u e _ _ hb=>k b u hb e,fun b u e _ _ hb=>⟨u.slots,k b u hb e⟩,fun b u e n _=>by rw [C4 (Nat.ne_of_lt (Nat.lt_of_lt_of_le (Heap.lt_size e) hp))]; exact n,fun b u e hb=>⟨u,k b u hb e⟩,
  fun b xs e=>by rw [C4 (E8 e hn)]; exact e,fun b u xs e=>by rw [C4 (E8 e hn)]; exact e,fun b ps e=>⟨#[],by rw [C4 (E8 e hn),e]; simp⟩⟩ (fun b u e=>?_) I.bare fun b hb=>?_
 ·by_cases hb:b=T
  ·subst hb; rw [B3] at e; cases e; exact new
  ·rw [C4 hb] at e;refine (I.hok b u e).stay (fun c v hc q=>k c v ?_ q) (fun c q=>by rw [C4 (E8 q hn)]; exact q) fun c xs q=>by rw [C4 (E8 q hn)]; exact q
   rcases hc with z | z
   ·rw [z]; exact nw b u e
   ·exact nw c _ z
 ·have f:=hf b hb;exact ⟨f.2.2.2.1,f.2.1,f.2.2.2.2.1,f.2.2.2.2.2⟩
end
def Itz (K:PySem.W.Frag) (l1 l2:Addr):It :=
 ⟨fun i H=>∃ xs ys x y,SqL K H l1 xs/\SqL K H l2 ys/\xs[i]?=some x/\ys[i]?=some y,
  fun i H v H'=>∃ T x y,v=.ref T/\H T=none/\H'=upd H T (.tup [x,y])/\(∀ xs,SqL K H l1 xs->xs[i]?=some x)/\∀ ys,SqL K H l2 ys->ys[i]?=some y,
  fun i H=>∃ xs ys,SqL K H l1 xs/\SqL K H l2 ys/\(xs.length<=i\/ys.length<=i)⟩
def Ite (K:PySem.W.Frag) (l:Addr):It :=
 ⟨fun i H=>∃ xs x,SqL K H l xs/\xs[i]?=some x,
  fun i H v H'=>∃ T x,v=.ref T/\H T=none/\H'=upd H T (.tup [.int i,x])/\∀ xs,SqL K H l xs->xs[i]?=some x,
  fun i H=>∃ xs,SqL K H l xs/\xs.length<=i⟩
theorem O8:∀ {xs:List V} {us:List Value} {i:Nat} {x:V},Vals xs us->xs[i]?=some x->∃ u,us[i]?=some u/\RelV x u
 | _,_,_,_,.nil,e=>by simp at e
 | _,_,0,_,.cons h _,e=>by simp at e; subst e; exact ⟨_,rfl,h⟩
 | _,_,i + 1,x,.cons _ t,e=>by
  obtain ⟨u,h1,h2⟩:=O8 (i:=i) (x:=x) t (by simpa using e);exact ⟨u,by simpa using h1,h2⟩
theorem A4z {P:Program} {w:World} {K:PySem.W.Frag} {es:List Expr} {kk:Nat} {tp:Pos} {z TI TO i1 i2 l1 l2:Addr} (D:ZipApart z TI TO i1 i2 l1 l2) :
    Turn P w K (.Tuple es kk tp) (Itz K l1 l2) [z,TI,TO,i1,i2] z (fun i h=>IsZip h z TI TO .none/\IsPair h TI (.ref i1) (.ref i2)/\(∃ a b,IsPair h TO a b)/\h.IsListIter i1 l1 i/\h.IsListIter i2 l2 i) where
  mem:=Zy
  obj:=fun i h st b hb=>by
    obtain ⟨hz,hTI,⟨a,c,hTO⟩,⟨o1,g1,k1,d1⟩,⟨o2,g2,k2,d2⟩⟩:=st;simp only [List.mem_cons,List.mem_nil_iff,or_false] at hb;rcases hb with rfl | rfl | rfl | rfl | rfl
    · exact ⟨_,hz,fun v q=>Data.noConfusion (show Data.fields _=Data.cell v from q)⟩
    · exact ⟨_,hTI,fun v q=>Data.noConfusion (show Data.seq _ _=Data.cell v from q)⟩
    · exact ⟨_,hTO,fun v q=>Data.noConfusion (show Data.seq _ _=Data.cell v from q)⟩
    · exact ⟨_,g1,fun v q=>by rw [d1] at q; cases q⟩
    · exact ⟨_,g2,fun v q=>by rw [d2] at q; cases q⟩
  keep:=fun i h h' st k=>by
    obtain ⟨hz,hTI,⟨a,c,hTO⟩,h1,h2⟩:=st;exact ⟨k z (by simp) _ hz,k TI (by simp) _ hTI,⟨a,c,k TO (by simp) _ hTO⟩,h1.at fun o e=>k i1 (by simp) o e,h2.at fun o e=>k i2 (by simp) o e⟩
  item:=by
    intro X hP hw hK hc i pins s σ H E I hf st hg;subst hP hw hK;obtain ⟨hz,hTI,⟨a,c,hTO⟩,h1,h2⟩:=st;obtain ⟨xs,ys,x,y,q1,q2,ex,ey⟩:=hg;obtain ⟨its1,r1,p1,_⟩:=I.list q1;obtain ⟨its2,r2,p2,_⟩:=I.list q2;obtain ⟨u1,e1,ru1⟩:=O8 r1 ex;obtain ⟨u2,e2,ru2⟩:=O8 r2 ey;refine wpAny_pyNext_zip_item D hz hTI hTO h1 h2 p1.isList p2.isList (by simpa using e1) (by simpa using e2) fun h' a1 a2 a3 a4 a5 a6 hk=>⟨_,rfl,?_⟩;refine wpAny_letOwnedTupleGo_zip a1 fun h'' b1 sb=>?_;have lt:∀ {b o},s.heap.get? b=some o->s.heap.objs.size≠b:=fun e=>Nat.ne_of_gt (Heap.lt_size e);have k2:∀ b o,b ∉ [z,TO,i1,i2]->s.heap.get? b=some o->h''.get? b=some o:=fun b o hb e=>by
      simp only [List.mem_cons,List.mem_nil_iff,or_false,not_or] at hb;exact (sb.2 b hb.1).trans (hk b o hb.1 hb.2.1 hb.2.2.1 hb.2.2.2 e)
    have I2:Inv X pins σ (upd H s.heap.objs.size (.tup [x,y])) { s with heap:=h'',toks:=s.toks }:=by
      refine I.laidL (wr:=[z,TO,i1,i2]) k2 (fun b hb=>hf b ?_) (Zv _) ⟨by show 2<=sizeLine; decide,[u1,u2],.cons ru1 (.cons ru2 .nil),?_⟩
      · simp only [List.mem_cons,List.mem_nil_iff,or_false] at hb ⊢
        rcases hb with q | q | q | q <;> simp [q]
      · exact ⟨_,(sb.2 _ (lt hz)).trans a5,rfl,_,rfl⟩
    refine ⟨.ref s.heap.objs.size,_,I2,rfl,⟨_,x,y,rfl,I.fresh,rfl,fun zs hzs=>by rw [I.list_inj hzs q1]; exact ex,fun zs hzs=>by rw [I.list_inj hzs q2]; exact ey⟩,⟨b1,(sb.2 _ D.TIz).trans (hk _ _ D.TIz D.TITO D.TIi1 D.TIi2 hTI),⟨_,_,(sb.2 _ D.TOz).trans a2⟩,a3.at fun o e=>(sb.2 _ D.i1z).trans e,a4.at fun o e=>(sb.2 _ D.i2z).trans e⟩,fun b hb=>?_⟩;have:b≠s.heap.objs.size:=by
      simp only [List.mem_cons,List.mem_nil_iff,or_false] at hb;obtain ⟨_,g1,_⟩:=h1;obtain ⟨_,g2,_⟩:=h2;rcases hb with rfl | rfl | rfl | rfl | rfl
      · exact (lt hz).symm
      · exact (lt hTI).symm
      · exact (lt hTO).symm
      · exact (lt g1).symm
      · exact (lt g2).symm
    rw [C4 this]; exact (hf b hb).1
  done:=by
    intro X hP hw hK hc i pins s σ H E I hf st hg;subst hP hw hK;obtain ⟨hz,hTI,⟨a,c,hTO⟩,h1,h2⟩:=st;obtain ⟨xs,ys,q1,q2,hl⟩:=hg;obtain ⟨its1,r1,p1,_⟩:=I.list q1;obtain ⟨its2,r2,p2,_⟩:=I.list q2;have n1:=r1.length;have n2:=r2.length;refine wpAny_pyNext_zip_end (I.ok.hd hc) D hz hTI hTO h1 h2 p1.isList p2.isList (hl.imp (fun q=>by simp; omega) fun q=>by simp; omega) fun h' hk=>⟨rfl,?_⟩;refine I.turnL (t':=s.toks) (wr:=[z,TO,i1,i2]) (fun b o hb e=>?_) (fun b hb=>hf b ?_)
    · simp only [List.mem_cons,List.mem_nil_iff,or_false,not_or] at hb
      exact hk b o hb.1 hb.2.1 hb.2.2.1 hb.2.2.2 e
    · simp only [List.mem_cons,List.mem_nil_iff,or_false] at hb ⊢
      rcases hb with q | q | q | q <;> simp [q]
  self:=fun _ _ _ _ _ st h=>wpAny_pyIter_zip st.1 h
theorem A8w {P:Program} {w:World} {K:PySem.W.Frag} {es:List Expr} {kk:Nat} {tp:Pos} {e it l:Addr} (hei:e≠it) :
    Turn P w K (.Tuple es kk tp) (Ite K l) [e,it] e (fun i h=>(∃ old,IsEnum h e it i old)/\h.IsListIter it l i) where
  mem:=Zy
  obj:=fun i h st b hb=>by
    obtain ⟨⟨old,he⟩,⟨o1,g1,k1,d1⟩⟩:=st;simp only [List.mem_cons,List.mem_nil_iff,or_false] at hb;rcases hb with rfl | rfl
    · exact ⟨_,he,fun v q=>Data.noConfusion (show Data.fields _=Data.cell v from q)⟩
    · exact ⟨_,g1,fun v q=>by rw [d1] at q; cases q⟩
  keep:=fun i h h' st k=>by
    obtain ⟨⟨old,he⟩,h1⟩:=st;exact ⟨⟨old,k e (by simp) _ he⟩,h1.at fun o q=>k it (by simp) o q⟩
  item:=by
    intro X hP hw hK hc i pins s σ H E I hf st hg;subst hP hw hK;obtain ⟨⟨old,he⟩,h1⟩:=st;obtain ⟨xs,x,q1,ex⟩:=hg;obtain ⟨its1,r1,p1,_⟩:=I.list q1;obtain ⟨u1,e1,ru1⟩:=O8 r1 ex;refine wpAny_pyNext_enum_item he h1 p1.isList (x:=u1) (by simpa using e1) hei fun h' a1 a2 a3 a4 hk=>⟨_,rfl,?_⟩;refine wpAny_letOwnedTupleGo_enum a1 fun h'' b1 sb=>?_;have lt:∀ {b o},s.heap.get? b=some o->s.heap.objs.size≠b:=fun e=>Nat.ne_of_gt (Heap.lt_size e);obtain ⟨o1,g1,_⟩:=id h1;have I2:Inv X pins σ (upd H s.heap.objs.size (.tup [.int i,x])) { s with heap:=h'',toks:=s.toks + 1 }:=by
      refine I.laidL (wr:=[e,it]) (fun b o hb q=>?_) (fun b hb=>hf b hb) (Zv _) ⟨by show 2<=sizeLine; decide,[.int i s.toks,u1],.cons ⟨_,rfl⟩ (.cons ru1 .nil),?_⟩
      · simp only [List.mem_cons,List.mem_nil_iff,or_false,not_or] at hb
        exact (sb.2 b hb.1).trans (hk b o hb.1 hb.2 q)
      · exact ⟨_,(sb.2 _ (lt he)).trans a3,rfl,_,rfl⟩
    refine ⟨.ref s.heap.objs.size,_,I2,rfl,⟨_,x,rfl,I.fresh,rfl,fun zs hzs=>by rw [I.list_inj hzs q1]; exact ex⟩,⟨⟨_,by simpa using b1⟩,a2.at fun o q=>(sb.2 _ hei.symm).trans q⟩,fun b hb=>?_⟩;have:b≠s.heap.objs.size:=by
      simp only [List.mem_cons,List.mem_nil_iff,or_false] at hb;rcases hb with rfl | rfl
      · exact (lt he).symm
      · exact (lt g1).symm
    rw [C4 this]; exact (hf b hb).1
  done:=by
    intro X hP hw hK hc i pins s σ H E I hf st hg;subst hP hw hK;obtain ⟨⟨old,he⟩,h1⟩:=st;obtain ⟨xs,q1,hl⟩:=hg;obtain ⟨its1,r1,p1,_⟩:=I.list q1;have n1:=r1.length;refine wpAny_pyNext_enum_end (I.ok.hd hc) he h1 p1.isList (by simp; omega) fun h' hk=>⟨rfl,?_⟩;refine I.turnL (t':=s.toks) (wr:=[e,it]) (fun b o hb q=>?_) (fun b hb=>hf b hb);simp only [List.mem_cons,List.mem_nil_iff,or_false,not_or] at hb;exact hk b o hb.2 q
  self:=fun _ _ _ _ _ st h=>by obtain ⟨⟨old,he⟩,_⟩:=st; exact wpAny_pyIter_enum he h
section
variable {X:Cx}
def iZip (K:PySem.W.Frag) (ta:TA):TI:=fun σ H R=>ta σ H fun vs H1=>∃ l1 l2 xs ys,vs=[.ref l1,.ref l2]/\SqL K H1 l1 xs/\SqL K H1 l2 ys/\R (Itz K l1 l2) H1
def C2p (K:PySem.W.Frag) (ta:TA):TI:=fun σ H R=>ta σ H fun vs H1=>∃ l xs,vs=[.ref l]/\SqL K H1 l xs/\R (Ite K l) H1
theorem C05 {K:PySem.W.Frag} {a b:Expr} {ta:TA} {p pos:Pos} {es:List Expr} {kk:Nat} {tp:Pos} (hK:X.K=K) (hg:Gl X "zip") (hm:X.mg "zip"=none) (ha:PA X [a,b] ta)
  (hs:starEach [a,b] X.env=[(false,eval a X.env),(false,eval b X.env)]:=by rfl) (hs2:starEach [b] X.env=[(false,eval b X.env)]:=by rfl):PI X (.Tuple es kk tp) (.Call (.Name "zip" p) [a,b] [] pos) (iZip K ta):=by
 subst hK;intro pins s σ H R I h;refine Call_ (P5 I hg hm boot_zip (PyProof.Rows.callWith_type1 (thn (ha pos pins s σ H _ I h) fun us s1 ⟨vs,H1,I1,r1,q1⟩=>?_) (hs.trans (by rw [hs2])) (by rw [hs2]; rfl)));obtain ⟨l1,l2,xs,ys,e,g1,g2,q⟩:=q1;subst e;obtain ⟨u,v,rfl,ru,rv⟩:=Vals.two r1;cases (show u=Value.ref l1 from ru);cases (show v=Value.ref l2 from rv);obtain ⟨its1,_,p1,_⟩:=I1.list g1;obtain ⟨its2,_,p2,_⟩:=I1.list g2;refine call_zip_2 p1.isList p2.isList fun h' a1 a2 a3 a4 a5 a6 hk=>wpAny_pyIter_zip a1 ?_;have lt1:(show Nat from l1) < s1.heap.objs.size:=by obtain ⟨o,_,ho,_⟩:=p1; exact Heap.lt_size ho
 have lt2:(show Nat from l2) < s1.heap.objs.size:=by obtain ⟨o,_,ho,_⟩:=p2; exact Heap.lt_size ho
 have I2:Inv X pins σ H1 { s1 with heap:=h' }:=I1.kept (t':=s1.toks) hk;have D:ZipApart (s1.heap.objs.size + 4) (s1.heap.objs.size + 2) (s1.heap.objs.size + 3) s1.heap.objs.size (s1.heap.objs.size + 1) l1 l2:=by
  generalize s1.heap.objs.size=n at lt1 lt2;have g:∀ a b:Nat,a < b->a≠b:=fun a b q=>Nat.ne_of_lt q;have g':∀ a b:Nat,b < a->a≠b:=fun a b q=>Nat.ne_of_gt q;constructor <;> first | exact g _ _ (Nat.lt_trans lt1 (by omega)) | exact g _ _ (Nat.lt_trans lt2 (by omega)) | exact g _ _ lt1 | exact g _ _ lt2 | exact g _ _ (by omega) | exact g' _ _ (by omega)
 refine ⟨_,[s1.heap.objs.size + 4,s1.heap.objs.size + 2,s1.heap.objs.size + 3,s1.heap.objs.size,s1.heap.objs.size + 1],_,_,H1,rfl,I2,A4z D,⟨a1,a2,⟨_,_,a3⟩,a4,a5⟩,fun b hb=>?_,q⟩;have hb':s1.heap.objs.size<=b:=by
  simp only [List.mem_cons,List.mem_nil_iff,or_false] at hb;rcases hb with rfl | rfl | rfl | rfl | rfl <;> omega
 exact I1.fpOk hb' (I1.hok.fresh hb')
theorem B5o {K:PySem.W.Frag} {a:Expr} {ta:TA} {p pos:Pos} {es:List Expr} {kk:Nat} {tp:Pos} (hK:X.K=K) (hg:Gl X "enumerate") (hm:X.mg "enumerate"=none) (ha:PA X [a] ta)
  (hs:starEach [a] X.env=[(false,eval a X.env)]:=by rfl):PI X (.Tuple es kk tp) (.Call (.Name "enumerate" p) [a] [] pos) (C2p K ta):=by
 subst hK;intro pins s σ H R I h;refine Call_ (P5 I hg hm boot_enumerate (PyProof.Rows.callWith_type1 (thn (ha pos pins s σ H _ I h) fun us s1 ⟨vs,H1,I1,r1,q1⟩=>?_) hs rfl));obtain ⟨l,xs,e,g1,q⟩:=q1;subst e;cases r1 with
 | cons r rr =>
  cases rr;cases r;obtain ⟨its1,_,p1,_⟩:=I1.list g1;refine call_enumerate_list p1.isList fun h' a1 a2 a3 hk=>wpAny_pyIter_enum a1 ?_;have I2:Inv X pins σ H1 { s1 with heap:=h' }:=I1.kept (t':=s1.toks) hk;refine ⟨_,[s1.heap.objs.size + 1,s1.heap.objs.size],_,_,H1,rfl,I2,A8w (Nat.succ_ne_self _),⟨⟨_,a1⟩,a2⟩,fun b hb=>?_,q⟩;have hb':s1.heap.objs.size<=b:=by
   simp only [List.mem_cons,List.mem_nil_iff,or_false] at hb;rcases hb with rfl | rfl <;> omega
  exact I1.fpOk hb' (I1.hok.fresh hb')
theorem B5f {K:PySem.W.Frag} {a b:Expr} {ta:TA} {p pos:Pos} {es:List Expr} {kk:Nat} {tp:Pos} (hK:X.K=K) (hg:Gl X "zip") (hm:X.mg "zip"=none) (ha:QA X [a,b] ta)
  (hs:starEach [a,b] X.env=[(false,eval a X.env),(false,eval b X.env)]:=by rfl) (hs2:starEach [b] X.env=[(false,eval b X.env)]:=by rfl):QI X (.Tuple es kk tp) (.Call (.Name "zip" p) [a,b] [] pos) (iZip K ta):=⟨C05 hK hg hm ha.out hs hs2⟩
theorem Q8 {K:PySem.W.Frag} {a:Expr} {ta:TA} {p pos:Pos} {es:List Expr} {kk:Nat} {tp:Pos} (hK:X.K=K) (hg:Gl X "enumerate") (hm:X.mg "enumerate"=none) (ha:QA X [a] ta)
  (hs:starEach [a] X.env=[(false,eval a X.env)]:=by rfl):QI X (.Tuple es kk tp) (.Call (.Name "enumerate" p) [a] [] pos) (C2p K ta):=⟨B5o hK hg hm ha.out hs⟩
end
end L2
namespace Pu
open PySem L2 My Prf
class RL (K:Frag) (te:TE) (pl:outParam PAr):Prop where
 ok:∀ (c:Ct) (w:Wd) (env:PEnv) (σ:St) (Qp:LP->PEnv->Prop) (Q:VK),c.K=K->EnvOk c w env σ->pl env Qp->(∀ v xs env' w',EnvOk c w' env' σ->Lw w w'->VR c w' v (.bor xs)->Qp xs env'->Q v w'.H)->te σ w.H Q
def C1q (pd:PDt) (env:PEnv) (Q:LP->PEnv->Prop):Prop:=pd env fun x e=>asL x fun xs=>Q xs e
def C1o (i:Nat) (env:PEnv) (Q:LP->PEnv->Prop):Prop:=match env[i]? with
 | some (some (.d x))=>asL x fun xs=>Q xs env
 | some (some (.own xs))=>Q xs (env.set i (some (.d (.list xs))))
 | some (some (.bor xs))=>Q xs env
 | _=>False
instance (priority:=low) rl_of {K:Frag} {te:TE} {pd:PDt} [h:RD K te pd]:RL K te (C1q pd) where
 ok:=by
  rintro c w env σ Qp Q rfl E p k;refine h.ok c w env σ _ _ rfl E p fun v x e1 w1 E1 l1 d1 q1=>?_;unfold asL at q1;split at q1
  ·exact k v _ e1 w1 E1 l1 (.inl d1) q1
  ·exact q1.elim
instance rl_var {K:Frag} {i:Nat}:RL K (tVar i) (C1o i) where
 ok:=by
  rintro c w env σ Qp Q rfl E p k;unfold C1o at p;split at p
  ·rename_i x e;obtain ⟨v,h1,h2⟩:=E.at' i _ e;unfold asL at p;split at p
   ·exact ⟨v,h1,k v _ env w E (Lw.refl w) (.inl h2) p⟩
   ·exact p.elim
  ·rename_i xs e;obtain ⟨w',v,e',hv,E',l,d⟩:=E.frz e;refine ⟨v,hv,?_⟩;rw [<- e'];exact k v _ _ w' E' l (.inl d) p
  ·rename_i xs e;obtain ⟨v,h1,h2⟩:=E.at' i _ e;exact ⟨v,h1,k v _ env w E (Lw.refl w) h2 p⟩
  ·exact p.elim
inductive Brs (c:Ct) (w:Wd):List V->List LP->Prop
 | nil:Brs c w [] []
 | cons {v:V} {xs:LP} {vs:List V} {xss:List LP}:VR c w v (.bor xs)->Brs c w vs xss->Brs c w (v :: vs) (xs :: xss)
theorem B6s {c:Ct} {w w':Wd} {v:V} {xs:LP} (s:Same w.F w'.F) (h:VR c w v (.bor xs)):VR c w' v (.bor xs):=by
 rcases h with h | ⟨l,vs,e,h1,h2,h3⟩
 ·exact .inl (Den.same s h)
 ·exact .inr ⟨l,vs,e,h1,h2,DenAll.same s h3⟩
class RLs (K:Frag) (ta:TA) (pa:outParam (PEnv->(List LP->PEnv->Prop)->Prop)):Prop where
 ok:∀ (c:Ct) (w:Wd) (env:PEnv) (σ:St) (Qp:List LP->PEnv->Prop) (Q:List V->Hpp->Prop),c.K=K->EnvOk c w env σ->pa env Qp->(∀ vs xss env' w',EnvOk c w' env' σ->Lw w w'->Brs c w' vs xss->Qp xss env'->Q vs w'.H)->ta σ w.H Q
def pLsN (env:PEnv) (Q:List LP->PEnv->Prop):Prop:=Q [] env
def pLsC (pl:PAr) (pr:PEnv->(List LP->PEnv->Prop)->Prop) (env:PEnv) (Q:List LP->PEnv->Prop):Prop:=pl env fun xs e1=>pr e1 fun xss e2=>Q (xs :: xss) e2
instance rls_nil {K:Frag}:RLs K tNil pLsN:=⟨fun c w env σ Qp Q _ E p k=>k [] [] env w E (Lw.refl w) .nil p⟩
instance rls_cons {K:Frag} {te:TE} {tr:TA} {pl:PAr} {pr:PEnv->(List LP->PEnv->Prop)->Prop} [hl:RL K te pl] [hr:RLs K tr pr]:RLs K (F9 te tr) (pLsC pl pr) where
 ok:=by
  rintro c w env σ Qp Q rfl E p k;refine hl.ok c w env σ _ _ rfl E p fun v xs e1 w1 E1 l1 b1 q1=>?_;refine hr.ok c w1 e1 σ _ _ rfl E1 q1 fun vs xss e2 w2 E2 l2 b2 q2=>?_;exact k _ _ e2 w2 E2 (l1.trans l2) (.cons (B6s l2.f b1) b2) q2
theorem A1n {c:Ct} {w:Wd} {v:V} {xs:LP} (h:VR c w v (.bor xs)):∃ l vs,v=.ref l/\DenAll c.K w.F vs xs/\∀ w',w'.Ok->Le c.w0 w'->Same w.F w'.F->SqL c.K w'.H l vs:=by
 rcases h with h | ⟨l,vs,e,h1,h2,h3⟩
 ·obtain ⟨a,vs,e,g1,g2⟩:=Den.lstE h;exact ⟨a,vs,e,g2,fun w' ok _ s=>(s.trans ok.sub).seq g1⟩
 ·exact ⟨l,vs,e,h3,fun w' _ l' _=>SqL.of (l'.h _ _ h1 h2)⟩
def zipD (xs ys:LP):LP:=List.zipWith (fun x y=>.tuple [x,y]) xs ys
def A22 (xs:LP):LP:=xs.zipIdx.map fun p=>.tuple [.int (p.2:Int),p.1]
theorem A4q {xs ys:LP} {i:Nat} {x:PyData} (h:(zipD xs ys)[i]?=some x):∃ a b,xs[i]?=some a/\ys[i]?=some b/\x=.tuple [a,b]:=by
 unfold zipD at h;rw [List.getElem?_zipWith] at h;cases h1:xs[i]? with
 | none=>rw [h1] at h; cases h
 | some a=>cases h2:ys[i]? with
  | none=>rw [h1,h2] at h; cases h
  | some b=>rw [h1,h2] at h; cases h; exact ⟨a,b,rfl,rfl,rfl⟩
theorem U9 {xs ys:LP}:(zipD xs ys).length=min xs.length ys.length:=List.length_zipWith
theorem R4 {xs:LP} {i:Nat} {x:PyData} (h:(A22 xs)[i]?=some x):∃ a,xs[i]?=some a/\x=.tuple [.int (i:Int),a]:=by
 unfold A22 at h;rw [Zh,List.getElem?_zipIdx] at h;cases h1:xs[i]? with
 | none=>rw [h1] at h; cases h
 | some a=>rw [h1] at h; cases h; exact ⟨a,rfl,by simp⟩
theorem B37 {xs:LP}:(A22 xs).length=xs.length:=by unfold A22; rw [Zl,List.length_zipIdx]
def pZip (pa:PEnv->(List LP->PEnv->Prop)->Prop) (env:PEnv) (Q:LP->PEnv->Prop):Prop:=pa env fun xss e=>match xss with
 | [xs,ys]=>Q (zipD xs ys) e
 | _=>False
def C4v (pa:PEnv->(List LP->PEnv->Prop)->Prop) (env:PEnv) (Q:LP->PEnv->Prop):Prop:=pa env fun xss e=>match xss with
 | [xs]=>Q (A22 xs) e
 | _=>False
instance ri_zip {K:Frag} {ta:TA} {pa:PEnv->(List LP->PEnv->Prop)->Prop} [ha:RLs K ta pa]:RI K (iZip K ta) (pZip pa) where
 ok:=by
  rintro c w env σ Qp R rfl E p k;refine ha.ok c w env σ _ _ rfl E p fun vs xss e1 w1 E1 l1 b1 q1=>?_;split at q1
  ·rename_i xs ys;cases b1 with | cons h t=>cases t with | cons h' t =>
    cases t;obtain ⟨a1,us1,rfl,d1,s1⟩:=A1n h;obtain ⟨a2,us2,rfl,d2,s2⟩:=A1n h';refine ⟨a1,a2,us1,us2,rfl,s1 w1 E1.wok E1.le0 (Same.refl _),s2 w1 E1.wok E1.le0 (Same.refl _),k _ _ e1 w1 E1 l1 ?_ q1⟩;intro w' ok l s;have g1:=s1 w' ok l s;have g2:=s2 w' ok l s;have n1:=d1.len;have n2:=d2.len;rw [U9];refine ⟨fun i hi=>⟨us1,us2,us1[i]'(by omega),us2[i]'(by omega),g1,g2,Zg _,Zg _⟩,⟨us1,us2,g1,g2,by omega⟩,fun i v H' y hi=>?_⟩;obtain ⟨T,x,y',rfl,hT,rfl,y1,y2⟩:=y;obtain ⟨dx,x1,x2⟩:=d1.get (y1 us1 g1);obtain ⟨dy,y3,y4⟩:=d2.get (y2 us2 g2);refine ⟨w'.tup T (.tup [x,y']),.tuple [dx,dy],rfl,Wd.tup_ok ok hT,Wd.tup_le ok hT,?_,?_⟩
    ·unfold zipD; rw [List.getElem?_zipWith,x1,y3]
    ·have f:=(Wd.tup_le (o:=.tup [x,y']) ok hT).f;exact .tup (SqD.of B3) (.cons (Den.same (s.trans f) x2) (.cons (Den.same (s.trans f) y4) .nil))
  ·exact q1.elim
instance ri_enum {K:Frag} {ta:TA} {pa:PEnv->(List LP->PEnv->Prop)->Prop} [ha:RLs K ta pa]:RI K (C2p K ta) (C4v pa) where
 ok:=by
  rintro c w env σ Qp R rfl E p k;refine ha.ok c w env σ _ _ rfl E p fun vs xss e1 w1 E1 l1 b1 q1=>?_;split at q1
  ·rename_i xs;cases b1 with | cons h t =>
    cases t;obtain ⟨a1,us1,rfl,d1,s1⟩:=A1n h;refine ⟨a1,us1,rfl,s1 w1 E1.wok E1.le0 (Same.refl _),k _ _ e1 w1 E1 l1 ?_ q1⟩;intro w' ok l s;have g1:=s1 w' ok l s;have n1:=d1.len;rw [B37];refine ⟨fun i hi=>⟨us1,us1[i]'(by omega),g1,Zg _⟩,⟨us1,g1,by omega⟩,fun i v H' y hi=>?_⟩;obtain ⟨T,x,rfl,hT,rfl,y1⟩:=y;obtain ⟨dx,x1,x2⟩:=d1.get (y1 us1 g1);refine ⟨w'.tup T (.tup [.int i,x]),.tuple [.int i,dx],rfl,Wd.tup_ok ok hT,Wd.tup_le ok hT,?_,?_⟩
    ·unfold A22; rw [Zh,List.getElem?_zipIdx,x1]; simp
    ·have f:=(Wd.tup_le (o:=.tup [.int i,x]) ok hT).f;exact .tup (SqD.of B3) (.cons (.int _) (.cons (Den.same (s.trans f) x2) .nil))
  ·exact q1.elim
end Pu
namespace Pu
open PySem L2 My Prf
theorem V4 {n:Nat} {pr:LP->PEnv->(PEnv->Prop)->Prop} {xs:LP} {env:PEnv} {Q:PEnv->Prop}:qTup n pr (.tuple xs) env Q=(xs.length=n/\pr xs env Q):=rfl
theorem A49 {pr:LP->PEnv->(PEnv->Prop)->Prop} {c:Rat × Rat} {env:PEnv} {Q:PEnv->Prop}:qTup 2 pr (dcn c) env Q=pr [dq c.1,dq c.2] env Q:=by
 show (2=2/\_)=_; simp
theorem A4f {c:Rat × Rat}:(dcn c).canLay0=true:=rfl
theorem B4c {c:Rat × Rat}:(dcn c).depth=2:=rfl
theorem B36 {c:Rat × Rat}:PyData.eqv (dcn c) (dcn c)=true:=PySem.SeqAt.eqv_refl _ A4f
theorem A6k {c:Rat × Rat}:isNo (dcn c)=false:=rfl
theorem B4f {α:Type} {f:α->PyData} {xs:List α}:cutD (xs.map f) (some 1) none=(xs.drop 1).map f:=by
 unfold cutD;rw [HT.sIx_none,show HT.sIx (xs.map f).length 0 (some 1)=min 1 xs.length by rw [Zl]; exact HT.sIx_nat _ _ 1,Zl];cases xs with
 | nil=>rfl
 | cons x r =>
  rw [show min 1 (x :: r).length=1 by simp];simp;rw [<- Zl (f:=f),List.take_length]
end Pu
namespace L2
open PySem PySem.Spec PyProof.Rows
section
variable {prog:Program} {w:World} {A:Around} {E:Value->Shared->Prop} {s:Shared}
theorem T1 {it t:Addr} {i:Nat} {items:Array Value} {x:Value} {Q:Value->Shared->Prop} (hit:s.heap.IsTupleIter it t i) (ht:s.heap.IsTuple t items) (hx:items[i]?=some x)
  (hQ:∀ h',h'.IsTupleIter it t (i + 1)->Heap.SameBut it s.heap h'->Q x { s with heap:=h' }):wpAny (model prog w) A (Builtin.SmallTypes.nextOf (.ref it)) Q E s:=by
 have hit':=hit;obtain ⟨ob,go,gc,gd⟩:=hit';obtain ⟨ot,tg,_,tn,td⟩:=ht;have key:wpAny (model prog w) A (callSpecial? (.ref it) (Str.ofString "__next__")) (fun r s'=>r=some x/\Q x s') E s:=by
  refine wpAny_callSpecial?_slot (name:=Str.ofString "__next__") hit.typeIs F.slot_tuple_iterator_next (wpAny_call_entry F.slot_tuple_iterator_next hit.typeIs F.entry_tuple_iterator_next ?_ (F.args_tuple_iterator_next_1 _));refine wpAny_bind (m:=field (.ref it) 0) (wpAny_field go gd (x:=.ref t) rfl ?_);show wpAny _ _ (if (Value.ref t == .none)=true then _ else _) _ _ s;rw [if_neg (fun q=>by cases q)];refine wpAny_bind (m:=field (.ref it) 1) (wpAny_field go gd (x:=.int i 0) rfl (wpAny_bind (m:=seqItems? (.ref t)) (wpAny_seqItems tg td ?_)));simp only [Int.toNat_natCast,hx];refine wpAny_bind (wpAny_setField go gd (by simp) (wpAny_pure ⟨x,rfl,rfl,hQ _ ?_ (Heap.SameBut.update ..)⟩));refine ⟨_,Heap.get?_update_self _ go (Obj.isFreed_of_fields (Obj.data_mapFields gd _)),(Obj.cls_mapFields ..).trans gc,?_⟩;rw [Obj.data_mapFields gd]; simp [rawInt]
 unfold Builtin.SmallTypes.nextOf;refine wpAny_bind (wpAny_mono key (fun r s' h=>?_) fun _ _ e=>e);obtain ⟨rfl,q⟩:=h;exact wpAny_pure q
theorem A2q {it t:Addr} {i:Nat} {items:Array Value} {Q:Value->Shared->Prop} (hh:A.handled=none) (hit:s.heap.IsTupleIter it t i) (ht:s.heap.IsTuple t items) (hx:items[i]?=none)
  (hE:∀ h' e,Heap.ExtBut it s.heap h'->(∃ o,h'.get? e=some o/\o.cls=.type "StopIteration")->E (.ref e) { s with heap:=h' }):wpAny (model prog w) A (Builtin.SmallTypes.nextOf (.ref it)) Q E s:=by
 have hit':=hit;obtain ⟨ob,go,gc,gd⟩:=hit';obtain ⟨ot,tg,_,tn,td⟩:=ht;unfold Builtin.SmallTypes.nextOf;refine wpAny_bind (wpAny_callSpecial?_slot (name:=Str.ofString "__next__") hit.typeIs F.slot_tuple_iterator_next (wpAny_call_entry F.slot_tuple_iterator_next hit.typeIs F.entry_tuple_iterator_next ?_ (F.args_tuple_iterator_next_1 _)));refine wpAny_bind (m:=field (.ref it) 0) (wpAny_field go gd (x:=.ref t) rfl ?_);show wpAny _ _ (if (Value.ref t == .none)=true then _ else _) _ _ s;rw [if_neg (fun q=>by cases q)];refine wpAny_bind (m:=field (.ref it) 1) (wpAny_field go gd (x:=.int i 0) rfl (wpAny_bind (m:=seqItems? (.ref t)) (wpAny_seqItems tg td ?_)));simp only [Int.toNat_natCast,hx];refine wpAny_bind (wpAny_rule (wpAny_bind (wpAny_setField go gd (by simp) (wpAny_bind ?_))));simp only [newExc,newTuple];refine wpAny_bind (wpAny_newObj_type (wpAny_bind (m:=firstArgMember _ _) (wpAny_of_eq (a:=Value.none) (by first | rfl | (simp only [firstArgMember]; rfl)) (wpAny_newObj_type ?_ (by size_fits)))) (by size_fits));simp only [raiseNew];refine wpAny_bind (wpAny_handled ?_);rw [show A.in1.handled=none from hh];refine wpAny_bind (wpAny_pure (wpAny_throw (hE _ _ (((Heap.SameBut.update ..).extBut.push _).push _) ⟨_,Heap.get?_push_size _ rfl,rfl⟩)))
theorem A8a {z TI TO i1 i2 l1 l2:Addr} {k1 k2:Nat} {xs ys:Array Value} {x y a b:Value} {Q:Value->Shared->Prop} (D:ZipApart z TI TO i1 i2 l1 l2) (hz:IsZip s.heap z TI TO .none) (hTI:IsPair s.heap TI (.ref i1) (.ref i2)) (hTO:IsPair s.heap TO a b)
  (h1:s.heap.IsTupleIter i1 l1 k1) (h2:s.heap.IsTupleIter i2 l2 k2) (hl1:s.heap.IsTuple l1 xs) (hl2:s.heap.IsTuple l2 ys) (hx:xs[k1]?=some x) (hy:ys[k2]?=some y)
  (hQ:∀ h',IsZip h' z TI TO (rawInt s.heap.objs.size)->IsPair h' TO x y->h'.IsTupleIter i1 l1 (k1 + 1)->h'.IsTupleIter i2 l2 (k2 + 1)->IsPair h' s.heap.objs.size x y ->
   (∀ c o,c≠z->c≠TO->c≠i1->c≠i2->s.heap.get? c=some o->h'.get? c=some o)->Q (.ref s.heap.objs.size) { s with heap:=h' }) :
  wpAny (model prog w) A (Builtin.«zip.__next__» ⟨[.ref z],[]⟩) (fun fin s'=>∃ v,fin=.done (.ret v)/\Q v s') E s:=by
 refine wpAny_bind (m:=field (.ref z) 2) (wpAny_field hz rfl (x:=.bool false) rfl ?_);refine wpAny_bind (m:=field (.ref z) 3) (wpAny_field hz rfl (x:=.ref TI) rfl (wpAny_bind (wpAny_seqItems hTI rfl (wpAny_bind (m:=Builtin.SmallTypes.ownedTupleIsFree (.ref z)) ?_))));unfold Builtin.SmallTypes.ownedTupleIsFree;refine wpAny_bind (wpAny_field hz rfl (x:=.none) rfl (wpAny_pure ?_));simp only [if_true];refine wpAny_bind (wpAny_rule (wpAny_bind (wpAny_field hz rfl (x:=.ref TO) rfl (wpAny_bind (wpAny_setField_rec hz (by simp) fun g1 z1 e1=>wpAny_bind ?_)))));have z1:IsZip g1 z TI TO .ellipsis:=z1;simp only [List.zipIdx_cons,List.zipIdx_nil,List.forIn_cons,List.forIn_nil];refine wpAny_bind (wpAny_bind (wpAny_onRaise (wpAny_bind (T1 (h1.at fun o q=>e1.extBut _ _ D.i1z q) (hl1.at fun o q=>e1.extBut _ _ D.l1z q) hx fun g2 n1 e2=>wpAny_pure ?_))));have t2:IsPair g2 TO a b:=e2.extBut _ _ D.TOi1 (e1.extBut _ _ D.TOz hTO);refine wpAny_bind (wpAny_seqItems t2 rfl (wpAny_bind (wpAny_updateSeq_pair t2 fun g3 t3 e3=>wpAny_bind (wpAny_letGo (wpAny_pure ?_)))));have t3:IsPair g3 TO x b:=t3;refine wpAny_bind (wpAny_bind (wpAny_onRaise (wpAny_bind (T1 (h2.at fun o q=>e3.extBut _ _ D.TOi2.symm (e2.extBut _ _ D.i12.symm (e1.extBut _ _ D.i2z q))) (hl2.at fun o q=>e3.extBut _ _ D.l2TO (e2.extBut _ _ D.l2i1 (e1.extBut _ _ D.l2z q))) hy fun g4 n2 e4=>wpAny_pure ?_))));have t4:IsPair g4 TO x b:=e4.extBut _ _ D.TOi2 t3;refine wpAny_bind (wpAny_seqItems t4 rfl (wpAny_bind (wpAny_updateSeq_pair t4 fun g5 t5 e5=>wpAny_bind (wpAny_letGo (wpAny_pure (wpAny_pure ?_))))));have t5:IsPair g5 TO x y:=t5;refine wpAny_bind (wpAny_seqItems t5 rfl (wpAny_bind (wpAny_newTuple (wpAny_bind (m:=Builtin.SmallTypes.ownedTupleHandOut (.ref z) (.ref g5.objs.size)) ?_))));have sz:g5.objs.size=s.heap.objs.size:=by rw [e5.1,e4.1,e3.1,e2.1,e1.1]
 have z5:IsZip g5 z TI TO .ellipsis:=e5.extBut _ _ D.TOz.symm (e4.extBut _ _ D.i2z.symm (e3.extBut _ _ D.TOz.symm (e2.extBut _ _ D.i1z.symm z1)));have k5:∀ c o,c≠z->c≠TO->c≠i1->c≠i2->s.heap.get? c=some o->g5.get? c=some o:=fun c o c1 c2 c3 c4 q=>e5.extBut _ _ c2 (e4.extBut _ _ c4 (e3.extBut _ _ c2 (e2.extBut _ _ c3 (e1.extBut _ _ c1 q))));have n15:g5.IsTupleIter i1 l1 (k1 + 1):=n1.at fun o q=>e5.extBut _ _ D.TOi1.symm (e4.extBut _ _ D.i12 (e3.extBut _ _ D.TOi1.symm q));have n25:g5.IsTupleIter i2 l2 (k2 + 1):=n2.at fun o q=>e5.extBut _ _ D.TOi2.symm q;have zl:z < g5.objs.size:=Heap.lt_size z5;unfold Builtin.SmallTypes.ownedTupleHandOut;have z6:IsZip (g5.push { cls:=.type "tuple",data:=.seq #[x,y] }) z TI TO .ellipsis:=Heap.get?_push_of_some _ z5;refine wpAny_bind (wpAny_setField_rec z6 (by simp) fun g7 z7 e7=>?_);have z7:IsZip g7 z TI TO (rawInt g5.objs.size):=z7;refine wpAny_setField_rec z7 (by simp) fun g8 z8 e8=>?_;have z8:IsZip g8 z TI TO (rawInt g5.objs.size):=z8;have up:∀ c o,c≠z->g5.get? c=some o->g8.get? c=some o:=fun c o c1 q=>e8.extBut _ _ c1 (e7.extBut _ _ c1 (Heap.get?_push_of_some _ q));have p8:IsPair g8 g5.objs.size x y:=e8.extBut _ _ (Nat.ne_of_gt zl) (e7.extBut _ _ (Nat.ne_of_gt zl) (Heap.get?_push_size _ rfl));rw [sz] at z8 p8;refine wpAny_pure ⟨_,rfl,?_⟩;show Q (.ref g5.objs.size) _;rw [sz];exact hQ g8 z8 (up _ _ D.TOz t5) (n15.at fun o q=>up _ o D.i1z q) (n25.at fun o q=>up _ o D.i2z q) p8 fun c o c1 c2 c3 c4 q=>up c o c1 (k5 c o c1 c2 c3 c4 q)
theorem B4z {z TI TO i1 i2 l1 l2:Addr} {k1 k2:Nat} {xs ys:Array Value} {a b:Value} {Q:Fin->Shared->Prop} (hh:A.handled=none) (D:ZipApart z TI TO i1 i2 l1 l2) (hz:IsZip s.heap z TI TO .none) (hTI:IsPair s.heap TI (.ref i1) (.ref i2)) (hTO:IsPair s.heap TO a b)
  (h1:s.heap.IsTupleIter i1 l1 k1) (h2:s.heap.IsTupleIter i2 l2 k2) (hl1:s.heap.IsTuple l1 xs) (hl2:s.heap.IsTuple l2 ys) (hend:xs[k1]?=none\/ys[k2]?=none)
  (hE:∀ h' e,(∀ c o,c≠z->c≠TO->c≠i1->c≠i2->s.heap.get? c=some o->h'.get? c=some o)->(∃ o,h'.get? e=some o/\o.cls=.type "StopIteration")->E (.ref e) { s with heap:=h' }) :
  wpAny (model prog w) A (Builtin.«zip.__next__» ⟨[.ref z],[]⟩) Q E s:=by
 refine wpAny_bind (m:=field (.ref z) 2) (wpAny_field hz rfl (x:=.bool false) rfl ?_);refine wpAny_bind (m:=field (.ref z) 3) (wpAny_field hz rfl (x:=.ref TI) rfl (wpAny_bind (wpAny_seqItems hTI rfl (wpAny_bind (m:=Builtin.SmallTypes.ownedTupleIsFree (.ref z)) ?_))));unfold Builtin.SmallTypes.ownedTupleIsFree;refine wpAny_bind (wpAny_field hz rfl (x:=.none) rfl (wpAny_pure ?_));simp only [if_true];refine wpAny_bind (wpAny_rule (wpAny_bind (wpAny_field hz rfl (x:=.ref TO) rfl (wpAny_bind (wpAny_setField_rec hz (by simp) fun g1 z1 e1=>wpAny_bind ?_)))));have z1:IsZip g1 z TI TO .ellipsis:=z1;simp only [List.zipIdx_cons,List.zipIdx_nil,List.forIn_cons,List.forIn_nil];refine wpAny_bind (wpAny_bind (wpAny_onRaise (wpAny_bind (m:=Builtin.SmallTypes.nextOf (.ref i1)) ?_)));cases hx:xs[k1]? with
 | none =>
  refine A2q hh (h1.at fun o q=>e1.extBut _ _ D.i1z q) (hl1.at fun o q=>e1.extBut _ _ D.l1z q) hx fun g2 e e2 he=>?_;obtain ⟨oe,go,gc⟩:=he;have z2:IsZip g2 z TI TO .ellipsis:=e2 _ _ D.i1z.symm z1;have ez:e≠z:=fun q=>by subst q; rw [z2] at go; cases go; simp at gc
  exact wpAny_setField_rec z2 (by simp) fun g3 _ e3=>hE g3 e (fun c o c1 _ c3 _ q=>e3.extBut _ _ c1 (e2 _ _ c3 (e1.extBut _ _ c1 q))) ⟨oe,e3.extBut _ _ ez go,gc⟩
 | some x =>
  have hy:ys[k2]?=none:=hend.elim (fun q=>by rw [hx] at q; cases q) id;refine T1 (h1.at fun o q=>e1.extBut _ _ D.i1z q) (hl1.at fun o q=>e1.extBut _ _ D.l1z q) hx fun g2 n1 e2=>wpAny_pure ?_;have t2:IsPair g2 TO a b:=e2.extBut _ _ D.TOi1 (e1.extBut _ _ D.TOz hTO);refine wpAny_bind (wpAny_seqItems t2 rfl (wpAny_bind (wpAny_updateSeq_pair t2 fun g3 t3 e3=>wpAny_bind (wpAny_letGo (wpAny_pure ?_)))));refine wpAny_bind (wpAny_bind (wpAny_onRaise (wpAny_bind (A2q hh (h2.at fun o q=>e3.extBut _ _ D.TOi2.symm (e2.extBut _ _ D.i12.symm (e1.extBut _ _ D.i2z q))) (hl2.at fun o q=>e3.extBut _ _ D.l2TO (e2.extBut _ _ D.l2i1 (e1.extBut _ _ D.l2z q))) hy fun g4 e e4 he=>?_))));obtain ⟨oe,go,gc⟩:=he;have z4:IsZip g4 z TI TO .ellipsis:=e4 _ _ D.i2z.symm (e3.extBut _ _ D.TOz.symm (e2.extBut _ _ D.i1z.symm z1));have ez:e≠z:=fun q=>by subst q; rw [z4] at go; cases go; simp at gc
  exact wpAny_setField_rec z4 (by simp) fun g5 _ e5=>hE g5 e (fun c o c1 c2 c3 c4 q=>e5.extBut _ _ c1 (e4 _ _ c4 (e3.extBut _ _ c2 (e2.extBut _ _ c3 (e1.extBut _ _ c1 q))))) ⟨oe,e5.extBut _ _ ez go,gc⟩
end
end L2
namespace L2
open PySem PySem.Spec PyProof.Rows
def zT1 (h:Heap) (l1:Addr):Heap:=h.push { cls:=.type "tuple_iterator",data:=.fields #[.ref l1,.int 0 0] }
def zT2 (h:Heap) (l1 l2:Addr):Heap:=(zT1 h l1).push { cls:=.type "tuple_iterator",data:=.fields #[.ref l2,.int 0 0] }
def zT3 (h:Heap) (l1 l2:Addr):Heap:=(zT2 h l1 l2).push { cls:=.type "tuple",data:=.seq #[.ref h.objs.size,.ref (zT1 h l1).objs.size] }
def zT4 (h:Heap) (l1 l2:Addr):Heap:=(zT3 h l1 l2).push { cls:=.type "tuple",data:=.seq #[.none,.none] }
def zT5 (h:Heap) (l1 l2:Addr):Heap:=(zT4 h l1 l2).push { cls:=.type "zip",data:=.fields #[.none,.bool false,.bool false,.ref (zT2 h l1 l2).objs.size,.ref (zT3 h l1 l2).objs.size] }
theorem A7z (l1 l2:Addr) (xs ys:Array Value):Meets (Builtin.«zip.__new__» ⟨[.type "zip",.ref l1,.ref l2],[]⟩)
  (fun _ R s=>s.heap.IsTuple l1 xs/\s.heap.IsTuple l2 ys/\R (.ok (.ret (.ref (zT4 s.heap l1 l2).objs.size))) { s with heap:=zT5 s.heap l1 l2 }) :=
 .of_wp fun prog w A R s h=>by
  obtain ⟨hp,g,d,tk,os⟩:=s;obtain ⟨q1,q2,h⟩:=h;have hsub:=sub_zip;have hL1:Heap.IsTuple (Shared.heap ⟨hp,g,d,tk,os⟩) l1 xs:=q1;have hL2:Heap.IsTuple (Shared.heap ⟨hp.push { cls:=.type "tuple_iterator",data:=.fields #[.ref l1,.int 0 0] },g,d,tk,os⟩) l2 ys:=Heap.IsTuple.push q2 _
  wp_walk using wpAny_pyIter_tuple hL1,wpAny_pyIter_tuple hL2
  exact ⟨_,rfl,h⟩
section
variable {prog:Program} {w:World} {A:Around} {E:Value->Shared->Prop} {s:Shared}
theorem B4j {l1 l2:Addr} {xs ys:Array Value} {Q:Value->Shared->Prop} (hl1:s.heap.IsTuple l1 xs) (hl2:s.heap.IsTuple l2 ys)
  (h:∀ h',IsZip h' (s.heap.objs.size + 4) (s.heap.objs.size + 2) (s.heap.objs.size + 3) .none->IsPair h' (s.heap.objs.size + 2) (.ref s.heap.objs.size) (.ref (s.heap.objs.size + 1))->IsPair h' (s.heap.objs.size + 3) .none .none ->
   h'.IsTupleIter s.heap.objs.size l1 0->h'.IsTupleIter (s.heap.objs.size + 1) l2 0->(∀ c o,s.heap.get? c=some o->h'.get? c=some o)->Q (.ref (s.heap.objs.size + 4)) { s with heap:=h' }) :
  wpAny (model prog w) A (call (.type "zip") [.ref l1,.ref l2]) Q E s:=by
 refine callType_new F.called_zip (by decide) (F.typeCall_zip_2 _ _) (F.newCall_zip_2 _ _) (fun obj=>F.args_object_init_3 obj _ _) F.entry_zip_new (A7z l1 l2 xs ys) ⟨hl1,hl2,?_⟩;have s1:(zT1 s.heap l1).objs.size=s.heap.objs.size + 1:=Heap.size_push ..;have s2:(zT2 s.heap l1 l2).objs.size=s.heap.objs.size + 2:=(Heap.size_push ..).trans (by rw [s1]);have s3:(zT3 s.heap l1 l2).objs.size=s.heap.objs.size + 3:=(Heap.size_push ..).trans (by rw [s2]);have s4:(zT4 s.heap l1 l2).objs.size=s.heap.objs.size + 4:=(Heap.size_push ..).trans (by rw [s3]);have u5:∀ {c o},(zT4 s.heap l1 l2).get? c=some o->(zT5 s.heap l1 l2).get? c=some o:=fun q=>Heap.get?_push_of_some _ q;have u4:∀ {c o},(zT3 s.heap l1 l2).get? c=some o->(zT4 s.heap l1 l2).get? c=some o:=fun q=>Heap.get?_push_of_some _ q;have u3:∀ {c o},(zT2 s.heap l1 l2).get? c=some o->(zT3 s.heap l1 l2).get? c=some o:=fun q=>Heap.get?_push_of_some _ q;have u2:∀ {c o},(zT1 s.heap l1).get? c=some o->(zT2 s.heap l1 l2).get? c=some o:=fun q=>Heap.get?_push_of_some _ q;have g5:(zT5 s.heap l1 l2).get? (zT4 s.heap l1 l2).objs.size=some _:=Heap.get?_push_size _ rfl;have g4:(zT5 s.heap l1 l2).get? (zT3 s.heap l1 l2).objs.size=some _:=u5 (Heap.get?_push_size _ rfl);have g3:(zT5 s.heap l1 l2).get? (zT2 s.heap l1 l2).objs.size=some _:=u5 (u4 (Heap.get?_push_size _ rfl));have g2:(zT5 s.heap l1 l2).get? (zT1 s.heap l1).objs.size=some _:=u5 (u4 (u3 (Heap.get?_push_size _ rfl)));have g1:(zT5 s.heap l1 l2).get? s.heap.objs.size=some _:=u5 (u4 (u3 (u2 (Heap.get?_push_size _ rfl))));rw [s2,s3,s4] at g5;rw [s1,s2] at g3;rw [s3] at g4;rw [s1] at g2;show _/\_;rw [s4];exact ⟨⟨_,g5,rfl⟩,h _ g5 g3 g4 ⟨_,g1,rfl,rfl⟩ ⟨_,g2,rfl,rfl⟩ fun c o q=>u5 (u4 (u3 (u2 (Heap.get?_push_of_some _ q))))⟩
theorem A7y {z TI TO i1 i2 l1 l2:Addr} {k1 k2:Nat} {xs ys:Array Value} {x y a b:Value} {Q:Option Value->Shared->Prop} (D:ZipApart z TI TO i1 i2 l1 l2) (hz:IsZip s.heap z TI TO .none) (hTI:IsPair s.heap TI (.ref i1) (.ref i2)) (hTO:IsPair s.heap TO a b)
  (h1:s.heap.IsTupleIter i1 l1 k1) (h2:s.heap.IsTupleIter i2 l2 k2) (hl1:s.heap.IsTuple l1 xs) (hl2:s.heap.IsTuple l2 ys) (hx:xs[k1]?=some x) (hy:ys[k2]?=some y)
  (hQ:∀ h',IsZip h' z TI TO (rawInt s.heap.objs.size)->IsPair h' TO x y->h'.IsTupleIter i1 l1 (k1 + 1)->h'.IsTupleIter i2 l2 (k2 + 1)->IsPair h' s.heap.objs.size x y ->
   (∀ c o,c≠z->c≠TO->c≠i1->c≠i2->s.heap.get? c=some o->h'.get? c=some o)->Q (some (.ref s.heap.objs.size)) { s with heap:=h' }):wpAny (model prog w) A (pyNext (.ref z)) Q E s:=by
 have tz:s.TypeIs (.ref z) "zip":=⟨_,hz,rfl⟩;unfold pyNext;refine wpAny_bind (wpAny_attempt (wpAny_callSpecial?_slot (name:=Str.ofString "__next__") tz F.slot_zip_next (wpAny_call_entry F.slot_zip_next tz F.entry_zip_next ?_ (F.args_zip_next_1 _))));exact A8a D hz hTI hTO h1 h2 hl1 hl2 hx hy fun h' a1 a2 a3 a4 a5 a6=>wpAny_pure (hQ h' a1 a2 a3 a4 a5 a6)
theorem B2k {z TI TO i1 i2 l1 l2:Addr} {k1 k2:Nat} {xs ys:Array Value} {a b:Value} {Q:Option Value->Shared->Prop} (hh:A.handled=none) (D:ZipApart z TI TO i1 i2 l1 l2) (hz:IsZip s.heap z TI TO .none) (hTI:IsPair s.heap TI (.ref i1) (.ref i2)) (hTO:IsPair s.heap TO a b)
  (h1:s.heap.IsTupleIter i1 l1 k1) (h2:s.heap.IsTupleIter i2 l2 k2) (hl1:s.heap.IsTuple l1 xs) (hl2:s.heap.IsTuple l2 ys) (hend:xs[k1]?=none\/ys[k2]?=none)
  (hQ:∀ h',(∀ c o,c≠z->c≠TO->c≠i1->c≠i2->s.heap.get? c=some o->h'.get? c=some o)->Q none { s with heap:=h' }):wpAny (model prog w) A (pyNext (.ref z)) Q E s:=by
 have tz:s.TypeIs (.ref z) "zip":=⟨_,hz,rfl⟩;unfold pyNext;refine wpAny_bind (wpAny_attempt (wpAny_callSpecial?_slot (name:=Str.ofString "__next__") tz F.slot_zip_next (wpAny_call_entry F.slot_zip_next tz F.entry_zip_next ?_ (F.args_zip_next_1 _))));refine B4z hh D hz hTI hTO h1 h2 hl1 hl2 hend fun h' e hk ⟨o,ho,hc⟩=>?_;exact wpAny_bind (wpAny_isInstance (T:="StopIteration") (b:=true) ⟨o,ho,hc⟩ isSubtype_stop (wpAny_pure (hQ _ hk)))
end
def ItzT (K:PySem.W.Frag) (l1 l2:Addr):It :=
 ⟨fun i H=>∃ xs ys x y,SqT K H l1 xs/\SqT K H l2 ys/\xs[i]?=some x/\ys[i]?=some y,
  fun i H v H'=>∃ T x y,v=.ref T/\H T=none/\H'=upd H T (.tup [x,y])/\(∀ xs,SqT K H l1 xs->xs[i]?=some x)/\∀ ys,SqT K H l2 ys->ys[i]?=some y,
  fun i H=>∃ xs ys,SqT K H l1 xs/\SqT K H l2 ys/\(xs.length<=i\/ys.length<=i)⟩
theorem A8p {P:Program} {w:World} {K:PySem.W.Frag} {es:List Expr} {kk:Nat} {tp:Pos} {z TI TO i1 i2 l1 l2:Addr} (D:ZipApart z TI TO i1 i2 l1 l2) :
    Turn P w K (.Tuple es kk tp) (ItzT K l1 l2) [z,TI,TO,i1,i2] z (fun i h=>IsZip h z TI TO .none/\IsPair h TI (.ref i1) (.ref i2)/\(∃ a b,IsPair h TO a b)/\h.IsTupleIter i1 l1 i/\h.IsTupleIter i2 l2 i) where
  mem:=Zy
  obj:=fun i h st b hb=>by
    obtain ⟨hz,hTI,⟨a,c,hTO⟩,⟨o1,g1,k1,d1⟩,⟨o2,g2,k2,d2⟩⟩:=st;simp only [List.mem_cons,List.mem_nil_iff,or_false] at hb;rcases hb with rfl | rfl | rfl | rfl | rfl
    · exact ⟨_,hz,fun v q=>Data.noConfusion (show Data.fields _=Data.cell v from q)⟩
    · exact ⟨_,hTI,fun v q=>Data.noConfusion (show Data.seq _ _=Data.cell v from q)⟩
    · exact ⟨_,hTO,fun v q=>Data.noConfusion (show Data.seq _ _=Data.cell v from q)⟩
    · exact ⟨_,g1,fun v q=>by rw [d1] at q; cases q⟩
    · exact ⟨_,g2,fun v q=>by rw [d2] at q; cases q⟩
  keep:=fun i h h' st k=>by
    obtain ⟨hz,hTI,⟨a,c,hTO⟩,h1,h2⟩:=st;exact ⟨k z (by simp) _ hz,k TI (by simp) _ hTI,⟨a,c,k TO (by simp) _ hTO⟩,h1.at fun o e=>k i1 (by simp) o e,h2.at fun o e=>k i2 (by simp) o e⟩
  item:=by
    intro X hP hw hK hc i pins s σ H E I hf st hg;subst hP hw hK;obtain ⟨hz,hTI,⟨a,c,hTO⟩,h1,h2⟩:=st;obtain ⟨xs,ys,x,y,q1,q2,ex,ey⟩:=hg;obtain ⟨its1,r1,p1,_⟩:=I.tuple q1;obtain ⟨its2,r2,p2,_⟩:=I.tuple q2;obtain ⟨u1,e1,ru1⟩:=O8 r1 ex;obtain ⟨u2,e2,ru2⟩:=O8 r2 ey;refine A7y D hz hTI hTO h1 h2 (xs:=its1.toArray) (ys:=its2.toArray) p1 p2 (by simpa using e1) (by simpa using e2) fun h' a1 a2 a3 a4 a5 hk=>⟨_,rfl,?_⟩;refine wpAny_letOwnedTupleGo_zip a1 fun h'' b1 sb=>?_;have lt:∀ {b o},s.heap.get? b=some o->s.heap.objs.size≠b:=fun e=>Nat.ne_of_gt (Heap.lt_size e);have k2:∀ b o,b ∉ [z,TO,i1,i2]->s.heap.get? b=some o->h''.get? b=some o:=fun b o hb e=>by
      simp only [List.mem_cons,List.mem_nil_iff,or_false,not_or] at hb;exact (sb.2 b hb.1).trans (hk b o hb.1 hb.2.1 hb.2.2.1 hb.2.2.2 e)
    have I2:Inv X pins σ (upd H s.heap.objs.size (.tup [x,y])) { s with heap:=h'',toks:=s.toks }:=by
      refine I.laidL (wr:=[z,TO,i1,i2]) k2 (fun b hb=>hf b ?_) (Zv _) ⟨by show 2<=sizeLine; decide,[u1,u2],.cons ru1 (.cons ru2 .nil),?_⟩
      · simp only [List.mem_cons,List.mem_nil_iff,or_false] at hb ⊢
        rcases hb with q | q | q | q <;> simp [q]
      · exact ⟨_,(sb.2 _ (lt hz)).trans a5,rfl,_,rfl⟩
    refine ⟨.ref s.heap.objs.size,_,I2,rfl,⟨_,x,y,rfl,I.fresh,rfl,fun zs hzs=>by rw [I.tuple_inj hzs q1]; exact ex,fun zs hzs=>by rw [I.tuple_inj hzs q2]; exact ey⟩,⟨b1,(sb.2 _ D.TIz).trans (hk _ _ D.TIz D.TITO D.TIi1 D.TIi2 hTI),⟨_,_,(sb.2 _ D.TOz).trans a2⟩,a3.at fun o e=>(sb.2 _ D.i1z).trans e,a4.at fun o e=>(sb.2 _ D.i2z).trans e⟩,fun b hb=>?_⟩;have:b≠s.heap.objs.size:=by
      simp only [List.mem_cons,List.mem_nil_iff,or_false] at hb;obtain ⟨_,g1,_⟩:=h1;obtain ⟨_,g2,_⟩:=h2;rcases hb with rfl | rfl | rfl | rfl | rfl
      · exact (lt hz).symm
      · exact (lt hTI).symm
      · exact (lt hTO).symm
      · exact (lt g1).symm
      · exact (lt g2).symm
    rw [C4 this]; exact (hf b hb).1
  done:=by
    intro X hP hw hK hc i pins s σ H E I hf st hg;subst hP hw hK;obtain ⟨hz,hTI,⟨a,c,hTO⟩,h1,h2⟩:=st;obtain ⟨xs,ys,q1,q2,hl⟩:=hg;obtain ⟨its1,r1,p1,_⟩:=I.tuple q1;obtain ⟨its2,r2,p2,_⟩:=I.tuple q2;have n1:=r1.length;have n2:=r2.length;refine B2k (I.ok.hd hc) D hz hTI hTO h1 h2 (xs:=its1.toArray) (ys:=its2.toArray) p1 p2 (hl.imp (fun q=>by simp; omega) fun q=>by simp; omega) fun h' hk=>⟨rfl,?_⟩;refine I.turnL (t':=s.toks) (wr:=[z,TO,i1,i2]) (fun b o hb e=>?_) (fun b hb=>hf b ?_)
    · simp only [List.mem_cons,List.mem_nil_iff,or_false,not_or] at hb
      exact hk b o hb.1 hb.2.1 hb.2.2.1 hb.2.2.2 e
    · simp only [List.mem_cons,List.mem_nil_iff,or_false] at hb ⊢
      rcases hb with q | q | q | q <;> simp [q]
  self:=fun _ _ _ _ _ st h=>wpAny_pyIter_zip st.1 h
section
variable {X:Cx}
def C6j (K:PySem.W.Frag) (ta:TA):TI:=fun σ H R=>ta σ H fun vs H1=>∃ l1 l2 xs ys,vs=[.ref l1,.ref l2]/\((SqL K H1 l1 xs/\SqL K H1 l2 ys/\R (Itz K l1 l2) H1)\/(SqT K H1 l1 xs/\SqT K H1 l2 ys/\R (ItzT K l1 l2) H1))
theorem C04 {K:PySem.W.Frag} {a b:Expr} {ta:TA} {p pos:Pos} {es:List Expr} {kk:Nat} {tp:Pos} (hK:X.K=K) (hg:Gl X "zip") (hm:X.mg "zip"=none) (ha:QA X [a,b] ta)
  (hs:starEach [a,b] X.env=[(false,eval a X.env),(false,eval b X.env)]:=by rfl) (hs2:starEach [b] X.env=[(false,eval b X.env)]:=by rfl):QI X (.Tuple es kk tp) (.Call (.Name "zip" p) [a,b] [] pos) (C6j K ta):=by
 subst hK;refine ⟨fun pins s σ H R I h=>?_⟩;refine Call_ (P5 I hg hm boot_zip (PyProof.Rows.callWith_type1 (thn (ha.out pos pins s σ H _ I h) fun us s1 ⟨vs,H1,I1,r1,q1⟩=>?_) (hs.trans (by rw [hs2])) (by rw [hs2]; rfl)));obtain ⟨l1,l2,xs,ys,e,q⟩:=q1;subst e;obtain ⟨u,v,rfl,ru,rv⟩:=Vals.two r1;cases (show u=Value.ref l1 from ru);cases (show v=Value.ref l2 from rv);have ap:(show Nat from l1) < s1.heap.objs.size->(show Nat from l2) < s1.heap.objs.size->ZipApart (s1.heap.objs.size + 4) (s1.heap.objs.size + 2) (s1.heap.objs.size + 3) s1.heap.objs.size (s1.heap.objs.size + 1) l1 l2:=fun lt1 lt2=>by
  generalize s1.heap.objs.size=n at lt1 lt2;have g:∀ a b:Nat,a < b->a≠b:=fun a b q=>Nat.ne_of_lt q;have g':∀ a b:Nat,b < a->a≠b:=fun a b q=>Nat.ne_of_gt q;constructor <;> first | exact g _ _ (Nat.lt_trans lt1 (by omega)) | exact g _ _ (Nat.lt_trans lt2 (by omega)) | exact g _ _ lt1 | exact g _ _ lt2 | exact g _ _ (by omega) | exact g' _ _ (by omega)
 have fps:∀ b ∈ [s1.heap.objs.size + 4,s1.heap.objs.size + 2,s1.heap.objs.size + 3,s1.heap.objs.size,s1.heap.objs.size + 1],FpOk X pins H1 b:=fun b hb=>by
  have hb':s1.heap.objs.size<=b:=by
   simp only [List.mem_cons,List.mem_nil_iff,or_false] at hb;rcases hb with rfl | rfl | rfl | rfl | rfl <;> omega
  exact I1.fpOk hb' (I1.hok.fresh hb')
 rcases q with ⟨g1,g2,q⟩ | ⟨g1,g2,q⟩
 ·obtain ⟨its1,_,p1,_⟩:=I1.list g1;obtain ⟨its2,_,p2,_⟩:=I1.list g2;refine call_zip_2 p1.isList p2.isList fun h' a1 a2 a3 a4 a5 a6 hk=>wpAny_pyIter_zip a1 ?_;have lt1:(show Nat from l1) < s1.heap.objs.size:=by obtain ⟨o,_,ho,_⟩:=p1; exact Heap.lt_size ho
  have lt2:(show Nat from l2) < s1.heap.objs.size:=by obtain ⟨o,_,ho,_⟩:=p2; exact Heap.lt_size ho
  exact ⟨_,_,_,_,H1,rfl,I1.kept (t':=s1.toks) hk,A4z (ap lt1 lt2),⟨a1,a2,⟨_,_,a3⟩,a4,a5⟩,fps,q⟩
 ·obtain ⟨its1,_,p1,_⟩:=I1.tuple g1;obtain ⟨its2,_,p2,_⟩:=I1.tuple g2;refine B4j (xs:=its1.toArray) (ys:=its2.toArray) p1 p2 fun h' a1 a2 a3 a4 a5 hk=>wpAny_pyIter_zip a1 ?_;have lt1:(show Nat from l1) < s1.heap.objs.size:=by obtain ⟨o,ho,_⟩:=p1; exact Heap.lt_size ho
  have lt2:(show Nat from l2) < s1.heap.objs.size:=by obtain ⟨o,ho,_⟩:=p2; exact Heap.lt_size ho
  exact ⟨_,_,_,_,H1,rfl,I1.kept (t':=s1.toks) hk,A8p (ap lt1 lt2),⟨a1,a2,⟨_,_,a3⟩,a4,a5⟩,fps,q⟩
end
end L2
namespace Pu
open PySem L2 My Prf
def B67 (xs:LP) (k:LP->Prop):Prop:=match xs with
 | [.list xs,.list ys]=>k (zipD xs ys)
 | [.tuple xs,.tuple ys]=>k (zipD xs ys)
 | _=>False
def C1e (pa:PAr) (env:PEnv) (Q:LP->PEnv->Prop):Prop:=pa env fun xs e=>B67 xs fun zs=>Q zs e
theorem A4s {c:Ct} {w1:Wd} {K:Frag} (hK:c.K=K) {J:It} {us1 us2:List V} {xs ys:LP} (d1:DenAll K w1.F us1 xs) (d2:DenAll K w1.F us2 ys)
  (go:∀ w':Wd,w'.Ok->Le c.w0 w'->Same w1.F w'.F->(∀ i,i < min us1.length us2.length->J.go i w'.H)/\J.stop (min us1.length us2.length) w'.H/\∀ i v H',J.yld i w'.H v H'->∃ T x y,v=.ref T/\w'.H T=none/\H'=upd w'.H T (.tup [x,y])/\us1[i]?=some x/\us2[i]?=some y):Walk c w1 J (zipD xs ys):=by
 subst hK;intro w' ok l s;obtain ⟨g1,g2,g3⟩:=go w' ok l s;rw [U9,<- d1.len,<- d2.len];refine ⟨g1,g2,fun i v H' y hi=>?_⟩;obtain ⟨T,x,y',rfl,hT,rfl,y1,y2⟩:=g3 i v H' y;obtain ⟨dx,x1,x2⟩:=d1.get y1;obtain ⟨dy,y3,y4⟩:=d2.get y2;refine ⟨w'.tup T (.tup [x,y']),.tuple [dx,dy],rfl,Wd.tup_ok ok hT,Wd.tup_le ok hT,?_,?_⟩
 ·unfold zipD; rw [List.getElem?_zipWith,x1,y3]
 ·have f:=(Wd.tup_le (o:=.tup [x,y']) ok hT).f;exact .tup (SqD.of B3) (.cons (Den.same (s.trans f) x2) (.cons (Den.same (s.trans f) y4) .nil))
instance ri_zipS {K:Frag} {ta:TA} {pa:PAr} [ha:RAd K ta pa]:RI K (C6j K ta) (C1e pa) where
 ok:=by
  rintro c w env σ Qp R rfl E p k;refine ha.ok c w env σ _ _ rfl E p fun vs xs e1 w1 E1 l1 d1 q1=>?_;unfold B67 at q1;split at q1
  ·cases d1 with | cons h t=>cases t with | cons h' t =>
    cases t;obtain ⟨a1,us1,rfl,s1,m1⟩:=h.lstE;obtain ⟨a2,us2,rfl,s2,m2⟩:=h'.lstE;refine ⟨a1,a2,us1,us2,rfl,.inl ⟨E1.wok.sub.seq s1,E1.wok.sub.seq s2,k _ _ e1 w1 E1 l1 (A4s rfl m1 m2 fun w' ok l s=>?_) q1⟩⟩;have t1:=(s.trans ok.sub).seq s1;have t2:=(s.trans ok.sub).seq s2;exact ⟨fun i hi=>⟨us1,us2,us1[i]'(by omega),us2[i]'(by omega),t1,t2,Zg _,Zg _⟩,⟨us1,us2,t1,t2,by omega⟩,fun i v H' ⟨T,x,y,e1,e2,e3,e4,e5⟩=>⟨T,x,y,e1,e2,e3,e4 _ t1,e5 _ t2⟩⟩
  ·cases d1 with | cons h t=>cases t with | cons h' t =>
    cases t;obtain ⟨a1,us1,rfl,s1,m1⟩:=h.tupE;obtain ⟨a2,us2,rfl,s2,m2⟩:=h'.tupE;refine ⟨a1,a2,us1,us2,rfl,.inr ⟨SqT.same E1.wok.sub s1,SqT.same E1.wok.sub s2,k _ _ e1 w1 E1 l1 (A4s rfl m1 m2 fun w' ok l s=>?_) q1⟩⟩;have t1:=SqT.same (s.trans ok.sub) s1;have t2:=SqT.same (s.trans ok.sub) s2;exact ⟨fun i hi=>⟨us1,us2,us1[i]'(by omega),us2[i]'(by omega),t1,t2,Zg _,Zg _⟩,⟨us1,us2,t1,t2,by omega⟩,fun i v H' ⟨T,x,y,e1,e2,e3,e4,e5⟩=>⟨T,x,y,e1,e2,e3,e4 _ t1,e5 _ t2⟩⟩
  ·exact q1.elim
end Pu
namespace Pu
open PySem L2 My Prf
def okA:Nat->PyData->Prop
 | _,.none=>True
 | _,.bool _=>True
 | _,.int _=>True
 | _,.str s=>(PyData.str s).canLay0=true
 | _,.dict _=>False
 | 0,.list _=>False
 | 0,.tuple _=>False
 | n + 1,.list xs=>xs.length < 1000/\∀ x ∈ xs,okA n x
 | n + 1,.tuple xs=>xs.length < 1000/\∀ x ∈ xs,okA n x
def A5d (n:Nat):PSp:=fun as Q=>∃ x,as=[.d x,.d x]/\okA n x/\Q (.d (.bool true))
theorem B6l {P:Program} {w:World} {K:Frag} {mg:Str->Option Value} {base:Heap} {k:Nat} {f:Addr} {fd:FuncData} {ps:List Str} {md:List Md} (h:md.length=ps.length):FnOk P w K mg base CX0 k f fd ps (spOf K md fun _ _=>False) :=
 ⟨spOf.len h,fun _ _ _ _ _ _ _ _ _ _ _ _ _ hs=>by obtain ⟨_,_,_,_,_,_,z,_⟩:=hs; exact z.elim⟩
theorem A0x {xs ys:LP} {k:LP->Prop}:B67 [.list xs,.list ys] k=k (zipD xs ys):=rfl
theorem A3l {xs ys:LP} {k:LP->Prop}:B67 [.tuple xs,.tuple ys] k=k (zipD xs ys):=rfl
theorem A67 (n:Nat):(List.replicate n true).all id=true:=by simp
theorem A6z (n:Nat):blsD (List.replicate n (.bool true))=some (List.replicate n true):=by
 rw [show List.replicate n (PyData.bool true)=(List.replicate n true).map .bool by simp]; exact A60 _
theorem A1v {xs:LP} {i:Nat} {x:PyData} (h:(zipD xs xs)[i]?=some x):∃ a,xs[i]?=some a/\x=.tuple [a,a]:=by
 obtain ⟨a,b,h1,h2,rfl⟩:=A4q h;rw [h1] at h2; cases h2; exact ⟨a,h1,rfl⟩
theorem A6r {a b:Bool}:PyData.eqv (.bool a) (.bool b)=decide (a=b):=by cases a <;> cases b <;> rfl
theorem B34 {s:Str}:PyData.eqv (.str s) (.str s)=true:=by show (s == s)=true; simp
theorem B9f:kitB "int" "str"=some false:=by decide +kernel
theorem B9i:kitB "bool" "str"=some false:=by decide +kernel
theorem B9c:kitB "NoneType" "str"=some false:=by decide +kernel
theorem A2p (q:Rat) (n:Nat):okA (n + 1) (dq q):=by
 show _ < 1000/\_;refine ⟨by simp,fun x hx=>?_⟩;simp at hx;rcases hx with rfl | rfl <;> (unfold okA; trivial)
theorem C17 (c:Rat × Rat) (n:Nat):okA (n + 2) (dcn c):=by
 show _ < 1000/\_;refine ⟨by simp,fun x hx=>?_⟩;simp at hx;rcases hx with rfl | rfl <;> exact A2p _ _
theorem B1l {cs:LR} (h:cs.length < 1000) (n:Nat):okA (n + 3) (.list (cs.map dcn)):=by
 show _ < 1000/\_;refine ⟨by simpa using h,fun x hx=>?_⟩;obtain ⟨c,_,rfl⟩:=List.mem_map.mp hx;exact C17 c n
end Pu
namespace Pu
open PySem L2 My Prf
def B1:LP->OT
 | []=>.nil
 | x :: r=>.cons (.leaf x) (B1 r)
def OT.len:OT->Nat
 | .cons _ t=>t.len + 1
 | .nil=>0
 | _=>1
def OT.kid:OT->Nat->Option OT
 | .cons h _,0=>some h
 | .cons _ t,n + 1=>t.kid n
 | _,_=>none
theorem O7:∀ xs,(B1 xs).fp=[]
 | []=>rfl
 | _ :: r=>by show []++(B1 r).fp=[]; rw [O7 r]; rfl
theorem J1:∀ xs,(B1 xs).dat=xs
 | []=>rfl
 | x :: r=>by show [x]++(B1 r).dat=x :: r; rw [J1 r]; rfl
theorem R9 {K:Frag} {w:Wd}:∀ {vs:List V} {xs:LP},DenAll K w.F vs xs->Tre K w (B1 xs) vs
 | _,_,.nil=>rfl
 | _,_,.cons h t=>⟨_,_,rfl,⟨_,rfl,h⟩,R9 t⟩
theorem M8 {K:Frag} {w:Wd}:∀ {xs:LP} {vs:List V},Tre K w (B1 xs) vs->DenAll K w.F vs xs
 | [],_,e=>by cases (show _=[] from e); exact .nil
 | _ :: _,_,⟨_,_,rfl,⟨_,e,h⟩,t⟩=>by cases e; exact .cons h (M8 t)
theorem Tre.len {K:Frag} {w:Wd}:∀ {t:OT} {vs:List V},Tre K w t vs->vs.length=t.len
 | .leaf _,_,⟨_,e,_⟩=>by rw [e]; rfl
 | .nd _ _ _,_,⟨e,_⟩=>by rw [e]; rfl
 | .nil,_,e=>by rw [show _=[] from e]; rfl
 | .cons _ _,_,⟨_,_,e,_,t⟩=>by rw [e]; show _ + 1=_ + 1; rw [t.len]
theorem Tre.kid {K:Frag} {w:Wd}:∀ {t:OT} {vs:List V} {n:Nat} {u:OT},Tre K w t vs->t.kid n=some u->∃ v,vs[n]?=some v/\Tre K w u [v]
 | .cons _ _,_,0,_,⟨v,_,e,h,_⟩,q=>by cases q; rw [e]; exact ⟨v,rfl,h⟩
 | .cons _ _,_,n + 1,_,⟨_,_,e,_,t⟩,q=>by rw [e]; exact t.kid (n:=n) q
theorem A2u:∀ {t:OT} {n:Nat} {u:OT} {a:Addr},t.kid n=some u->a ∈ u.fp->a ∈ t.fp
 | .cons _ _,0,_,_,q,h=>by cases q; simp [OT.fp,h]
 | .cons _ _,n + 1,_,_,q,h=>by simp [OT.fp,A2u (n:=n) q h]
noncomputable def hm (w:Wd):Hpp:=fun a=>open Classical in if w.M a then none else w.H a
theorem Y2 {w:Wd} {a:Addr} {o:HO} (h:w.H a=some o) (n:¬ w.M a):hm w a=some o:=by unfold hm; rw [if_neg n]; exact h
theorem A6n {w:Wd} {a:Addr} {o:HO} (h:hm w a=some o):w.H a=some o/\¬ w.M a:=by
 unfold hm at h; split at h
 ·cases h
 ·exact ⟨h,‹_›⟩
theorem hm_F {w:Wd} (ok:w.Ok):Same w.F (hm w):=fun a o h=>Y2 (ok.sub a o h) fun z=>by rw [ok.nf a z] at h; cases h
theorem B6i {w w':Wd} (l:Lw w w'):Same (hm w) (hm w'):=fun a o h=>by
 obtain ⟨h1,h2⟩:=A6n h;exact Y2 (l.h _ _ h1 h2) (l.nm (by rw [h1]; simp) h2)
theorem Tre.den {K:Frag} {w:Wd} (ok:w.Ok):∀ {t:OT} {vs:List V},Tre K w t vs->(∀ a ∈ t.fp,¬ w.M a)->DenAll K (hm w) vs t.dat
 | .leaf _,_,⟨_,e,h⟩,_=>by rw [e]; exact .cons (Den.same (hm_F ok) h) .nil
 | .nd true a _,_,⟨e,_,h,k⟩,n=>by rw [e]; exact .cons (.lst (SqL.of (Y2 h (n a (by simp [OT.fp])))) (Tre.den ok k fun q hq=>n q (by simp [OT.fp,hq]))) .nil
 | .nd false a _,_,⟨e,_,h,k⟩,n=>by rw [e]; exact .cons (.tup (SqD.of (Y2 h (n a (by simp [OT.fp])))) (Tre.den ok k fun q hq=>n q (by simp [OT.fp,hq]))) .nil
 | .nil,_,e,_=>by rw [show _=[] from e]; exact .nil
 | .cons _ _,_,⟨v,r,e,h,t⟩,n=>by
  rw [e];exact (Tre.den ok h fun q hq=>n q (by simp [OT.fp,hq])).app (vs:=[v]) (us:=r) (Tre.den ok t fun q hq=>n q (by simp [OT.fp,hq]))
def VH (K:Frag) (w:Wd) (v:V) (x:PyData):Prop:=Den K (hm w) v x
theorem VR.vh {c:Ct} {w:Wd} {v:V} {t:OT} {x:PyData} (ok:w.Ok) (h:VR c w v (.tr t)) (e:t.dat=[x]):VH c.K w v x:=by
 have:=h.1.den ok fun a ha=>(h.2.1 a ha).2.2.1;rw [e] at this;cases this with | cons a _=>exact a
theorem VV.vh {K:Frag} {w:Wd} {v:V} {x:PyData} (ok:w.Ok) (h:VV K w v x):VH K w v x:=by
 rcases h with h | ⟨l,vs,xs,rfl,rfl,h1,h2,h3⟩
 ·exact Den.same (hm_F ok) h
 ·exact .lst (SqL.of (Y2 h1 h2)) (DenAll.same (hm_F ok) h3)
class RH (K:Frag) (te:TE) (pd:outParam PDt):Prop where
 ok:∀ (c:Ct) (w:Wd) (env:PEnv) (σ:St) (Qp:PyData->PEnv->Prop) (Q:VK),c.K=K->EnvOk c w env σ->pd env Qp->(∀ v x env' w',EnvOk c w' env' σ->Lw w w'->VH K w' v x->Qp x env'->Q v w'.H)->te σ w.H Q
def C1g (i:Nat) (env:PEnv) (Q:PyData->PEnv->Prop):Prop:=match env[i]? with
 | some (some (.d x))=>Q x env
 | some (some (.own xs))=>Q (.list xs) env
 | some (some (.bor xs))=>Q (.list xs) env
 | some (some (.tr t))=>∃ x,t.dat=[x]/\Q x env
 | _=>False
instance rh_var {K:Frag} {i:Nat}:RH K (tVar i) (C1g i) where
 ok:=by
  rintro c w env σ Qp Q rfl E p k;unfold C1g at p;split at p
  ·rename_i x e;obtain ⟨v,h1,h2⟩:=E.at' i _ e;exact ⟨v,h1,k v _ env w E (Lw.refl w) (Den.same (hm_F E.wok) h2) p⟩
  ·rename_i xs e;obtain ⟨v,h1,l,vs,e',g1,g2,g3,g4,g5⟩:=E.at' i _ e;exact ⟨v,h1,k v _ env w E (Lw.refl w) (VV.vh E.wok (.inr ⟨l,vs,xs,e',rfl,g1,g3,g5⟩)) p⟩
  ·rename_i xs e;obtain ⟨v,h1,h2⟩:=E.at' i _ e;exact ⟨v,h1,k v _ env w E (Lw.refl w) ((h2.vv E.le0).vh E.wok) p⟩
  ·rename_i t e;obtain ⟨x,e1,q⟩:=p;obtain ⟨v,h1,h2⟩:=E.at' i _ e;exact ⟨v,h1,k v _ env w E (Lw.refl w) (h2.vh E.wok e1) q⟩
  ·exact p.elim
def B7e (sp:Sp) (dvs:List V) (X:XK) (t:TA):TE:=A1z sp dvs X t
def B8j (psp:PSp) (pa pb:PDt) (env:PEnv) (Q:SV->PEnv->Prop):Prop:=pa env fun x e=>pb e fun y e2=>psp [.d x,.d y] fun s=>∃ b,s=.d (.bool b)/\Q (.d (.bool b)) e2
instance re_callH {K:Frag} {psp:PSp} {X:XK} {ta tb:TE} {pa pb:PDt} [ha:RH K ta pa] [hb:RH K tb pb]:RE K (B7e (spOf K [.dat,.dat] psp) [] X (F9 ta (F9 tb tNil))) (B8j psp pa pb) where
 ok:=by
  rintro c w env σ Qp Q rfl E p k;refine ha.ok c w env σ _ _ rfl E p fun x dx e1 w1 E1 l1 v1 q1=>?_;refine hb.ok c w1 e1 σ _ _ rfl E1 q1 fun y dy e2 w2 E2 l2 v2 q2=>?_;have v1':VH c.K w2 x dx:=Den.same (B6i l2) v1;refine ⟨⟨w2.M,w2.H,hm w2⟩,[.d dx,.d dy],_,rfl,⟨fun a o h=>(A6n h).1,E2.wok.st,fun a ha=>?_⟩,.dat v1' (.dat v2 .nil),q2,fun v s w' ok l h r q=>?_⟩
  ·show hm w2 a=none;unfold hm; rw [if_pos ha]
  ·obtain ⟨b,rfl,q⟩:=q;have ev:v=.bl b:=Den.blE h;have fl:∀ a o,w2.F a=some o->w2.H a=some o/\¬ w2.M a:=fun a o e=>⟨E2.wok.sub a o e,fun z=>by rw [E2.wok.nf a z] at e; cases e⟩;have le:Le w2 ⟨w'.M,w'.H,w2.F⟩:=⟨⟨Same.refl _,l.h,l.m,l.mn,l.dom⟩,fun a o e=>.inl e⟩;have ok':Wd.Ok ⟨w'.M,w'.H,w2.F⟩:=⟨fun a o e=>l.h a o (fl a o e).1 (fl a o e).2,ok.st,fun a ha=>by
    cases e:w2.F a with
    | none=>rfl
    | some o =>
     obtain ⟨f1,f2⟩:=fl a o e;rcases l.mn a ha with z | z
     ·exact absurd z f2
     ·have z':w2.H a=none:=z;rw [f1] at z'; cases z'⟩
   have E3:=E2.mono ok' le;exact k v (.d (.bool b)) e2 ⟨w'.M,w'.H,w2.F⟩ ⟨E3,l1.trans (l2.trans le.toLw),by rw [ev]; exact .bl b,fun _ z=>(nomatch z),rfl⟩ q
def Own (c:Ct) (w:Wd) (t:OT):Prop:=(∀ a ∈ t.fp,w.H a≠none/\w.F a=none/\¬ w.M a/\c.w0.H a=none)/\t.fp.Nodup
def NewT (c:Ct) (env:PEnv) (σ:St) (t:OT):Prop:=∀ a ∈ t.fp,(∀ (j:Nat) s u,env[j]?=some (some s)->σ[j]?=some (some u)->¬ s.foot u a)/\¬ c.Z a
def SV.ot (s:SV) (k:OT->Prop):Prop:=match s with
 | .d x=>k (.leaf x)
 | .own xs=>∀ a,k (.nd true a (B1 xs))
 | .tr t=>k t
 | _=>False
theorem Res.ot {c:Ct} {w w1:Wd} {env:PEnv} {σ:St} {v:V} {s:SV} {k:OT->Prop} (R:Res c w env σ w1 v s) (h:s.ot k):∃ t,Tre c.K w1 t [v]/\Own c w1 t/\NewT c env σ t/\k t:=by
 obtain ⟨E,lw,val,new,_⟩:=R;cases s with
 | d x=>exact ⟨.leaf x,⟨v,rfl,val⟩,⟨fun a z=>(nomatch z),List.nodup_nil⟩,fun a z=>(nomatch z),h⟩
 | own xs =>
  obtain ⟨l,vs,rfl,h1,h2,h3,h4,h5⟩:=val;have one:∀ a,a ∈ (OT.nd true l (B1 xs)).fp->a=l:=fun a ha=>by
   rw [show (OT.nd true l (B1 xs)).fp=l :: (B1 xs).fp from rfl,O7] at ha;simpa using ha
  refine ⟨.nd true l (B1 xs),⟨rfl,vs,h1,R9 h5⟩,⟨fun a ha=>?_,by show (l :: (B1 xs).fp).Nodup; rw [O7]; simp⟩,fun a ha=>?_,h l⟩
  ·rw [one a ha]; exact ⟨by rw [h1]; simp,h2,h3,h4⟩
  ·rw [one a ha]; exact new l rfl
 | bor xs=>exact (show False from h).elim
 | st=>exact (show False from h).elim
 | tr t=>exact ⟨t,val.1,val.2,new,h⟩
 | bt t=>exact (show False from h).elim
 | al t=>exact (show False from h).elim
 | dk t=>exact (show False from h).elim
theorem VR.reZ {K:Frag} {w0 w:Wd} {Z Z':Addr->Prop} {v:V}:∀ {s:SV},VR ⟨K,w0,Z⟩ w v s->VR ⟨K,w0,Z'⟩ w v s
 | .d _,h=>h
 | .own _,h=>h
 | .bor _,h=>h
 | .st,h=>h
 | .tr _,h=>h
 | .bt _,h=>h
 | .al _,h=>h
 | .dk _,h=>h
def Ct.with (c:Ct) (t:OT):Ct:=⟨c.K,c.w0,fun a=>c.Z a\/a ∈ t.fp⟩
theorem EnvOk.hold {c:Ct} {w:Wd} {env:PEnv} {σ:St} {t:OT} (E:EnvOk c w env σ) (o:Own c w t) (n:NewT c env σ t):EnvOk (c.with t) w env σ :=
 ⟨E.wok,E.le0,E.len,fun i s q=>let ⟨v,h1,h2⟩:=E.at' i s q; ⟨v,h1,h2.reZ⟩,E.own,fun a z=>z.elim (E.zf a) fun ha=>let ⟨h1,h2,h3,_⟩:=o.1 a ha; ⟨h2,h1,h3⟩,fun a j s u z q q'=>z.elim (fun z=>E.zo a j s u z q q') fun ha=>(n a ha).1 j s u q q'⟩
theorem EnvOk.letgo {c:Ct} {w:Wd} {env:PEnv} {σ:St} {t:OT} (E:EnvOk (c.with t) w env σ):EnvOk c w env σ :=
 ⟨E.wok,E.le0,E.len,fun i s q=>let ⟨v,h1,h2⟩:=E.at' i s q; ⟨v,h1,h2.reZ⟩,E.own,fun a z=>E.zf a (.inl z),fun a j s u z q q'=>E.zo a j s u (.inl z) q q'⟩
class RAt (K:Frag) (ta:TA) (pa:outParam (PEnv->(OT->PEnv->Prop)->Prop)):Prop where
 ok:∀ (c:Ct) (w:Wd) (env:PEnv) (σ:St) (Qp:OT->PEnv->Prop) (Q:List V->Hpp->Prop),c.K=K->EnvOk c w env σ->pa env Qp->(∀ vs t env' w',EnvOk c w' env' σ->Lw w w'->Tre K w' t vs->Own c w' t->NewT c env' σ t->Qp t env'->Q vs w'.H)->ta σ w.H Q
def C1m (env:PEnv) (Q:OT->PEnv->Prop):Prop:=Q .nil env
def B0t (pe:PX) (pr:PEnv->(OT->PEnv->Prop)->Prop) (env:PEnv) (Q:OT->PEnv->Prop):Prop:=pe env fun s e1=>s.ot fun t=>pr e1 fun r e2=>(∀ a ∈ r.fp,a ∉ t.fp)->Q (.cons t r) e2
instance rat_nil {K:Frag}:RAt K tNil C1m:=⟨fun c w env σ Qp Q _ E p k=>k [] .nil env w E (Lw.refl w) rfl ⟨fun a z=>(nomatch z),List.nodup_nil⟩ (fun a z=>nomatch z) p⟩
instance rat_cons {K:Frag} {ta:TE} {tr:TA} {pe:PX} {pr:PEnv->(OT->PEnv->Prop)->Prop} [ha:RE K ta pe] [hr:RAt K tr pr]:RAt K (F9 ta tr) (B0t pe pr) where
 ok:=by
  rintro c w env σ Qp Q rfl E p k;refine ha.ok c w env σ _ _ rfl E p fun v s e1 w1 R q1=>?_;obtain ⟨t,ht,ho,hn,q⟩:=R.ot q1;refine hr.ok (c.with t) w1 e1 σ _ _ rfl (R.ev.hold ho hn) q fun vs r e2 w2 E2 l2 hr' ho' hn' q2=>?_;refine k (v :: vs) (.cons t r) e2 w2 E2.letgo (R.lw.trans l2) ⟨v,vs,rfl,ht.mono l2 fun a ha=>(ho.1 a ha).2.2.1,hr'⟩ ⟨fun a ha=>?_,List.nodup_append.mpr ⟨ho.2,ho'.2,fun a ha b hb e=>(hn' b hb).2 (.inr (e ▸ ha))⟩⟩ (fun a ha=>?_) (q2 fun a ha z=>(hn' a ha).2 (.inr z))
  ·rcases Za (show a ∈ t.fp++r.fp from ha) with z | z
   ·obtain ⟨z1,z2,z3⟩:=E2.zf a (.inr z);exact ⟨z2,z1,z3,(ho.1 a z).2.2.2⟩
   ·exact ho'.1 a z
  ·rcases Za (show a ∈ t.fp++r.fp from ha) with z | z
   ·exact ⟨fun j s u q q'=>E2.zo a j s u (.inr z) q q',(hn a z).2⟩
   ·exact ⟨(hn' a z).1,fun y=>(hn' a z).2 (.inl y)⟩
theorem Res.laid {c:Ct} {w:Wd} {env:PEnv} {σ:St} {p:Addr} {vs:List V} {t:OT} {b:Bool} (E:EnvOk c w env σ) (h:w.H p=none) (ht:Tre c.K w t vs) (o:Own c w t) (n:NewT c env σ t):Res c w env σ (w.lay p (ho b vs)) (.ref p) (.tr (.nd b p t)):=by
 have le:=Wd.lay_le (o:=ho b vs) h;refine ⟨E.mono (Wd.lay_ok E.wok h) le,le.toLw,⟨⟨rfl,vs,B3,ht.mono le.toLw fun a ha=>(o.1 a ha).2.2.1⟩,fun a ha=>?_,List.nodup_cons.mpr ⟨fun z=>(o.1 p z).1 h,o.2⟩⟩,fun a f=>?_,rfl⟩
 ·rcases List.mem_cons.mp (show a ∈ p :: t.fp from ha) with rfl | z
  ·exact ⟨by show upd w.H a _ a≠none; rw [B3]; simp,E.wok.fnone h,fun z=>E.wok.mne h z rfl,E.le0.dom a h⟩
  ·obtain ⟨h1,h2,h3,h4⟩:=o.1 a z;exact ⟨fun y=>h1 (K5 y),h2,h3,h4⟩
 ·rcases List.mem_cons.mp (show a ∈ p :: t.fp from f) with rfl | z
  ·exact E.fresh h
  ·exact n a z
def C29 (ta:TA):TE:=tLst ta
def C27 (ta:TA):TE:=tTup ta
def B5t (b:Bool) (pa:PEnv->(OT->PEnv->Prop)->Prop) (env:PEnv) (Q:SV->PEnv->Prop):Prop:=pa env fun t e=>t.len<=1000/\∀ a,a ∉ t.fp->Q (.tr (.nd b a t)) e
instance re_lstT {K:Frag} {ta:TA} {pa:PEnv->(OT->PEnv->Prop)->Prop} [ha:RAt K ta pa]:RE K (C29 ta) (B5t true pa) where
 ok:=by
  rintro c w env σ Qp Q rfl E p k;refine ha.ok c w env σ _ _ rfl E p fun vs t e1 w1 E1 l1 ht ho hn q1=>⟨?_,fun p hp=>?_⟩
  ·rw [ht.len]; exact Nat.le_of_lt (O0 q1.1)
  ·exact k _ _ e1 _ ((Res.laid (b:=true) E1 hp ht ho hn).pre l1) (q1.2 p fun z=>(ho.1 p z).1 hp)
instance re_tupT {K:Frag} {ta:TA} {pa:PEnv->(OT->PEnv->Prop)->Prop} [ha:RAt K ta pa]:RE K (C27 ta) (B5t false pa) where
 ok:=by
  rintro c w env σ Qp Q rfl E p k;refine ha.ok c w env σ _ _ rfl E p fun vs t e1 w1 E1 l1 ht ho hn q1=>⟨?_,fun p hp=>?_⟩
  ·rw [ht.len]; exact Nat.le_of_lt (O0 q1.1)
  ·exact k _ _ e1 _ ((Res.laid (b:=false) E1 hp ht ho hn).pre l1) (q1.2 p fun z=>(ho.1 p z).1 hp)
def tKid (K:Frag) (i:Nat) (n:Int):TE:=tOp (rIx K) (tVar i) (tC (.int n))
def asTr (o:Option (Option SV)) (k:OT->Prop):Prop:=match o with
 | some (some (.tr t))=>k t
 | _=>False
def pKid (i:Nat) (n:Int) (env:PEnv) (Q:PyData->PEnv->Prop):Prop:=asTr env[i]? fun t=>∃ (m:Nat) (b:Bool) (a a':Addr) (ks:OT) (xs:LP),n=m/\t=.nd b a ks/\ks.kid m=some (.nd true a' (B1 xs))/\Q (.list xs) env
def B00 (i:Nat) (n:Int) (D:PEnds) (env:PEnv):Prop:=asTr env[i]? fun t=>∃ (m:Nat) (b:Bool) (a a':Addr) (ks ls:OT),n=m/\t=.nd b a ks/\ks.kid m=some (.nd true a' ls)/\D.nx (env.set i (some (.tr (OT.put a' .nil t))))
end Pu
namespace L2
open PySem PySem.Spec PyProof.Rows
section
variable {X:Cx} {e:Expr}
theorem C7f {t:TA} (h:QE X e (tLst t)):QE X e (Pu.C29 t):=h
theorem A3x {t:TA} (h:QE X e (tTup t)):QE X e (Pu.C27 t):=h
theorem qKid {K:PySem.W.Frag} {i:Nat} {n:Int} (h:QE X e (tOp (rIx K) (tVar i) (tC (.int n)))):QE X e (Pu.tKid K i n):=h
theorem A0m {sp:Sp} {dvs:List V} {E:XK} {t:TA} (h:QE X e (A1z sp dvs E t)):QE X e (Pu.B7e sp dvs E t):=h
end
end L2
namespace Pu
open PySem L2 My Prf
def SV.asH (s:SV) (k:PyData->Prop):Prop:=match s with
 | .d x=>k x
 | .own xs=>k (.list xs)
 | .tr t=>∃ x,t.dat=[x]/\k x
 | _=>False
def C1c (pe:PX) (env:PEnv) (Q:PyData->PEnv->Prop):Prop:=pe env fun s e=>s.asH fun x=>Q x e
instance (priority:=200) rh_re {K:Frag} {te:TE} {pe:PX} [h:RE K te pe]:RH K te (C1c pe) where
 ok:=by
  rintro c w env σ Qp Q rfl E p k;refine h.ok c w env σ _ Q rfl E p fun v s env' w' R q=>?_;have E':=R.ev;cases s with
  | d x=>exact k v x env' w' E' R.lw (Den.same (hm_F E'.wok) R.val) q
  | own xs =>
   obtain ⟨l,vs,e',g1,g2,g3,g4,g5⟩:=R.val;exact k v _ env' w' E' R.lw (VV.vh E'.wok (.inr ⟨l,vs,xs,e',rfl,g1,g3,g5⟩)) q
  | tr t =>
   obtain ⟨x,e,q⟩:=q;exact k v x env' w' E' R.lw (VR.vh E'.wok R.val e) q
  | bor xs=>exact (show False from q).elim
  | bt t=>exact (show False from q).elim
  | al t=>exact (show False from q).elim
  | dk t=>exact (show False from q).elim
  | st=>exact (show False from q).elim
theorem VR.btv {c:Ct} {w:Wd} {v:V} {t:OT} (l:Le c.w0 w) (h:VR c w v (.bt t)):TV c.K w v t:=by
 have lw:Lw ⟨c.w0.M,c.w0.H,w.F⟩ w:=⟨Same.refl _,l.h,l.m,l.mn,l.dom⟩;exact ⟨h.1.mono lw h.2,fun a ha=>l.nm (h.1.has a ha) (h.2 a ha)⟩
class RTr (K:Frag) (te:TE) (pb:outParam (PEnv->(OT->PEnv->Prop)->Prop)):Prop where
 ok:∀ (c:Ct) (w:Wd) (env:PEnv) (σ:St) (Qp:OT->PEnv->Prop) (Q:VK),c.K=K->EnvOk c w env σ->pb env Qp->(∀ v t env' w',EnvOk c w' env' σ->Lw w w'->TV K w' v t->Qp t env'->Q v w'.H)->te σ w.H Q
def pTr (pe:PX) (env:PEnv) (Q:OT->PEnv->Prop):Prop:=pe env fun s e=>s.ot fun t=>Q t e
instance (priority:=low) rtr_re {K:Frag} {te:TE} {pe:PX} [h:RE K te pe]:RTr K te (pTr pe) where
 ok:=by
  rintro c w env σ Qp Q rfl E p k;refine h.ok c w env σ _ Q rfl E p fun v s env' w' R q=>?_;obtain ⟨t,ht,ho,_,q⟩:=R.ot q;exact k v t env' w' R.ev R.lw ⟨ht,fun a ha=>(ho.1 a ha).2.2.1⟩ q
def pTrV (i:Nat) (env:PEnv) (Q:OT->PEnv->Prop):Prop:=match env[i]? with
 | some (some (.d x))=>Q (.leaf x) env
 | some (some (.tr t))=>Q t env
 | some (some (.bt t))=>Q t env
 | _=>False
instance rtr_var {K:Frag} {i:Nat}:RTr K (tVar i) (pTrV i) where
 ok:=by
  rintro c w env σ Qp Q rfl E p k;unfold pTrV at p;split at p
  ·rename_i x e;obtain ⟨v,h1,h2⟩:=E.at' i _ e;exact ⟨v,h1,k v (.leaf x) env w E (Lw.refl w) ⟨⟨v,rfl,h2⟩,fun a z=>nomatch z⟩ p⟩
  ·rename_i t e;obtain ⟨v,h1,h2⟩:=E.at' i _ e;exact ⟨v,h1,k v _ env w E (Lw.refl w) ⟨h2.1,fun a ha=>(h2.2.1 a ha).2.2.1⟩ p⟩
  ·rename_i t e;obtain ⟨v,h1,h2⟩:=E.at' i _ e;exact ⟨v,h1,k v _ env w E (Lw.refl w) (h2.btv E.le0) p⟩
  ·exact p.elim
def B0v (pb:PEnv->(OT->PEnv->Prop)->Prop) (pr:PAs) (env:PEnv) (Q:List SV->PEnv->Prop):Prop:=pb env fun t e1=>pr e1 fun as e2=>Q (.bt t :: as) e2
instance ram_bt {K:Frag} {md:List Md} {ta:TE} {tr:TA} {pb:PEnv->(OT->PEnv->Prop)->Prop} {pr:PAs} [ha:RTr K ta pb] [hr:RAm K md tr pr]:RAm K (.bt :: md) (F9 ta tr) (B0v pb pr) where
 ok:=by
  rintro c w env σ Qp Q rfl E p k;refine ha.ok c w env σ _ _ rfl E p fun x t e1 w1 E1 l1 v1 q1=>?_;refine hr.ok c w1 e1 σ _ _ rfl E1 q1 fun vs xs e2 w2 E2 l2 v2 q2=>?_;exact k _ _ e2 w2 E2 (l1.trans l2) (.bt (v1.mono l2 v1.1.has) v2) q2
def OT.lvs:OT->Option LP
 | .nil=>some []
 | .cons (.leaf x) t=>t.lvs.map (x :: ·)
 | _=>none
theorem T3:∀ xs,(B1 xs).lvs=some xs
 | []=>rfl
 | x :: r=>by show (B1 r).lvs.map _=_; rw [T3 r]; rfl
theorem P1:∀ {t:OT} {xs:LP},t.lvs=some xs->t=B1 xs
 | .nil,_,h=>by cases h; rfl
 | .cons (.leaf x) t,xs,h=>by
  have h':t.lvs.map (x :: ·)=some xs:=h;cases q:t.lvs with
  | none=>rw [q] at h'; cases h'
  | some ys=>rw [q] at h'; cases h'; rw [P1 q]; rfl
def OT.sv:OT->SV
 | .leaf (.list xs)=>.bor xs
 | .leaf x=>.d x
 | .nd true a k=>match k.lvs with
  | some xs=>.bor xs
  | none=>.bt (.nd true a k)
 | t=>.bt t
theorem N9 {a:Addr} {xs:LP}:OT.sv (.nd true a (B1 xs))=.bor xs:=by show (match (B1 xs).lvs with | some xs=>SV.bor xs | none=>_)=_; rw [T3]
theorem VR.sv {c:Ct} {w:Wd} {v:V} {u:OT} (h:VR c w v (.bt u)):VR c w v u.sv:=by
 unfold OT.sv;split
 ·obtain ⟨⟨v',e,h⟩,_⟩:=h;cases e; exact .inl h
 ·obtain ⟨⟨v',e,h⟩,_⟩:=h;cases e; exact h
 ·rename_i a k;split
  ·rename_i xs q;obtain ⟨⟨e,us,h1,h2⟩,h3⟩:=h;cases e;rw [P1 q] at h2;exact .inr ⟨a,us,rfl,h1,h3 a (by simp [OT.fp]),M8 (w:=⟨c.w0.M,c.w0.H,w.F⟩) h2⟩
  ·exact h
 ·exact h
theorem A80 {c:Ct} {env:PEnv} {σ:St} {v:V}:∀ {u:OT},New c env σ v u.sv:=by
 intro u a f;unfold OT.sv at f;split at f
 ·exact f.elim
 ·exact f.elim
 ·split at f
  ·exact f.elim
  ·exact f.elim
 ·exact f.elim
def OT.pair:OT->Option (OT × OT)
 | .nd false _ (.cons u (.cons v .nil))=>some (u,v)
 | .leaf (.tuple [x,y])=>some (.leaf x,.leaf y)
 | _=>none
def pUnp (i a b:Nat) (pr:LP->PEnv->(PEnv->Prop)->Prop) (D:PEnds) (env:PEnv):Prop:=match env[i]? with
 | some (some (.bt t))=>∃ u v,t.pair=some (u,v)/\D.nx ((env.set a (some u.sv)).set b (some v.sv))
 | some (some (.d x))=>qTup 2 pr x env D.nx
 | _=>False
theorem A8n {c:Ct} {w:Wd} {v:V} {t u1 u2:OT} (ok:w.Ok) (l:Le c.w0 w) (h:VR c w v (.bt t)) (e:t.pair=some (u1,u2)):∃ p x y,v=.ref p/\SqT c.K w.H p [x,y]/\VR c w x (.bt u1)/\VR c w y (.bt u2):=by
 unfold OT.pair at e;split at e
 ·rename_i a k1 k2;cases e;obtain ⟨⟨ev,us,h1,x,r,e1,hx,y,r2,e2,hy,e3⟩,h3⟩:=h;cases ev;have e3':r2=[]:=e3;subst e1; subst e2; subst e3';exact ⟨a,x,y,rfl,SqT.of (l.h _ _ h1 (h3 a (by simp [OT.fp]))),⟨hx,fun q hq=>h3 q (by simp [OT.fp,hq])⟩,⟨hy,fun q hq=>h3 q (by simp [OT.fp,hq])⟩⟩
 ·cases e;obtain ⟨⟨v',ev,h⟩,_⟩:=h;cases ev;obtain ⟨p,vs,rfl,h1,h2⟩:=Den.tupE h;cases h2 with
  | cons hx t=>cases t with
   | cons hy t =>
    cases t;exact ⟨p,_,_,rfl,SqT.same ok.sub h1,⟨⟨_,rfl,hx⟩,fun q hq=>nomatch hq⟩,⟨⟨_,rfl,hy⟩,fun q hq=>nomatch hq⟩⟩
 ·cases e
instance (priority:=high) rs_unp {K:Frag} {i a b:Nat} {pr:LP->PEnv->(PEnv->Prop)->Prop} [hr:RGs K (A0f (P2 a) (A0f (P2 b) gNil)) pr]:RS K (tAsg (tVar i) (gTup K 2 (A0f (P2 a) (A0f (P2 b) gNil)))) (pUnp i a b pr) where
 ok:=by
  rintro c w env σ Dp D rfl E h p;unfold pUnp at p;split at p
  ·rename_i t e;obtain ⟨u1,u2,hp,q⟩:=p;obtain ⟨v,h1,h2⟩:=E.at' i _ e;obtain ⟨p,x,y,rfl,hs,hx,hy⟩:=A8n E.wok E.le0 h2 hp;refine ⟨_,h1,p,[x,y],rfl,hs,rfl,x,[y],rfl,y,[],rfl,rfl,?_⟩;have E1:=E.set (i:=a) hx.sv A80;have E2:=E1.set (i:=b) hy.sv A80;exact h.nx _ _ w E2 (Same.refl _) q
  ·rename_i x e;obtain ⟨v,h1,h2⟩:=E.at' i _ e;refine ⟨v,h1,?_⟩;exact rg_tup.ok c w env σ v x _ _ rfl E h2 p fun e2 σ2 E2 q2=>h.nx e2 σ2 w E2 (Same.refl _) q2
  ·exact p.elim
def C7p (i:Nat) (n:Int) (j:Nat) (D:PEnds) (env:PEnv):Prop:=match env[i]? with
 | some (some (.bt t))=>∃ u v,t.pair=some (u,v)/\((n=0/\D.nx (env.set j (some u.sv)))\/(n=1/\D.nx (env.set j (some v.sv))))
 | _=>False
end Pu
namespace Pu
open PySem L2 My Prf
theorem fdE {a:Int} {n:Nat} (h:(n:Int) ∣ a):a.fdiv n=a / n:=Int.fdiv_eq_ediv_of_dvd h
theorem fdN (a n:Nat):(a:Int).fdiv (n:Int)=((a / n:Nat):Int):=by
 rw [Int.fdiv_eq_ediv_of_nonneg _ (Int.natCast_nonneg n)]; rfl
theorem C5v (p q:Rat):p.num.fdiv ((Int.gcd p.num q.den:Nat):Int) * q.num.fdiv ((Int.gcd q.num p.den:Nat):Int)=(p * q).num:=by
 have e:p * q=Rat.mul p q:=rfl;rw [e]; unfold Rat.mul;show _=p.num.divExact _ _ * q.num.divExact _ _;rw [Int.divExact_eq_ediv,Int.divExact_eq_ediv,fdE (Int.gcd_dvd_left ..),fdE (Int.gcd_dvd_left ..)];rfl
theorem C5w (p q:Rat):(p.den:Int).fdiv ((Int.gcd q.num p.den:Nat):Int) * (q.den:Int).fdiv ((Int.gcd p.num q.den:Nat):Int)=((p * q).den:Int):=by
 have e:p * q=Rat.mul p q:=rfl;rw [e]; unfold Rat.mul;show _=((p.den.divExact _ _ * q.den.divExact _ _:Nat):Int);rw [Nat.divExact_eq_div,Nat.divExact_eq_div,fdN,fdN];rfl
theorem C03 (p q:Rat) (g t:Int) (hg:g=((Int.gcd (p.den:Int) (q.den:Int):Nat):Int)) (ht:t=p.num * (q.den:Int).fdiv g + q.num * (p.den:Int).fdiv g) :
  t.fdiv ((Int.gcd t g:Nat):Int)=(p + q).num/\(p.den:Int).fdiv g * (q.den:Int).fdiv ((Int.gcd t g:Nat):Int)=((p + q).den:Int):=by
 have e:p + q=Rat.add p q:=rfl;have hgn:Int.gcd (p.den:Int) (q.den:Int)=Nat.gcd p.den q.den:=rfl;rw [hgn] at hg;rw [e]; unfold Rat.add;dsimp only;split
 ·rename_i h1;rw [h1] at hg;subst hg;have ht':t=p.num * q.den + q.num * p.den:=by rw [ht,fdN,fdN]; simp
  have h2:Int.gcd t ((1:Nat):Int)=1:=by simp
  rw [h2,ht'];refine ⟨by simp,?_⟩;rw [fdN,fdN]; simp
 ·rename_i h1;rw [Rat.maybeNormalize_eq];rw [hg,fdN,fdN] at ht;have h3:Int.gcd t g=t.natAbs.gcd (p.den.gcd q.den):=by rw [hg]; rfl
  rw [h3];subst ht;refine ⟨?_,?_⟩
  ·show _=Int.divExact _ _ (Int.gcd_dvd_left _ ((p.den.gcd q.den:Nat):Int));rw [Int.divExact_eq_ediv];exact fdE (Int.gcd_dvd_left _ ((p.den.gcd q.den:Nat):Int))
  ·show _=((_ / _:Nat):Int);rw [hg,fdN,fdN];have hd:(p.num * ((q.den / p.den.gcd q.den:Nat):Int) + q.num * ((p.den / p.den.gcd q.den:Nat):Int)).natAbs.gcd (p.den.gcd q.den) ∣ q.den:=Nat.dvd_trans (Nat.gcd_dvd_right ..) (Nat.gcd_dvd_right ..);rw [Nat.mul_div_assoc _ hd,Int.natCast_mul]
theorem T4 {t:Int} (q:Rat):((Int.gcd t (q.den:Int):Nat):Int)≠0:=by
 have h:=q.den_nz;intro h0;have h1:Int.gcd t (q.den:Int)=0:=by omega
 have h2:=(Int.gcd_eq_zero_iff.mp h1).2;omega
theorem A6p {t g:Int} (h:g≠0):((Int.gcd t g:Nat):Int)≠0:=by
 intro h0;have h1:Int.gcd t g=0:=by omega
 exact h (Int.gcd_eq_zero_iff.mp h1).2
theorem A2z {k:Nat} {a g:Int} (h:Sm k a) (g1:0<=g):Sm k (a.fdiv g):=by
 unfold Sm at *;rw [Int.fdiv_eq_ediv_of_nonneg _ g1];rcases Int.lt_or_le 0 g with h0 | h0
 ·have h2:=Int.natAbs_ediv_le_natAbs a g;omega
 ·have:g=0:=by omega
  subst this;rw [Int.ediv_zero]; exact Nat.two_pow_pos k
theorem A9f {pr:LP->PEnv->(PEnv->Prop)->Prop} {q:Rat} {env:PEnv} {Q:PEnv->Prop}:qTup 2 pr (dq q) env Q=pr [.int q.num,.int q.den] env Q:=by
 unfold dq; rw [V4]; exact propext ⟨fun h=>h.2,fun h=>⟨rfl,h⟩⟩
theorem C6r (q:Rat):PyData.tuple [.int (-q.num),.int q.den]=dq (-q):=rfl
theorem B3u {q:Rat} (h:q≠0):dq q⁻¹=.tuple [.int (if 0 < q.num then (q.den:Int) else -(q.den:Int)),.int (if 0 < q.num then q.num else -q.num)]:=by
 have hn:=B2i h;have e:q⁻¹=Rat.inv q:=rfl;unfold dq;rw [e]; unfold Rat.inv;by_cases h0:q.num < 0
 ·rw [dif_pos h0,if_neg (by omega),if_neg (by omega)];show PyData.tuple [_,.int ((q.num.natAbs:Nat):Int)]=_;rw [show ((q.num.natAbs:Nat):Int)=-q.num by omega]
 ·have h1:0 < q.num:=by omega
  rw [dif_neg h0,dif_pos h1,if_pos h1,if_pos h1];show PyData.tuple [_,.int ((q.num.natAbs:Nat):Int)]=_;rw [show ((q.num.natAbs:Nat):Int)=q.num by omega]
theorem B9q {k:Nat} {q:Rat} (h:SmQ k q) (hq:q≠0):SmQ k q⁻¹:=by
 have e:=B3u hq;unfold dq at e;injection e with e
 injection e with e1 e2
 injection e2 with e2 _
 injection e1 with e1
 injection e2 with e2
 refine ⟨?_,?_⟩
 ·show Sm k q⁻¹.num;rw [e1];have:=h.2;unfold Sm at *;split <;> omega
 ·show Sm k (q⁻¹.den:Int);rw [e2];have:=h.1;unfold Sm at *;split <;> omega
end Pu
namespace Pu
open PySem L2 My Prf
section
variable {x y:PyData} {xs ys:LP} {i j:Nat} {env e:PEnv} {s:SV} {t:OT}
theorem C66 {k:PyData->Prop}:(SV.d x).asD k=k x:=rfl
theorem C65 {k:PyData->Prop}:(SV.own xs).asD k=k (.list xs):=rfl
def oVar (o:Option (Option SV)) (i:Nat) (env:PEnv) (Q:SV->PEnv->Prop):Prop:=match o with
 | some (some (.d x))=>Q (.d x) env
 | some (some (.own xs))=>Q (.d (.list xs)) (env.set i (some (.d (.list xs))))
 | some (some .st)=>Q .st env
 | _=>False
theorem B7t {Q:SV->PEnv->Prop}:pVar i env Q=oVar env[i]? i env Q:=rfl
theorem B8x {Q:SV->PEnv->Prop}:oVar (some (some (.d x))) i env Q=Q (.d x) env:=rfl
theorem B8w {Q:SV->PEnv->Prop}:oVar (some (some (.own xs))) i env Q=Q (.d (.list xs)) (env.set i (some (.d (.list xs)))):=rfl
theorem B8v {Q:SV->PEnv->Prop}:oVar (some (some .st)) i env Q=Q .st env:=rfl
def B54 (o:Option (Option SV)) (env:PEnv) (Q:PyData->PEnv->Prop):Prop:=match o with
 | some (some (.d x))=>Q x env
 | some (some (.own xs))=>Q (.list xs) env
 | some (some (.bor xs))=>Q (.list xs) env
 | _=>False
theorem A91 {Q:PyData->PEnv->Prop}:C1f i env Q=B54 env[i]? env Q:=rfl
theorem B1p {Q:PyData->PEnv->Prop}:B54 (some (some (.d x))) env Q=Q x env:=rfl
theorem B1o {Q:PyData->PEnv->Prop}:B54 (some (some (.own xs))) env Q=Q (.list xs) env:=rfl
theorem B1q {Q:PyData->PEnv->Prop}:B54 (some (some (.bor xs))) env Q=Q (.list xs) env:=rfl
theorem pI_i {C:Int->Int->Prop} {gd:Int->Int->PyData} {i j:Int} {Q:SV->Prop}:pI C gd (.int i) (.int j) Q=(C i j/\Q (.d (gd i j))):=rfl
theorem C4s {gd:Int->Int->PyData} {i j:Int} {Q:SV->Prop}:pI0 gd (.int i) (.int j) Q=Q (.d (gd i j)):=rfl
theorem pU_i {gd:Int->PyData} {i:Int} {Q:SV->Prop}:pU gd (.int i) Q=Q (.d (gd i)):=rfl
theorem B8q {i:Int} {Q:SV->Prop}:pAbs [.int i] Q=Q (.d (.int (if i < 0 then -i else i))):=rfl
theorem B72 {i j:Int} {Q:SV->Prop}:pMax [.int i,.int j] Q=Q (.d (.int (if j > i then j else i))):=rfl
theorem B71 {i j:Int} {Q:SV->Prop}:pMin [.int i,.int j] Q=Q (.d (.int (if j < i then j else i))):=rfl
theorem B8c {i:Int} {Q:SV->Prop}:pInt [.int i] Q=Q (.d (.int i)):=rfl
theorem B8d {b:Bool} {Q:SV->Prop}:pInt [.bool b] Q=Q (.d (.int (if b then 1 else 0))):=rfl
theorem A5j {Q:SV->Prop}:A5k [.list ys] Q=Q (.own ys):=rfl
theorem A5i {Q:SV->Prop}:A5k [.tuple ys] Q=Q (.own ys):=rfl
def oKit (o:Option Bool) (Q:SV->Prop):Prop:=match o with
 | some b=>Q (.d (.bool b))
 | none=>False
theorem B8a {c:String} {pa:PDt} {Q:SV->PEnv->Prop}:pIsi c pa env Q=pa env fun x e=>oKit (kitB (tyD x) c) fun s=>Q s e:=rfl
theorem B0o {cs:List String} {pa:PDt} {Q:SV->PEnv->Prop}:C4r cs pa env Q=pa env fun x e=>cs.length<=1000/\oKit (U6 (tyD x) cs) fun s=>Q s e:=rfl
theorem B85 {b:Bool} {Q:SV->Prop}:oKit (some b) Q=Q (.d (.bool b)):=rfl
theorem C67 {b:Bool} {k:Bool->Prop}:asB (.bool b) k=k b:=rfl
theorem C60 {k:LP->Prop}:asL (.list xs) k=k xs:=rfl
theorem B9l {k:Prop}:isSt (some (some .st)) k=k:=rfl
theorem C61 {i:Int} {k:Int->Prop}:asI (.int i) k=k i:=rfl
def B14 (o:Option (Option SV)) (D:PEnds) (env:PEnv):Prop:=match o with
 | some (some (.bor _))=>False
 | some (some (.bt _))=>False
 | some (some (.al _))=>False
 | some (some s)=>D.rt s env
 | _=>False
theorem A97 {D:PEnds}:C1j i D env=B14 env[i]? D env:=rfl
theorem B13 {D:PEnds}:B14 (some (some (.d x))) D env=D.rt (.d x) env:=rfl
theorem B12 {D:PEnds}:B14 (some (some (.own xs))) D env=D.rt (.own xs) env:=rfl
theorem B11 {D:PEnds}:B14 (some (some .st)) D env=D.rt .st env:=rfl
theorem B10 {D:PEnds}:B14 (some (some (.tr t))) D env=D.rt (.tr t) env:=rfl
theorem A9g {Q:PEnv->Prop}:qNil [] env Q=Q env:=rfl
theorem A3y {pg:PyData->PEnv->(PEnv->Prop)->Prop} {pr:LP->PEnv->(PEnv->Prop)->Prop} {Q:PEnv->Prop}:C0o pg pr (x :: xs) env Q=pg x env fun e=>pr xs e Q:=rfl
def oPar (i j:Nat) (xs:LP) (D:PEnds) (e:PEnv):Prop:=match xs with
 | [x,y]=>D.nx ((e.set i (some (.d x))).set j (some (.d y)))
 | _=>False
theorem B70 {pa:PAr} {D:PEnds}:pPar i j pa D env=pa env fun xs e=>oPar i j xs D e:=rfl
theorem B83 {D:PEnds}:oPar i j [x,y] D e=D.nx ((e.set i (some (.d x))).set j (some (.d y))):=rfl
theorem B4y {k:LP->Prop}:M7 (some (some (.own xs))) k=k xs:=rfl
def A51 (o:Option (Option SV)) (i:Nat) (env:PEnv) (Q:LP->PEnv->Prop):Prop:=match o with
 | some (some (.d x))=>U8 x fun xs=>Q xs env
 | some (some (.own xs))=>Q xs (env.set i (some (.d (.list xs))))
 | some (some (.bor xs))=>Q xs env
 | _=>False
theorem A5o {Q:LP->PEnv->Prop}:B0l i env Q=A51 env[i]? i env Q:=rfl
theorem A5z {Q:LP->PEnv->Prop}:A51 (some (some (.d x))) i env Q=U8 x fun xs=>Q xs env:=rfl
theorem A5y {Q:LP->PEnv->Prop}:A51 (some (some (.own xs))) i env Q=Q xs (env.set i (some (.d (.list xs)))):=rfl
theorem A50 {Q:LP->PEnv->Prop}:A51 (some (some (.bor xs))) i env Q=Q xs env:=rfl
def C5k (xs:LP) (Q:LP->Prop):Prop:=match xs with
 | [.int j]=>(-(2 ^ 62)<=j/\j < 2 ^ 62)/\Q (rngD 0 j.toNat)
 | _=>False
theorem A96 {pa:PAr} {Q:LP->PEnv->Prop}:C4j pa env Q=pa env fun xs e=>C5k xs fun ys=>Q ys e:=rfl
theorem B1z {j:Int} {Q:LP->Prop}:C5k [.int j] Q=((-(2 ^ 62)<=j/\j < 2 ^ 62)/\Q (rngD 0 j.toNat)):=rfl
def C5j (xs:LP) (Q:LP->Prop):Prop:=match xs with
 | [.int i,.int j]=>(-(2 ^ 62)<=i/\i < 2 ^ 62/\-(2 ^ 62)<=j/\j < 2 ^ 62)/\Q (rngD i (j - i).toNat)
 | _=>False
theorem A95 {pa:PAr} {Q:LP->PEnv->Prop}:C4i pa env Q=pa env fun xs e=>C5j xs fun ys=>Q ys e:=rfl
theorem B1y {i j:Int} {Q:LP->Prop}:C5j [.int i,.int j] Q=((-(2 ^ 62)<=i/\i < 2 ^ 62/\-(2 ^ 62)<=j/\j < 2 ^ 62)/\Q (rngD i (j - i).toNat)):=rfl
def C5i (xs:LP) (Q:LP->Prop):Prop:=match xs with
 | [.int i,.int j,.int k]=>k=-1/\((-(2 ^ 61)<=i/\i < 2 ^ 61)/\-(2 ^ 61)<=j/\j < 2 ^ 61)/\Q (dwnD i (i - j).toNat)
 | _=>False
theorem A94 {pa:PAr} {Q:LP->PEnv->Prop}:C7n pa env Q=pa env fun xs e=>C5i xs fun ys=>Q ys e:=rfl
theorem B1x {i j k:Int} {Q:LP->Prop}:C5i [.int i,.int j,.int k] Q=(k=-1/\((-(2 ^ 61)<=i/\i < 2 ^ 61)/\-(2 ^ 61)<=j/\j < 2 ^ 61)/\Q (dwnD i (i - j).toNat)):=rfl
theorem B8i {Q:SV->Prop}:pCat (.list xs) (.list ys) Q=(xs.length + ys.length<=1000000/\Q (.own (xs++ys))):=rfl
theorem B8p {Q:SV->Prop}:pAll [.list ys] Q=∃ bs,blsD ys=some bs/\Q (.d (.bool (bs.all id))):=rfl
theorem B8o {Q:SV->Prop}:pAny [.list ys] Q=∃ bs,blsD ys=some bs/\Q (.d (.bool (bs.any id))):=rfl
def B55 (o:Option (Option SV)) (i:Nat) (env:PEnv) (Q:LP->PEnv->Prop):Prop:=match o with
 | some (some (.d x))=>asL x fun xs=>Q xs env
 | some (some (.own xs))=>Q xs (env.set i (some (.d (.list xs))))
 | some (some (.bor xs))=>Q xs env
 | _=>False
theorem B0d {Q:LP->PEnv->Prop}:C1o i env Q=B55 env[i]? i env Q:=rfl
theorem B2a {Q:LP->PEnv->Prop}:B55 (some (some (.d x))) i env Q=asL x fun xs=>Q xs env:=rfl
theorem B19 {Q:LP->PEnv->Prop}:B55 (some (some (.own xs))) i env Q=Q xs (env.set i (some (.d (.list xs)))):=rfl
theorem B2b {Q:LP->PEnv->Prop}:B55 (some (some (.bor xs))) i env Q=Q xs env:=rfl
def oZip (xss:List LP) (Q:LP->Prop):Prop:=match xss with
 | [xs,ys]=>Q (zipD xs ys)
 | _=>False
theorem B7s {pa:PEnv->(List LP->PEnv->Prop)->Prop} {Q:LP->PEnv->Prop}:pZip pa env Q=pa env fun xss e=>oZip xss fun ys=>Q ys e:=rfl
theorem B8u {Q:LP->Prop}:oZip [xs,ys] Q=Q (zipD xs ys):=rfl
def C5o (xss:List LP) (Q:LP->Prop):Prop:=match xss with
 | [xs]=>Q (A22 xs)
 | _=>False
theorem B0q {pa:PEnv->(List LP->PEnv->Prop)->Prop} {Q:LP->PEnv->Prop}:C4v pa env Q=pa env fun xss e=>C5o xss fun ys=>Q ys e:=rfl
theorem B2f {Q:LP->Prop}:C5o [xs] Q=Q (A22 xs):=rfl
def B1v (o:Option (Option SV)) (env:PEnv) (Q:PyData->PEnv->Prop):Prop:=match o with
 | some (some (.d x))=>Q x env
 | some (some (.own xs))=>Q (.list xs) env
 | some (some (.bor xs))=>Q (.list xs) env
 | some (some (.tr t))=>∃ x,t.dat=[x]/\Q x env
 | _=>False
theorem A92 {Q:PyData->PEnv->Prop}:C1g i env Q=B1v env[i]? env Q:=rfl
theorem B1t {Q:PyData->PEnv->Prop}:B1v (some (some (.d x))) env Q=Q x env:=rfl
theorem B1s {Q:PyData->PEnv->Prop}:B1v (some (some (.own xs))) env Q=Q (.list xs) env:=rfl
theorem B1u {Q:PyData->PEnv->Prop}:B1v (some (some (.bor xs))) env Q=Q (.list xs) env:=rfl
theorem B1r {Q:PyData->PEnv->Prop}:B1v (some (some (.tr t))) env Q=∃ x,t.dat=[x]/\Q x env:=rfl
theorem ot_d {k:OT->Prop}:(SV.d x).ot k=k (.leaf x):=rfl
theorem ot_o {k:OT->Prop}:(SV.own xs).ot k=∀ a,k (.nd true a (B1 xs)):=rfl
theorem ot_t {k:OT->Prop}:(SV.tr t).ot k=k t:=rfl
theorem B91 {k:OT->Prop}:asTr (some (some (.tr t))) k=k t:=rfl
theorem C64 {k:PyData->Prop}:(SV.d x).asH k=k x:=rfl
theorem C63 {k:PyData->Prop}:(SV.own xs).asH k=k (.list xs):=rfl
theorem C62 {k:PyData->Prop}:(SV.tr t).asH k=∃ x,t.dat=[x]/\k x:=rfl
def oTrV (o:Option (Option SV)) (env:PEnv) (Q:OT->PEnv->Prop):Prop:=match o with
 | some (some (.d x))=>Q (.leaf x) env
 | some (some (.tr t))=>Q t env
 | some (some (.bt t))=>Q t env
 | _=>False
theorem B7w {Q:OT->PEnv->Prop}:pTrV i env Q=oTrV env[i]? env Q:=rfl
theorem B81 {Q:OT->PEnv->Prop}:oTrV (some (some (.d x))) env Q=Q (.leaf x) env:=rfl
theorem B80 {Q:OT->PEnv->Prop}:oTrV (some (some (.tr t))) env Q=Q t env:=rfl
theorem B82 {Q:OT->PEnv->Prop}:oTrV (some (some (.bt t))) env Q=Q t env:=rfl
def oUnp (o:Option (Option SV)) (a b:Nat) (pr:LP->PEnv->(PEnv->Prop)->Prop) (D:PEnds) (env:PEnv):Prop:=match o with
 | some (some (.bt t))=>∃ u v,t.pair=some (u,v)/\D.nx ((env.set a (some u.sv)).set b (some v.sv))
 | some (some (.d x))=>qTup 2 pr x env D.nx
 | _=>False
theorem B7u {a b:Nat} {pr:LP->PEnv->(PEnv->Prop)->Prop} {D:PEnds}:pUnp i a b pr D env=oUnp env[i]? a b pr D env:=rfl
theorem B8z {a b:Nat} {pr:LP->PEnv->(PEnv->Prop)->Prop} {D:PEnds}:oUnp (some (some (.bt t))) a b pr D env=∃ u v,t.pair=some (u,v)/\D.nx ((env.set a (some u.sv)).set b (some v.sv)):=rfl
theorem B8y {a b:Nat} {pr:LP->PEnv->(PEnv->Prop)->Prop} {D:PEnds}:oUnp (some (some (.d x))) a b pr D env=qTup 2 pr x env D.nx:=rfl
def C5p (o:Option (Option SV)) (n:Int) (j:Nat) (D:PEnds) (env:PEnv):Prop:=match o with
 | some (some (.bt t))=>∃ u v,t.pair=some (u,v)/\((n=0/\D.nx (env.set j (some u.sv)))\/(n=1/\D.nx (env.set j (some v.sv))))
 | _=>False
theorem B05 {n:Int} {D:PEnds}:C7p i n j D env=C5p env[i]? n j D env:=rfl
theorem B2h {n:Int} {D:PEnds}:C5p (some (some (.bt t))) n j D env=∃ u v,t.pair=some (u,v)/\((n=0/\D.nx (env.set j (some u.sv)))\/(n=1/\D.nx (env.set j (some v.sv)))):=rfl
class Box (α:Type) where
 f:α->Prop
def hold {α:Type} [b:Box α] (x:α):Prop:=b.f x
theorem A6m {α:Type} {f:α->Prop} {x:α}:@hold α ⟨f⟩ x=f x:=rfl
theorem B03 {psp:PSp} {pa:PAs} {env:PEnv} {Q:SV->PEnv->Prop}:C1z psp pa env Q=pa env fun as e=>psp as (@hold SV ⟨fun s=>Q s e⟩):=rfl
theorem A5u {psp:PSp} {pa pb:PDt} {env:PEnv} {Q:SV->PEnv->Prop}:B8j psp pa pb env Q=pa env fun x e=>pb e fun y e2=>psp [.d x,.d y] (@hold SV ⟨fun s=>∃ b,s=.d (.bool b)/\Q (.d (.bool b)) e2⟩):=rfl
theorem B74 {xs:LP} {i:Int} {Q:SV->Prop}:pIx (.list xs) (.int i) Q=pGet xs i (@hold SV ⟨Q⟩):=rfl
theorem B73 {xs:LP} {i:Int} {Q:SV->Prop}:pIx (.tuple xs) (.int i) Q=pGet xs i (@hold SV ⟨Q⟩):=rfl
theorem B0x {pi:PAr} {pg:PyData->PEnv->(PEnv->Prop)->Prop} {pt:PTt} {pd:PDt} {cap:List (Option Nat)} {env:PEnv} {Q:SV->PEnv->Prop}:C41 pi pg pt pd cap env Q=pi env fun xs e=>xs.length < 1000000/\N2 xs pg pt pd (F0 cap e) (@hold LP ⟨fun ys=>Q (.own ys) e⟩):=rfl
theorem A0p {pi:PAr} {pg:PyData->PEnv->(PEnv->Prop)->Prop} {pt:PTt} {pd:PDt} {cap:List (Option Nat)} {i:Nat} {D:PEnds} {env:PEnv}:A5h pi pg pt pd cap i D env=pi env fun xs e=>xs.length < 1000000/\N2 xs pg pt pd (F0 cap e) (@hold LP ⟨fun ys=>D.nx (e.set i (some (.own ys)))⟩):=rfl
end
end Pu
namespace L2
open PySem PySem.Spec PyProof.Rows
section
variable {X:Cx}
def rInD (K:PySem.W.Frag) (neg:Bool):R2:=fun x y H Q=>∃ dx dy xs,Den K H x dx/\Den K H y dy/\(dy=.list xs\/dy=.tuple xs)/\PyData.canLayAll0 xs=true/\dx.canLay0=true/\dx.depth<=60/\Q (.bl (if neg then !(xs.any fun z=>z.eqv dx) else xs.any fun z=>z.eqv dx)) H
theorem C49 (hu:X.A.units + 64 < cLine):OpR X (compareOp .In) (rInD X.K false):=by
 intro pins s σ H x y v u Q I rx ry h;obtain ⟨dx,dy,xs,h1,h2,h3,c1,c2,hd,q⟩:=h;obtain ⟨as,r1⟩:=h1.reads I rx c2;obtain ⟨bs,r2⟩:=h2.reads I ry (by rcases h3 with rfl | rfl <;> exact c1)
 rcases h3 with rfl | rfl
 ·exact PySem.SeqAt.in_list_reads r2 r1 c1 c2 (by omega) ⟨.bl _,H,I,rfl,q⟩
 ·exact PySem.SeqAt.in_tuple_reads r2 r1 c1 c2 (by omega) ⟨.bl _,H,I,rfl,q⟩
theorem B08 (hu:X.A.units + 64 < cLine):OpR X (compareOp .NotIn) (rInD X.K true):=by
 intro pins s σ H x y v u Q I rx ry h;obtain ⟨dx,dy,xs,h1,h2,h3,c1,c2,hd,q⟩:=h;obtain ⟨as,r1⟩:=h1.reads I rx c2;obtain ⟨bs,r2⟩:=h2.reads I ry (by rcases h3 with rfl | rfl <;> exact c1)
 rcases h3 with rfl | rfl
 ·exact PySem.SeqAt.notIn_list_reads r2 r1 c1 c2 (by omega) ⟨.bl _,H,I,rfl,q⟩
 ·exact PySem.SeqAt.notIn_tuple_reads r2 r1 c1 c2 (by omega) ⟨.bl _,H,I,rfl,q⟩
theorem C13 {K:PySem.W.Frag} (h:X.K=K) (hu:X.A.units + 64 < cLine):OpR X (compareOp .In) (rInD K false):=by subst h; exact C49 hu
theorem M2 {K:PySem.W.Frag} (h:X.K=K) (hu:X.A.units + 64 < cLine):OpR X (compareOp .NotIn) (rInD K true):=by subst h; exact B08 hu
end
end L2
namespace Pu
open PySem L2 My Prf
def pIn (neg:Bool) (x y:PyData) (Q:SV->Prop):Prop:=U8 y fun xs=>PyData.canLayAll0 xs=true/\x.canLay0=true/\x.depth<=60/\Q (.d (.bool (if neg then !(xs.any fun z=>z.eqv x) else xs.any fun z=>z.eqv x)))
instance ro_in {K:Frag} {neg:Bool}:RO K (rInD K neg) (pIn neg) where
 ok:=by
  rintro c w env σ x y dx dy Qp Q rfl E vx vy p k;unfold pIn U8 at p;split at p
  ·rename_i xs;exact ⟨dx,_,xs,vx.den E.wok,vy.den E.wok,.inl rfl,p.1,p.2.1,p.2.2.1,k _ _ w (Res.data E (.bl _)) p.2.2.2⟩
  ·rename_i xs;exact ⟨dx,_,xs,vx.den E.wok,vy.den E.wok,.inr rfl,p.1,p.2.1,p.2.2.1,k _ _ w (Res.data E (.bl _)) p.2.2.2⟩
  ·exact p.elim
theorem hm_H {w:Wd}:Same (hm w) w.H:=fun _ _ h=>(A6n h).1
instance (priority:=high) re_neH {K:Frag} {ta tb:TE} {pa pb:PDt} [ha:RH K ta pa] [hb:RH K tb pb]:RE K (tOp (rNeD K) ta tb) (pOp pNeD pa pb) where
 ok:=by
  rintro c w env σ Qp Q rfl E p k;refine ha.ok c w env σ _ _ rfl E p fun x dx e1 w1 E1 l1 v1 q1=>?_;refine hb.ok c w1 e1 σ _ _ rfl E1 q1 fun y dy e2 w2 E2 l2 v2 q2=>?_;have v1':VH c.K w2 x dx:=Den.same (B6i l2) v1;exact ⟨dx,dy,Den.same hm_H v1',Den.same hm_H v2,q2.1,q2.2.1,q2.2.2.1,k _ _ e2 w2 ((Res.data E2 (.bl _)).pre (l1.trans l2)) q2.2.2.2⟩
instance (priority:=high) re_eqH {K:Frag} {ta tb:TE} {pa pb:PDt} [ha:RH K ta pa] [hb:RH K tb pb]:RE K (tOp (rEqD K) ta tb) (pOp pEqD pa pb) where
 ok:=by
  rintro c w env σ Qp Q rfl E p k;refine ha.ok c w env σ _ _ rfl E p fun x dx e1 w1 E1 l1 v1 q1=>?_;refine hb.ok c w1 e1 σ _ _ rfl E1 q1 fun y dy e2 w2 E2 l2 v2 q2=>?_;have v1':VH c.K w2 x dx:=Den.same (B6i l2) v1;exact ⟨dx,dy,Den.same hm_H v1',Den.same hm_H v2,q2.1,q2.2.1,q2.2.2.1,k _ _ e2 w2 ((Res.data E2 (.bl _)).pre (l1.trans l2)) q2.2.2.2⟩
def B2e (o:Option (Option SV)) (n:Int) (env:PEnv) (Q:LP->PEnv->Prop):Prop:=match o with
 | some (some (.bt t))=>∃ u v xs,t.pair=some (u,v)/\n=1/\v.sv=.bor xs/\Q xs env
 | _=>False
def A5p (i:Nat) (n:Int) (env:PEnv) (Q:LP->PEnv->Prop):Prop:=B2e env[i]? n env Q
theorem A52 {t:OT} {n:Int} {env:PEnv} {Q:LP->PEnv->Prop}:B2e (some (some (.bt t))) n env Q=∃ u v xs,t.pair=some (u,v)/\n=1/\v.sv=.bor xs/\Q xs env:=rfl
instance (priority:=high) ri_kid {K:Frag} {i:Nat} {n:Int}:RI K (iSq K (tKid K i n)) (A5p i n) where
 ok:=by
  rintro c w env σ Qp R rfl E p k;unfold A5p B2e at p;split at p
  ·rename_i t e;obtain ⟨u1,u2,xs,hp,rfl,hx2,p⟩:=p;obtain ⟨v,h1,h2⟩:=E.at' i _ e;obtain ⟨p',x,y,rfl,hs,hx,hy⟩:=A8n E.wok E.le0 h2 hp;refine ⟨_,h1,.inr (.inl ⟨p',[x,y],1,y,rfl,rfl,hs,rfl,?_⟩)⟩;have h2:=hy.sv;rw [hx2] at h2;rcases h2 with h2 | ⟨l,vs,ev,g1,g2,g3⟩
   ·obtain ⟨a,vs,e,g1,g2⟩:=Den.lstE h2;exact .inl ⟨a,e,⟨vs,E.wok.sub.seq g1⟩,k _ _ env w E (Lw.refl w) (L0 g2 fun w' ok l s=>(s.trans ok.sub).seq g1) p⟩
   ·exact .inl ⟨l,ev,⟨vs,SqL.of (E.le0.h _ _ g1 g2)⟩,k _ _ env w E (Lw.refl w) (L0 g3 fun w' ok l' s=>SqL.of (l'.h _ _ g1 g2)) p⟩
  ·exact p.elim
theorem EnvOk.take {c:Ct} {w:Wd} {env:PEnv} {σ:St} {i:Nat} {s:SV} (E:EnvOk c w env σ) (h:env[i]?=some (some s)) (hr:s.isRes=true):∃ v,σ[i]?=some (some v)/\Res c w (env.set i none) σ w v s:=by
 obtain ⟨v,hv,hV⟩:=E.at' i _ h;have up:∀ {j:Nat} {t:SV},(env.set i none)[j]?=some (some t)->i≠j/\env[j]?=some (some t):=by
  intro j t q;rw [List.getElem?_set] at q;split at q
  ·split at q <;> cases q
  ·rename_i z; exact ⟨z,q⟩
 have E':EnvOk c w (env.set i none) σ:=⟨E.wok,E.le0,by simpa using E.len,fun j s q=>E.at' j s (up q).2,fun j k s t v u a q1 q2=>E.own j k s t v u a (up q1).2 (up q2).2,E.zf,fun a j t u za q=>E.zo a j t u za (up q).2⟩;exact ⟨v,hv,E',Lw.refl w,hV,fun a f=>⟨fun j t u q z g=>(up q).1 (E.own i j _ _ _ _ a h (up q).2 hv z f g),fun za=>E.zo a i _ _ za h hv f⟩,hr⟩
def B18 (o:Option (Option SV)) (i:Nat) (env:PEnv) (k:OT->PEnv->Prop):Prop:=match o with
 | some (some (.d x))=>k (.leaf x) env
 | some (some (.own xs))=>∀ a,k (.nd true a (B1 xs)) (env.set i none)
 | some (some (.tr t))=>k t (env.set i none)
 | _=>False
theorem B17 {x:PyData} {i:Nat} {env:PEnv} {k:OT->PEnv->Prop}:B18 (some (some (.d x))) i env k=k (.leaf x) env:=rfl
theorem B16 {xs:LP} {i:Nat} {env:PEnv} {k:OT->PEnv->Prop}:B18 (some (some (.own xs))) i env k=∀ a,k (.nd true a (B1 xs)) (env.set i none):=rfl
theorem B15 {t:OT} {i:Nat} {env:PEnv} {k:OT->PEnv->Prop}:B18 (some (some (.tr t))) i env k=k t (env.set i none):=rfl
def A5s (i:Nat) (pr:PEnv->(OT->PEnv->Prop)->Prop) (env:PEnv) (Q:OT->PEnv->Prop):Prop:=B18 env[i]? i env fun t e1=>pr e1 fun r e2=>(∀ a ∈ r.fp,a ∉ t.fp)->Q (.cons t r) e2
instance (priority:=high) rat_move {K:Frag} {i:Nat} {tr:TA} {pr:PEnv->(OT->PEnv->Prop)->Prop} [hr:RAt K tr pr]:RAt K (F9 (tVar i) tr) (A5s i pr) where
 ok:=by
  rintro c w env σ Qp Q rfl E p k;have go:∀ (e1:PEnv) (v:V) (s:SV),σ[i]?=some (some v)->Res c w e1 σ w v s->(s.ot fun t=>pr e1 fun r e2=>(∀ a ∈ r.fp,a ∉ t.fp)->Qp (.cons t r) e2)->F9 (tVar i) tr σ w.H Q:=by
   intro e1 v s hv R q1;refine ⟨v,hv,?_⟩;obtain ⟨t,ht,ho,hn,q⟩:=R.ot q1;refine hr.ok (c.with t) w e1 σ _ _ rfl (R.ev.hold ho hn) q fun vs r e2 w2 E2 l2 hr' ho' hn' q2=>?_;refine k (v :: vs) (.cons t r) e2 w2 E2.letgo (R.lw.trans l2) ⟨v,vs,rfl,ht.mono l2 fun a ha=>(ho.1 a ha).2.2.1,hr'⟩ ⟨fun a ha=>?_,List.nodup_append.mpr ⟨ho.2,ho'.2,fun a ha b hb e=>(hn' b hb).2 (.inr (e ▸ ha))⟩⟩ (fun a ha=>?_) (q2 fun a ha z=>(hn' a ha).2 (.inr z))
   ·rcases Za (show a ∈ t.fp++r.fp from ha) with z | z
    ·obtain ⟨z1,z2,z3⟩:=E2.zf a (.inr z);exact ⟨z2,z1,z3,(ho.1 a z).2.2.2⟩
    ·exact ho'.1 a z
   ·rcases Za (show a ∈ t.fp++r.fp from ha) with z | z
    ·exact ⟨fun j s u q q'=>E2.zo a j s u (.inr z) q q',(hn a z).2⟩
    ·exact ⟨(hn' a z).1,fun y=>(hn' a z).2 (.inl y)⟩
  unfold A5s B18 at p;split at p
  ·rename_i x e;obtain ⟨v,h1,h2⟩:=E.at' i _ e;exact go env v (.d x) h1 (Res.data E h2) p
  ·rename_i xs e;obtain ⟨v,h1,R⟩:=E.take e rfl;exact go _ v (.own xs) h1 R p
  ·rename_i t e;obtain ⟨v,h1,R⟩:=E.take e rfl;exact go _ v (.tr t) h1 R p
  ·exact p.elim
def C4q (i:Nat) (n:Int) (env:PEnv) (Q:SV->PEnv->Prop):Prop:=asTr env[i]? fun t=>∃ (m:Nat) (b:Bool) (a:Addr) (ks:OT) (x:PyData),n=m/\t=.nd b a ks/\ks.kid m=some (.leaf x)/\Q (.d x) env
end Pu
namespace L2
open PySem PySem.Spec PyProof.Rows
section
variable {X:Cx} {tg:Expr}
def Its (x:Str):It:=⟨fun i _=>i < x.cps.size,fun i H v H'=>H'=H/\∃ c,x.cps[i]?=some c/\v=.str ⟨#[c]⟩,fun i _=>x.cps.size<=i⟩
theorem A8t {P:Program} {w:World} {K:PySem.W.Frag} {tg:Expr} (it:Addr) (x:Str) (t:Tok):Turn P w K tg (Its x) [it] it (fun i h=>h.IsStrIter it "str_ascii_iterator" x t i) where
 mem:=by simp
 obj:=fun i h st b hb=>by
  have e:b=it:=by simpa using hb
  subst e;obtain ⟨o,e,c,d⟩:=st;exact ⟨o,e,fun v z=>by rw [d] at z; cases z⟩
 keep:=fun i h h' ⟨o,e,c,d⟩ k=>⟨o,k it (by simp) o e,c,d⟩
 item:=by
  intro X hP hw hK hc i pins s σ H E I hf st hg;subst hP hw hK;have hg:i < x.cps.size:=hg;obtain ⟨f0,f1,f2,f3,f4,f5⟩:=hf it (by simp);refine wpAny_pyNext_ascii_item (c:=x.cps[i]) st (Array.getElem?_eq_getElem hg) fun h' st' sb=>?_;have I1:Inv X pins σ H { s with heap:=h',toks:=s.toks + 1 }:=I.turned (t':=s.toks + 1) (fun b o hb e=>(sb.2 b hb).trans e) f0 f1 f3 f4 f5;obtain ⟨o,e,c,d⟩:=id st';exact ⟨_,rfl,A71 (s:={ s with heap:=h',toks:=s.toks + 1 }) e c d (by decide) ⟨.str ⟨#[x.cps[i]]⟩,H,I1,⟨_,rfl⟩,⟨rfl,_,Array.getElem?_eq_getElem hg,rfl⟩,st',fun b hb=>(hf b hb).1⟩⟩
 done:=by
  intro X hP hw hK hc i pins s σ H E I hf st hg;subst hP hw hK;have hg:x.cps.size<=i:=hg;obtain ⟨f0,f1,f2,f3,f4,f5⟩:=hf it (by simp);exact wpAny_pyNext_ascii_end (I.ok.hd hc) st (Array.getElem?_eq_none hg) fun h' eb=>⟨rfl,I.turned (t':=s.toks) (fun b o hb e=>eb b o hb e) f0 f1 f3 f4 f5⟩
 self:=fun _ _ _ _ _ st h=>wpAny_pyIter_striter_ascii st h
theorem A8s {P:Program} {w:World} {K:PySem.W.Frag} {tg:Expr} (it:Addr) (x:Str) (t:Tok):Turn P w K tg (Its x) [it] it (fun i h=>h.IsStrIter it "str_iterator" x t i) where
 mem:=by simp
 obj:=fun i h st b hb=>by
  have e:b=it:=by simpa using hb
  subst e;obtain ⟨o,e,c,d⟩:=st;exact ⟨o,e,fun v z=>by rw [d] at z; cases z⟩
 keep:=fun i h h' ⟨o,e,c,d⟩ k=>⟨o,k it (by simp) o e,c,d⟩
 item:=by
  intro X hP hw hK hc i pins s σ H E I hf st hg;subst hP hw hK;have hg:i < x.cps.size:=hg;obtain ⟨f0,f1,f2,f3,f4,f5⟩:=hf it (by simp);refine wpAny_pyNext_wide_item (c:=x.cps[i]) st (Array.getElem?_eq_getElem hg) fun h' st' sb=>?_;have I1:Inv X pins σ H { s with heap:=h',toks:=s.toks + 1 }:=I.turned (t':=s.toks + 1) (fun b o hb e=>(sb.2 b hb).trans e) f0 f1 f3 f4 f5;obtain ⟨o,e,c,d⟩:=id st';exact ⟨_,rfl,A71 (s:={ s with heap:=h',toks:=s.toks + 1 }) e c d (by decide) ⟨.str ⟨#[x.cps[i]]⟩,H,I1,⟨_,rfl⟩,⟨rfl,_,Array.getElem?_eq_getElem hg,rfl⟩,st',fun b hb=>(hf b hb).1⟩⟩
 done:=by
  intro X hP hw hK hc i pins s σ H E I hf st hg;subst hP hw hK;have hg:x.cps.size<=i:=hg;obtain ⟨f0,f1,f2,f3,f4,f5⟩:=hf it (by simp);exact wpAny_pyNext_wide_end (I.ok.hd hc) st (Array.getElem?_eq_none hg) fun h' eb=>⟨rfl,I.turned (t':=s.toks) (fun b o hb e=>eb b o hb e) f0 f1 f3 f4 f5⟩
 self:=fun _ _ _ _ _ st h=>wpAny_pyIter_striter_wide st h
def iStr (tl:TE):TI:=fun σ H R=>tl σ H fun x H1=>∃ z,x=.str z/\R (Its z) H1
theorem C32 {l:Expr} {tl:TE} (hl:PE X l tl):PI X tg l (iStr tl):=by
 intro pins s σ H R I h;refine thn (hl pins s σ H _ I h) fun v s1 ⟨x,H1,I1,r1,q1⟩=>?_;obtain ⟨z,rfl,q⟩:=q1;obtain ⟨t,rfl⟩:=r1;refine wpAny_pyIter_strU ?_;have fp:∀ b ∈ [s1.heap.objs.size],FpOk X pins H1 b:=fun b hb=>by
  have e:b=s1.heap.objs.size:=by simpa using hb
  subst e;exact I1.fpOk (Zv _) (I1.hok.fresh (Zv _))
 by_cases ha:(z.cps.all fun x=>decide (x < 128))=true
 ·have ty:strIterType z="str_ascii_iterator":=by unfold strIterType; rw [if_pos ha]
  rw [ty];exact ⟨s1.heap.objs.size,[s1.heap.objs.size],_,_,H1,rfl,I1.kept (t':=s1.toks) fun b o e=>Heap.get?_push_of_some _ e,A8t _ z t,⟨_,Heap.get?_push_size _ rfl,rfl,rfl⟩,fp,q⟩
 ·have ty:strIterType z="str_iterator":=by unfold strIterType; rw [if_neg ha]
  rw [ty];exact ⟨s1.heap.objs.size,[s1.heap.objs.size],_,_,H1,rfl,I1.kept (t':=s1.toks) fun b o e=>Heap.get?_push_of_some _ e,A8s _ z t,⟨_,Heap.get?_push_size _ rfl,rfl,rfl⟩,fp,q⟩
def rS (g:Str->Str->V):R2:=fun x y H Q=>∃ i j,x=.str i/\y=.str j/\Q (g i j) H
theorem B8s:OpR X (compareOp .LtE) (rS fun i j=>.bl (!decide (j.cps.toList < i.cps.toList))):=by
 intro pins s σ H x y v u Q I rx ry h;obtain ⟨i,j,rfl,rfl,q⟩:=h;obtain ⟨t,rfl⟩:=rx;obtain ⟨t',rfl⟩:=ry;exact PySem.P.le_str ⟨.bl _,H,I,rfl,q⟩
def B5c (K:PySem.W.Frag):List V->Hp->VK->Prop:=fun xs H Q=>(∃ p ys,xs=[.ref p]/\(SqL K H p ys\/SqT K H p ys)/\Q (.int ys.length) H)\/∃ z,xs=[.str z]/\z.length<=sizeLine/\Q (.int z.length) H
theorem A74 {K:PySem.W.Frag} (h:X.K=K):CallR X (.builtin "len") (B5c K):=by subst h; exact call_len_seq.or A3a
def C0l (K:PySem.W.Frag):V->List V->Hp->VK->Prop:=fun x vs H Q=>∃ sep p zs,x=.str sep/\vs=[.ref p]/\SqL K H p (zs.map V.str)/\(zs.map fun z=>z.length + sep.length).sum<=1000/\Q (.str (sep.join zs)) H
theorem A11:∀ {zs:List Str} {its:List Value},Vals (zs.map V.str) its->∃ l:List (Str × Tok),its=strValues l/\l.map (·.1)=zs
 | [],_,.nil=>⟨[],rfl,rfl⟩
 | z :: zs,_,.cons r t=>by
  obtain ⟨k,rfl⟩:=r;obtain ⟨l,rfl,e⟩:=A11 (zs:=zs) t;exact ⟨(z,k) :: l,rfl,by rw [List.map_cons,e]⟩
theorem A6q (k:Nat):∀ (zs:List Str) (a:Nat),List.foldl (fun x1 (x2:Str)=>x1 + x2.length + k) a zs=a + (zs.map fun z=>z.length + k).sum
 | [],a=>by simp
 | z :: zs,a=>by rw [List.foldl_cons,A6q k zs,List.map_cons,List.sum_cons]; omega
theorem A2y (k:Array Nat):∀ (ps:List Str) (a:Array Nat),(List.foldl (fun acc (p:Str)=>acc++k++p.cps) a ps).size=a.size + (ps.map fun z=>z.length + k.size).sum
 | [],a=>by simp
 | p :: ps,a=>by
  rw [List.foldl_cons,A2y k ps,List.map_cons,List.sum_cons,Array.size_append,Array.size_append];show a.size + k.size + p.cps.size + _=a.size + (p.cps.size + k.size + _);omega
theorem B6g {sep:Str}:∀ {zs:List Str},(sep.join zs).length<=(zs.map fun z=>z.length + sep.length).sum:=by
 intro zs;rw [<- StrLaws.glued_eq_join];cases zs with
 | nil=>exact Zv _
 | cons z r =>
  show (List.foldl (fun acc (p:Str)=>acc++sep.cps++p.cps) z.cps r).size<=_;rw [A2y,List.map_cons,List.sum_cons];show z.cps.size + (r.map fun z=>z.length + sep.cps.size).sum<=z.cps.size + sep.cps.size + (r.map fun z=>z.length + sep.cps.size).sum;omega
theorem N4:1000<=sizeLine:=by rw [sizeLine_eq]; decide
theorem C2f:MtR X "str.join" (C0l X.K):=by
 intro pins s σ H x vs v us Q I rx rv h;obtain ⟨sep,p,zs,rfl,rfl,hq,hl,q⟩:=h;obtain ⟨t,rfl⟩:=rx;obtain ⟨u,rfl,ru⟩:=rv.one;cases ru;obtain ⟨its,r,pl,hz⟩:=I.list hq;obtain ⟨l,rfl,e⟩:=A11 r;have h10:=N4;have long:Builtin.Str.tooLong (Array.foldl (fun x1 x2=>x1 + x2.length + sep.length) 0 (List.map (fun x=>x.fst) l).toArray)=false:=by
  rw [List.foldl_toArray,A6q,e];unfold Builtin.Str.tooLong;simp;omega
 have hj:=B6g (sep:=sep) (zs:=zs);refine call_meets F.slot_str_join (typeIs_str s sep t) F.entry_str_join (F.args_str_join_2 _ _) (meets_str_join_list sep t p l long) ⟨pl.isList,?_⟩;subst e;rw [<- StrLaws.glued_eq_join] at q hj;rcases l with _ | ⟨a,_ | ⟨b,r⟩⟩
 ·exact ⟨by omega,.str _,H,I.tok _,⟨_,rfl⟩,q⟩
 ·exact ⟨.str _,H,I,⟨_,rfl⟩,q⟩
 ·exact ⟨by omega,.str _,H,I.tok _,⟨_,rfl⟩,q⟩
end
end L2
namespace L2
open PySem PySem.Spec PyProof.Rows
section
variable {X:Cx} {tg:Expr} {pos:Pos}
theorem C0m {l:Expr} {tl:TE} (hl:QE X l tl):QI X tg l (iStr tl):=⟨C32 hl.out⟩
theorem C0n {o i:Expr} {to ti:TE} {t:TSet} (ho:QE X o to) (hi:QE X i ti) (hs:PSet X t)
  (ha:∀ v,assign (.Subscript o i pos) X.env v=(do
   let ov <- holding [v] (eval o X.env)
   let iv <- holding [v,ov] (eval i X.env)
   standAt pos
   holding [v,ov,iv] (setItem ov iv v)
   release [v,ov,iv] []):=by intro _; rfl):QG X (.Subscript o i pos) (gSub to ti t):=⟨A5e ho.out hi.out hs ha⟩
theorem B6a {K:PySem.W.Frag} (h:X.K=K):MtR X "str.join" (C0l K):=by subst h; exact C2f
end
end L2
namespace Pu
open PySem L2 My Prf
def asS (x:PyData) (k:Str->Prop):Prop:=match x with
 | .str z=>k z
 | _=>False
theorem C6y {z:Str} {k:Str->Prop}:asS (.str z) k=k z:=rfl
theorem VV.strE {K:Frag} {w:Wd} {v:V} {z:Str} (h:VV K w v (.str z)):v=.str z:=by
 rcases h with h | ⟨l,vs,xs,e,e',_⟩
 ·cases h; rfl
 ·cases e'
def sgn (c:Nat):PyData:=.str ⟨#[c]⟩
def A3u (z:Str):LP:=z.cps.toList.map sgn
def B0m (pd:PDt) (env:PEnv) (Q:LP->PEnv->Prop):Prop:=pd env fun x e=>asS x fun z=>Q (A3u z) e
instance ri_str {K:Frag} {tl:TE} {pd:PDt} [hl:RW K tl pd]:RI K (iStr tl) (B0m pd) where
 ok:=by
  rintro c w env σ Qp R rfl E p k;refine hl.ok c w env σ _ _ rfl E p fun v x e1 w1 E1 l1 d1 q1=>?_;unfold asS at q1;split at q1
  ·rename_i z;refine ⟨z,d1.strE,k _ _ e1 w1 E1 l1 (fun w' ok l s=>?_) q1⟩;have hl:(A3u z).length=z.cps.size:=by unfold A3u; rw [Zl,Array.length_toList]
   refine ⟨fun i hi=>by rw [hl] at hi; exact hi,by rw [hl]; exact Zv _,fun i v H' y hi=>?_⟩;obtain ⟨e,cc,h1,rfl⟩:=y;refine ⟨w',sgn cc,e.symm,ok,Le.refl w',?_,.str _⟩;unfold A3u;rw [Zh,Array.getElem?_toList,h1]; rfl
  ·exact q1.elim
class SGS (g:Str->Str->V) (gd:outParam (Str->Str->PyData)):Prop where
 ok:∀ i j K F,Den K F (g i j) (gd i j)
instance sgs_bl {f:Str->Str->Bool}:SGS (fun i j=>.bl (f i j)) (fun i j=>.bool (f i j)):=⟨fun _ _ _ _=>.bl _⟩
def pS (gd:Str->Str->PyData) (x y:PyData) (Q:SV->Prop):Prop:=asS x fun i=>asS y fun j=>Q (.d (gd i j))
instance ro_S {K:Frag} {g:Str->Str->V} {gd:Str->Str->PyData} [s:SGS g gd]:RO K (rS g) (pS gd) where
 ok:=by
  rintro c w env σ x y dx dy Qp Q rfl E vx vy p k;unfold pS asS at p;split at p
  ·split at p
   ·exact ⟨_,_,vx.strE,vy.strE,k _ _ w (Res.data E (s.ok _ _ _ _)) p⟩
   ·exact p.elim
  ·exact p.elim
def C43 (x y:PyData) (Q:SV->Prop):Prop:=asS x fun i=>asS y fun j=>i.length + j.length<=1000/\Q (.d (.str (i++j)))
def C1u (z:Str) (i:Int) (Q:SV->Prop):Prop:=∃ c,atI z.cps.toList i=some c/\Q (.d (sgn c))
def pIx2 (x y:PyData) (Q:SV->Prop):Prop:=match x with
 | .str z=>asI y fun i=>z.length<=1000/\C1u z i Q
 | x=>pIx x y Q
theorem B78 {xs:LP} {y:PyData} {Q:SV->Prop}:pIx2 (.list xs) y Q=pIx (.list xs) y Q:=rfl
theorem B75 {xs:LP} {y:PyData} {Q:SV->Prop}:pIx2 (.tuple xs) y Q=pIx (.tuple xs) y Q:=rfl
theorem B77 {q:Rat} {y:PyData} {Q:SV->Prop}:pIx2 (dq q) y Q=pIx (dq q) y Q:=rfl
theorem B79 {q:Rat × Rat} {y:PyData} {Q:SV->Prop}:pIx2 (dcn q) y Q=pIx (dcn q) y Q:=rfl
theorem B76 {z:Str} {i:Int} {Q:SV->Prop}:pIx2 (.str z) (.int i) Q=(z.length<=1000/\C1u z i Q):=rfl
instance (priority:=high) ro_ix2 {K:Frag}:RO K (rIx K) pIx2 where
 ok:=by
  rintro c w env σ x y dx dy Qp Q rfl E vx vy p k;unfold pIx2 at p;split at p
  ·unfold asI at p;split at p
   ·obtain ⟨hl,cc,h1,q⟩:=p;exact .inr (.inr ⟨_,_,cc,vx.strE,vy.intE,Zx hl N4,h1,k _ _ w (Res.data E (.str _)) q⟩)
   ·exact p.elim
  ·exact ro_ix.ok c w env σ x y dx dy Qp Q rfl E vx vy p k
def A7r (xs:LP) (Q:SV->Prop):Prop:=match xs with
 | [.list ys]=>Q (.d (.int ys.length))
 | [.tuple ys]=>Q (.d (.int ys.length))
 | [.str z]=>z.length<=1000/\Q (.d (.int z.length))
 | _=>False
theorem B0i {ys:LP} {Q:SV->Prop}:A7r [.list ys] Q=Q (.d (.int ys.length)):=rfl
theorem B0f {ys:LP} {Q:SV->Prop}:A7r [.tuple ys] Q=Q (.d (.int ys.length)):=rfl
theorem B0h {q:Rat} {Q:SV->Prop}:A7r [dq q] Q=Q (.d (.int 2)):=rfl
theorem B0g {z:Str} {Q:SV->Prop}:A7r [.str z] Q=(z.length<=1000/\Q (.d (.int z.length))):=rfl
instance rb_len2 {K:Frag}:RB K (B5c K) A7r where
 ok:=by
  rintro c w env σ vs xs Qp Q rfl E vv p k;unfold A7r at p;split at p
  ·cases vv with | cons h t=>cases t; obtain ⟨a,us,e,h1,h2⟩:=h.lst E.wok; exact .inl ⟨a,us,by rw [e],.inl h1,by rw [h2.len]; exact k _ _ w (Res.data E (.int _)) p⟩
  ·cases vv with | cons h t=>cases t; obtain ⟨a,us,e,h1,h2⟩:=h.tup E.wok; exact .inl ⟨a,us,by rw [e],.inr h1,by rw [h2.len]; exact k _ _ w (Res.data E (.int _)) p⟩
  ·cases vv with | cons h t=>cases t; exact .inr ⟨_,by rw [h.strE],Zx p.1 N4,k _ _ w (Res.data E (.int _)) p.2⟩
  ·exact p.elim
def A3s:LP->Option (List Str)
 | []=>some []
 | .str z :: r=>(A3s r).map (z :: ·)
 | _=>none
theorem A12 {K:Frag} {F:Hpp}:∀ {vs:List V} {xs:LP} {zs:List Str},DenAll K F vs xs->A3s xs=some zs->vs=zs.map V.str
 | _,_,zs,.nil,h=>by cases h; rfl
 | _,x :: r,zs,.cons d t,h=>by
  cases d with
  | str z =>
   have h:(A3s r).map (z :: ·)=some zs:=h;cases q:A3s r with
   | none=>rw [q] at h; cases h
   | some ys=>rw [q] at h; cases h; rw [A12 t q]; rfl
  | non=>cases h
  | bl=>cases h
  | int=>cases h
  | lst=>cases h
  | tup=>cases h
  | dct=>cases h
def C1s (po pa:PDt) (env:PEnv) (Q:SV->PEnv->Prop):Prop:=po env fun x e=>asS x fun sep=>pa e fun y e2=>asL y fun ys=>∃ zs,A3s ys=some zs/\(zs.map fun z=>z.length + sep.length).sum<=1000/\Q (.d (.str (sep.join zs))) e2
instance re_join {K:Frag} {to ta:TE} {po pa:PDt} [ho:RW K to po] [ha:RW K ta pa]:RE K (tBM K "str" (C0l K) to (F9 ta tNil)) (C1s po pa) where
 ok:=by
  rintro c w env σ Qp Q rfl E p k;refine ho.ok c w env σ _ _ rfl E p fun v x e1 w1 E1 l1 d1 q1=>?_;unfold asS at q1;split at q1
  ·rename_i sep;have ev:=d1.strE;subst ev;refine ⟨rfl,ha.ok c w1 e1 σ _ _ rfl E1 q1 fun u y e2 w2 E2 l2 d2 q2=>?_⟩;unfold asL at q2;split at q2
   ·obtain ⟨zs,hz,hl,q⟩:=q2;obtain ⟨a,us,e,h1,h2⟩:=d2.lst E2.wok;exact ⟨sep,a,zs,rfl,by rw [e],by rw [<- A12 h2 hz]; exact h1,hl,k _ _ e2 w2 ((Res.data E2 (.str _)).pre (l1.trans l2)) q⟩
   ·exact q2.elim
  ·exact q1.elim
def C1h (pd:PDt) (i:Nat) (pi:PDt) (D:PEnds) (env:PEnv):Prop:=pd env fun x e=>M7 e[i]? fun _=>pi e fun y e2=>asI y fun n=>M7 e2[i]? fun xs=>∃ j,ixN xs.length n=some j/\D.nx (e2.set i (some (.own (xs.set j x))))
theorem DenAll.setAt {K:Frag} {F:Hpp} {v:V} {x:PyData} (d:Den K F v x):∀ {vs:List V} {xs:LP} (j:Nat),DenAll K F vs xs->DenAll K F (vs.set j v) (xs.set j x)
 | _,_,_,.nil=>.nil
 | _,_,0,.cons _ t=>.cons d t
 | _,_,j + 1,.cons h t=>.cons h (DenAll.setAt d j t)
instance rs_setI {K:Frag} {i:Nat} {te ti:TE} {pd pi:PDt} [he:RD K te pd] [hi:RW K ti pi]:RS K (tAsg te (gSub (tVar i) ti C3p)) (C1h pd i pi) where
 ok:=by
  rintro c w env σ Dp D rfl E h p;refine he.ok c w env σ _ _ rfl E p fun v x e1 w1 E1 l1 d1 q1=>?_;unfold M7 at q1;split at q1
  ·rename_i xs0 e0;obtain ⟨o,g0,l,vs,ev,h1,h2,h3,h4,h5⟩:=E1.at' i _ e0;subst ev;refine ⟨_,g0,hi.ok c w1 e1 σ _ _ rfl E1 q1 fun u y e2 w2 E2 l2 d2 q2=>?_⟩;unfold asI at q2;split at q2
   ·rename_i n;split at q2
    ·rename_i xs e;obtain ⟨j,hj,q2⟩:=q2;obtain ⟨o',g0',l',vs',ev',k1,k2,k3,k4,k5⟩:=E2.at' i _ e;rw [g0] at g0'; cases g0'; cases ev';have hn:=d2.intE;refine ⟨l,vs',n,j,rfl,hn,k1,by rw [k5.len]; exact hj,?_⟩;exact h.nx _ σ ⟨w2.M,upd w2.H l (.lst (vs'.set j v)),w2.F⟩ (E2.write e g0 k1 k2 k3 k4 (DenAll.setAt (Den.same l2.f d1) j k5)) (l1.f.trans l2.f) q2
    ·exact q2.elim
   ·exact q2.elim
  ·exact q1.elim
def C4x (env:PEnv) (Q:SV->PEnv->Prop):Prop:=Q (.d (.dict [])) env
def B8e (key:Key) (y:V) (env:PEnv) (Q:SV->PEnv->Prop):Prop:=Q (.d (.dict [C2t (key,y)])) env
theorem B3d:kitB "int" "int"=some true:=by decide +kernel
theorem B3e:kitB "int" "bool"=some false:=by decide +kernel
theorem B3b:kitB "int" "tuple"=some false:=by decide +kernel
theorem B3c:kitB "int" "str"=some false:=by decide +kernel
theorem B3l:kitB "bool" "int"=some true:=by decide +kernel
theorem B3m:kitB "bool" "bool"=some true:=by decide +kernel
theorem B3j:kitB "bool" "tuple"=some false:=by decide +kernel
theorem B3k:kitB "bool" "str"=some false:=by decide +kernel
theorem B25:kitB "NoneType" "int"=some false:=by decide +kernel
theorem B26:kitB "NoneType" "bool"=some false:=by decide +kernel
theorem B23:kitB "NoneType" "tuple"=some false:=by decide +kernel
theorem B24:kitB "NoneType" "str"=some false:=by decide +kernel
theorem B21:kitB "str" "int"=some false:=by decide +kernel
theorem B22:kitB "str" "bool"=some false:=by decide +kernel
theorem B2z:kitB "str" "tuple"=some false:=by decide +kernel
theorem B20:kitB "str" "str"=some true:=by decide +kernel
theorem B29:kitB "list" "int"=some false:=by decide +kernel
theorem B3a:kitB "list" "bool"=some false:=by decide +kernel
theorem B27:kitB "list" "tuple"=some false:=by decide +kernel
theorem B28:kitB "list" "str"=some false:=by decide +kernel
theorem B2x:kitB "tuple" "int"=some false:=by decide +kernel
theorem B2y:kitB "tuple" "bool"=some false:=by decide +kernel
theorem B2v:kitB "tuple" "tuple"=some true:=by decide +kernel
theorem B2w:kitB "tuple" "str"=some false:=by decide +kernel
theorem B3h:kitB "dict" "int"=some false:=by decide +kernel
theorem B3i:kitB "dict" "bool"=some false:=by decide +kernel
theorem B3f:kitB "dict" "tuple"=some false:=by decide +kernel
theorem B3g:kitB "dict" "str"=some false:=by decide +kernel
theorem A4x {kvs:List (PyData × PyData)}:tyD (.dict kvs)="dict":=rfl
def B01 (pr pr':PyData->PyData->(SV->Prop)->Prop) (pa pb pc:PDt) (env:PEnv) (Q:SV->PEnv->Prop):Prop :=
 pa env fun x e1=>pb e1 fun y e2=>pr x y fun s=>s.asD fun b=>asB b fun k=>if k=true then pc e2 fun z e3=>pr' y z fun s2=>Q s2 e3 else Q (.d (.bool false)) e2
instance re_chain {K:Frag} {r r':R2} {ta tb tc:TE} {pr pr':PyData->PyData->(SV->Prop)->Prop} {pa pb pc:PDt} [h:RO K r pr] [h':RO K r' pr'] [ha:RW K ta pa] [hb:RW K tb pb] [hc:RW K tc pc]:RE K (A1y r r' ta tb tc) (B01 pr pr' pa pb pc) where
 ok:=by
  rintro c w env σ Qp Q rfl E p k;refine ha.ok c w env σ _ _ rfl E p fun x dx e1 w1 E1 l1 v1 q1=>?_;refine hb.ok c w1 e1 σ _ _ rfl E1 q1 fun y dy e2 w2 E2 l2 v2 q2=>?_;refine h.ok c w2 e2 σ x y dx dy _ _ rfl E2 (v1.mono l2) v2 q2 fun v s w3 R q3=>?_;cases s with
  | d b =>
   cases b with
   | bool b =>
    have ev:v=.bl b:=Den.blE R.val;refine ⟨b,ev,?_⟩;cases b with
    | true =>
     refine hc.ok c w3 e2 σ _ _ rfl R.ev q3 fun z dz e3 w4 E4 l4 v4 q4=>?_;exact h'.ok c w4 e3 σ y z dy dz _ _ rfl E4 ((v2.mono R.lw).mono l4) v4 q4 fun v s w' R' q=>k v s e3 w' (R'.pre (l1.trans (l2.trans (R.lw.trans l4)))) q
    | false=>exact k _ _ e2 w3 ((Res.data R.ev (.bl _)).pre (l1.trans (l2.trans R.lw))) q3
   | _=>exact (show False from q3).elim
  | own xs=>exact (show False from q3).elim
  | bor xs=>exact (show False from q3).elim
  | st=>exact (show False from q3).elim
  | tr t=>exact (show False from q3).elim
  | bt t=>exact (show False from q3).elim
  | al t=>exact (show False from q3).elim
  | dk t=>exact (show False from q3).elim
end Pu
namespace L2
open PySem PySem.Spec PyProof.Rows
section
variable {prog:Program} {w:World} {A:Around} {E:Value->Shared->Prop} {h:Heap} {g:Array GenState} {d:Drawn} {t:Nat} {os:OsState} {a C:Addr} {o:Obj} {vs:Array Value} {K:PySem.W.Frag}
end
end L2
namespace L2
open PySem PySem.Spec PyProof.Rows
structure Fly (P:Program) (w:World) (outer:List Env) (H:Hp) (s s':Shared) (a:Addr) (cls a0:Value) (H':Hp) (B:Heap):Prop where
 os:s'.os=s.os
 bare:AllBare s'.gens
 fly:Heap.FlyingW B outer a cls a0 s'.heap
 hok:HOk P w H' B
 keep:∀ b o,s.heap.get? b=some o->H b=none->b ∉ frs outer->B.get? b=some o
 slot:∀ b o,s.heap.get? b=some o->H b=none->b ∈ frs outer->∃ sl,s'.heap.get? b=some { o with slots:=sl }
 free:∀ b o,s.heap.get? b=some o->H b=none->H' b=none
 there:∀ b o,s.heap.get? b=some o->b ∉ frs outer->∃ o',B.get? b=some o'
 tups:∀ b xs,H b=some (.tup xs)->H' b=some (.tup xs)
 frzs:∀ b o u,H b=some (.frz o u)->H' b=some (.frz o u)
 tbls:∀ b ps,H b=some (.tbl ps)->∃ more,H' b=some (.tbl (ps++more))
def CX1 (P:Program) (w:World):CXT:=fun outer H s E e s'=>∃ (a:Addr) (cls a0:Value) (H':Hp) (B:Heap),e=.ref a/\Fly P w outer H s s' a cls a0 H' B/\E cls none H'
section
variable {P:Program} {w:World} {outer:List Env} {H H':Hp} {s s':Shared} {a:Addr} {cls a0:Value} {B:Heap}
end
section
variable {P:Program} {w:World} {K:PySem.W.Frag} {mg:Str->Option Value} {base:Heap} {N:List Str} {qual:Str} {scope:Scope} {f:Addr} {cd:Value} {A:Around} {outer:List Env} {s0:Shared} {H0:Hp} {E:XK}
end
end L2
namespace L2
open PySem PySem.Spec PyProof.Rows
section
variable {X:Cx} {E:XK} {x:Str} {C:Addr} {pos np cpos:Pos} {e:Expr} {es:List Expr} {t:TA}
end
section
variable {X:Cx} {pins:List (Addr × Obj)} {σ:St} {H:Hp} {s:Shared} {a:Addr} {oe:Obj}
end
end L2
namespace L2
open PySem PySem.Spec PyProof.Rows
section
variable {P:Program} {w:World} {outer:List Env} {H H':Hp} {s s':Shared} {a:Addr} {cls a0:Value} {B:Heap}
end
section
variable {X:Cx} {pins:List (Addr × Obj)} {σ:St} {H H':Hp} {s s':Shared} {a:Addr} {cls a0:Value} {B:Heap}
end
section
variable {X:Cx} {k i:Nat} {f C CH:Addr} {fd:FuncData} {ps:List Str} {sp:Sp} {x xh n:Str} {p pos pos2 pos3 pos4 pos5:Pos} {e:Expr} {es:List Expr} {t:TA} {b0:Stmt} {suite:List Stmt} {b:Bool}
end
end L2
namespace L2
open PySem PySem.Spec PyProof.Rows
section
variable {X:Cx} {a C:Addr} {oe:Obj} {i:Nat} {b:Bool}
inductive ClV:V->Value->Prop
 | own (c:Addr):ClV (.ref c) (.ref c)
 | ty (c:String):ClV (.ty c) (.type c)
theorem ClV.get {c:V} {u cv:Value} (h:ClV c cv) (r:RelV c u):u=cv:=by
 cases h with
 | own c=>exact r
 | ty c=>exact r
inductive ClVs:List V->List Value->Prop
 | nil:ClVs [] []
 | cons {c:V} {cv:Value} {r:List V} {s:List Value}:ClV c cv->ClVs r s->ClVs (c :: r) (cv :: s)
theorem ClVs.get:∀ {cs:List V} {us cvs:List Value},ClVs cs cvs->Vals cs us->us=cvs
 | [],_,_,.nil,.nil=>rfl
 | _ :: _,_,_,.cons h t,.cons r s=>by rw [h.get r,t.get s]
end
end L2
namespace L2
open PySem PySem.Spec PyProof.Rows
section
variable {X:Cx}
variable {k i:Nat} {f C CH:Addr} {fd:FuncData} {ps:List Str} {sp:Sp} {x xh n:Str} {p pos pos2 pos3 pos4 pos5:Pos} {e:Expr} {es:List Expr} {t:TA} {b0:Stmt} {suite:List Stmt} {b:Bool}
end
end L2
namespace Pu
open PySem PySem.Spec PyProof.Rows L2 My Prf
def spE (K:Frag) (md:List Md) (C:Addr) (psp:List SV->Prop):Sp:=fun vs H _ E=>∃ (w:Wd) (as:List SV),w.H=H/\w.Ok/\Args K w md vs as/\psp as/\∀ w',w'.Ok->Le w w'->E (.ref C) none w'.H
theorem spE.len {K:Frag} {md:List Md} {C:Addr} {psp:List SV->Prop} {n:Nat} (h:md.length=n):∀ vs H Q E,spE K md C psp vs H Q E->vs.length=n:=by
 rintro vs H Q E ⟨w,as,_,_,a,_⟩;exact a.len.trans h
class RSX (K:Frag) (w0:Wd) (ts:TS) (ps:outParam PSt):Prop where
 ok:∀ (c:Ct) (w:Wd) (env:PEnv) (σ:L2.St) (Dp:PEnds) (D:Ends),c.K=K->c.w0=w0->EnvOk c w env σ->EndsOk c w Dp D->ps Dp env->ts D σ w.H
theorem C6p {K:Frag} {w:Wd} {ts:TS} {ps:PSt} [hs:RSX K w ts ps] {md:List Md} {vs:List V} {as:List SV} {D:Ends} {N:List Str} (ok:w.Ok) (a:Args K w md vs as)
  (hb:ps ⟨fun _=>False,fun _ _=>False,fun _=>False,fun _=>False⟩ (as.map some++List.replicate (N.length - md.length) none)):ts D (L2.start N vs) w.H:=by
 obtain ⟨hl,hat⟩:=M0 a;have look:∀ (i:Nat) s,(as.map some++List.replicate (N.length - md.length) none)[i]?=some (some s)->as[i]?=some s:=fun i s e=>by
  rw [List.getElem?_append] at e;split at e
  ·rw [Zh] at e;cases q:as[i]? with
   | none=>rw [q] at e; cases e
   | some t=>rw [q] at e; cases e; rfl
  ·rw [List.getElem?_replicate] at e;split at e <;> cases e
 refine hs.ok ⟨K,w,noZ⟩ w (as.map some++List.replicate (N.length - md.length) none) (L2.start N vs) ⟨fun _=>False,fun _ _=>False,fun _=>False,fun _=>False⟩ D rfl rfl ⟨ok,Le.refl w,by simp [L2.start,hl,a.len],fun i s e=>?_,fun i j s t v u a e _ _ _ f=>absurd f ((hat i _ (look i _ e)).2 v a),fun a z=>z.elim,fun a j t u z=>z.elim⟩ ⟨fun _ _ _ _ _ z=>z.elim,fun _ _ _ _ _ _ _ _ z=>z.elim,fun _ _ _ _ _ z=>z.elim,fun _ _ _ _ _ z=>z.elim⟩ hb;obtain ⟨⟨v,h1,h2⟩,_⟩:=hat i s (look i s e);refine ⟨v,?_,h2⟩;unfold L2.start;rw [List.getElem?_append_left (by rw [Zl]; exact (Zs h1).1),Zh,h1]; rfl
theorem okx {P:Program} {w:World} {K:Frag} {mg:Str->Option Value} {base:Heap} {x qual:Str} {st:Stmt} {f:Addr} {fd:FuncData} {N ps:List Str} {k:Nat} {md:List Md} {C:Addr} {psp:List SV->Prop} {ts:Wd->TS} {pst:PSt} (F:L2.Fun K x qual st f fd) (S:FnScope N ps (A5 st)) (hm:md.length=ps.length)
  (hbody:∀ (cdv:Value) (A:Around) (outer:List Env) (s:Shared) (H:Hpp) (E:XK) (w0:Wd),Room k (A.deeper (envOfC qual (A5 st) s.heap.objs.size f cdv))->(∀ w',w'.Ok->Le w0 w'->E (.ref C) none w'.H) ->
   PSs (cxOf (CX1 P w) P w K mg base N qual (A5 st) f cdv A outer s H E) (J5 st) (ts w0))
  (hs:∀ w0,RSX K w0 (ts w0) pst) (hb:∀ as,psp as->pst ⟨fun _=>False,fun _ _=>False,fun _=>False,fun _=>False⟩ (as.map some++List.replicate (N.length - md.length) none)):FnOk P w K mg base (CX1 P w) (k + 1) f fd ps (spE K md C psp):=by
 obtain ⟨oc,od,kV,doc,pm,an,cdv,ct,osl,rfl,lk,hcd⟩:=F.ex;refine C6l lk hcd S (spE.len hm) fun A outer s H vs Q E hr ⟨w0,as,e,ok,a,p,kk⟩=>?_;refine ⟨_,hbody cdv A outer s H E w0 hr kk,?_⟩;subst e
 haveI:=hs w0
 exact C6p ok a (hb as p)
end Pu
namespace L2
open PySem PySem.Spec PyProof.Rows
theorem us0:∀ {us:List Value},us.length=0->us=[]
 | [],_=>rfl
theorem usS {n:Nat}:∀ {us:List Value},us.length=n + 1->∃ a r,us=a :: r/\r.length=n
 | a :: r,h=>⟨a,r,rfl,Nat.succ.inj h⟩
theorem us1 {us:List Value} (h:us.length=1):∃ a,us=[a]:=by
 obtain ⟨a,r,e,k⟩:=usS h;exact ⟨a,by rw [e,us0 k]⟩
theorem us2 {us:List Value} (h:us.length=2):∃ a b,us=[a,b]:=by
 obtain ⟨a,r,e,k⟩:=usS h; obtain ⟨b,z⟩:=us1 k; exact ⟨a,b,by rw [e,z]⟩
theorem us3 {us:List Value} (h:us.length=3):∃ a b c,us=[a,b,c]:=by
 obtain ⟨a,r,e,k⟩:=usS h; obtain ⟨b,c,z⟩:=us2 k; exact ⟨a,b,c,by rw [e,z]⟩
theorem us4 {us:List Value} (h:us.length=4):∃ a b c d,us=[a,b,c,d]:=by
 obtain ⟨a,r,e,k⟩:=usS h; obtain ⟨b,c,d,z⟩:=us3 k; exact ⟨a,b,c,d,by rw [e,z]⟩
theorem us5 {us:List Value} (h:us.length=5):∃ a b c d x,us=[a,b,c,d,x]:=by
 obtain ⟨a,r,e,k⟩:=usS h; obtain ⟨b,c,d,x,z⟩:=us4 k; exact ⟨a,b,c,d,x,by rw [e,z]⟩
theorem us6 {us:List Value} (h:us.length=6):∃ a b c d x y,us=[a,b,c,d,x,y]:=by
 obtain ⟨a,r,e,k⟩:=usS h; obtain ⟨b,c,d,x,y,z⟩:=us5 k; exact ⟨a,b,c,d,x,y,by rw [e,z]⟩
end L2
namespace L2
open PySem PySem.Spec PyProof.Rows
def rngV (n:Nat):List V:=(List.range n).map fun k:Nat=>V.int (0 + (k:Int))
theorem A00:∀ {xs:List V} {us:List Value},xs.length=us.length->(∀ (i:Nat) x u,xs[i]?=some x->us[i]?=some u->RelV x u)->Vals xs us
 | [],[],_,_=>.nil
 | x :: xs,u :: us,h,k=>.cons (k 0 x u rfl rfl) (A00 (Nat.succ.inj h) fun i y v e1 e2=>k (i + 1) y v e1 e2)
theorem B44 {n:Nat} {acc:Array Value} (h:ItemsOf (fun i v=>∃ t,v=.int (0 + (i:Int) * 1) t) acc n):Vals (rngV n) acc.toList:=by
 refine A00 (by simp [rngV,h.1]) fun i x u hx hu=>?_;unfold rngV at hx;rw [Zh] at hx;cases q:(List.range n)[i]? with
 | none=>rw [q] at hx; cases hx
 | some k =>
  rw [q] at hx;have hk:k=i:=by
   obtain ⟨h1,h2⟩:=Zs q;rw [List.getElem_range] at h2; exact h2.symm
  subst hk;have hx':V.int (0 + (k:Int))=x:=Zj hx;subst hx';obtain ⟨t,e⟩:=h.2 k u (by rw [<- Array.getElem?_toList]; exact hu);exact ⟨t,by rw [e,Int.mul_one]⟩
def tRng (ta:TA):TE:=fun σ H Q=>ta σ H fun vs H1=>∃ n:Int,vs=[.int n]/\∀ r,H1 r=none->Q (.ref r) (upd H1 r (.rng 0 n))
def A9c:List V->Hp->VK->Prop:=fun xs H Q=>∃ (r:Addr) (n:Int),xs=[.ref r]/\H r=some (.rng 0 n)/\0<=n/\n<=1000/\∀ p,H p=none->Q (.ref p) (upd H p (.lst (rngV n.toNat)))
section
variable {X:Cx}
theorem B5g {a:Expr} {ta:TA} {p2 pos2:Pos} (hg:Gl X "range") (hm:X.mg "range"=none) (ha:QA X [a] ta) (hs:starEach [a] X.env=[(false,eval a X.env)]:=by rfl):QE X (.Call (.Name "range" p2) [a] [] pos2) (tRng ta):=by
 refine ⟨fun pins s σ H Q I h=>?_⟩;refine Call_ (P5 I hg hm boot_range (PyProof.Rows.callWith_type1 (thn (ha.out pos2 pins s σ H _ I h) fun us s1 ⟨vs,H1,I1,r1,q1⟩=>?_) hs rfl));obtain ⟨n,e,q⟩:=q1;subst e;cases r1 with
 | cons r rr =>
  cases rr;obtain ⟨t,rfl⟩:=r;refine call_range_1 ⟨.ref s1.heap.objs.size,_,I1.laid (t':=s1.toks + 1 + 1) (fun b o e=>Heap.get?_push_of_some _ e) (Zv _) ?_,rfl,q _ (I1.hok.fresh (Zv _))⟩;exact ⟨_,_,_,Heap.get?_push_size _ rfl⟩
theorem A4k (hc:X.calm=true):CallR X (.type "list") A9c:=by
 intro pins s σ H xs us Q I r h;obtain ⟨a,n,rfl,hr,n0,n1,q⟩:=h;obtain ⟨u,rfl,rx⟩:=A1x r;cases rx;obtain ⟨t,u,v,e⟩:=(show ObjOk X.prog X.w H s.heap a (.rng 0 n) from I.hok a _ hr);refine call_list_range (n:=n.toNat) (I.ok.hd hc) e (small_one (by omega) (by omega) (by omega) (by omega)) (by rw [rangeSize_one]; split <;> omega) (by omega) fun h' tk acc' c' kp e' it=>?_
 refine ⟨.ref s.heap.objs.size,_,I.laid (t':=tk) kp (Zv _) (show ObjOk X.prog X.w _ h' _ (.lst (rngV n.toNat)) from ⟨?_,acc'.toList,c',B44 it,e'⟩),rfl,q _ (I.hok.fresh (Zv _))⟩;simp only [rngV,List.length_map,List.length_range];exact Zx (by omega:n.toNat<=1000) N4
end
end L2
namespace Pu
open PySem L2 My Prf
theorem C2u {K:Frag} {F:Hpp} (n:Nat):DenAll K F (rngV n) (rngD 0 n):=by
 unfold rngV rngD;generalize List.range n=l;induction l with
 | nil=>exact .nil
 | cons k r ih=>exact .cons (.int _) ih
def C1p (pa:PAr) (env:PEnv) (Q:SV->PEnv->Prop):Prop:=pa env fun xs e=>∃ n:Int,xs=[.int n]/\0<=n/\n<=1000/\Q (.own (rngD 0 n.toNat)) e
instance re_lstRng {K:Frag} {ta:TA} {pa:PAr} [ha:RAv K ta pa]:RE K (tCB A9c (F9 (tRng ta) tNil)) (C1p pa) where
 ok:=by
  rintro c w env σ Qp Q rfl E p k;refine ha.ok c w env σ _ _ rfl E p fun vs xs e1 w1 E1 l1 v1 q1=>?_;obtain ⟨n,rfl,n0,n1,q⟩:=q1;have ev:vs=[.int n]:=by
   cases v1 with
   | cons h t=>cases t; rw [h.intE]
  subst ev;refine ⟨n,rfl,fun r hr=>⟨r,n,rfl,B3,n0,n1,fun p hp=>?_⟩⟩;have E2:EnvOk c (w1.lay r (.rng 0 n)) e1 σ:=E1.mono (Wd.lay_ok E1.wok hr) (Wd.lay_le hr);exact k _ _ e1 _ ((Res.lst E2 hp (C2u _)).pre (l1.trans (Wd.lay_le hr).toLw)) q
def pRep (pe:PX) (pb:PDt) (env:PEnv) (Q:SV->PEnv->Prop):Prop:=pe env fun s e=>∃ xs,s=.own xs/\pb e fun y e2=>∃ n:Int,y=.int n/\0<=n/\n<=1000/\xs.length<=1000/\Q (.own (List.replicate n.toNat xs).flatten) e2
theorem C3m {k len:Nat} (h:k < len):PySem.seqIndex? (k:Int) len=some k:=by
 unfold PySem.seqIndex?;have h1:¬ ((k:Int) < 0):=by omega
 have h2:(decide ((0:Int)<=(k:Int)) && decide ((k:Int) < (len:Int)))=true:=by simp; omega
 simp only [h1,if_false,h2,if_true,Int.toNat_natCast]
theorem A23 {K:Frag} {F:Hpp}:∀ {vs:List V} {xs:LP} (_:DenAll K F vs xs) (k:Nat),DenAll K F (vs.eraseIdx k) (xs.eraseIdx k)
 | _,_,.nil,_=>.nil
 | _,_,.cons h t,0=>t
 | _,_,.cons h t,k + 1=>.cons h (A23 t k)
def A36 (i j:Nat) (pd:PDt) (D:PEnds) (env:PEnv):Prop:=i≠j/\M7 env[i]? fun _=>M7 env[j]? fun _=>pd env fun x e=>M7 e[i]? fun xs=>M7 e[j]? fun ys=>∃ (k:Nat) (y:PyData),x=.int k/\ys[k]?=some y/\xs.length < 1000000/\ys.length < 1000000/\D.nx ((e.set j (some (.own (ys.eraseIdx k)))).set i (some (.own (xs++[y]))))
instance rs_appPop {K:Frag} {i j:Nat} {te:TE} {pd:PDt} [he:RD K te pd]:RS K (Z4 (tBM K "list" W2 (tVar i) (F9 (tBM K "list" B7m (tVar j) (F9 te tNil)) tNil))) (A36 i j pd) where
 ok:=by
  rintro c w env σ Dp D rfl E h ⟨hij,p⟩;unfold M7 at p;split at p
  ·rename_i xs0 e0;split at p
   ·rename_i ys0 f0;obtain ⟨v,g0,l,vs,ev,h1,h2,h3,h4,h5⟩:=E.at' i _ e0;subst ev;obtain ⟨v',g1,m,us,ev',k1,k2,k3,k4,k5⟩:=E.at' j _ f0;subst ev';refine ⟨_,g0,.inl ⟨rfl,_,SqL.of h1⟩,_,g1,.inl ⟨rfl,_,SqL.of k1⟩,?_⟩;refine he.ok c w env σ _ _ rfl E p fun z x e1 w1 E1 l1 d1 q1=>?_;split at q1
    ·rename_i xs e2;split at q1
     ·rename_i ys f2;obtain ⟨k,y,rfl,hy,b1,b2,q⟩:=q1;obtain ⟨v2,g2,l',vs',ev2,a1,a2,a3,a4,a5⟩:=E1.at' i _ e2;rw [g0] at g2; cases g2; cases ev2;obtain ⟨v3,g3,m',us',ev3,c1,c2,c3,c4,c5⟩:=E1.at' j _ f2;rw [g1] at g3; cases g3; cases ev3;have hz:z=.int k:=Den.intE d1;subst hz;obtain ⟨hk,_⟩:=Zs hy;have hl:=c5.len;have hku:k < us'.length:=by omega
      obtain ⟨y',hy',dy⟩:=c5.get (Zg hku);rw [hy] at hy'; cases hy';have hml:m≠l:=fun z=>by
       subst z;exact hij (E1.own i j _ _ _ _ m e2 f2 g0 g1 rfl rfl)
      refine ⟨m,us',k,k,us'[k],rfl,rfl,c1,by omega,by omega,C3m hku,Zg hku,?_⟩;have E2:=E1.write f2 g1 c1 c2 c3 c4 (A23 c5 k);have e3:(e1.set j (some (.own (ys.eraseIdx k))))[i]?=some (some (.own xs)):=by rw [List.getElem?_set_ne (Ne.symm hij)]; exact e2
      obtain ⟨v4,g4,l4,vs4,ev4,b1',b2',b3',b4',b5'⟩:=E2.at' i _ e3;rw [g0] at g4; cases g4; cases ev4;have ha:upd w1.H m (.lst (us'.eraseIdx k)) l=some (.lst vs'):=by rw [C4 (Ne.symm hml)]; exact a1
      refine ⟨l,vs',us'[k],rfl,rfl,ha,by rw [a5.len]; exact L1 b1,?_⟩;have hv:vs4=vs':=by
       have:=b1';rw [show (Wd.mk w1.M (upd w1.H m (.lst (us'.eraseIdx k))) w1.F).H=upd w1.H m (.lst (us'.eraseIdx k)) from rfl,ha] at this;cases this; rfl
      subst hv;exact h.nx _ σ _ (E2.write e3 g0 b1' b2' b3' b4' (b5'.app (.cons dy .nil))) l1.f q
     ·exact q1.elim
    ·exact q1.elim
   ·exact p.elim
  ·exact p.elim
end Pu
namespace L2
open PySem PySem.Spec PyProof.Rows
section
variable {prog:Program} {w:World} {A:Around} {E:Value->Shared->Prop} {s:Shared}
end
section
variable {prog:Program} {w:World} {A:Around} {E:Value->Shared->Prop} {s:Shared} {R:Result->Shared->Prop} {us vs:Array Value}
end
section
variable {prog:Program} {w:World} {A:Around} {E:Value->Shared->Prop} {s:Shared} {us vs:Array Value}
end
section
variable {X:Cx} {pins:List (Addr × Obj)} {σ:St} {H:Hp} {s:Shared}
end
section
variable {X:Cx}
end
end L2
namespace Pu
open PySem L2 My Prf
def B0c (pa:PEnv->(List LP->PEnv->Prop)->Prop) (env:PEnv) (Q:SV->PEnv->Prop):Prop:=pa env fun xss e=>∃ xs ys,xss=[xs,ys]/\xs.length<=1000/\Q (.own (zipD xs ys)) e
end Pu
namespace L2
open PySem PySem.Spec PyProof.Rows
section
variable {X:Cx}
end
end L2
namespace Pu
open PySem L2 My Prf
def pIdx (po pa:PDt) (env:PEnv) (Q:SV->PEnv->Prop):Prop:=po env fun x e=>asL x fun xs=>pa e fun d e2=>PyData.canLayAll0 xs=true/\d.canLay0=true/\d.depth<=60/\xs.length<=1000/\∃ j:Nat,xs.findIdx? (fun z=>z.eqv d)=some j/\Q (.d (.int (j:Int))) e2
end Pu
namespace L2
open PySem PySem.Spec PyProof.Rows
def C0h (d:PyData):Prop:=(d.canLay0=true/\d.showable=true/\d.hasDict=false\/d=.dict [])/\d.depth<=60/\d.shown.length<=sizeLine
section
variable {X:Cx}
end
end L2
namespace Pu
open PySem L2 My Prf
def C4l (pa:PDt) (env:PEnv) (Q:SV->PEnv->Prop):Prop:=pa env fun d e=>C0h d/\Q (.d (.str d.shown)) e
end Pu
namespace L2
open PySem PySem.Spec PyProof.Rows
def C3b (n:Nat) (i j:Int):List Nat:=sliceRange (sliceBounds (some i) none (some j) n).1 (sliceBounds (some i) none (some j) n).2.1 (sliceBounds (some i) none (some j) n).2.2
section
variable {X:Cx}
end
end L2
namespace Pu
open PySem L2 My Prf
def C7b (xs:LP) (i j:Int):LP:=(C3b xs.length i j).filterMap (xs[·]?)
def C4g (pe pl ps:PDt) (env:PEnv) (Q:SV->PEnv->Prop):Prop:=pe env fun x e1=>asL x fun xs=>pl e1 fun y e2=>asI y fun i=>ps e2 fun z e3=>asI z fun j=>j≠0/\Q (.own (C7b xs i j)) e3
end Pu
namespace L2
open PySem PySem.Spec PyProof.Rows
end L2
namespace Pu
open PySem L2 My Prf
def B7v (pa:PEnv->(List LP->PEnv->Prop)->Prop) (env:PEnv) (Q:SV->PEnv->Prop):Prop:=pa env fun xss e=>∃ xs,xss=[xs]/\Q (.d (.tuple xs)) e
end Pu
namespace L2
open PySem PySem.Spec PyProof.Rows
def told:PyData->Str
 | .str z=>z
 | d=>d.shown
section
variable {X:Cx}
end
end L2
namespace Pu
open PySem L2 My Prf
def pStr (pa:PDt) (env:PEnv) (Q:SV->PEnv->Prop):Prop:=pa env fun d e=>C0h d/\Q (.d (.str (told d))) e
end Pu
namespace L2
open PySem PySem.Spec PyProof.Rows
mutual
def lay1:PyData->Bool
 | .list xs=>C2j xs
 | .tuple xs=>C2j xs
 | .dict kvs=>kvs.isEmpty
 | .str x=>PyData.strOk x
 | _=>true
def C2j:LP->Bool
 | []=>true
 | x :: r=>lay1 x && C2j r
end
section
variable {X:Cx} {pins:List (Addr × Obj)} {σ:St} {H:Hp} {s:Shared}
end
end L2
namespace L2
open PySem PySem.Spec PyProof.Rows
def C3g (d:PyData):Prop:=(lay1 d=true/\d.showable=true)/\d.depth<=60/\d.shown.length<=sizeLine
section
variable {X:Cx}
end
end L2
namespace Pu
open PySem L2 My Prf
def C4f (pa:PDt) (env:PEnv) (Q:SV->PEnv->Prop):Prop:=pa env fun d e=>C3g d/\Q (.d (.str (told d))) e
end Pu
namespace L2
open PySem PySem.Spec PyProof.Rows
end L2
namespace Pu
open PySem L2 My Prf
def C7o (x y:PyData) (Q:SV->Prop):Prop:=match x,y with
 | .tuple (x :: xs),.tuple (y :: ys)=>xs.length + ys.length<=1000/\Q (.d (.tuple (x :: xs++y :: ys)))
 | _,_=>False
theorem B02 {x y:PyData} {xs ys:LP} {Q:SV->Prop}:C7o (.tuple (x :: xs)) (.tuple (y :: ys)) Q=(xs.length + ys.length<=1000/\Q (.d (.tuple (x :: xs++y :: ys)))):=rfl
end Pu
namespace L2
open PySem PySem.Spec PyProof.Rows
section
variable {prog:Program} {w:World} {A:Around} {E:Value->Shared->Prop}
end
end L2
namespace Pu
open PySem L2 My Prf
def qLsU (n:Nat) (pr:LP->PEnv->(PEnv->Prop)->Prop) (x:PyData) (env:PEnv) (Q:PEnv->Prop):Prop:=match x with
 | .list xs=>xs.length=n/\pr xs env Q
 | _=>False
theorem B7o {n:Nat} {pr:LP->PEnv->(PEnv->Prop)->Prop} {xs:LP} {env:PEnv} {Q:PEnv->Prop}:qLsU n pr (.list xs) env Q=(xs.length=n/\pr xs env Q):=rfl
def C44 (pd:PDt) (n:Nat) (pr:LP->PEnv->(PEnv->Prop)->Prop) (D:PEnds) (env:PEnv):Prop:=pd env fun x e=>qLsU n pr x e D.nx
end Pu
namespace L2
open PySem PySem.Spec PyProof.Rows
section
variable {M:Model} {A:Around} {E:Value->Shared->Prop} {s:Shared}
end
section
variable {P:Program} {w:World} {K:PySem.W.Frag} {mg:Str->Option Value} {base:Heap} {N:List Str} {qual:Str} {scope:Scope} {f:Addr} {cd:Value} {A:Around} {outer:List Env} {s0:Shared} {H0:Hp} {E:XK}
end
end L2
namespace L2
open PySem PySem.Spec PyProof.Rows
section
variable {X:Cx} {scope:Scope} {cl:List (Str × Addr)} {N':List Str} {cap:List (Option Nat)} {elt tg iter:Expr} {ifs:List Expr} {wi:TI} {g:TG} {tt:TT} {te:TE} {pos:Pos}
end
section
variable {P:Program} {w:World} {K:PySem.W.Frag} {mg:Str->Option Value} {base:Heap} {N:List Str} {qual:Str} {dsc:Scope} {f:Addr} {cd:Value} {A:Around} {outer:List Env} {s0:Shared} {H0:Hp} {E:XK}
variable {scope:Scope} {cl:List (Str × Addr)} {N':List Str} {cap:List (Option Nat)} {elt tg iter:Expr} {ifs:List Expr} {wi:TI} {g:TG} {tt:TT} {te:TE} {pos:Pos}
end
end L2
namespace L2
open PySem PySem.Spec PyProof.Rows
section
variable {X:Cx} {e:Expr} {t u:TE}
end
section
variable {P:Program} {w:World} {K:PySem.W.Frag} {mg:Str->Option Value} {base:Heap} {N:List Str} {qual:Str} {dsc:Scope} {f:Addr} {cd:Value} {A:Around} {outer:List Env} {s0:Shared} {H0:Hp} {E:XK}
variable {scope:Scope} {cl:List (Str × Addr)} {N':List Str} {cap:List (Option Nat)} {elt tg iter:Expr} {ifs:List Expr} {wi:TI} {g:TG} {tt:TT} {te:TE} {pos:Pos}
end
end L2
namespace Pu
open PySem PySem.Spec PyProof.Rows L2 My Prf
end Pu
namespace L2
open PySem PySem.Spec PyProof.Rows
def A9a:R2:=fun x y H Q=>∃ i n,x=.str i/\y=.int n/\(0<=n/\n<=100)/\i.length<=100/\Q (.str (Txt.mul i n)) H
theorem C5u {x:Str} {n:Int} (h0:0<=n) (h1:n<=100) (h:x.length<=100):MulOk x n:=by
 refine ⟨?_,fun hn _=>?_,fun hn _=>?_⟩
 ·rw [Bool.or_eq_false_iff];exact ⟨Zd (by omega),Zd (by omega)⟩
 ·have hp:0 < n:=by omega
  have h2:100 * n<=2 ^ 63 - 1:=by omega
  have h3:(100:Int)<=(2 ^ 63 - 1) / n:=Int.le_ediv_of_mul_le hp h2;omega
 ·have h2:x.length * n.toNat<=100 * 100:=Nat.mul_le_mul h (by omega);have h3:100 * 100<=sizeLine:=by rw [sizeLine_eq]; decide
  show decide _=false;exact Zd (by omega)
theorem B09 {X:Cx}:OpR X (binaryOp .Mult) A9a:=by
 intro pins s σ H x y v u Q I rx ry h;obtain ⟨i,n,rfl,rfl,⟨h0,h1⟩,h2,q⟩:=h;obtain ⟨t,rfl⟩:=rx;obtain ⟨t2,rfl⟩:=ry;exact PySem.SB.mul (C5u h0 h1 h2) fun t' k=>⟨.str _,H,I.tok _,⟨t',rfl⟩,q⟩
end L2
namespace Pu
open PySem L2 My Prf
def C1n (x y:PyData) (Q:SV->Prop):Prop:=asS x fun i=>asI y fun n=>(0<=n/\n<=100)/\i.length<=100/\Q (.d (.str (Txt.mul i n)))
theorem B0b {i:Str} {n:Int} {Q:SV->Prop}:C1n (.str i) (.int n) Q=((0<=n/\n<=100)/\i.length<=100/\Q (.d (.str (Txt.mul i n)))):=rfl
instance ro_mulS {K:Frag}:RO K A9a C1n where
 ok:=by
  rintro c w env σ x y dx dy Qp Q rfl E vx vy p k;unfold C1n asS at p;split at p
  ·unfold asI at p;split at p
   ·exact ⟨_,_,vx.strE,vy.intE,p.1,p.2.1,k _ _ w (Res.data E (.str _)) p.2.2⟩
   ·exact p.elim
  ·exact p.elim
end Pu
namespace L2
open PySem PySem.Spec PyProof.Rows
theorem C20 {b n:Nat} (h:n<=b):Builtin.Slice.sliceAdjust none (some (b:Int)) 1 (n:Int)=(0,(n:Int)):=by
 have e1:¬ ((1:Int) < 0):=by decide
 have e2:¬ ((b:Int) < 0):=by omega
 have e3:min (b:Int) (n:Int)=n:=by omega
 simp only [Builtin.Slice.sliceAdjust,e1,e2,if_false,e3]
theorem C02 (n:Nat):Builtin.Slice.slicePlaces 0 (n:Int) 1=n:=by
 have e1:(1:Int) > 0:=by decide
 simp only [Builtin.Slice.slicePlaces,e1,if_true,Int.ediv_one];split <;> omega
section
variable {pg:Program} {wo:World} {ar:Around} {xe:Value->Shared->Prop} {st:Shared}
theorem C2y {q:Addr} {b n:Nat} {tk:Tok} {Q:Int × Int × Nat->Shared->Prop} (hs:st.heap.IsSliceOf q .none (.int b tk) .none) (hb:n<=b) (k:Q (0,1,n) st) :
  wpAny (model pg wo) ar (Builtin.Slice.sliceApplied (.ref q) (pure (n:Int))) Q xe st:=by
 obtain ⟨ob,g1,g2,g3⟩:=id hs;unfold Builtin.Slice.sliceApplied Builtin.Slice.sliceFields;refine wpAny_bind (wpAny_bind (wpAny_field g1 g3 (x:=.none) rfl ?_));refine wpAny_bind (wpAny_field g1 g3 (x:=.int b tk) rfl ?_);refine wpAny_bind (wpAny_field g1 g3 (x:=.none) rfl ?_);refine wpAny_pure ?_;refine wpAny_bind (slicePart_none ?_);show wpAny _ _ (if ((1:Int) == 0)=true then _ else _) _ _ st;rw [if_neg (by decide)];refine wpAny_bind (slicePart_none ?_);refine wpAny_bind (slicePart_int ?_);refine wpAny_bind (wpAny_pure ?_);show wpAny _ _ (match Builtin.Slice.sliceAdjust none (some (b:Int)) 1 (n:Int) with | (x,y)=>pure (x,(1:Int),Builtin.Slice.slicePlaces x y 1)) _ _ st;rw [C20 hb];show wpAny _ _ (pure ((0:Int),(1:Int),Builtin.Slice.slicePlaces 0 (n:Int) 1)) _ _ st;rw [C02];exact wpAny_pure k
theorem B6h {a q:Addr} {its:Array Value} {b:Nat} {tk:Tok} {Q:Value->Shared->Prop} (ht:IsTup st.heap a its) (hs:st.heap.IsSliceOf q .none (.int b tk) .none) (hb:its.size<=b) (k:Q (.ref a) st) :
  wpAny (model pg wo) ar (getItem (.ref a) (.ref q)) Q xe st:=by
 obtain ⟨ob,g1,g2,g3⟩:=id hs;have tq:st.TypeIs (.ref q) "slice":=⟨ob,g1,g2⟩;unfold getItem;try with_reducible refine wpAny_holding ?_
 first | refine wpAny_bind (wpAny_pure ?_) | skip
 refine wpAny_bind (wpAny_sequenceKey ht.typeIs (by decide) ?_);refine wpAny_bind (wpAny_callSpecial?_slot (name:=Str.ofString "__getitem__") ht.typeIs slot_tuple_getitem ?_);refine wpAny_call_entry slot_tuple_getitem ht.typeIs entry_tuple_getitem ?_ (args_tuple_getitem _ _);show wpAny _ _ (Builtin.Tuple.tupleItemsOf (.ref a) >>= _) _ _ st;refine wpAny_bind (tupleItemsOf_ ht ?_);refine wpAny_bind (wpAny_typeOf tq ?_);rw [if_pos (by decide)];refine wpAny_bind (C2y hs hb ?_);show wpAny _ _ (if ((0:Int) == 0 && (1:Int) == 1 && its.size == its.size)=true then _ else _) _ _ st;rw [if_pos (by simp)];unfold Builtin.Tuple.tupleIsExact;refine wpAny_bind (wpAny_bind (wpAny_typeOf ht.typeIs ?_));refine wpAny_pure ?_;rw [if_pos (by decide)];first | exact wpAny_bind (wpAny_rule (wpAny_pure ⟨_,rfl,wpAny_pure k⟩)) | exact wpAny_bind (wpAny_pure (wpAny_pure ⟨_,rfl,wpAny_pure k⟩)) | exact wpAny_pure ⟨_,rfl,wpAny_pure k⟩
end
def rSlW (K:PySem.W.Frag):V->Option Int->Option Int->Hp->VK->Prop:=fun x lo hi H Q=>∃ (a:Addr) (xs:List V) (b:Nat),x=.ref a/\SqT K H a xs/\lo=none/\hi=some (b:Int)/\xs.length<=b/\Q (.ref a) H
theorem B48 {X:Cx}:SlR X (rSlW X.K):=by
 intro pins s σ H x v vl vu lo hi q Q I rx hs pl pu h;obtain ⟨a,xs,b,rfl,hx,rfl,rfl,hb,k⟩:=h;cases rx;obtain ⟨its,r,ht,hz⟩:=I.tuple hx;have hlen:=r.length;cases pl;cases pu;refine ⟨"tuple",_,slot_tuple_getitem.lookup,ht.typeIs,?_⟩;exact B6h ht hs (by rw [List.size_toArray]; omega) ⟨.ref a,H,I,rfl,k⟩
def C0k (K:PySem.W.Frag):V->Option Int->Option Int->Hp->VK->Prop:=fun x lo hi H Q=>rSlT K x lo hi H Q\/rSlW K x lo hi H Q
theorem C0f {X:Cx} {K:PySem.W.Frag} (h:X.K=K):SlR X (C0k K):=by
 subst h;exact SlR.or C3f B48
end L2
namespace Pu
open PySem L2 My Prf
def pSlT (pa:PDt) (pl ph:PEnv->(Option Int->PEnv->Prop)->Prop) (env:PEnv) (Q:SV->PEnv->Prop):Prop:=pa env fun x e=>pl e fun lo e1=>ph e1 fun hi e2=>∃ (xs:LP) (b:Nat),x=.tuple xs/\lo=none/\hi=some (b:Int)/\Q (.d (.tuple (xs.take b))) e2
end Pu
namespace Pu
open PySem L2 My Prf
def OT.part:OT->Int->Option OT
 | .leaf (.tuple xs),i=>(L2.atI xs i).map .leaf
 | .leaf (.list xs),i=>(L2.atI xs i).map .leaf
 | .nd _ _ k,i=>(ixN k.len i).bind k.kid
 | _,_=>none
theorem Y8 {c:Ct} {w w':Wd} {v:V} {t:OT} (s:Same w.F w'.F) (h:VR c w v (.bt t)):VR c w' v (.bt t):=⟨h.1.sameF s,h.2⟩
theorem A90 {c:Ct} {w:Wd} {v:V} {t u:OT} {i:Int} (ok:w.Ok) (l:Le c.w0 w) (h:VR c w v (.bt t)) (e:t.part i=some u):∃ p vs x,v=.ref p/\(SqL c.K w.H p vs\/SqT c.K w.H p vs)/\L2.atI vs i=some x/\VR c w x (.bt u):=by
 unfold OT.part at e;split at e
 ·obtain ⟨⟨v',ev,h⟩,_⟩:=h;cases ev;obtain ⟨x,hx,rfl⟩:=Zo e;obtain ⟨p,vs,rfl,h1,h2⟩:=Den.tupE h;obtain ⟨y,hy,hd⟩:=h2.atIE hx;exact ⟨p,vs,y,rfl,.inr (SqT.same ok.sub h1),hy,⟨_,rfl,hd⟩,fun q hq=>nomatch hq⟩
 ·obtain ⟨⟨v',ev,h⟩,_⟩:=h;cases ev;obtain ⟨x,hx,rfl⟩:=Zo e;obtain ⟨p,vs,rfl,h1,h2⟩:=Den.lstE h;obtain ⟨y,hy,hd⟩:=h2.atIE hx;exact ⟨p,vs,y,rfl,.inl (ok.sub.seq h1),hy,⟨_,rfl,hd⟩,fun q hq=>nomatch hq⟩
 ·rename_i b a k;obtain ⟨⟨ev,us,h1,h2⟩,h3⟩:=h;cases ev;obtain ⟨j,hj,hk⟩:=Option.bind_eq_some_iff.mp e;obtain ⟨x,hx,hu⟩:=h2.kid hk;have hH:=l.h _ _ h1 (h3 a (by simp [OT.fp]));refine ⟨a,us,x,rfl,?_,?_,hu,fun q hq=>h3 q (Zr _ (A2u hk hq))⟩
  ·cases b with
   | true=>exact .inl (SqL.of hH)
   | false=>exact .inr (SqT.of hH)
  ·unfold L2.atI;rw [h2.len,hj]; exact hx
 ·cases e
class RTb (K:Frag) (te:TE) (pb:outParam (PEnv->(OT->PEnv->Prop)->Prop)):Prop where
 ok:∀ (c:Ct) (w:Wd) (env:PEnv) (σ:St) (Qp:OT->PEnv->Prop) (Q:VK),c.K=K->EnvOk c w env σ->pb env Qp->(∀ v t env' w',EnvOk c w' env' σ->Lw w w'->VR c w' v (.bt t)->Qp t env'->Q v w'.H)->te σ w.H Q
def B56 (o:Option (Option SV)) (env:PEnv) (Q:OT->PEnv->Prop):Prop:=match o with
 | some (some (.bt t))=>Q t env
 | some (some (.d x))=>Q (.leaf x) env
 | _=>False
def B5x (i:Nat) (env:PEnv) (Q:OT->PEnv->Prop):Prop:=B56 env[i]? env Q
theorem B2d {t:OT} {env:PEnv} {Q:OT->PEnv->Prop}:B56 (some (some (.bt t))) env Q=Q t env:=rfl
theorem B2c {x:PyData} {env:PEnv} {Q:OT->PEnv->Prop}:B56 (some (some (.d x))) env Q=Q (.leaf x) env:=rfl
instance rtb_var {K:Frag} {i:Nat}:RTb K (tVar i) (B5x i) where
 ok:=by
  rintro c w env σ Qp Q rfl E p k;unfold B5x B56 at p;split at p
  ·rename_i t e;obtain ⟨v,h1,h2⟩:=E.at' i _ e;exact ⟨v,h1,k v _ env w E (Lw.refl w) h2 p⟩
  ·rename_i x e;obtain ⟨v,h1,h2⟩:=E.at' i _ e;exact ⟨v,h1,k v (.leaf x) env w E (Lw.refl w) ⟨⟨v,rfl,h2⟩,fun a z=>nomatch z⟩ p⟩
  ·exact p.elim
def tPth (te:TE):TE:=te
def pPth (pb:PEnv->(OT->PEnv->Prop)->Prop) (pi:PDt) (env:PEnv) (Q:OT->PEnv->Prop):Prop:=pb env fun t e1=>pi e1 fun y e2=>asI y fun n=>∃ u,t.part n=some u/\Q u e2
instance rtb_pth {K:Frag} {te ti:TE} {pb:PEnv->(OT->PEnv->Prop)->Prop} {pi:PDt} [hb:RTb K te pb] [hi:RW K ti pi]:RTb K (tPth (tOp (rIx K) te ti)) (pPth pb pi) where
 ok:=by
  rintro c w env σ Qp Q rfl E p k;refine hb.ok c w env σ _ _ rfl E p fun v t e1 w1 E1 l1 v1 q1=>?_;refine hi.ok c w1 e1 σ _ _ rfl E1 q1 fun y dy e2 w2 E2 l2 v2 q2=>?_;unfold asI at q2;split at q2
  ·rename_i n;obtain ⟨u,hu,q⟩:=q2;obtain ⟨p,vs,x,rfl,hs,hx,hv⟩:=A90 E2.wok E2.le0 (Y8 l2.f v1) hu;have hn:=v2.intE;rcases hs with hs | hs
   ·exact .inl ⟨p,vs,n,x,rfl,hn,hs,hx,k x u e2 w2 E2 (l1.trans l2) hv q⟩
   ·exact .inr (.inl ⟨p,vs,n,x,rfl,hn,hs,hx,k x u e2 w2 E2 (l1.trans l2) hv q⟩)
  ·exact q2.elim
def OT.vw (t:OT) (k:PyData->Prop):Prop:=match t with
 | .leaf x=>k x
 | t=>∃ xs,t.sv=.bor xs/\k (.list xs)
theorem A8g {x:PyData} {k:PyData->Prop}:OT.vw (.leaf x) k=k x:=rfl
def pVw (pb:PEnv->(OT->PEnv->Prop)->Prop) (env:PEnv) (Q:PyData->PEnv->Prop):Prop:=pb env fun t e=>t.vw fun x=>Q x e
def OT.lf (t:OT) (k:PyData->Prop):Prop:=match t with
 | .leaf x=>k x
 | _=>False
theorem B2p {x:PyData} {k:PyData->Prop}:OT.lf (.leaf x) k=k x:=rfl
def pLf (pb:PEnv->(OT->PEnv->Prop)->Prop) (env:PEnv) (Q:SV->PEnv->Prop):Prop:=pb env fun t e=>t.lf fun x=>Q (.d x) e
def pBr (pb:PEnv->(OT->PEnv->Prop)->Prop) (env:PEnv) (Q:LP->PEnv->Prop):Prop:=pb env fun t e=>∃ xs,t.sv=.bor xs/\Q xs e
end Pu
namespace L2
open PySem PySem.Spec PyProof.Rows
theorem qPth {X:Cx} {e:Expr} {t:TE} (h:QE X e t):QE X e (Pu.tPth t):=h
end L2
namespace Pu
open PySem L2 My Prf
def Mut (K:Frag) (w:Wd) (l:Addr) (xs:LP):Prop:=∃ vs,w.H l=some (.lst vs)/\w.F l=none/\¬ w.M l/\DenAll K w.F vs xs
abbrev PMu:=LP->LP->LP->(PyData->LP->LP->Prop)->Prop
def C6m (nd:Nat) (p q:Addr) (Qp:PyData->LP->LP->Prop) (x:PyData) (e:PEnv):Prop:=∃ ys zs,e[nd]?=some (some (.tr (.nd true p (B1 ys))))/\e[nd + 1]?=some (some (.tr (.nd true q (B1 zs))))/\Qp x ys zs
def rtMu (nd:Nat) (p q:Addr) (Qp:PyData->LP->LP->Prop) (s:SV) (e:PEnv):Prop:=match s with
 | .d x=>C6m nd p q Qp x e
 | _=>False
theorem B7l {nd:Nat} {p q:Addr} {Qp:PyData->LP->LP->Prop} {x:PyData} {e:PEnv}:rtMu nd p q Qp (.d x) e=C6m nd p q Qp x e:=rfl
def oMu (o:Option (Option SV)) (k:Addr->LP->Prop):Prop:=match o with
 | some (some (.tr t))=>∃ a xs,t=.nd true a (B1 xs)/\k a xs
 | _=>False
theorem C7q {a:Addr} {xs:LP} {k:Addr->LP->Prop} (h:k a xs):oMu (some (some (.tr (.nd true a (B1 xs))))) k:=⟨a,xs,rfl,h⟩
theorem A0t {xs ys:LP} (h:B1 xs=B1 ys):xs=ys:=by
 have:=congrArg OT.dat h
 rwa [J1,J1] at this
theorem C5l {a:Addr} {xs:LP} {k:Addr->LP->Prop}:oMu (some (some (.tr (.nd true a (B1 xs))))) k=k a xs :=
 propext ⟨fun ⟨_,_,e,h⟩=>by
  have e1:=(OT.nd.inj e).2.1;have e2:=A0t (OT.nd.inj e).2.2;subst e1; subst e2; exact h,C7q⟩
def pMuV (i:Nat) (env:PEnv) (Q:PyData->PEnv->Prop):Prop:=oMu env[i]? fun _ xs=>Q (.list xs) env
def B7x (pd:PDt) (i:Nat) (pi:PDt) (D:PEnds) (env:PEnv):Prop:=pd env fun x e=>oMu e[i]? fun _ _=>pi e fun y e2=>asI y fun n=>oMu e2[i]? fun a xs=>∃ j,ixN xs.length n=some j/\D.nx (e2.set i (some (.tr (.nd true a (B1 (xs.set j x))))))
def is2 (o o':Option (Option SV)) (k:Prop):Prop:=match o,o' with
 | some (some (.own _)),some (some (.own _))=>k
 | _,_=>False
theorem C6e {xs ys:LP} {k:Prop}:is2 (some (some (.own xs))) (some (some (.own ys))) k=k:=rfl
def pA2 (i j:Nat) (env:PEnv) (Q:LP->Nat->Nat->PEnv->Prop):Prop:=is2 env[i]? env[j]? (Q [] i j env)
def pC2 (pd:PDt) (pr:PEnv->(LP->Nat->Nat->PEnv->Prop)->Prop) (env:PEnv) (Q:LP->Nat->Nat->PEnv->Prop):Prop:=pd env fun x e1=>pr e1 fun xs i j e2=>Q (x :: xs) i j e2
def own2 (o o':Option (Option SV)) (k:LP->LP->Prop):Prop:=match o,o' with
 | some (some (.own xs)),some (some (.own ys))=>k xs ys
 | _,_=>False
theorem B8r {xs ys:LP} {k:LP->LP->Prop}:own2 (some (some (.own xs))) (some (some (.own ys))) k=k xs ys:=rfl
def pMu (psp:PMu) (pa:PEnv->(LP->Nat->Nat->PEnv->Prop)->Prop) (env:PEnv) (Q:PyData->PEnv->Prop):Prop:=pa env fun xs i j e=>i≠j/\own2 e[i]? e[j]? fun ys zs=>psp xs ys zs fun x ys' zs'=>Q x ((e.set i (some (.own ys'))).set j (some (.own zs')))
def B8m (psp:PMu) (pa:PEnv->(LP->Nat->Nat->PEnv->Prop)->Prop) (m:Nat) (D:PEnds) (env:PEnv):Prop:=pMu psp pa env fun x e=>D.nx (e.set m (some (.d x)))
def B0r (psp:PMu) (pa:PEnv->(LP->Nat->Nat->PEnv->Prop)->Prop) (D:PEnds) (env:PEnv):Prop:=pMu psp pa env fun _ e=>D.nx e
end Pu
namespace L2
open PySem PySem.Spec PyProof.Rows
end L2
namespace Pu
open PySem L2 My Prf
def B8g (i:Nat) (pg:PyData->PEnv->(PEnv->Prop)->Prop) (pt:PTt) (pd:PDt) (cap:List (Option Nat)) (env:PEnv) (Q:SV->PEnv->Prop):Prop:=M7 env[i]? fun xs=>xs.length < 1000000/\N2 xs pg pt pd (F0 cap env) fun ys=>Q (.own ys) env
def A2k (i:Nat) (pg:PyData->PEnv->(PEnv->Prop)->Prop) (pt:PTt) (pd:PDt) (cap:List (Option Nat)) (j:Nat) (D:PEnds) (env:PEnv):Prop:=M7 env[i]? fun xs=>xs.length < 1000000/\N2 xs pg pt pd (F0 cap env) fun ys=>D.nx (env.set j (some (.own ys)))
end Pu
namespace L2
open PySem PySem.Spec PyProof.Rows
end L2
namespace Pu
open PySem L2 My Prf
theorem C1d {K:Frag} {w:Wd} {v:V} {t u:OT} {i:Int} (ok:w.Ok) (h:TV K w v t) (e:t.part i=some u):∃ p vs x,v=.ref p/\(SqL K w.H p vs\/SqT K w.H p vs)/\L2.atI vs i=some x/\TV K w x u:=by
 obtain ⟨p,vs,x,e1,h1,h2,h3⟩:=A90 (c:=⟨K,w,noZ⟩) ok (Le.refl w) (show VR ⟨K,w,noZ⟩ w v (.bt t) from h) e;exact ⟨p,vs,x,e1,h1,h2,h3⟩
def tPo (te:TE):TE:=te
instance (priority:=high) rtr_po {K:Frag} {te ti:TE} {pb:PEnv->(OT->PEnv->Prop)->Prop} {pi:PDt} [hb:RTr K te pb] [hi:RW K ti pi]:RTr K (tPo (tOp (rIx K) te ti)) (pPth pb pi) where
 ok:=by
  rintro c w env σ Qp Q rfl E p k;refine hb.ok c w env σ _ _ rfl E p fun v t e1 w1 E1 l1 v1 q1=>?_;refine hi.ok c w1 e1 σ _ _ rfl E1 q1 fun y dy e2 w2 E2 l2 v2 q2=>?_;unfold asI at q2;split at q2
  ·rename_i n;obtain ⟨u,hu,q⟩:=q2;obtain ⟨p,vs,x,rfl,hs,hx,hv⟩:=C1d E2.wok (v1.mono l2 v1.1.has) hu;have hn:=v2.intE;rcases hs with hs | hs
   ·exact .inl ⟨p,vs,n,x,rfl,hn,hs,hx,k x u e2 w2 E2 (l1.trans l2) hv q⟩
   ·exact .inr (.inl ⟨p,vs,n,x,rfl,hn,hs,hx,k x u e2 w2 E2 (l1.trans l2) hv q⟩)
  ·exact q2.elim
theorem C72:∀ {t:OT} {xs:LP},t.sv=.bor xs->t=.leaf (.list xs)\/∃ a,t=.nd true a (B1 xs)
 | .leaf (.list ys),xs,h=>by cases (show SV.bor ys=.bor xs from h); exact .inl rfl
 | .nd true a k,xs,h=>by
  have h':(match k.lvs with | some xs=>SV.bor xs | none=>.bt (.nd true a k))=.bor xs:=h;cases q:k.lvs with
  | none=>rw [q] at h'; cases h'
  | some ys=>rw [q] at h'; cases h'; exact .inr ⟨a,by rw [P1 q]⟩
def pDa (pb:PEnv->(OT->PEnv->Prop)->Prop) (env:PEnv) (Q:PyData->PEnv->Prop):Prop:=pb env fun t e=>∃ x,t.dat=[x]/\Q x e
instance (priority:=high) rh_po {K:Frag} {te:TE} {pb:PEnv->(OT->PEnv->Prop)->Prop} [hb:RTr K (tPo te) pb]:RH K (tPo te) (pDa pb) where
 ok:=by
  rintro c w env σ Qp Q rfl E p k;refine hb.ok c w env σ _ _ rfl E p fun v t e1 w1 E1 l1 v1 q1=>?_;obtain ⟨x,ex,q⟩:=q1;have:=v1.1.den E1.wok v1.2;rw [ex] at this;cases this with | cons a _=>exact k v x e1 w1 E1 l1 a q
def OT.setK:OT->Nat->OT->OT
 | .cons _ t,0,x=>.cons x t
 | .cons h t,n + 1,x=>.cons h (t.setK n x)
 | t,_,_=>t
theorem B3o:∀ {ks:OT} {j:Nat} {u:OT},ks.kid j=some u->∃ A B,ks.fp=A++u.fp++B/\∀ x,(ks.setK j x).fp=A++x.fp++B
 | .cons _ t,0,_,q=>by cases q; exact ⟨[],t.fp,rfl,fun x=>rfl⟩
 | .cons h t,n + 1,u,q=>by
  obtain ⟨A,B,e1,e2⟩:=B3o (ks:=t) (j:=n) (u:=u) q;exact ⟨h.fp++A,B,by show h.fp++t.fp=_; rw [e1]; simp,fun x=>by show h.fp++(t.setK n x).fp=_; rw [e2]; simp⟩
theorem Tre.agree {K:Frag} {w w':Wd} (f:Same w.F w'.F):∀ {t:OT} {vs:List V},Tre K w t vs->(∀ a ∈ t.fp,∀ o,w.H a=some o->w'.H a=some o)->Tre K w' t vs
 | .leaf _,_,⟨v,e,h⟩,_=>⟨v,e,Den.same f h⟩
 | .nd _ p _,_,⟨e,us,h,k⟩,n=>⟨e,us,n p (by simp [OT.fp]) _ h,Tre.agree f k fun q hq=>n q (by simp [OT.fp,hq])⟩
 | .nil,_,e,_=>e
 | .cons _ _,_,⟨v,r,e,h,t⟩,n=>⟨v,r,e,Tre.agree f h fun q hq=>n q (by simp [OT.fp,hq]),Tre.agree f t fun q hq=>n q (by simp [OT.fp,hq])⟩
theorem Tre.setK {K:Frag} {w w':Wd} {x:OT} {v:V} (f:Same w.F w'.F):∀ {ks:OT} {us:List V} {j:Nat} {u:OT},Tre K w ks us->ks.kid j=some u->us[j]?=some v->ks.fp.Nodup->(∀ a o,w.H a=some o->a ∉ u.fp->w'.H a=some o)->Tre K w' x [v]->Tre K w' (ks.setK j x) us
 | .cons h t,_,0,u,⟨y,r,rfl,hh,ht⟩,q,ev,nd,ag,hx=>by
  cases q;have:y=v:=by simpa using ev
  subst this;have d:=(List.nodup_append.mp nd).2.2;exact ⟨y,r,rfl,hx,ht.agree f fun a ha o ho=>ag a o ho fun z=>d a z a ha rfl⟩
 | .cons h t,_,n + 1,u,⟨y,r,rfl,hh,ht⟩,q,ev,nd,ag,hx=>by
  obtain ⟨_,n2,d⟩:=List.nodup_append.mp nd;have q':t.kid n=some u:=q;refine ⟨y,r,rfl,hh.agree f fun a ha o ho=>ag a o ho fun z=>d a ha a (A2u q' z) rfl,?_⟩;exact Tre.setK f (ks:=t) (j:=n) ht q' (by simpa using ev) n2 ag hx
structure Sub (K:Frag) (w:Wd) (T u:OT) (r:OT->OT) (v0 v:V):Prop where
 tre:Tre K w u [v]
 re:∀ (w':Wd) x,(∀ a o,w.H a=some o->a ∉ u.fp->w'.H a=some o)->Same w.F w'.F->Tre K w' x [v]->Tre K w' (r x) [v0]
 fp:∃ A B,T.fp=A++u.fp++B/\∀ x,(r x).fp=A++x.fp++B
class RRt (K:Frag) (te:TE) (i:outParam Nat) (pm:outParam (OT->(OT->(OT->OT)->Prop)->Prop)):Prop where
 ok:∀ (c:Ct) (w:Wd) (env:PEnv) (σ:St) (T:OT) (v0:V) (P:OT->(OT->OT)->Prop) (Q:VK),c.K=K->EnvOk c w env σ->env[i]?=some (some (.tr T))->σ[i]?=some (some v0)->pm T P->(∀ v u r,P u r->Sub K w T u r v0 v->Q v w.H)->te σ w.H Q
def B6c (T:OT) (k:OT->(OT->OT)->Prop):Prop:=k T fun x=>x
instance rrt_var {K:Frag} {i:Nat}:RRt K (tVar i) i B6c where
 ok:=by
  rintro c w env σ T v0 P Q rfl E e hv p k;obtain ⟨v,h1,h2⟩:=E.at' i _ e;rw [hv] at h1; cases h1;exact ⟨v0,hv,k v0 T _ p ⟨h2.1,fun w' x _ _ h=>h,[],[],by simp,fun x=>by simp⟩⟩
def mIx (pm:OT->(OT->(OT->OT)->Prop)->Prop) (n:Int) (T:OT) (k:OT->(OT->OT)->Prop):Prop:=pm T fun t r=>∃ b a ks j u,t=.nd b a ks/\ixN ks.len n=some j/\ks.kid j=some u/\k u fun x=>r (.nd b a (ks.setK j x))
instance rrt_ix {K:Frag} {te:TE} {i:Nat} {n:Int} {pm:OT->(OT->(OT->OT)->Prop)->Prop} [h:RRt K te i pm]:RRt K (tPo (tOp (rIx K) te (tC (.int n)))) i (mIx pm n) where
 ok:=by
  rintro c w env σ T v0 P Q rfl E e hv p k;obtain ⟨v',hv',VRT⟩:=E.at' i _ e;refine h.ok c w env σ T v0 _ _ rfl E e hv p fun v t r ⟨b,a,ks,j,u,et,hj,hk,q⟩ S=>?_;subst et;obtain ⟨⟨ev,us,hH,hks⟩,re,A,B,eT,er⟩:=S;cases ev;obtain ⟨x,hx,hu⟩:=hks.kid hk;have nT:=VRT.2.2;rw [eT] at nT;have nd:(OT.nd b a ks).fp.Nodup:=(List.nodup_append.mp (List.nodup_append.mp nT).1).2.1;obtain ⟨ha,nk⟩:=List.nodup_cons.mp (show (a :: ks.fp).Nodup from nd);obtain ⟨A',B',e1,e2⟩:=B3o hk;have sub:Sub c.K w T u (fun x=>r (.nd b a (ks.setK j x))) v0 x:=⟨hu,fun w' y ag f hy=>by
    refine re w' _ (fun a' o ho hn=>ag a' o ho fun z=>hn (Zr _ (A2u hk z))) f ⟨rfl,us,ag a _ hH fun z=>ha (A2u hk z),?_⟩;exact Tre.setK f hks hk hx nk ag hy,A++a :: A',B'++B,by
    rw [eT,show (OT.nd b a ks).fp=a :: ks.fp from rfl,e1]; simp,fun y=>by
    rw [er,show (OT.nd b a (ks.setK j y)).fp=a :: (ks.setK j y).fp from rfl,e2]; simp⟩
  have at':L2.atI us n=some x:=by unfold L2.atI; rw [hks.len,hj]; exact hx
  cases b with
  | true=>exact .inl ⟨a,us,n,x,rfl,rfl,SqL.of hH,at',k x u _ q sub⟩
  | false=>exact .inr (.inl ⟨a,us,n,x,rfl,rfl,SqT.of hH,at',k x u _ q sub⟩)
theorem EnvOk.change {c:Ct} {w:Wd} {env:PEnv} {σ:St} {i:Nat} {T u:OT} {r:OT->OT} {v0 v:V} {a:Addr} {xs ys:LP} {us:List V} (E:EnvOk c w env σ) (e:env[i]?=some (some (.tr T))) (hv:σ[i]?=some (some v0)) (S:Sub c.K w T u r v0 v) (hu:u=.nd true a (B1 xs)) (hd:DenAll c.K w.F us ys) :
  EnvOk c ⟨w.M,upd w.H a (.lst us),w.F⟩ (env.set i (some (.tr (r (.nd true a (B1 ys)))))) σ:=by
 subst hu;obtain ⟨v',hv',VRT⟩:=E.at' i _ e;rw [hv] at hv'; cases hv';obtain ⟨tre,re,A,B,eT,er⟩:=S;obtain ⟨ev,_⟩:=tre;cases ev;have ef:(r (.nd true a (B1 ys))).fp=T.fp:=by
  rw [er,eT,show (OT.nd true a (B1 ys)).fp=a :: (B1 ys).fp from rfl,show (OT.nd true a (B1 xs)).fp=a :: (B1 xs).fp from rfl,O7,O7]
 have haT:a ∈ T.fp:=by rw [eT]; simp [OT.fp]
 refine E.writeAt (s':=.tr (r (.nd true a (B1 ys)))) e hv haT (fun b hb=>by show b ∈ T.fp; rw [<- ef]; exact hb) ⟨re _ _ (fun b o ho hn=>?_) (Same.refl _) ⟨rfl,us,B3,R9 hd⟩,fun b hb=>?_,by rw [ef]; exact VRT.2.2⟩
 ·show upd w.H a _ b=_;rw [C4 (fun z=>hn (by rw [z]; simp [OT.fp]))]; exact ho
 ·rw [ef] at hb;obtain ⟨z1,z2⟩:=VRT.2.1 b hb;exact ⟨fun z=>z1 (K5 z),z2⟩
theorem Sub.lst {K:Frag} {w:Wd} {T u:OT} {r:OT->OT} {v0 v:V} {a:Addr} {xs:LP} (S:Sub K w T u r v0 v) (hu:u=.nd true a (B1 xs)):v=.ref a/\∃ us,w.H a=some (.lst us)/\DenAll K w.F us xs:=by
 subst hu;obtain ⟨⟨ev,us,h1,h2⟩,_⟩:=S;cases ev;exact ⟨rfl,us,h1,M8 h2⟩
def isLs (u:OT) (k:Addr->LP->Prop):Prop:=∃ a xs,u=.nd true a (B1 xs)/\k a xs
theorem Y0 {a:Addr} {xs:LP} {k:Addr->LP->Prop}:isLs (.nd true a (B1 xs)) k=k a xs :=
 propext ⟨fun ⟨_,_,e,h⟩=>by
  have e1:=(OT.nd.inj e).2.1;have e2:=A0t (OT.nd.inj e).2.2;subst e1; subst e2; exact h,fun h=>⟨a,xs,rfl,h⟩⟩
def B0z (i:Nat) (pm:OT->(OT->(OT->OT)->Prop)->Prop) (D:PEnds) (env:PEnv):Prop:=asTr env[i]? fun T=>pm T fun u r=>isLs u fun a _=>D.nx (env.set i (some (.tr (r (.nd true a .nil)))))
instance (priority:=high) rs_clrP {K:Frag} {te:TE} {i:Nat} {pm:OT->(OT->(OT->OT)->Prop)->Prop} [h:RRt K (tPo te) i pm]:RS K (Z4 (tBM0 K "list" A9d (tPo te))) (B0z i pm) where
 ok:=by
  rintro c w env σ Dp D rfl E hD p;unfold B0z asTr at p;split at p
  ·rename_i T e;obtain ⟨v0,hv,_⟩:=E.at' i _ e;refine h.ok c w env σ T v0 _ _ rfl E e hv p fun v u r ⟨a,xs,eu,q⟩ S=>?_;obtain ⟨rfl,us,h1,h2⟩:=S.lst eu;exact ⟨.inl ⟨rfl,_,SqL.of h1⟩,a,us,rfl,rfl,h1,hD.nx _ σ ⟨w.M,upd w.H a (.lst []),w.F⟩ (E.change (ys:=[]) e hv S eu .nil) (Same.refl _) q⟩
  ·exact p.elim
def C45 (i:Nat) (pm:OT->(OT->(OT->OT)->Prop)->Prop) (x:PyData) (D:PEnds) (env:PEnv):Prop:=asTr env[i]? fun T=>pm T fun u r=>isLs u fun a xs=>xs.length < 1000000/\D.nx (env.set i (some (.tr (r (.nd true a (B1 (xs++[x])))))))
def oInt (o:Option (Option SV)) (k:Int->Prop):Prop:=match o with
 | some (some (.d (.int n)))=>k n
 | _=>False
def C4h (pd:PDt) (i:Nat) (pm:OT->(OT->(OT->OT)->Prop)->Prop) (j:Nat) (D:PEnds) (env:PEnv):Prop:=pd env fun x e=>asTr e[i]? fun T=>pm T fun u r=>isLs u fun a xs=>oInt e[j]? fun n=>∃ m,ixN xs.length n=some m/\D.nx (e.set i (some (.tr (r (.nd true a (B1 (xs.set m x)))))))
theorem A53 {n:Int} {k:Int->Prop}:oInt (some (some (.d (.int n)))) k=k n:=rfl
def OT.slot:OT->SV
 | .leaf x=>.d x
 | .nd true a k=>match k.lvs with
  | some xs=>.own xs
  | none=>.tr (.nd true a k)
 | t=>.tr t
theorem A15 {x:PyData}:OT.slot (.leaf x)=.d x:=rfl
theorem W0 {a:Addr} {xs:LP}:OT.slot (.nd true a (B1 xs))=.own xs:=by show (match (B1 xs).lvs with | some xs=>SV.own xs | none=>_)=_; rw [T3]
def TVo:OT->V->Prop
 | .nd _ p _,v=>v=.ref p
 | _,_=>True
theorem A16 {v:V} {a:Addr}:∀ {u:OT},TVo u v->u.slot.foot v a->a ∈ u.fp
 | .leaf _,_,f=>f.elim
 | .nd true p k,h,f=>by
  unfold OT.slot at f;dsimp only at f;split at f
  ·have:V.ref p=.ref a:=h.symm.trans f;cases this; simp [OT.fp]
  ·exact f
 | .nd false _ _,_,f=>f
 | .nil,_,f=>f
 | .cons _ _,_,f=>f
theorem C0e {c:Ct} {w:Wd} {v:V} {u:OT} (h:Tre c.K w u [v]) (o:∀ a ∈ u.fp,w.H a≠none/\w.F a=none/\¬ w.M a/\c.w0.H a=none) (d:u.fp.Nodup):VR c w v u.slot:=by
 unfold OT.slot;split
 ·obtain ⟨v',e,h⟩:=h;cases e; exact h
 ·rename_i a k;split
  ·rename_i xs q;obtain ⟨e,us,h1,h2⟩:=h;cases e;rw [P1 q] at h2;obtain ⟨o1,o2,o3,o4⟩:=o a (by simp [OT.fp]);exact ⟨a,us,rfl,h1,o2,o3,o4,M8 h2⟩
  ·exact ⟨h,o,d⟩
 ·exact ⟨h,o,d⟩
theorem B7b {K:Frag} {w:Wd} {v:V}:∀ {u:OT},Tre K w u [v]->TVo u v
 | .nd _ _ _,⟨e,_⟩=>List.singleton_inj.mp e
 | .leaf _,_=>trivial
 | .nil,_=>trivial
 | .cons _ _,_=>trivial
def tUn (te:TE):TE:=te
def unT (s:SV) (a b:Nat) (e:PEnv) (k:PEnv->Prop):Prop:=match s with
 | .d x=>∃ y z,x=.tuple [y,z]/\k ((e.set a (some (.d y))).set b (some (.d z)))
 | .tr t=>∃ p u v,t=.nd false p (.cons u (.cons v .nil))/\k ((e.set a (some u.slot)).set b (some v.slot))
 | _=>False
theorem C25 {p:Addr} {u v:OT} {a b:Nat} {e:PEnv} {k:PEnv->Prop}:unT (.tr (.nd false p (.cons u (.cons v .nil)))) a b e k=k ((e.set a (some u.slot)).set b (some v.slot)) :=
 propext ⟨fun ⟨_,_,_,e,h⟩=>by
  obtain ⟨_,_,e3⟩:=OT.nd.inj e;obtain ⟨e4,e5⟩:=OT.cons.inj e3;obtain ⟨e6,_⟩:=OT.cons.inj e5;subst e4; subst e6; exact h,fun h=>⟨p,u,v,rfl,h⟩⟩
def pUnT (pe:PX) (a b:Nat) (D:PEnds) (env:PEnv):Prop:=pe env fun s e=>unT s a b e D.nx
class RHs (K:Frag) (md:List Md) (ta:TA) (pa:outParam PAr):Prop where
 ok:∀ (c:Ct) (w:Wd) (env:PEnv) (σ:St) (Qp:LP->PEnv->Prop) (Q:List V->Hpp->Prop),c.K=K->EnvOk c w env σ->pa env Qp->(∀ vs xs env' w',EnvOk c w' env' σ->Lw w w'->DenAll K (hm w') vs xs->(∀ w'',w''.F=hm w'->Args K w'' md vs (xs.map .d))->Qp xs env'->Q vs w'.H)->ta σ w.H Q
instance rhs_nil {K:Frag}:RHs K [] tNil pNil:=⟨fun c w env σ Qp Q _ E p k=>k [] [] env w E (Lw.refl w) .nil (fun _ _=>.nil) p⟩
instance rhs_cons {K:Frag} {md:List Md} {ta:TE} {tr:TA} {pa:PDt} {pr:PAr} [ha:RH K ta pa] [hr:RHs K md tr pr]:RHs K (.dat :: md) (F9 ta tr) (B0w pa pr) where
 ok:=by
  rintro c w env σ Qp Q rfl E p k;refine ha.ok c w env σ _ _ rfl E p fun x dx e1 w1 E1 l1 v1 q1=>?_;refine hr.ok c w1 e1 σ _ _ rfl E1 q1 fun vs xs e2 w2 E2 l2 d2 a2 q2=>?_;have v1':Den c.K (hm w2) x dx:=Den.same (B6i l2) v1;exact k _ _ e2 w2 E2 (l1.trans l2) (.cons v1' d2) (fun w'' e=>.dat (by rw [e]; exact v1') (a2 w'' e)) q2
def B7d (sp:Sp) (dvs:List V) (X:XK) (t:TA):TE:=A1z sp dvs X t
def B04 (psp:PSp) (pa:PAr) (env:PEnv) (Q:SV->PEnv->Prop):Prop:=pa env fun xs e=>psp (xs.map .d) fun s=>∃ b,s=.d (.bool b)/\Q (.d (.bool b)) e
instance re_callN {K:Frag} {md:List Md} {psp:PSp} {X:XK} {ta:TA} {pa:PAr} [ha:RHs K md ta pa]:RE K (B7d (spOf K md psp) [] X ta) (B04 psp pa) where
 ok:=by
  rintro c w env σ Qp Q rfl E p k;refine ha.ok c w env σ _ _ rfl E p fun vs xs e2 w2 E2 l2 d2 a2 q2=>?_;rw [List.append_nil];refine ⟨⟨w2.M,w2.H,hm w2⟩,xs.map .d,_,rfl,⟨fun a o h=>(A6n h).1,E2.wok.st,fun a ha=>?_⟩,a2 _ rfl,q2,fun v s w' ok l h r q=>?_⟩
  ·show hm w2 a=none;unfold hm; rw [if_pos ha]
  ·obtain ⟨b,rfl,q⟩:=q;have ev:v=.bl b:=Den.blE h;have fl:∀ a o,w2.F a=some o->w2.H a=some o/\¬ w2.M a:=fun a o e=>⟨E2.wok.sub a o e,fun z=>by rw [E2.wok.nf a z] at e; cases e⟩;have le:Le w2 ⟨w'.M,w'.H,w2.F⟩:=⟨⟨Same.refl _,l.h,l.m,l.mn,l.dom⟩,fun a o e=>.inl e⟩;have ok':Wd.Ok ⟨w'.M,w'.H,w2.F⟩:=⟨fun a o e=>l.h a o (fl a o e).1 (fl a o e).2,ok.st,fun a ha=>by
    cases e:w2.F a with
    | none=>rfl
    | some o =>
     obtain ⟨f1,f2⟩:=fl a o e;rcases l.mn a ha with z | z
     ·exact absurd z f2
     ·have z':w2.H a=none:=z;rw [f1] at z'; cases z'⟩
   exact k v (.d (.bool b)) e2 ⟨w'.M,w'.H,w2.F⟩ ⟨E2.mono ok' le,l2.trans le.toLw,by rw [ev]; exact .bl b,fun _ z=>(nomatch z),rfl⟩ q
def kids:List OT->OT
 | []=>.nil
 | t :: r=>.cons t (kids r)
theorem kids_fp:∀ {ts:List OT} {a:Addr},a ∈ (kids ts).fp ↔ ∃ t ∈ ts,a ∈ t.fp
 | [],a=>by simp [kids,OT.fp]
 | t :: r,a=>by
  rw [show (kids (t :: r)).fp=t.fp++(kids r).fp from rfl,List.mem_append,kids_fp];simp
theorem E7 {t:OT}:∀ {ts:List OT},(kids (ts++[t])).fp=(kids ts).fp++t.fp
 | []=>by show t.fp++[]=[]++t.fp; simp
 | s :: r=>by show s.fp++(kids (r++[t])).fp=(s.fp++(kids r).fp)++t.fp; rw [E7]; simp
theorem Tre.snoc {K:Frag} {w:Wd} {t:OT} {v:V} (h:Tre K w t [v]):∀ {ts:List OT} {vs:List V},Tre K w (kids ts) vs->Tre K w (kids (ts++[t])) (vs++[v])
 | [],_,e=>by cases (show _=[] from e); exact ⟨v,[],rfl,h,rfl⟩
 | _ :: _,_,⟨x,r,rfl,hx,hr⟩=>⟨x,r++[v],rfl,hx,Tre.snoc h hr⟩
def A09 (xs:LP) (pg:PyData->PEnv->(PEnv->Prop)->Prop) (pt:PTt) (pe:PX) (e0:PEnv) (Fin:List OT->Prop):Prop :=
 ∃ Pv:Nat->PEnv->List OT->Prop,Pv 0 e0 []/\(∀ i x e ys,xs[i]?=some x->Pv i e ys->pg x e fun e2=>pt e2 fun b e3=>if b=true then pe e3 fun s e4=>s.ot fun t=>Pv (i + 1) e4 (ys++[t]) else Pv (i + 1) e3 ys)/\∀ e ys,Pv xs.length e ys->Fin ys
theorem B6n {K:Frag} {g:TG} {tt:TT} {te:TE} {pg:PyData->PEnv->(PEnv->Prop)->Prop} {pt:PTt} {pe:PX} [hg:RG K g pg] [ht:RT K tt pt] [he:RE K te pe] {c:Ct} {w:Wd} {env:PEnv} {σ:St} {J:It} {xs:LP} {cap:List (Option Nat)} {D:Addr} {Fp:List OT->Prop} {Fin:Hpp->Prop}
  (hK:c.K=K) (E:EnvOk c w env σ) (wk:Walk ⟨c.K,w,c.Z⟩ w J xs) (hn:xs.length < 1000000) (p:A09 xs pg pt pe (F0 cap env) Fp) (hD:w.H D=none) (k:∀ w' ts,Res c w env σ w' (.ref D) (.tr (.nd true D (kids ts)))->Fp ts->Fin w'.H):Y5 J g tt te D Fin (capσ cap σ) w.H:=by
 subst hK;obtain ⟨Pv,p0,step,fin⟩:=p;refine ⟨fun i m σ' H' vs=>m=xs.length - i/\i<=xs.length/\∃ e w' ts,w'.H=H'/\EnvOk ⟨c.K,w,fun a=>a=D\/a ∈ (kids ts).fp⟩ w' e σ'/\w'.H D=some (.lst vs)/\vs.length<=i/\Tre c.K w' (kids ts) vs/\(∀ a ∈ (kids ts).fp,w.H a=none/\a≠D)/\(kids ts).fp.Nodup/\Pv i e ts,
  ⟨xs.length,rfl,Nat.zero_le _,F0 cap env,w.lay D (.lst []),[],rfl,?_,B3,Zv _,rfl,(fun a z=>nomatch z),List.nodup_nil,p0⟩,?_⟩
 ·have E0:=E.cap cap hD;exact ⟨E0.wok,E0.le0,E0.len,fun i s q=>let ⟨v,h1,h2⟩:=E0.at' i s q; ⟨v,h1,h2.reZ⟩,E0.own,fun a z=>z.elim (E0.zf a) fun z=>(nomatch z),fun a j t u z=>z.elim (E0.zo a j t u) fun z=>(nomatch z)⟩
 rintro i m σ1 _ vs ⟨rfl,hle,e1,w1,ts,rfl,E1,h1,hvl,d1,fr,nd,q1⟩;refine ⟨h1,L1 (by omega),?_⟩;obtain ⟨go,stop,yld⟩:=wk w1 E1.wok E1.le0 E1.le0.f;by_cases hlt:i < xs.length
 ·refine .inr ⟨go i hlt,fun v H' y=>?_⟩;obtain ⟨w1',x,rfl,ok1',le1,hx,dx⟩:=yld i v H' y hlt;have nm1:∀ a ∈ (kids ts).fp,¬ w1.M a:=fun a ha=>(E1.zf a (.inr ha)).2.2;replace h1:=le1.h _ _ h1 (E1.zf D (.inl rfl)).2.2;replace E1:=E1.mono ok1' le1;replace d1:=d1.mono le1.toLw nm1;clear yld go stop y le1 ok1' nm1;generalize w1'=w1 at E1 h1 d1 dx;have cc:Ct:=⟨c.K,w,fun a=>a=D\/a ∈ (kids ts).fp⟩;refine hg.ok ⟨c.K,w,fun a=>a=D\/a ∈ (kids ts).fp⟩ w1 e1 σ1 v x _ _ rfl E1 dx (step i x e1 ts hx q1) fun e2 σ2 E2 q2=>?_;refine ht.ok ⟨c.K,w,fun a=>a=D\/a ∈ (kids ts).fp⟩ w1 e2 σ2 _ _ rfl E2 q2 fun b e3 w3 E3 l3 q3=>?_;have nmD:∀ a,a=D\/a ∈ (kids ts).fp->¬ w1.M a:=fun a z=>(E2.zf a z).2.2;have h3:=l3.h _ _ h1 (nmD D (.inl rfl));have d3:=d1.mono l3 fun a ha=>nmD a (.inr ha);cases b with
  | true =>
   refine he.ok ⟨c.K,w,fun a=>a=D\/a ∈ (kids ts).fp⟩ w3 e3 σ2 _ _ rfl E3 q3 fun y' s e4 w4 R q4=>?_;have nm3:∀ a,a=D\/a ∈ (kids ts).fp->¬ w3.M a:=fun a z=>(E3.zf a z).2.2;have h4:=R.lw.h _ _ h3 (nm3 D (.inl rfl));have d4:=d3.mono R.lw fun a ha=>nm3 a (.inr ha);obtain ⟨t,tt',ho,hn',q5⟩:=R.ot q4;have E4:=R.ev;have nD:D ∉ (kids ts).fp:=fun z=>(fr D z).2 rfl;have ntD:D ∉ t.fp:=fun z=>(hn' D z).2 (.inl rfl);refine ⟨vs,h4,L1 (by omega),xs.length - (i + 1),by omega,rfl,hlt,e4,⟨w4.M,upd w4.H D (.lst (vs++[y'])),w4.F⟩,ts++[t],rfl,?_,B3,by rw [Ze]; simp; exact hvl,?_,fun a ha=>?_,?_,q5⟩
   ·have E5:=E4.writeZ (us:=vs++[y']) (.inl rfl) hD;refine ⟨E5.wok,E5.le0,E5.len,fun i s q=>let ⟨v,h1,h2⟩:=E5.at' i s q; ⟨v,h1,h2.reZ⟩,E5.own,fun a z=>?_,fun a j s u z q q'=>?_⟩
    ·rcases z with z | z
     ·exact E5.zf a (.inl z)
     ·rw [E7,List.mem_append] at z;rcases z with z | z
      ·exact E5.zf a (.inr z)
      ·obtain ⟨o1,o2,o3,_⟩:=ho.1 a z;exact ⟨o2,fun y=>o1 (K5 y),o3⟩
    ·rcases z with z | z
     ·exact E5.zo a j s u (.inl z) q q'
     ·rw [E7,List.mem_append] at z;rcases z with z | z
      ·exact E5.zo a j s u (.inr z) q q'
      ·exact (hn' a z).1 j s u q q'
   ·exact Tre.snoc (tt'.writ ntD) (d4.writ nD)
   ·rw [E7,List.mem_append] at ha;rcases ha with z | z
    ·exact fr a z
    ·exact ⟨(ho.1 a z).2.2.2,fun y=>ntD (y ▸ z)⟩
   ·rw [E7];exact List.nodup_append.mpr ⟨nd,ho.2,fun a ha b hb e=>(hn' b hb).2 (.inr (e ▸ ha))⟩
  | false =>
   exact ⟨xs.length - (i + 1),by omega,rfl,hlt,e3,w3,ts,rfl,E3,h3,by omega,d3,fr,nd,q3⟩
 ·have e:i=xs.length:=by omega
  subst e;obtain ⟨z1,z2,z3⟩:=E1.zf D (.inl rfl);have one:∀ a,a ∈ (OT.nd true D (kids ts)).fp->(a=D\/a ∈ (kids ts).fp)/\w.H a=none:=fun a ha=>by
   rcases List.mem_cons.mp (show a ∈ D :: (kids ts).fp from ha) with rfl | z
   ·exact ⟨.inl rfl,hD⟩
   ·exact ⟨.inr z,(fr a z).1⟩
  refine .inl ⟨stop,k w1 ts ⟨E.mono E1.wok E1.le0,E1.le0.toLw,⟨⟨rfl,vs,h1,d1⟩,fun a ha=>?_,List.nodup_cons.mpr ⟨fun z=>(fr D z).2 rfl,nd⟩⟩,fun a f=>E.fresh (one a f).2,rfl⟩ (fin e1 ts q1)⟩;obtain ⟨g1,g2⟩:=one a ha;obtain ⟨y1,y2,y3⟩:=E1.zf a g1;exact ⟨y2,y1,y3,E.le0.dom a g2⟩
def tCmT (t:TE):TE:=t
def pCmT (pi:PAr) (pg:PyData->PEnv->(PEnv->Prop)->Prop) (pt:PTt) (pe:PX) (cap:List (Option Nat)) (env:PEnv) (Q:SV->PEnv->Prop):Prop:=pi env fun xs e=>xs.length < 1000000/\A09 xs pg pt pe (F0 cap e) fun ts=>∀ a,Q (.tr (.nd true a (kids ts))) e
def OT.tup (a:Addr) (k:OT):SV:=match k.lvs with
 | some xs=>.d (.tuple xs)
 | none=>.tr (.nd false a k)
def C4d (pe:PX) (env:PEnv) (Q:SV->PEnv->Prop):Prop:=pe env fun s e=>∃ a k,s=.tr (.nd true a k)/\∀ p,Q (OT.tup p k) e
end Pu
namespace L2
open PySem PySem.Spec PyProof.Rows
section
variable {X:Cx} {e:Expr}
theorem qPo {t:TE} (h:QE X e t):QE X e (Pu.tPo t):=h
theorem qUn {t:TE} (h:QE X e t):QE X e (Pu.tUn t):=h
theorem qCmT {t:TE} (h:QE X e t):QE X e (Pu.tCmT t):=h
theorem A2c {sp:Sp} {dvs:List V} {E:XK} {t:TA} (h:QE X e (A1z sp dvs E t)):QE X e (Pu.B7d sp dvs E t):=h
end
end L2
namespace Pu
open PySem L2 My Prf
def alAt (o:Option (Option SV)) (n:Nat) (k:Addr->LP->(OT->OT)->Prop):Prop:=asTr o fun T=>∃ b p ks a xs,T=.nd b p ks/\ks.kid n=some (.nd true a (B1 xs))/\k a xs fun x=>.nd b p (ks.setK n x)
def B8n (i n j:Nat) (D:PEnds) (env:PEnv):Prop:=alAt env[i]? n fun a _ _=>D.nx (env.set j (some (.al a)))
def isAl (o:Option (Option SV)) (k:Addr->Prop):Prop:=match o with
 | some (some (.al a))=>k a
 | _=>False
theorem B9p {a:Addr} {k:Addr->Prop}:isAl (some (some (.al a))) k=k a:=rfl
def pArV (i n j:Nat) (env:PEnv) (Q:PyData->PEnv->Prop):Prop:=isAl env[j]? fun a=>alAt env[i]? n fun a' xs _=>a'=a/\Q (.list xs) env
def B7y (pd:PDt) (i n j:Nat) (pi:PDt) (D:PEnds) (env:PEnv):Prop:=pd env fun x e=>isAl e[j]? fun _=>pi e fun y e2=>asI y fun m=>isAl e2[j]? fun a=>alAt e2[i]? n fun a' xs r=>a'=a/\∃ l,ixN xs.length m=some l/\D.nx (e2.set i (some (.tr (r (.nd true a (B1 (xs.set l x)))))))
noncomputable def frzF (H F:Hpp) (t:OT):Hpp:=fun a=>open Classical in if a ∈ t.fp then H a else F a
theorem Tre.frz {K:Frag} {w:Wd} {F':Hpp} (s:Same w.F F'):∀ {t:OT} {vs:List V},Tre K w t vs->(∀ a ∈ t.fp,F' a=w.H a)->DenAll K F' vs t.dat
 | .leaf _,_,⟨_,e,h⟩,_=>by rw [e]; exact .cons (Den.same s h) .nil
 | .nd true a _,_,⟨e,_,h,k⟩,n=>by rw [e]; exact .cons (.lst (SqL.of ((n a (by simp [OT.fp])).trans h)) (Tre.frz s k fun q hq=>n q (by simp [OT.fp,hq]))) .nil
 | .nd false a _,_,⟨e,_,h,k⟩,n=>by rw [e]; exact .cons (.tup (SqD.of ((n a (by simp [OT.fp])).trans h)) (Tre.frz s k fun q hq=>n q (by simp [OT.fp,hq]))) .nil
 | .nil,_,e,_=>by rw [show _=[] from e]; exact .nil
 | .cons _ _,_,⟨v,r,e,h,t⟩,n=>by
  rw [e];exact (Tre.frz s h fun q hq=>n q (by simp [OT.fp,hq])).app (vs:=[v]) (us:=r) (Tre.frz s t fun q hq=>n q (by simp [OT.fp,hq]))
theorem EnvOk.frzT {c:Ct} {w:Wd} {env:PEnv} {σ:St} {i:Nat} {T:OT} {x:PyData} (E:EnvOk c w env σ) (h:env[i]?=some (some (.tr T))) (ex:T.dat=[x]) :
  ∃ w' v,w'.H=w.H/\σ[i]?=some (some v)/\EnvOk c w' (env.set i (some (.d x))) σ/\Lw w w'/\Den c.K w'.F v x:=by
 obtain ⟨v,hv,hV⟩:=E.at' i _ h;have sm:Same w.F (frzF w.H w.F T):=fun a o q=>by
  unfold frzF;split
  ·rename_i z; rw [(hV.2.1 a z).2.1] at q; cases q
  ·exact q
 have hin:∀ a ∈ T.fp,frzF w.H w.F T a=w.H a:=fun a ha=>if_pos ha;have hout:∀ a,a ∉ T.fp->frzF w.H w.F T a=w.F a:=fun a ha=>if_neg ha;have lw:Lw w ⟨w.M,w.H,frzF w.H w.F T⟩:=⟨sm,fun _ _ h _=>h,fun _ h=>h,fun _ h=>.inl h,fun _ h=>h⟩;have dn:=hV.1.frz sm hin;rw [ex] at dn;have dx:Den c.K (frzF w.H w.F T) v x:=by cases dn with | cons a _=>exact a
 have up:∀ {j:Nat} {t:SV},(env.set i (some (.d x)))[j]?=some (some t)->(j=i/\t=.d x)\/(i≠j/\env[j]?=some (some t)):=by
  intro j t q;rw [List.getElem?_set] at q;split at q
  ·rename_i e;split at q
   ·cases q; exact .inl ⟨e.symm,rfl⟩
   ·cases q
  ·rename_i z; exact .inr ⟨z,q⟩
 have apart:∀ {j:Nat} {t:SV} {u:V} {a:Addr},i≠j->env[j]?=some (some t)->σ[j]?=some (some u)->t.foot u a->a ∉ T.fp:=fun ne q g f z=>ne (E.own i _ _ _ _ _ _ h q hv g z f);refine ⟨⟨w.M,w.H,frzF w.H w.F T⟩,v,rfl,hv,⟨⟨fun a o q=>?_,E.wok.st,fun p hp=>?_⟩,⟨E.le0.toLw.trans lw,fun a o q=>?_⟩,by simpa using E.len,fun j s q=>?_,fun j k s t v1 u1 a q1 q2 q3 q4 f1 f2=>?_,fun a za=>?_,fun a j t u za q q' f=>?_⟩,lw,dx⟩
 ·by_cases z:a ∈ T.fp
  ·rw [show (⟨w.M,w.H,frzF w.H w.F T⟩:Wd).F a=w.H a from hin a z] at q; exact q
  ·rw [show (⟨w.M,w.H,frzF w.H w.F T⟩:Wd).F a=w.F a from hout a z] at q; exact E.wok.sub a o q
 ·show frzF w.H w.F T p=none;rw [hout p fun z=>(hV.2.1 p z).2.2.1 hp]; exact E.wok.nf p hp
 ·by_cases z:a ∈ T.fp
  ·exact .inr (hV.2.1 a z).2.2.2
  ·rw [show (⟨w.M,w.H,frzF w.H w.F T⟩:Wd).F a=w.F a from hout a z] at q; exact E.le0.n a o q
 ·rcases up q with ⟨rfl,rfl⟩ | ⟨ne,q⟩
  ·exact ⟨v,hv,dx⟩
  ·obtain ⟨u,g1,g2⟩:=E.at' j s q;refine ⟨u,g1,?_⟩;cases s with
   | d x=>exact Den.same sm g2
   | own ys =>
    obtain ⟨l',us,rfl,k1,k2,k3,k4,k5⟩:=g2;refine ⟨l',us,rfl,k1,?_,k3,k4,DenAll.same sm k5⟩;show frzF w.H w.F T l'=none;rw [hout l' (apart ne q g1 rfl)]; exact k2
   | bor ys =>
    rcases g2 with g | ⟨l',us,e',k1,k2,k3⟩
    ·exact .inl (Den.same sm g)
    ·exact .inr ⟨l',us,e',k1,k2,DenAll.same sm k3⟩
   | st=>exact g2
   | bt t=>exact ⟨g2.1.sameF sm,g2.2⟩
   | al a=>exact g2
   | dk ks =>
    obtain ⟨l',rfl,k1,k2,k3,k4⟩:=g2;refine ⟨l',rfl,k1,?_,k3,k4⟩;show frzF w.H w.F T l'=none;rw [hout l' (apart ne q g1 rfl)]; exact k2
   | tr t =>
    obtain ⟨k1,k2,k3⟩:=g2;refine ⟨k1.mono lw fun p hp=>(k2 p hp).2.2.1,fun p hp=>⟨(k2 p hp).1,?_,(k2 p hp).2.2⟩,k3⟩;show frzF w.H w.F T p=none;rw [hout p (apart ne q g1 hp)]; exact (k2 p hp).2.1
 ·rcases up q1 with ⟨rfl,rfl⟩ | ⟨_,p1⟩
  ·exact f1.elim
  ·rcases up q2 with ⟨rfl,rfl⟩ | ⟨_,p2⟩
   ·exact f2.elim
   ·exact E.own j k _ _ _ _ a p1 p2 q3 q4 f1 f2
 ·obtain ⟨z1,z2,z3⟩:=E.zf a za;refine ⟨?_,z2,z3⟩;show frzF w.H w.F T a=none;rw [hout a fun z=>E.zo a i _ _ za h hv z]; exact z1
 ·rcases up q with ⟨rfl,rfl⟩ | ⟨_,p1⟩
  ·exact f.elim
  ·exact E.zo a j _ _ za p1 q' f
def tFz (i:Nat):TE:=tVar i
def pFz (i:Nat) (env:PEnv) (Q:SV->PEnv->Prop):Prop:=oFz env[i]? fun x=>Q (.d x) (env.set i (some (.d x)))
where oFz (o:Option (Option SV)) (k:PyData->Prop):Prop:=match o with
 | some (some (.tr T))=>∃ x,T.dat=[x]/\k x
 | some (some (.d x))=>k x
 | _=>False
theorem C5m {T:OT} {k:PyData->Prop}:pFz.oFz (some (some (.tr T))) k=∃ x,T.dat=[x]/\k x:=rfl
theorem C5n {x:PyData} {k:PyData->Prop}:pFz.oFz (some (some (.d x))) k=k x:=rfl
instance (priority:=high) re_fz {K:Frag} {i:Nat}:RE K (tFz i) (pFz i) where
 ok:=by
  rintro c w env σ Qp Q rfl E p k;unfold pFz pFz.oFz at p;split at p
  ·rename_i T e;obtain ⟨x,ex,q⟩:=p;obtain ⟨w',v,e',hv,E',l,dx⟩:=E.frzT e ex;refine ⟨v,hv,?_⟩;rw [<- e'];exact k v (.d x) _ w' ⟨E',l,dx,fun _ z=>(nomatch z),rfl⟩ q
  ·rename_i x e;obtain ⟨v,hv,h2⟩:=E.at' i _ e;refine ⟨v,hv,k v (.d x) _ w ⟨?_,Lw.refl w,h2,fun _ z=>(nomatch z),rfl⟩ p⟩;have hs:env.set i (some (.d x))=env:=by
    refine List.ext_getElem? fun j=>?_;rw [List.getElem?_set];split
    ·rename_i z; subst z;split
     ·exact e.symm
     ·rename_i hn; rw [List.getElem?_eq_none (by omega)] at e; cases e
    ·rfl
   rw [hs]; exact E
  ·exact p.elim
end Pu
namespace L2
open PySem PySem.Spec PyProof.Rows
section
variable {X:Cx} {e:Expr}
theorem qFz {i:Nat} (h:QE X e (tVar i)):QE X e (Pu.tFz i):=h
end
end L2
namespace L2
open PySem PySem.Spec PyProof.Rows
section
variable {X:Cx} {tg:Expr}
def ItrS (lo st:Int) (n:Nat):It:=⟨fun i _=>i < n,fun i H x H'=>H'=H/\x=.int (lo + (i:Nat) * st),fun i _=>n<=i⟩
theorem A8u {P:Program} {w:World} {K:PySem.W.Frag} {tg:Expr} (it:Addr) (lo st:Int) (n:Nat):Turn P w K tg (ItrS lo st n) [it] it (fun i h=>IsRangeIter h it (lo + (i:Nat) * st) ((n:Int) - (i:Nat)) st) where
 mem:=List.mem_singleton.mpr rfl
 obj:=fun i h st b hb=>by
  cases Zn hb;refine ⟨_,st,fun v z=>?_⟩;have z':Data.fields _=Data.cell v:=z;cases z'
 keep:=fun i h h' st k=>k it (List.mem_singleton.mpr rfl) _ st
 item:=by
  intro X hP hw hK hc i pins s σ H E I hf hst hg;subst hP hw hK;have f:=hf it (List.mem_singleton.mpr rfl);have W:=Walks.range (prog:=X.prog) (w:=X.w) (I.ok.hd hc) it lo st n;refine W.item i s _ _ hg hst fun v h' tk hv st' kk=>?_;obtain ⟨t,rfl⟩:=hv;have I1:Inv X pins σ H { s with heap:=h',toks:=tk }:=I.turned (fun b o hb e=>kk b o (fun z=>hb (Zn z)) e) f.1 f.2.1 f.2.2.2.1 f.2.2.2.2.1 f.2.2.2.2.2;exact ⟨_,rfl,A71 (s:={ s with heap:=h',toks:=tk }) (n:="range_iterator") st' rfl rfl (by decide) ⟨.int (lo + (i:Nat) * st),H,I1,⟨t,rfl⟩,⟨rfl,rfl⟩,st',fun b hb=>(hf b hb).1⟩⟩
 done:=by
  intro X hP hw hK hc i pins s σ H E I hf st hg;subst hP hw hK;have f:=hf it (List.mem_singleton.mpr rfl);have hn:n<=i:=hg;exact wpAny_pyNext_range_end (I.ok.hd hc) st (by omega) fun h' eb=>⟨rfl,I.turned (t':=s.toks) (fun b o hb e=>eb b o hb e) f.1 f.2.1 f.2.2.2.1 f.2.2.2.2.1 f.2.2.2.2.2⟩
 self:=fun _ _ _ _ _ st h=>wpAny_pyIter_rangeiter st h
def stepN (i j k:Int):Nat:=if i < j then ((j - i - 1) / k + 1).toNat else 0
theorem A18 {a b c:Int} (hc:0 < c):Builtin.Range.rangeSize a b c=(stepN a b c:Nat):=by
 unfold Builtin.Range.rangeSize stepN;rw [if_pos hc];by_cases h:a < b
 ·rw [if_pos h,if_pos h];have:=Int.ediv_nonneg (show (0:Int)<=b - a - 1 by omega) (Int.le_of_lt hc);omega
 ·rw [if_neg h,if_neg h]; rfl
theorem A7d {a b c:Int} (h:(0<=a/\a<=1000)/\(0<=b/\b<=1000)/\0 < c/\c<=1000):Builtin.Range.small a b c=true:=by
 obtain ⟨⟨h1,h2⟩,⟨h3,h4⟩,h5,h6⟩:=h;unfold Builtin.Range.small;rw [A18 h5];have hn:stepN a b c<=1000:=by
  unfold stepN;split
  ·have:=Int.ediv_le_self c (show (0:Int)<=b - a - 1 by omega);omega
  ·omega
 have hm:0<=(stepN a b c:Int) * c/\(stepN a b c:Int) * c<=1000 * 1000:=⟨Int.mul_nonneg (by omega) (by omega),Int.mul_le_mul (by omega) h6 (by omega) (by omega)⟩;generalize hq:stepN a b c=q at hn hm;simp only [Builtin.Range.rangeFitsLong,Bool.and_eq_true,Bool.or_eq_true,decide_eq_true_eq,beq_iff_eq,h5,if_true];omega
def C2m (ta:TA):TI:=fun σ H R=>ta σ H fun vs H1=>∃ i j k:Int,vs=[.int i,.int j,.int k]/\((0<=i/\i<=1000)/\(0<=j/\j<=1000)/\0 < k/\k<=1000)/\R (ItrS i k (stepN i j k)) H1
theorem A9x {a b c:Expr} {ta:TA} {p pos:Pos} (hg:Gl X "range") (hm:X.mg "range"=none) (ha:PA X [a,b,c] ta) (hs:starEach [a,b,c] X.env=[(false,eval a X.env),(false,eval b X.env),(false,eval c X.env)])
  (hs2:starEach [b,c] X.env=[(false,eval b X.env),(false,eval c X.env)]):PI X tg (.Call (.Name "range" p) [a,b,c] [] pos) (C2m ta):=by
 intro pins s σ H R I h;refine Call_ (P5 I hg hm boot_range (PyProof.Rows.callWith_type1 (thn (ha pos pins s σ H _ I h) fun us s1 ⟨vs,H1,I1,r1,q1⟩=>?_) (hs.trans (by rw [hs2])) (by rw [hs2]; rfl)));obtain ⟨i,j,k,e,hb,q⟩:=q1;subst e;cases r1 with
 | cons r rr=>cases rr with
  | cons r' rr=>cases rr with
   | cons r2 rr =>
    cases rr;obtain ⟨t,rfl⟩:=r;obtain ⟨t',rfl⟩:=r';obtain ⟨t2,rfl⟩:=r2;refine call_range_3 (by omega) ?_ (.inl (PyProof.noPylong_small (by omega)));refine wpAny_pyIter_range (IsRange.new ..) (A7d hb) ?_;have I2:Inv X pins σ H1 { s1 with heap:=s1.heap.push { cls:=.type "range",data:=.fields #[.int i t,.int j t',.int k t2] },toks:=s1.toks }:=I1.kept fun b o e=>Heap.get?_push_of_some _ e;refine ⟨(s1.heap.push { cls:=.type "range",data:=.fields #[.int i t,.int j t',.int k t2] }).objs.size,[(s1.heap.push { cls:=.type "range",data:=.fields #[.int i t,.int j t',.int k t2] }).objs.size],_,_,H1,rfl,
     I2.kept (t':=s1.toks) fun b o e=>Heap.get?_push_of_some _ e,A8u _ i k (stepN i j k),?_,fun b hb=>?_,q⟩
    ·have e1:i + ((0:Nat):Int) * k=i:=by simp
     have e2:((stepN i j k:Nat):Int) - ((0:Nat):Int)=Builtin.Range.rangeSize i j k:=by rw [A18 hb.2.2.1]; omega
     show IsRangeIter _ _ (i + ((0:Nat):Int) * k) (((stepN i j k:Nat):Int) - ((0:Nat):Int)) k;rw [e1,e2];exact Heap.get?_push_size _ rfl
    ·cases Zn hb;exact I2.fpOk (Zv _) (I2.hok.fresh (Zv _))
theorem A7g {a b c:Expr} {ta:TA} {p pos:Pos} (hg: Gl X "range") (hm: X.mg "range"=none) (ha: QA X [a,b,c] ta) (hs: starEach [a,b,c] X.env=[(false,eval a X.env),(false,eval b X.env),(false,eval c X.env)]:=by rfl) (hs2: starEach [b,c] X.env=[(false,eval b X.env),(false,eval c X.env)]:=by rfl):QI X tg (.Call (.Name "range" p) [a,b,c] [] pos) (C2m ta):=⟨A9x hg hm ha.out hs hs2⟩
end
end L2
namespace Pu
open PySem L2 My Prf
def stpD (lo st:Int) (n:Nat):LP:=(List.range n).map fun k:Nat=>PyData.int (lo + (k:Nat) * st)
theorem Q2 (lo st:Int) (n:Nat):(stpD lo st n).length=n:=by simp [stpD]
theorem B46 {lo st:Int} {n i:Nat} {x:PyData} (h:(stpD lo st n)[i]?=some x):i < n/\x=.int (lo + (i:Nat) * st):=by
 unfold stpD at h;rw [Zh] at h;by_cases hi:i < n
 ·rw [List.getElem?_range hi] at h; cases h; exact ⟨hi,rfl⟩
 ·rw [List.getElem?_eq_none (by simpa using hi)] at h; cases h
def C2b (xs:LP) (Q:LP->Prop):Prop:=match xs with
 | [.int i,.int j,.int k]=>((0<=i/\i<=1000)/\(0<=j/\j<=1000)/\0 < k/\k<=1000)/\Q (stpD i k (stepN i j k))
 | _=>False
theorem B1w {i j k:Int} {Q:LP->Prop}:C2b [.int i,.int j,.int k] Q=(((0<=i/\i<=1000)/\(0<=j/\j<=1000)/\0 < k/\k<=1000)/\Q (stpD i k (stepN i j k))):=rfl
def C1i (pa:PAr) (env:PEnv) (Q:LP->PEnv->Prop):Prop:=pa env fun xs e=>C2b xs fun ys=>Q ys e
instance ri_rngS {K:Frag} {ta:TA} {pa:PAr} [ha:RAv K ta pa]:RI K (C2m ta) (C1i pa) where
 ok:=by
  rintro c w env σ Qp R rfl E p k;refine ha.ok c w env σ _ _ rfl E p fun vs xs e1 w1 E1 l1 v1 q1=>?_;unfold C2b at q1;split at q1
  ·rename_i i j k';obtain ⟨hb,q1⟩:=q1;cases v1 with | cons h t=>cases t with | cons h' t=>cases t with | cons h2 t =>
    cases t;refine ⟨i,j,k',by rw [h.intE,h'.intE,h2.intE],hb,k _ _ e1 w1 E1 l1 ?_ q1⟩;intro w' ok l s;refine ⟨fun m hm=>by rw [Q2] at hm; exact hm,by rw [Q2]; exact Zv _,fun m v H' y hm=>?_⟩;obtain ⟨e,y⟩:=y;subst y;rw [Q2] at hm;refine ⟨w',.int (i + (m:Nat) * k'),e.symm,ok,Le.refl w',?_,.int _⟩;unfold stpD;rw [Zh,List.getElem?_range hm]; rfl
  ·exact q1.elim
def C4m (i j:Nat) (D:PEnds) (env:PEnv):Prop:=M7 env[j]? fun ys=>∃ y r,ys=y :: r/\D.nx ((env.set j (some (.own r))).set i (some (.d y)))
def A98 (i j a b:Nat) (D:PEnds) (env:PEnv):Prop:=a≠b/\M7 env[a]? fun xs=>M7 env[b]? fun ys=>∃ x r y t,xs=x :: r/\ys=y :: t/\D.nx ((((env.set a (some (.own r))).set b (some (.own t))).set i (some (.d x))).set j (some (.d y)))
def C4n (i j:Nat) (pa:PEnv->(OT->PEnv->Prop)->Prop) (D:PEnds) (env:PEnv):Prop:=pa env fun t e=>∃ a b xs ys,t=.cons (.nd true a (B1 xs)) (.cons (.nd true b (B1 ys)) .nil)/\i≠j/\D.nx ((e.set i (some (.own xs))).set j (some (.own ys)))
def OT.lks:OT->Bool
 | .nil=>true
 | .cons (.nd true _ _) t=>t.lks
 | _=>false
def B0p (i j:Nat) (D:PEnds) (env:PEnv):Prop:=asTr env[i]? fun t=>i≠j/\j < env.length/\∃ a ks,t=.nd true a ks/\ks.lks=true/\D.nx ((env.set i none).set j none)
def B0u (pe:PX) (pr:PAs) (env:PEnv) (Q:List SV->PEnv->Prop):Prop:=pe env fun s e1=>isSt (some (some s)) (pr e1 fun as e2=>Q (.st :: as) e2)
def B7z (pa:PDt) (env:PEnv) (Q:SV->PEnv->Prop):Prop:=pa env fun d e=>C0h d/\Q (.d (.str d.shown)) e
end Pu
namespace L2
open PySem
end L2
namespace L2
open PySem PySem.Spec PyProof.Rows
section
variable {X:Cx} {pos:Pos}
end
end L2
namespace Pu
open PySem L2 My Prf
def pDN (kvs:List (Key × V)) (env:PEnv) (Q:SV->PEnv->Prop):Prop:=Q (.d (.dict (kvs.map C2t))) env
def C2i:List (PyData × PyData)->Str->Option PyData
 | [],_=>none
 | (.str x,z) :: r,s=>if x=s then some z else C2i r s
 | _ :: r,s=>C2i r s
def pDk (pa pb:PDt) (env:PEnv) (Q:SV->PEnv->Prop):Prop:=pa env fun x e=>pb e fun y e2=>∃ ds s t,x=.dict ds/\y=.str s/\C2i ds s=some (.str t)/\Q (.d (.str t)) e2
end Pu
namespace Pu
open PySem L2 My Prf
def C4e (pe:PX) (env:PEnv) (Q:SV->PEnv->Prop):Prop:=pe env fun s e=>∃ a k,s=.tr (.nd true a k)/\((∀ p,Q (OT.tup p k) e)\/∀ p,Q (.tr (.nd false p k)) e)
def OT.atoms:OT->Bool
 | .leaf x=>match x with
  | .list _=>false
  | .tuple _=>false
  | .dict _=>false
  | _=>true
 | .nd _ _ k=>k.atoms
 | .nil=>true
 | .cons h t=>h.atoms && t.atoms
def B8k (psp:PSp) (pa:PAr) (env:PEnv) (Q:SV->PEnv->Prop):Prop:=pa env fun xs e=>psp (xs.map .d) fun s=>∃ t,s=.tr t/\t.atoms=true/\Q (.tr t) e
end Pu
namespace L2
open PySem PySem.Spec PyProof.Rows
section
variable {X:Cx} {e:Expr}
end
end L2
namespace L2
open PySem PySem.Spec PyProof.Rows
section
variable {κ:Type} [DecidableEq κ]
theorem KV.length {kvs:List (κ × V)} {vs:List (κ × Value)} (r:KV kvs vs):kvs.length=vs.length:=Paired.length r
end
section
variable {P:Program} {w:World} {H:Hp} {h:Heap} {a:Addr}
theorem C7c {u:HO} (ok:HOk P w H h) (e:Rd H a u):ObjOk P w H h a u:=e.ok ok
end
section
variable {X:Cx} {pins:List (Addr × Obj)} {σ:St} {H:Hp} {s:Shared} {a:Addr} {y v:V} {u r:Value} {o:Option V} {A:Around} {E:Value->Shared->Prop}
end
section
variable {X:Cx} {pins:List (Addr × Obj)} {σ:St} {H:Hp} {s:Shared} {a:Addr} {kvs:List (Key × V)} {k:Key} {u:Value} {A:Around} {E:Value->Shared->Prop}
end
section
variable {X:Cx} {o i e value:Expr} {pos pos' tpos:Pos} {td ty tv:TE}
end
section
variable {X:Cx} {pos:Pos}
end
theorem C5s {a b:Int}:NSI [V.int a,V.int b]:=fun _ _ z=>nomatch z
theorem C5r {a b:Str}:NSI [V.str a,V.str b]:=fun _ _ z=>nomatch z
theorem u1 {n:Nat} (h:n + 64 < cLine):n + 1 < cLine:=by omega
def C28 (i j k:Nat) (ta:TA):TS:=fun D σ H=>ta σ H fun vs H1=>∃ v w z,vs=[v,w,z]/\D.nx (((σ.set i (some v)).set j (some w)).set k (some z)) H1
theorem B5e {X:Cx} {pos:Pos} {i j k:Nat} {x y z:Str} {a b c:Expr} {ta:TA} {px py pz pt:Pos} {kt k2 pt2} (hc:X.calm=true) (hN:X.N.Nodup) (hi:X.N[i]?=some x) (hj:X.N[j]?=some y) (hk:X.N[k]?=some z) (hij:i≠j) (hik:i≠k) (hjk:j≠k)
  (hx:X.env.scope.names.lookup x=some .local) (hy:X.env.scope.names.lookup y=some .local) (hz:X.env.scope.names.lookup z=some .local) (ha:QA X [a,b,c] ta)
  (hw:swappedStores [.Tuple [.Name x px,.Name y py,.Name z pz] kt pt] (.Tuple [a,b,c] k2 pt2) X.env=pure (some [x,y,z]))
  (hs:swapsWithSole [.Tuple [.Name x px,.Name y py,.Name z pz] kt pt] (.Tuple [a,b,c] k2 pt2) pos.line X.env=pure false) :
  QS X (.Assign [.Tuple [.Name x px,.Name y py,.Name z pz] kt pt] (.Tuple [a,b,c] k2 pt2) pos) (C28 i j k ta):=by
 refine ⟨fun pins s σ H D I h=>?_⟩;rw [exec_Assign_arm];apply wpAny_bind; apply wpAny_standAt;rw [hs];apply wpAny_bind; apply wpAny_pure;rw [if_neg Bool.false_ne_true];apply wpAny_bind;apply Tuple_;refine thn (ha.out _ pins s σ H _ I h) ?_;rintro us s1 ⟨vs,H1,I1,r1,v,w,t,rfl,q1⟩;cases r1 with | cons p1 r1=>cases r1 with | cons p2 r1=>cases r1 with | cons p3 r1 =>
 cases r1;rename_i u1 u2 u3;refine wpAny_newObj_type ?_ (by show 3<=sizeLine; decide);have I2:Inv X pins σ H1 { s1 with heap:=s1.heap.push ⟨.type "tuple",none,.seq [u1,u2,u3].toArray 0,#[]⟩ }:=I1.kept (t':=s1.toks) fun _ _ e=>Heap.get?_push_of_some _ e;rw [hw];apply wpAny_bind; apply wpAny_pure;show wpAny (model X.prog X.w) X.A (do rule "assign.swapped-stores"; let its <- unpackItems (.ref s1.heap.objs.size) 3 none; assignInOrder [fun v=>bindName X.env z v,fun v=>bindName X.env y v,fun v=>bindName X.env x v] its.reverse; pure Flow.next) _ _ _;apply wpAny_bind; apply wpAny_rule; apply wpAny_bind;refine unpackItems_tuple (items:=#[u1,u2,u3]) (I.ok.hd hc) (IsTup.new s1.heap _) fun h' hx'=>?_;have I3:=I2.kept (h':=h') (t':=s1.toks) fun b o e=>hx' b o (Nat.ne_of_lt (Heap.lt_size e)) e;show wpAny _ _ (assignInOrder [fun v=>bindName X.env z v,fun v=>bindName X.env y v,fun v=>bindName X.env x v] [u3,u2,u1] >>= fun _=>pure Flow.next) _ _ _;apply wpAny_bind;refine assignInOrder_cons (wpAny_bindName (N0 I3 hN hk (.inl hz) p3 (fun s2 I4=>?_) (.inr hz)));refine assignInOrder_cons (wpAny_bindName (N0 I4 hN hj (.inl hy) p2 (fun s3 I5=>?_) (.inr hy)));refine assignInOrder_cons (wpAny_bindName (N0 I5 hN hi (.inl hx) p1 (fun s4 I6=>assignInOrder_nil (wpAny_pure ?_)) (.inr hx)));have e:((σ.set k (some t)).set j (some w)).set i (some v)=((σ.set i (some v)).set j (some w)).set k (some t):=by
  rw [List.set_comm _ _ (Ne.symm hjk),List.set_comm _ _ (Ne.symm hik),List.set_comm _ _ (Ne.symm hij)]
 rw [e] at I6;exact ⟨_,H1,I6,q1⟩
section
variable {X:Cx} {o i e value:Expr} {pos pos':Pos} {td ty tv:TE}
end
end L2
namespace Pu
open PySem L2 My Prf
def pDk0 (env:PEnv) (Q:SV->PEnv->Prop):Prop:=Q (.dk []) env
def asP (x:PyData) (k:Str->Int->Prop):Prop:=match x with
 | .tuple [.str c,.int n]=>k c n
 | _=>False
theorem C6z {c:Str} {n:Int} {k:Str->Int->Prop}:asP (.tuple [.str c,.int n]) k=k c n:=rfl
def hasD (kvs:List (PyData × PyData)) (c:Str):Bool:=kvs.any fun p=>match p.1 with
 | .str s=>decide (s=c)
 | _=>false
def inD (o:Option (Option SV)) (x:PyData) (k:Bool->Prop):Prop:=match o with
 | some (some (.dk ks))=>asP x fun c n=>k (decide ((c,n) ∈ ks))
 | some (some (.d (.dict kvs)))=>asS x fun c=>k (hasD kvs c)
 | _=>False
theorem C6h {ks:List (Str × Int)} {x:PyData} {k:Bool->Prop}:inD (some (some (.dk ks))) x k=asP x fun c n=>k (decide ((c,n) ∈ ks)):=rfl
theorem C6i {kvs:List (PyData × PyData)} {x:PyData} {k:Bool->Prop}:inD (some (some (.d (.dict kvs)))) x k=asS x fun c=>k (hasD kvs c):=rfl
def pDIn (pd:PDt) (i:Nat) (env:PEnv) (Q:SV->PEnv->Prop):Prop:=pd env fun x e=>inD e[i]? x fun b=>Q (.d (.bool b)) e
def isDk (o:Option (Option SV)) (k:List (Str × Int)->Prop):Prop:=match o with
 | some (some (.dk ks))=>k ks
 | _=>False
theorem B9o {ks:List (Str × Int)} {k:List (Str × Int)->Prop}:isDk (some (some (.dk ks))) k=k ks:=rfl
def C4y (i:Nat) (pd:PDt) (D:PEnds) (env:PEnv):Prop:=isDk env[i]? fun _=>pd env fun x e=>asP x fun c n=>isDk e[i]? fun ks=>(c,n) ∉ ks/\ks.length < 1000000/\D.nx (e.set i (some (.dk (ks++[(c,n)]))))
def numD:List (PyData × PyData)->Str->Option Int
 | [],_=>none
 | (.str x,.int n) :: r,s=>if x=s then some n else numD r s
 | _,_=>none
def B9x (o:Option (Option SV)) (k:List (PyData × PyData)->Prop):Prop:=match o with
 | some (some (.d (.dict ds)))=>k ds
 | _=>False
theorem A6s {ds:List (PyData × PyData)} {k:List (PyData × PyData)->Prop}:B9x (some (some (.d (.dict ds)))) k=k ds:=rfl
def C3a (o:Option (Option SV)) (k:Str->Prop):Prop:=match o with
 | some (some (.d (.str s)))=>k s
 | _=>False
theorem A81 {s:Str} {k:Str->Prop}:C3a (some (some (.d (.str s)))) k=k s:=rfl
def B8f (i j:Nat) (env:PEnv) (Q:SV->PEnv->Prop):Prop:=B9x env[i]? fun ds=>C3a env[j]? fun s=>∃ n,numD ds s=some n/\Q (.d (.int n)) env
def pPr0 (_:PEnv) (Q:List (Str × Int)->Prop):Prop:=Q []
def C51 (o:Option (Option SV)) (k:Int->Prop):Prop:=match o with
 | some (some (.d (.list xs)))=>k (xs.length:Int)
 | _=>False
theorem B2q {xs:LP} {k:Int->Prop}:C51 (some (some (.d (.list xs)))) k=k (xs.length:Int):=rfl
def pPr (s:Str) (i:Nat) (pp:PEnv->(List (Str × Int)->Prop)->Prop) (env:PEnv) (Q:List (Str × Int)->Prop):Prop:=C51 env[i]? fun n=>pp env fun ps=>Q ((s,n) :: ps)
def C4w (pp:PEnv->(List (Str × Int)->Prop)->Prop) (env:PEnv) (Q:SV->PEnv->Prop):Prop:=pp env fun ps=>(ps.map (·.1)).Nodup/\ps.length<=15/\Q (.d (.dict (ps.map fun p=>(.str p.1,.int p.2)))) env
def C4o (i j k:Nat) (pa:PAr) (D:PEnds) (env:PEnv):Prop:=pa env fun xs e=>match xs with
 | [x,y,z]=>D.nx (((e.set i (some (.d x))).set j (some (.d y))).set k (some (.d z)))
 | _=>False
end Pu
open PySem L2 My
namespace Pu
def rIsB:R2:=fun x y H Q=>∃ a b,x=.bl a/\y=.bl b/\Q (.bl (decide (a=b))) H
theorem C48 {X:Cx}:OpR X (compareOp .Is) rIsB:=by
 intro pins s σ H x y v u Q I rx ry h;obtain ⟨a,b,rfl,rfl,q⟩:=h;cases rx;cases ry;have e:compareOp CmpOp.Is (Value.bool a) (Value.bool b)=(pure (Value.bool (decide (a=b))):Sem Value):=by
  cases a <;> cases b <;> rfl
 rw [e];exact wpAny_pure (B9t I q rfl)
def pIsB (x y:PyData) (Q:SV->Prop):Prop:=∃ a b,x=.bool a/\y=.bool b/\Q (.d (.bool (decide (a=b))))
theorem B8b {a b:Bool} {Q:SV->Prop}:pIsB (.bool a) (.bool b) Q=Q (.d (.bool (decide (a=b)))) :=
 propext ⟨fun ⟨_,_,e,e',q⟩=>by cases e; cases e'; exact q,fun q=>⟨_,_,rfl,rfl,q⟩⟩
instance ro_isB {K:PySem.W.Frag}:RO K rIsB pIsB where
 ok:=by
  rintro c w env σ x y dx dy Qp Q rfl E vx vy ⟨a,b,rfl,rfl,p⟩ k;exact ⟨a,b,vx.blE,vy.blE,k _ _ w (Res.data E (.bl _)) p⟩
end Pu
namespace Pu
open PySem L2 My Prf
inductive Fr:OT->OT->Prop
 | same (t:OT):Fr t t
 | all {t:OT} {x:PyData}:t.dat=[x]->Fr t (.leaf x)
 | nd {b:Bool} {a:Addr} {k k':OT}:Fr k k'->Fr (.nd b a k) (.nd b a k')
 | cons {h h' t t':OT}:Fr h h'->Fr t t'->Fr (.cons h t) (.cons h' t')
def frOf (s:SV) (k:SV->Prop):Prop:=match s with
 | .tr T=>(∃ x,T.dat=[x]/\k (.d x))\/∃ T',Fr T T'/\k (.tr T')
 | .d x=>k (.d x)
 | _=>False
theorem B9s {x:PyData} {k:SV->Prop}:frOf (.d x) k=k (.d x):=rfl
def pFp (pe:PX) (env:PEnv) (Q:SV->PEnv->Prop):Prop:=pe env fun s e=>frOf s fun s'=>Q s' e
theorem A1k:∀ {ts:List OT},(kids ts).len=ts.length
 | []=>rfl
 | _ :: r=>by show (kids r).len + 1=_; rw [A1k]; rfl
theorem EnvOk.grow {c:Ct} {w:Wd} {env:PEnv} {σ:St} {i:Nat} {T T':OT} {l:Addr} {wo:HO} (E:EnvOk c w env σ) (e:env[i]?=some (some (.tr T))) (hσ:σ[i]?=some (some (.ref l))) (hf:l ∈ T.fp) (hf':∀ a ∈ T'.fp,a ∈ T.fp\/((∀ (j:Nat) t u,env[j]?=some (some t)->σ[j]?=some (some u)->¬ t.foot u a)/\¬ c.Z a))
  (hd:VR c ⟨w.M,upd w.H l wo,w.F⟩ (.ref l) (.tr T')):EnvOk c ⟨w.M,upd w.H l wo,w.F⟩ (env.set i (some (.tr T'))) σ:=by
 have E2:EnvOk c ⟨w.M,upd w.H l wo,w.F⟩ (env.set i (some (.al l))) σ:=E.writeAt (s':=.al l) e hσ hf (fun _ z=>z.elim) rfl;have E3:=E2.set (i:=i) hd fun a fa=>?_
 ·have hs:σ.set i (some (.ref l))=σ:=by
   refine List.ext_getElem? fun j=>?_;rw [List.getElem?_set];split
   ·rename_i z; subst z;split
    ·exact hσ.symm
    ·rename_i hn; rw [List.getElem?_eq_none (by omega)] at hσ; cases hσ
   ·rfl
  rw [List.set_set,hs] at E3;exact E3
 ·rcases hf' a fa with z | z
  ·refine ⟨fun j t u q qu f=>?_,fun za=>E.zo a i _ _ za e hσ z⟩;rw [List.getElem?_set] at q;split at q
   ·split at q
    ·cases q; exact f.elim
    ·cases q
   ·rename_i ne;exact ne (E.own i j _ _ _ _ a e q hσ qu z f)
  ·refine ⟨fun j t u q qu f=>?_,z.2⟩;rw [List.getElem?_set] at q;split at q
   ·split at q
    ·cases q; exact f.elim
    ·cases q
   ·exact z.1 j t u q qu f
def tTv (i:Nat):TE:=tVar i
def isKs (o:Option (Option SV)) (k:Addr->List OT->Prop):Prop:=asTr o fun T=>∃ a ks,T=.nd true a (kids ks)/\k a ks
theorem B9n {a:Addr} {ks:List OT} {k:Addr->List OT->Prop} (h:k a ks):isKs (some (some (.tr (.nd true a (kids ks))))) k:=⟨a,ks,rfl,h⟩
def B50 (i:Nat) (pe:PX) (D:PEnds) (env:PEnv):Prop:=isKs env[i]? fun _ _=>pe env fun s e=>s.ot fun t=>isKs e[i]? fun a ks=>ks.length < 1000000/\D.nx (e.set i (some (.tr (.nd true a (kids (ks++[t]))))))
instance (priority:=high) rs_appT {K:Frag} {i:Nat} {te:TE} {pe:PX} [he:RE K te pe]:RS K (Z4 (tBM K "list" W2 (tTv i) (F9 te tNil))) (B50 i pe) where
 ok:=by
  rintro c w env σ Dp D rfl E h p;unfold B50 isKs asTr at p;split at p
  ·rename_i T0 e0;obtain ⟨a0,k0,rfl,p⟩:=p;obtain ⟨v,g0,⟨ev,us0,h1,h2⟩,o0,n0⟩:=E.at' i _ e0;cases ev;refine ⟨_,g0,.inl ⟨rfl,_,SqL.of h1⟩,?_⟩;refine he.ok c w env σ _ _ rfl E p fun y s e1 w1 R q1=>?_;obtain ⟨t,ht,ho,hn,q1⟩:=R.ot q1;split at q1
   ·rename_i T e;obtain ⟨a,ks,rfl,hl,q⟩:=q1;obtain ⟨v',g0',VT⟩:=R.ev.at' i _ e;obtain ⟨⟨ev',us,k1,k2⟩,o,nd⟩:=id VT;rw [g0] at g0'; cases g0';have ea:a0=a:=by cases ev'; rfl
    subst ea;have haT:a0 ∈ (OT.nd true a0 (kids ks)).fp:=Zy;obtain ⟨n1,n2⟩:=List.nodup_cons.mp (show (a0 :: (kids ks).fp).Nodup from nd);have hat:a0 ∉ t.fp:=fun z=>(hn a0 z).1 i _ _ e g0 haT;have fpe:(OT.nd true a0 (kids (ks++[t]))).fp=a0 :: ((kids ks).fp++t.fp):=by show a0 :: (kids (ks++[t])).fp=_; rw [E7]
    refine ⟨a0,us,y,rfl,rfl,k1,by rw [k2.len,A1k]; exact L1 hl,?_⟩;refine h.nx _ σ ⟨w1.M,upd w1.H a0 (.lst (us++[y])),w1.F⟩ (R.ev.grow (T':=.nd true a0 (kids (ks++[t]))) e g0 haT (fun b hb=>?_) ⟨⟨rfl,_,B3,Tre.snoc (ht.writ hat) (k2.writ n1)⟩,fun b hb=>?_,?_⟩) R.lw.f q
    ·rw [fpe] at hb;rcases List.mem_cons.mp hb with rfl | hb
     ·exact .inl haT
     ·rcases Za hb with hb | hb
      ·exact .inl (Zr _ hb)
      ·exact .inr (hn b hb)
    ·have:w1.H b≠none/\w1.F b=none/\¬ w1.M b/\c.w0.H b=none:=by
      rw [fpe] at hb;rcases List.mem_cons.mp hb with rfl | hb
      ·exact o _ haT
      ·rcases Za hb with hb | hb
       ·exact o b (Zr _ hb)
       ·exact ho.1 b hb
     exact ⟨fun z=>this.1 (K5 z),this.2⟩
    ·rw [fpe];refine List.nodup_cons.mpr ⟨fun z=>?_,List.nodup_append.mpr ⟨n2,ho.2,fun x hx z hz ex=>(hn z hz).1 i _ _ e g0 (ex ▸ Zr _ hx)⟩⟩;rcases Za z with z | z
     ·exact n1 z
     ·exact hat z
   ·exact q1.elim
  ·exact p.elim
theorem A3r {v:V} {a:Addr}:∀ {t:OT},¬ t.sv.foot v a:=fun {t} f=>by
 cases t with
 | leaf x=>cases x <;> exact f
 | nd b p k =>
  cases b with
  | false=>exact f
  | true =>
   have f':(match k.lvs with | some xs=>SV.bor xs | none=>.bt (.nd true p k)).foot v a:=f;cases q:k.lvs <;> (rw [q] at f'; exact f')
 | nil=>exact f
 | cons h t=>exact f
def A99 (i j k:Nat) (pa pb pc:PEnv->(OT->PEnv->Prop)->Prop) (D:PEnds) (env:PEnv):Prop:=pa env fun t e=>pb e fun u e2=>pc e2 fun z e3=>D.nx (((e3.set i (some t.sv)).set j (some u.sv)).set k (some z.sv))
instance (priority:=high) rs_par3B {K:Frag} {ta tb tc:TE} {pa pb pc:PEnv->(OT->PEnv->Prop)->Prop} {i j k:Nat} [ha:RTb K (tPth ta) pa] [hb:RTb K (tPth tb) pb] [hc:RTb K (tPth tc) pc]:RS K (C28 i j k (F9 (tPth ta) (F9 (tPth tb) (F9 (tPth tc) tNil)))) (A99 i j k pa pb pc) where
 ok:=by
  rintro c w env σ Dp D rfl E h p;refine ha.ok c w env σ _ _ rfl E p fun v1 t1 e1 w1 E1 l1 h1 q1=>?_;refine hb.ok c w1 e1 σ _ _ rfl E1 q1 fun v2 t2 e2 w2 E2 l2 h2 q2=>?_;refine hc.ok c w2 e2 σ _ _ rfl E2 q2 fun v3 t3 e3 w3 E3 l3 h3 q3=>?_;exact ⟨v1,v2,v3,rfl,h.nx _ _ w3 (((E3.set (Y8 (l2.f.trans l3.f) h1).sv (fun _ z=>(A3r z).elim)).set (Y8 l3.f h2).sv (fun _ z=>(A3r z).elim)).set h3.sv (fun _ z=>(A3r z).elim)) (l1.f.trans (l2.f.trans l3.f)) q3⟩
end Pu
namespace L2
open PySem PySem.Spec PyProof.Rows
section
variable {X:Cx} {e:Expr}
theorem qTv {i:Nat} (h:QE X e (tVar i)):QE X e (Pu.tTv i):=h
end
end L2
namespace L2
open PySem
open PySem.Spec PyProof.Rows PySem.W
section
variable {K:PySem.W.Frag} {prog:Program} {w:World} {A:Around} {s:Shared} {x C:Addr} {ox:Obj} {od:Option Obj} {cd:ClassData} {name:Str} {v:Value}
end
section
variable {K:PySem.W.Frag} {prog:Program} {w:World} {A:Around} {s:Shared} {x C:Addr} {ox:Obj} {od:Option Obj} {cd:ClassData} {name:Str} {v:Value}
end
section
variable {prog:Program} {w:World} {A:Around} {E:Value->Shared->Prop} {s:Shared} {nm q:Str} {C N:Addr} {bs bm bmB:List Value} {hdct:Bool} {sn:List Str} {sub:List Value} {ab:Bool} {col:Option Bool} {dd:Option Addr} {k0 k1 k2 k3 k5:Option Value} {B newId initId:String}
end
section
variable {P:Program} {w:World} {K:PySem.W.Frag} {mg:Str->Option Value} {base:Heap} {A:Around} {outer:List Env} {s:Shared} {H:Hp} {f C e:Addr} {u:Value} {qual nm x fld:Str} {params:Arguments} {scope:Scope} {dV kV doc pm cdv ct oc:Value} {an od:Option Addr} {osl:Array (Option Value)} {N:List Str}
 {p1 p2 p3 p4:Pos} {ob:Obj} {cd:ClassData} {vs:Array Value} {sl:Array (Option Value)} {v:V}
end
section
variable {M:Model} {A:Around} {E:Value->Shared->Prop} {s:Shared} {base:Heap} {env:Env} {outer:List Env} {L e:Addr} {oe:Obj} {cls a0:Value} {Q:Unit->Shared->Prop} {dx:Option Addr}
end
section
variable {P:Program} {w:World} {K:PySem.W.Frag} {mg:Str->Option Value} {base:Heap} {N:List Str} {qual:Str} {scope:Scope} {f:Addr} {cd:Value} {A:Around} {outer:List Env} {s0:Shared} {H0:Hp} {E:XK}
end
section
variable {prog:Program} {w:World} {M:Model} {A:Around} {E:Value->Shared->Prop} {s:Shared} {env:Env} {nm q:Str} {C N:Addr} {bs bm bmB:List Value} {hdct:Bool} {sn:List Str} {sub:List Value} {ab:Bool} {col:Option Bool} {dd:Option Addr} {k0 k1 k2 k3 k5:Option Value} {B newId initId:String}
end
end L2
namespace L2
open PySem PySem.Spec PyProof.Rows
section
variable {X:Cx}
end
section
variable {X:Cx}
end
end L2
namespace Pu
open PySem L2 My Prf
end Pu
namespace L2
open PySem PySem.Spec PyProof.Rows
section
variable {X:Cx} {E:XK} {x fld y qual:Str} {st:Stmt} {C fI:Addr} {fd:FuncData} {N:List Str} {pos np cpos:Pos} {e:Expr} {te:TE}
end
section
variable {X:Cx} {hs:List ExceptHandler}
variable {C CH:Addr} {xh n:Str} {pos pos2:Pos} {b0:Stmt} {suite:List Stmt} {rest:List ExceptHandler} {nm:Option Str} {bd:List Stmt}
variable {k:Nat} {f:Addr} {fd:FuncData} {ps:List Str} {sp:Sp} {x:Str} {p pos5:Pos} {e:Expr} {es:List Expr} {t:TA} {h0:ExceptHandler}
end
section
variable {X:Cx} {C fI a:Addr} {fld y qual n:Str} {st:Stmt} {fd:FuncData} {N:List Str} {oe:Obj} {i:Nat} {pos p1:Pos}
end
section
variable {X:Cx} {hs:List ExceptHandler} {pos pos2:Pos} {k:Nat} {f:Addr} {fd:FuncData} {ps:List Str} {sp:Sp} {x:Str} {p pos5:Pos} {e:Expr} {es:List Expr} {t:TA} {h0:ExceptHandler}
end
section
variable {X:Cx} {i:Nat} {a:Addr} {b:Bool}
end
section
variable {X:Cx} {C fI a:Addr} {fld y qual n x:Str} {st:Stmt} {fd:FuncData} {N:List Str} {oe:Obj} {i j:Nat} {pos p1 p2 p3:Pos}
end
end L2
namespace Pu
open PySem PySem.Spec PyProof.Rows L2 My Prf
end Pu
namespace L2
open PySem PySem.Spec PyProof.Rows
end L2
namespace Pu
open PySem PySem.Spec PyProof.Rows L2 My Prf
def C4z (i:Nat) (pe:PX) (D:PEnds) (env:PEnv):Prop:=isKs env[i]? fun _ _=>pe env fun s e=>∃ b us,s=.tr (.nd true b (kids us))/\isKs e[i]? fun _ ks=>ks.length + us.length < 1000000/\∀ p,D.nx (e.set i (some (.tr (.nd true p (kids (ks++us))))))
def C42 (i j:Nat) (D:PEnds) (env:PEnv):Prop:=oInt env[j]? fun n=>B0z i (mIx B6c n) D env
end Pu
namespace L2
open PySem PySem.Spec PyProof.Rows
variable {X:Cx} {e:Expr}
theorem nsi3 {a b c:V} {r:List V}:NSI (a :: b :: c :: r):=fun _ _ z=>nomatch z
end L2
namespace L2
open PySem PySem.Spec PyProof.Rows
theorem A8r {elt t1 i1 t2 i2:Expr} {f1 f2:List Expr} {scope:Scope} {pos:Pos} {it acc:Value} {env:Env} :
    compTurn (.ListComp elt [⟨t1,i1,f1,0⟩,⟨t2,i2,f2,0⟩] scope pos) 0 it acc env=(standAt i1.pos >>= fun _=>pyNext it >>= fun got =>
      match got with
      | none=>pure (Fin.done Flow.next)
      | some v=>letOwnedTupleGo t1 it v >>= fun _=>assign t1 env v >>= fun _ =>
        (forIn f1 true fun c r=>if r=true then do let ok <- isTrue c env (eval c env); pure (ForInStep.yield ok) else pure (ForInStep.yield r)) >>= fun ok =>
          if ok=true then (eval i2 env >>= fun x=>standAt i2.pos >>= fun _=>foldedSetIterable i2 env x >>= fun x=>holding [x] (pyIter x) >>= fun x =>
              runOwn (Code.compStart (.ListComp elt [⟨t1,i1,f1,0⟩,⟨t2,i2,f2,0⟩] scope pos) 1 x acc env) env >>= fun _ =>
              again (Code.compLoop (.ListComp elt [⟨t1,i1,f1,0⟩,⟨t2,i2,f2,0⟩] scope pos) 0 it acc env))
          else again (Code.compLoop (.ListComp elt [⟨t1,i1,f1,0⟩,⟨t2,i2,f2,0⟩] scope pos) 0 it acc env)):=by
  unfold compTurn;simp only [bind_assoc,pure_bind];rfl
theorem A8q {elt t1 i1 t2 i2:Expr} {f1 f2:List Expr} {scope:Scope} {pos:Pos} {it acc:Value} {env:Env} :
    compTurn (.ListComp elt [⟨t1,i1,f1,0⟩,⟨t2,i2,f2,0⟩] scope pos) 1 it acc env=(standAt i2.pos >>= fun _=>pyNext it >>= fun got =>
      match got with
      | none=>pure (Fin.done Flow.next)
      | some v=>letOwnedTupleGo t2 it v >>= fun _=>assign t2 env v >>= fun _ =>
        (forIn f2 true fun c r=>if r=true then do let ok <- isTrue c env (eval c env); pure (ForInStep.yield ok) else pure (ForInStep.yield r)) >>= fun ok =>
          if ok=true then (eval elt env >>= fun x=>call (.builtin "list.append") [acc,x] >>= fun _ =>
              again (Code.compLoop (.ListComp elt [⟨t1,i1,f1,0⟩,⟨t2,i2,f2,0⟩] scope pos) 1 it acc env))
          else again (Code.compLoop (.ListComp elt [⟨t1,i1,f1,0⟩,⟨t2,i2,f2,0⟩] scope pos) 1 it acc env)):=by
  unfold compTurn;simp only [bind_assoc,pure_bind];rfl
theorem A73 {prog:Program} {w:World} {A:Around} {R:Result->Shared->Prop} {s:Shared} {elt t1 i1 t2 i2:Expr} {f1 f2:List Expr} {scope:Scope} {pos:Pos} {it acc:Value} {env:Env} (I:Nat->Shared->Prop)
    (turn:∀ n s,I n s->wpAny (model prog w) A (pyNext it) (fun r s₁=>match r with
      | none=>R (.ok .next) s₁
      | some v=>wpAny (model prog w) A (letOwnedTupleGo t2 it v) (fun _ s₁'=>wpAny (model prog w) A (assign t2 env v) (fun _ s₂ =>
          wpAny (model prog w) A (forIn f2 true fun c r=>if r=true then do let ok <- isTrue c env (eval c env); pure (ForInStep.yield ok) else pure (ForInStep.yield r)) (fun ok s₃ =>
            if ok=true then wpAny (model prog w) A (eval elt env) (fun x s₄ =>
              wpAny (model prog w) A (call (.builtin "list.append") [acc,x]) (fun _ s₅=>∃ m,m < n/\I m s₅) (fun _ _=>False) s₄) (fun _ _=>False) s₃
            else ∃ m,m < n/\I m s₃) (fun _ _=>False) s₂) (fun _ _=>False) s₁') (fun _ _=>False) s₁) (fun _ _=>False) s)
    (n:Nat) (h:I n s):codeAny (model prog w) A (.compLoop (.ListComp elt [⟨t1,i1,f1,0⟩,⟨t2,i2,f2,0⟩] scope pos) 1 it acc env) R s:=by
  refine codeAny_loop rfl I (fun n s hI=>?_) n h;show wpAny _ A ((compTurn (.ListComp elt [⟨t1,i1,f1,0⟩,⟨t2,i2,f2,0⟩] scope pos) 1 it acc env).onRaise (fun x=>do noteFrame x env; theTreesLotGoes x)) _ _ s;refine wpAny_noted ?_;rw [A8q];refine wpAny_bind (wpAny_standAt (wpAny_bind (wpAny_mono (turn n s hI) (fun r s₁ h₁=>?_) fun _ _ h'=>h'.elim)));cases r with
  | none=>exact wpAny_pure h₁
  | some v =>
    refine wpAny_bind (wpAny_mono h₁ (fun _ s₁' h₁'=>?_) fun _ _ h'=>h'.elim);refine wpAny_bind (wpAny_mono h₁' (fun _ s₂ h₂=>wpAny_bind (wpAny_mono h₂ (fun ok s₃ h₃=>?_) fun _ _ h'=>h'.elim)) fun _ _ h'=>h'.elim);cases ok with
    | false=>exact wpAny_pure ⟨rfl,h₃⟩
    | true=>exact wpAny_bind (wpAny_mono h₃ (fun x s₄ h₄=>wpAny_bind (wpAny_mono h₄ (fun _ s₅ h₅=>wpAny_pure ⟨rfl,h₅⟩) fun _ _ h'=>h'.elim)) fun _ _ h'=>h'.elim)
theorem A4g {prog:Program} {w:World} {A:Around} {R:Result->Shared->Prop} {s:Shared} {elt t1 i1 t2 i2:Expr} {f1 f2:List Expr} {scope:Scope} {pos:Pos} {it acc:Value} {env:Env} (I:Nat->Shared->Prop)
    (hs:∀ x,foldedSetIterable i2 env x=pure x)
    (turn:∀ n s,I n s->wpAny (model prog w) A (pyNext it) (fun r s₁=>match r with
      | none=>R (.ok .next) s₁
      | some v=>wpAny (model prog w) A (letOwnedTupleGo t1 it v) (fun _ s₁'=>wpAny (model prog w) A (assign t1 env v) (fun _ s₂ =>
          wpAny (model prog w) A (forIn f1 true fun c r=>if r=true then do let ok <- isTrue c env (eval c env); pure (ForInStep.yield ok) else pure (ForInStep.yield r)) (fun ok s₃ =>
            if ok=true then wpAny (model prog w) A (eval i2 env) (fun x s₄ =>
              wpAny (model prog w) A (pyIter x) (fun it2 s₅=>codeAny (model prog w) A (.compStart (.ListComp elt [⟨t1,i1,f1,0⟩,⟨t2,i2,f2,0⟩] scope pos) 1 it2 acc env)
                (fun r s₆=>r=.ok .next/\∃ m,m < n/\I m s₆) s₅) (fun _ _=>False) s₄) (fun _ _=>False) s₃
            else ∃ m,m < n/\I m s₃) (fun _ _=>False) s₂) (fun _ _=>False) s₁') (fun _ _=>False) s₁) (fun _ _=>False) s)
    (n:Nat) (h:I n s):codeAny (model prog w) A (.compLoop (.ListComp elt [⟨t1,i1,f1,0⟩,⟨t2,i2,f2,0⟩] scope pos) 0 it acc env) R s:=by
  refine codeAny_loop rfl I (fun n s hI=>?_) n h;show wpAny _ A ((compTurn (.ListComp elt [⟨t1,i1,f1,0⟩,⟨t2,i2,f2,0⟩] scope pos) 0 it acc env).onRaise (fun x=>do noteFrame x env; theTreesLotGoes x)) _ _ s;refine wpAny_noted ?_;rw [A8r];refine wpAny_bind (wpAny_standAt (wpAny_bind (wpAny_mono (turn n s hI) (fun r s₁ h₁=>?_) fun _ _ h'=>h'.elim)));cases r with
  | none=>exact wpAny_pure h₁
  | some v =>
    refine wpAny_bind (wpAny_mono h₁ (fun _ s₁' h₁'=>?_) fun _ _ h'=>h'.elim);refine wpAny_bind (wpAny_mono h₁' (fun _ s₂ h₂=>wpAny_bind (wpAny_mono h₂ (fun ok s₃ h₃=>?_) fun _ _ h'=>h'.elim)) fun _ _ h'=>h'.elim);cases ok with
    | false=>exact wpAny_pure ⟨rfl,h₃⟩
    | true =>
      refine wpAny_bind (wpAny_mono h₃ (fun x s₄ h₄=>wpAny_bind (wpAny_standAt (wpAny_bind (wpAny_of_eq (hs x) (wpAny_bind (wpAny_holding (wpAny_mono h₄ (fun it2 s₅ h₅=>?_) fun _ _ h'=>h'.elim))))))) fun _ _ h'=>h'.elim);refine wpAny_bind (wpAny_runOwn (codeAny_mono h₅ fun r s₆ h₆=>?_));obtain ⟨rfl,h₆⟩:=h₆;exact wpAny_pure ⟨rfl,h₆⟩
theorem A7c {prog:Program} {w:World} {A:Around} {R:Result->Shared->Prop} {s:Shared} {elt t1 i1 t2 i2:Expr} {f1 f2:List Expr} {scope:Scope} {pos:Pos} {it acc:Value} {env:Env}
  (h0:codeAny (model prog w) A (.compLoop (.ListComp elt [⟨t1,i1,f1,0⟩,⟨t2,i2,f2,0⟩] scope pos) 1 it acc env) R s)
  (h:wpAny (model prog w) A (pyIter it) (fun it' s'=>codeAny (model prog w) A (.compLoop (.ListComp elt [⟨t1,i1,f1,0⟩,⟨t2,i2,f2,0⟩] scope pos) 1 it' acc env) R s') (fun _ _=>False) s) :
  codeAny (model prog w) A (.compStart (.ListComp elt [⟨t1,i1,f1,0⟩,⟨t2,i2,f2,0⟩] scope pos) 1 it acc env) R s:=by
 refine codeAny_of_tree ?_;show wpAny _ A ((compStart (.ListComp elt [⟨t1,i1,f1,0⟩,⟨t2,i2,f2,0⟩] scope pos) 1 it acc env).onRaise _) _ _ s;refine wpAny_notedAt ?_;unfold compStart;show wpAny _ A (ask >>= _) _ _ s;refine wpAny_bind (wpAny_askSetting (wpAny_ite ?_));split
 ·exact wpAny_bind (wpAny_pure (wpAny_pure ⟨rfl,h0⟩))
 ·exact wpAny_bind (wpAny_rule (wpAny_bind (wpAny_standAt (wpAny_bind (wpAny_mono h (fun it' s' h'=>wpAny_pure ⟨rfl,h'⟩) fun _ _ x=>x.elim)))))
def A4h (J:It) (g:TG) (tt:TT) (te:TE) (D:Addr) (zs0:List V) (Done:St->Hp->List V->Prop) (σ0:St) (H1:Hp):Prop :=
 ∃ W:Nat->Nat->St->Hp->List V->Prop,(∃ m,W 0 m σ0 H1 zs0)/\∀ i m σ' H' ys,W i m σ' H' ys->H' D=some (.lst ys)/\ys.length < sizeLine /\
  ((J.stop i H'/\Done σ' H' ys)\/(J.go i H'/\∀ x H2,J.yld i H' x H2->g x σ' H2 fun σ2 H3=>tt σ2 H3 fun b H4=>if b=true then
   te σ2 H4 fun y H5=>∃ zs,H5 D=some (.lst zs)/\zs.length < sizeLine/\∃ m',m' < m/\W (i + 1) m' σ2 (upd H5 D (.lst (zs++[y]))) (zs++[y])
   else ∃ m',m' < m/\W (i + 1) m' σ2 H4 ys))
def A4i (J:It) (g:TG) (tt:TT) (wi2:TI) (g2:TG) (tt2:TT) (te:TE) (D:Addr) (Fin:Hp->Prop) (σ0:St) (H1:Hp):Prop :=
 ∃ W:Nat->Nat->St->Hp->List V->Prop,(∃ m,W 0 m σ0 (upd H1 D (.lst [])) [])/\∀ i m σ' H' ys,W i m σ' H' ys->H' D=some (.lst ys)/\ys.length < sizeLine /\
  ((J.stop i H'/\Fin H')\/(J.go i H'/\∀ x H2,J.yld i H' x H2->g x σ' H2 fun σ2 H3=>tt σ2 H3 fun b H4=>if b=true then
   wi2 σ2 H4 fun J2 H5=>A4h J2 g2 tt2 te D ys (fun σ3 H6 zs=>∃ m',m' < m/\W (i + 1) m' σ3 H6 zs) σ2 H5
   else ∃ m',m' < m/\W (i + 1) m' σ2 H4 ys))
def V8 (wi:TI) (g:TG) (tt:TT) (wi2:TI) (g2:TG) (tt2:TT) (te:TE) (cap:List (Option Nat)) (i:Nat):TS:=fun D σ H=>wi σ H fun J H1=>∀ l,H1 l=none->A4i J g tt wi2 g2 tt2 te l (fun H'=>D.nx (σ.set i (some (.ref l))) H') (capσ cap σ) H1
section
variable {X:Cx} {scope:Scope} {cl:List (Str × Addr)} {N':List Str} {cap:List (Option Nat)} {elt t1 i1 t2 i2:Expr} {f1 f2:List Expr} {wi wi2:TI} {g g2:TG} {tt tt2:TT} {te:TE} {pos spos py:Pos} {y:Str} {i:Nat}
theorem B3w {X:Cx} {pins:List (Addr × Obj)} {σ:St} {H:Hp} {s:Shared} {D:Addr} {zs:List V} {Done:St->Hp->List V->Prop} {R:Result->Shared->Prop} (hc:X.calm=true) (hx:X.xe=fun _ _=>False)
  (hg:PG X t2 g2) (ht:PTs X f2 tt2) (he:PE X elt te) {it:Addr} {fp:List Addr} {tn:Nat->Heap->Prop} {J:It} (I:Inv X pins σ H s) (T:Turn X.prog X.w X.K t2 J fp it tn) (st:tn 0 s.heap) (f2':∀ b ∈ fp,FpOk X pins H b)
  (go:A4h J g2 tt2 te D zs Done σ H) (out:∀ σ' H' s' ys,Inv X pins σ' H' s'->Done σ' H' ys->R (.ok .next) s') :
  codeAny (model X.prog X.w) X.A (.compStart (.ListComp elt [⟨t1,i1,f1,0⟩,⟨t2,i2,f2,0⟩] scope pos) 1 (.ref it) (.ref D) X.env) R s:=by
 obtain ⟨W,⟨m0,w0⟩,turn⟩:=go;have stat:∀ {H':Hp},(∀ b ∈ fp,H' b=none)->∀ b ∈ fp,FpOk X pins H' b:=fun hn b hb=>⟨hn b hb,(f2' b hb).2⟩;have loop:codeAny (model X.prog X.w) X.A (.compLoop (.ListComp elt [⟨t1,i1,f1,0⟩,⟨t2,i2,f2,0⟩] scope pos) 1 (.ref it) (.ref D) X.env) R s:=by
  refine A73 (fun n s'=>∃ i σ' H' ys,Inv X pins σ' H' s'/\tn i s'.heap/\(∀ b ∈ fp,H' b=none)/\W i n σ' H' ys) ?_ m0 ⟨0,_,_,zs,I,st,fun b hb=>(f2' b hb).1,w0⟩;rintro n s6 ⟨i,σ6,H6,ys,I6,st6,fr6,w6⟩;obtain ⟨hl6,hz6,hgo⟩:=turn i n σ6 H6 ys w6;rcases hgo with ⟨stop,fin⟩ | ⟨go',step⟩
  ·refine wpAny_mono (T.done X rfl rfl rfl hc i pins s6 σ6 H6 (fun _ _=>False) I6 (stat fr6) st6 stop) (fun r s7 ⟨hr,I7⟩=>?_) fun _ _ z=>z.elim;subst hr;exact out _ _ _ _ I7 fin
  ·refine wpAny_mono (T.item X rfl rfl rfl hc i pins s6 σ6 H6 (fun _ _=>False) I6 (stat fr6) st6 go') (fun r s7 ⟨u,hr,h7⟩=>?_) fun _ _ z=>z.elim;subst hr;refine wpAny_mono h7 (fun _ s8 ⟨x,H8,I8,r8,y8,st8,fr8⟩=>?_) fun _ _ z=>z.elim;have I8':=I8.pinned (stat fr8) (T.obj _ _ st8);have again:∀ {s9:Shared} {σ9:St} {H9:Hp},Inv X (pins++W9 fp s8.heap) σ9 H9 s9->∀ {zs:List V},(∃ m',m' < n/\W (i + 1) m' σ9 H9 zs) ->
     ∃ m,m < n/\∃ i σ' H' ys,Inv X pins σ' H' s9/\tn i s9.heap/\(∀ b ∈ fp,H' b=none)/\W i m σ' H' ys:=fun {s9 σ9 H9} I9 {zs} ⟨m',hm,w9⟩=>by
    refine ⟨m',hm,i + 1,σ9,H9,zs,I9.unpinned,T.keep _ _ _ st8 fun b hb o e=>(I9.pin (b,o) (Zw _ (Zw _ (J0 hb e)))).1,fun b hb=>?_,w9⟩;obtain ⟨o,e,d⟩:=T.obj _ _ st8 b hb;exact (I9.pin (b,o) (Zw _ (Zw _ (J0 hb e)))).2.1
   refine wpAny_mono (hg _ s8 σ6 H8 x u _ I8' r8 (step x H8 y8)) (fun _ s9 ⟨σ9,H9,I9,q9⟩=>?_) fun _ _ z=>by rw [hx] at z; exact z.elim
   refine wpAny_mono (ht _ s9 σ9 H9 _ I9 q9) (fun ok s10 ⟨H10,I10,q10⟩=>?_) fun _ _ z=>by rw [hx] at z; exact z.elim
   cases ok with
   | false=>exact again I10 q10
   | true =>
    rw [if_pos rfl];refine wpAny_mono (he _ s10 σ9 H10 _ I10 q10) (fun yv s11 ⟨y,H11,I11,r11,zs,hz,hlen,q11⟩=>?_) fun _ _ z=>by rw [hx] at z; exact z.elim
    refine wpAny_mono (C8 (X:=X) _ s11 σ9 H11 (.ref D) [y] (.ref D) [yv] (fun _ H'=>∃ m',m' < n/\W (i + 1) m' σ9 H' (zs++[y])) I11 rfl (.cons r11 .nil) ⟨_,zs,y,rfl,rfl,hz,hlen,q11⟩) (fun _ s12 ⟨_,H12,I12,_,q12⟩=>?_) fun _ _ z=>by rw [hx] at z; exact z.elim
    exact again I12 q12
 exact A7c loop (T.self _ 0 _ _ _ st loop)
theorem A76 {pins:List (Addr × Obj)} {σ:St} {H2:Hp} {s2:Shared} {it:Addr} {fp:List Addr} {tn:Nat->Heap->Prop} {J:It} {E:Value->Shared->Prop} {RR:Value->Addr->Result->Shared->Prop} {Fin:Addr->Hp->Prop}
  (hc:X.calm=true) (C:CompSc X scope cl N' cap) (I2:Inv X pins σ H2 s2) (T:Turn X.prog X.w X.K t1 J fp it tn) (st2:tn 0 s2.heap) (f2':∀ b ∈ fp,FpOk X pins H2 b)
  (hg:∀ s3 H3 fp,PG (X.block scope cl N' s3 H3 fp) t1 g) (ht:∀ s3 H3 fp,PTs (X.block scope cl N' s3 H3 fp) f1 tt)
  (hi2:∀ s3 H3 fp,PI (X.block scope cl N' s3 H3 fp) t2 i2 wi2) (hg2:∀ s3 H3 fp,PG (X.block scope cl N' s3 H3 fp) t2 g2) (ht2:∀ s3 H3 fp,PTs (X.block scope cl N' s3 H3 fp) f2 tt2) (he:∀ s3 H3 fp,PE (X.block scope cl N' s3 H3 fp) elt te)
  (hs2:∀ env x,foldedSetIterable i2 env x=pure x)
  (go:∀ D,H2 D=none->A4i J g tt wi2 g2 tt2 te D (Fin D) (capσ cap σ) H2)
  (out:∀ (D C:Addr) (s':Shared) (m:Str->Option Value) (H':Hp),s'.heap.Ns C m->C≠X.env.locals->H' C=none->X.s₀.heap.objs.size<=C->(∀ x c,X.env.cells.lookup x=some c->c≠C)->(∀ p ∈ X.pn++pins,p.1≠C)->Fin D H'->Inv X pins σ H' s'->RR (.ref D) C (.ok .next) s') :
  wpAny (model X.prog X.w) X.A (newList []) (fun acc s₃=>wpAny (model X.prog X.w) X.A (newFunctionEnv scope X.env.globals cl [] X.env.qual none .none (some X.env)) (fun cenv s₄ =>
   codeAny (model X.prog X.w) X.A (.compStart (.ListComp elt [⟨t1,i1,f1,0⟩,⟨t2,i2,f2,0⟩] scope pos) 0 (.ref it) acc { cenv with scope:=relabel scope X.env }) (RR acc cenv.locals) s₄) E s₃) E s2:=by
 refine wpAny_newObj_type (wpAny_newFunctionEnv C.cell (by intro y hy; simp at hy) (fun h₁ hns₁ hsb₁=>?_) C.kind);have hD:H2 s2.heap.objs.size=none:=I2.hok.fresh (Zv _);obtain ⟨W,⟨m0,w0⟩,turn⟩:=go _ hD;have I3:Inv X pins σ (upd H2 s2.heap.objs.size (.lst [])) { s2 with heap:=s2.heap.push { cls:=.type "list",dict:=none,data:=.seq ([]:List Value).toArray } } :=
  I2.laid (t':=s2.toks) (o:=.lst []) (fun b u e=>Heap.get?_push_of_some _ e) (Zv _) ⟨Nat.zero_le _,[],0,.nil,Heap.get?_push_size _ rfl⟩
 have f3:∀ b ∈ fp,FpOk X pins (upd H2 s2.heap.objs.size (.lst [])) b:=fun b hb=>by
  obtain ⟨f0,fr⟩:=f2' b hb;obtain ⟨o,e,_⟩:=T.obj _ _ st2 b hb;exact ⟨by rw [C4 (Nat.ne_of_lt (Heap.lt_size e))]; exact f0,fr⟩
 generalize hs3:({ s2 with heap:=s2.heap.push { cls:=.type "list",dict:=none,data:=.seq ([]:List Value).toArray } }:Shared)=s3 at hns₁ hsb₁ I3 ⊢;have o3:∀ b o,s2.heap.get? b=some o->s3.heap.get? b=some o:=fun b o e=>by rw [<- hs3]; exact Heap.get?_push_of_some _ e
 have hk:∀ b o,s3.heap.get? b=some o->h₁.get? b=some o:=fun b o e=>by
  rw [hsb₁.2 b (Nat.ne_of_lt (Heap.lt_size e))]; exact Heap.get?_push_of_some _ e
 have st3:tn 0 s3.heap:=T.keep _ _ _ st2 fun b _ o e=>o3 b o e;have ho:∀ b ∈ fp,∃ o,s3.heap.get? b=some o:=fun b hb=>let ⟨o,e,_⟩:=T.obj _ _ st3 b hb; ⟨o,e⟩;have I4:=A3f (tk:=s3.toks + ([]:List (Str × Value)).length) I3 C f3 ho hns₁ hk;have st4:tn 0 h₁:=T.keep _ _ _ st3 fun b _ o e=>hk b o e;have hX:∀ {H':Hp} {pl:List (Addr × Obj)},(∀ b ∈ fp,H' b=none)->(∀ p ∈ pl,p.1 ∉ fp)->∀ b ∈ fp,FpOk (X.block scope cl N' s3 (upd H2 s2.heap.objs.size (.lst [])) fp) pl H' b:=fun {H' pl} hn hp b hb=>by
  refine ⟨hn b hb,I4.ok.exf b hb |>.1,I4.ok.exfs b hb,.inl hb,(I4.ok.exf b hb).2,fun p hp' z=>?_⟩;have hp'':p ∈ pl:=by simpa [Cx.block] using hp'
  exact hp p hp'' (by rw [z]; exact hb)
 have fr3:∀ b ∈ fp,(upd H2 s2.heap.objs.size (.lst [])) b=none:=fun b hb=>(f3 b hb).1;have loop:∀ s₅:Shared,s₅={ s3 with heap:=h₁,toks:=s3.toks + ([]:List (Str × Value)).length } ->
   codeAny (model X.prog X.w) X.A (.compLoop (.ListComp elt [⟨t1,i1,f1,0⟩,⟨t2,i2,f2,0⟩] scope pos) 0 (.ref it) (.ref s2.heap.objs.size) (compEnvC scope cl s3.heap.objs.size X.env)) (RR (.ref s2.heap.objs.size) s3.heap.objs.size) s₅:=by
  rintro s₅ rfl;refine A4g (fun n s'=>∃ i σ' H' ys,Inv (X.block scope cl N' s3 (upd H2 s2.heap.objs.size (.lst [])) fp) [] σ' H' s'/\tn i s'.heap/\(∀ b ∈ fp,H' b=none)/\W i n σ' H' ys) (hs2 _) ?_ m0 ⟨0,_,_,[],I4,st4,fr3,w0⟩;rintro n s6 ⟨i,σ6,H6,ys,I6,st6,fr6,w6⟩;obtain ⟨hl6,hz6,hgo⟩:=turn i n σ6 H6 ys w6;rcases hgo with ⟨stop,fin⟩ | ⟨go',step⟩
  ·refine wpAny_mono (T.done (X.block scope cl N' s3 (upd H2 s2.heap.objs.size (.lst [])) fp) rfl rfl rfl hc i [] s6 σ6 H6 (fun _ _=>False) I6 (hX fr6 (fun _ z=>nomatch z)) st6 stop) (fun r s7 ⟨hr,I7⟩=>?_) fun _ _ z=>z.elim;subst hr;obtain ⟨m7,hn7,_⟩:=id I7.loc;refine out _ _ s7 m7 H6 hn7 (Nat.ne_of_gt I3.lt) I7.free I3.sz (fun x c e z=>?_) (fun p hp z=>?_) fin (A3e I3 I7 f3 (.refl ..))
   ·obtain ⟨v,q⟩:=I3.cell x c e;exact absurd q.lt (by rw [z]; exact Nat.lt_irrefl _)
   ·exact absurd (Heap.lt_size (I3.pin p hp).1) (by rw [z]; exact Nat.lt_irrefl _)
  ·refine wpAny_mono (T.item (X.block scope cl N' s3 (upd H2 s2.heap.objs.size (.lst [])) fp) rfl rfl rfl hc i [] s6 σ6 H6 (fun _ _=>False) I6 (hX fr6 (fun _ z=>nomatch z)) st6 go') (fun r s7 ⟨u,hr,h7⟩=>?_) fun _ _ z=>z.elim;subst hr;refine wpAny_mono h7 (fun _ s8 ⟨x,H8,I8,r8,y8,st8,fr8⟩=>?_) fun _ _ z=>z.elim;have I8':=I8.pinned (hX fr8 (fun _ z=>nomatch z)) (T.obj _ _ st8);have again:∀ {s9:Shared} {σ9:St} {H9:Hp},Inv (X.block scope cl N' s3 (upd H2 s2.heap.objs.size (.lst [])) fp) ([]++W9 fp s8.heap) σ9 H9 s9->∀ {zs:List V},(∃ m',m' < n/\W (i + 1) m' σ9 H9 zs) ->
     ∃ m,m < n/\∃ i σ' H' ys,Inv (X.block scope cl N' s3 (upd H2 s2.heap.objs.size (.lst [])) fp) [] σ' H' s9/\tn i s9.heap/\(∀ b ∈ fp,H' b=none)/\W i m σ' H' ys:=fun {s9 σ9 H9} I9 {zs} ⟨m',hm,w9⟩=>by
    refine ⟨m',hm,i + 1,σ9,H9,zs,I9.unpinned,T.keep _ _ _ st8 fun b hb o e=>(I9.pin (b,o) (Zw _ (Zw _ (J0 hb e)))).1,fun b hb=>?_,w9⟩;obtain ⟨o,e,d⟩:=T.obj _ _ st8 b hb;exact (I9.pin (b,o) (Zw _ (Zw _ (J0 hb e)))).2.1
   refine wpAny_mono (hg _ _ _ _ s8 σ6 H8 x u _ I8' r8 (step x H8 y8)) (fun _ s9 ⟨σ9,H9,I9,q9⟩=>?_) fun _ _ z=>z.elim;refine wpAny_mono (ht _ _ _ _ s9 σ9 H9 _ I9 q9) (fun ok s10 ⟨H10,I10,q10⟩=>?_) fun _ _ z=>z.elim;cases ok with
   | false=>exact again I10 q10
   | true =>
    rw [if_pos rfl];refine wpAny_mono (hi2 _ _ _ _ s10 σ9 H10 _ I10 q10) (fun v s11 h11=>wpAny_mono h11 (fun itv s12 h12=>?_) fun _ _ z=>z.elim) fun _ _ z=>z.elim;obtain ⟨it2,fp2,tn2,J2,H12,e12,I12,T2,st12,f12,go12⟩:=h12;subst e12;exact B3w (X:=X.block scope cl N' s3 (upd H2 s2.heap.objs.size (.lst [])) fp) hc rfl (hg2 _ _ _) (ht2 _ _ _) (he _ _ _) I12 T2 st12 f12 go12 fun σ' H' s' ys I' d'=>⟨rfl,again I' d'⟩
 exact codeAny_compStart_list (loop _ rfl) (T.self _ 0 _ _ _ st4 (loop _ rfl))
theorem A31 (hc:X.calm=true) (hN:X.N.Nodup) (hi:X.N[i]?=some y) (hy:X.env.scope.names.lookup y=some .local) (C:CompSc X scope cl N' cap) (hit:PI X t1 i1 wi) (hg:∀ s3 H3 fp,PG (X.block scope cl N' s3 H3 fp) t1 g)
  (ht:∀ s3 H3 fp,PTs (X.block scope cl N' s3 H3 fp) f1 tt) (hi2:∀ s3 H3 fp,PI (X.block scope cl N' s3 H3 fp) t2 i2 wi2) (hg2:∀ s3 H3 fp,PG (X.block scope cl N' s3 H3 fp) t2 g2) (ht2:∀ s3 H3 fp,PTs (X.block scope cl N' s3 H3 fp) f2 tt2)
  (he:∀ s3 H3 fp,PE (X.block scope cl N' s3 H3 fp) elt te)
  (hsw:swapsWith (.ListComp elt [⟨t1,i1,f1,0⟩,⟨t2,i2,f2,0⟩] scope pos) (some (.Name y py)) spos.line X.env=pure true) (hs:∀ x,foldedSetIterable i1 X.env x=pure x:=by intro _; rfl) (hs2:∀ env x,foldedSetIterable i2 env x=pure x:=by intro _ _; rfl) :
  PS X (.Assign [.Name y py] (.ListComp elt [⟨t1,i1,f1,0⟩,⟨t2,i2,f2,0⟩] scope pos) spos) (V8 wi g tt wi2 g2 tt2 te cap i):=by
 intro pins s σ H D I h;rw [exec_Assign_Name_used _ _ _ _ hsw];refine wpAny_bind (wpAny_standAt (wpAny_bind ?_));show wpAny _ X.A (do let _ <- comprehension (.ListComp elt [⟨t1,i1,f1,0⟩,⟨t2,i2,f2,0⟩] scope pos) scope X.env _ (newList []) false (eval i1 X.env) (some (assign (.Name y py) X.env))) _ _ s;refine wpAny_bind (wpAny_mono (wpAny_comprehension_free (use:=some (assign (.Name y py) X.env)) (Q:=fun _ s'=>SP X pins D .next s') rfl hs C.clos C.kind C.names
  (thn (hit pins s σ H _ I h) fun v s1 h1=>thn h1 fun itv s2 h2=>?_)) (fun _ s' hq=>wpAny_pure (wpAny_pure hq)) fun _ _ e=>e)
 obtain ⟨it,fp,tn,J,H2,e,I2,T,st2,f2',go⟩:=h2;subst e;refine A76 (RR:=fun acc C=>compPost (model X.prog X.w) X.A X.xe (some (assign (.Name y py) X.env)) (fun _ s'=>SP X pins D .next s') acc C) (Fin:=fun l H'=>D.nx (σ.set i (some (.ref l))) H') hc C I2 T st2 f2' hg ht hi2 hg2 ht2 he hs2 go ?_;intro l C' s' m H' hn n1 n2 n3 n4 n5 fin inv;show wpAny _ X.A (assign (.Name y py) X.env (.ref l)) _ _ _;refine wpAny_assign_Name (V9 (v:=.ref l) inv hN hi (.inl hy) rfl (fun s'' I'' ⟨a,sb,ha⟩=>?_) (.inr hy));have na:C'≠a:=by
  rcases ha with e | e
  ·rw [e]; exact n1
  ·exact (n4 _ _ e).symm
 exact ⟨m,hn.sameBut sb na,fun h' hs'=>⟨_,H',I''.turned (t':=s''.toks) (fun b o hb e=>(hs'.2 b hb).trans e) n2 n1 (.inr n3) n4 n5,fin⟩⟩
end
end L2
namespace Pu
open PySem L2 My Prf
def V5 (us:LP) (pg:PyData->PEnv->(PEnv->Prop)->Prop) (pt:PTt) (pd:PDt) (e0:PEnv) (ys0:LP) (Done:PEnv->LP->Prop):Prop :=
 ∃ Iv:Nat->PEnv->LP->Prop,Iv 0 e0 ys0/\(∀ j u e ws,us[j]?=some u->Iv j e ws->ws.length + 1 < 1000000/\pg u e fun e2=>pt e2 fun b e3=>if b=true then pd e3 fun y e4=>Iv (j + 1) e4 (ws++[y]) else Iv (j + 1) e3 ws)/\∀ e ws,Iv us.length e ws->Done e ws
def A1b (xs:LP) (pg:PyData->PEnv->(PEnv->Prop)->Prop) (pt:PTt) (pi2:PAr) (pg2:PyData->PEnv->(PEnv->Prop)->Prop) (pt2:PTt) (pd:PDt) (e0:PEnv) (Fin:LP->Prop):Prop :=
 ∃ Pv:Nat->PEnv->LP->Prop,Pv 0 e0 []/\(∀ i x e ys,xs[i]?=some x->Pv i e ys->ys.length < 1000000/\pg x e fun e2=>pt e2 fun b e3=>if b=true then pi2 e3 fun us e4=>V5 us pg2 pt2 pd e4 ys (Pv (i + 1)) else Pv (i + 1) e3 ys)/\∀ e ys,Pv xs.length e ys->ys.length < 1000000/\Fin ys
theorem B6p {K:Frag} {g:TG} {tt:TT} {te:TE} {pg:PyData->PEnv->(PEnv->Prop)->Prop} {pt:PTt} {pd:PDt} [hg:RG K g pg] [ht:RT K tt pt] [he:RD K te pd] {w:Wd} {D:Addr} {w1:Wd} {e1:PEnv} {σ1:St} {J:It} {us ys:LP} {vs:List V} {Dp:PEnv->LP->Prop} {Dn:St->Hpp->List V->Prop}
  (E1:EnvOk ⟨K,w,fun a=>a=D⟩ w1 e1 σ1) (wk:Walk ⟨K,w,fun a=>a=D⟩ w1 J us) (hD:w.H D=none) (h1:w1.H D=some (.lst vs)) (hv:vs.length < 1000000) (d1:DenAll K w1.F vs ys) (p:V5 us pg pt pd e1 ys Dp)
  (k:∀ e' w' σ' ys' vs',EnvOk ⟨K,w,fun a=>a=D⟩ w' e' σ'->w'.H D=some (.lst vs')->vs'.length < 1000000->DenAll K w'.F vs' ys'->Dp e' ys'->Dn σ' w'.H vs'):A4h J g tt te D vs Dn σ1 w1.H:=by
 obtain ⟨Iv,i0,step,fin⟩:=p;refine ⟨fun j m σ' H' us'=>m=us.length - j/\j<=us.length/\∃ e w' ws,w'.H=H'/\EnvOk ⟨K,w,fun a=>a=D⟩ w' e σ'/\Same w1.F w'.F/\w'.H D=some (.lst us')/\us'.length < 1000000/\DenAll K w'.F us' ws/\Iv j e ws,
  ⟨us.length,rfl,Nat.zero_le _,e1,w1,ys,rfl,E1,Same.refl _,h1,hv,d1,i0⟩,?_⟩
 rintro j m σ2 _ us' ⟨rfl,hle,e2,w2,ws,rfl,E2,s2,h2,hv2,d2,q2⟩;refine ⟨h2,L1 (by omega),?_⟩;obtain ⟨go,stop,yld⟩:=wk w2 E2.wok E2.le0 s2;by_cases hlt:j < us.length
 ·refine .inr ⟨go j hlt,fun v H' y=>?_⟩;obtain ⟨w2',x,rfl,ok2',le2,hx,dx⟩:=yld j v H' y hlt;replace h2:=le2.h _ _ h2 (E2.zf D rfl).2.2;replace E2:=E2.mono ok2' le2;replace d2:=DenAll.same le2.f d2;replace s2:=s2.trans le2.f;clear yld go stop y le2 ok2';generalize w2'=w2 at E2 h2 d2 dx s2;obtain ⟨hsz,stp⟩:=step j x e2 ws hx q2;refine hg.ok ⟨K,w,fun a=>a=D⟩ w2 e2 σ2 v x _ _ rfl E2 dx stp fun e3 σ3 E3 q3=>?_;refine ht.ok ⟨K,w,fun a=>a=D⟩ w2 e3 σ3 _ _ rfl E3 q3 fun b e4 w4 E4 l4 q4=>?_;have h4:=l4.h _ _ h2 (E3.zf D rfl).2.2;have hl:=d2.len;cases b with
  | true =>
   refine he.ok ⟨K,w,fun a=>a=D⟩ w4 e4 σ3 _ _ rfl E4 q4 fun y' y e5 w5 E5 l5 d5 q5=>?_;have h5:=l5.h _ _ h4 (E4.zf D rfl).2.2;exact ⟨us',h5,L1 (by omega),us.length - (j + 1),by omega,rfl,hlt,e5,⟨w5.M,upd w5.H D (.lst (us'++[y'])),w5.F⟩,ws++[y],rfl,E5.writeZ rfl hD,s2.trans (l4.f.trans l5.f),B3,by rw [Ze]; simp; omega,(DenAll.same (l4.f.trans l5.f) d2).app (.cons d5 .nil),q5⟩
  | false=>exact ⟨us.length - (j + 1),by omega,rfl,hlt,e4,w4,ws,rfl,E4,s2.trans l4.f,h4,hv2,DenAll.same l4.f d2,q4⟩
 ·have e:j=us.length:=by omega
  subst e;exact .inl ⟨stop,k e2 w2 σ2 ws us' E2 h2 hv2 d2 (fin e2 ws q2)⟩
theorem B6q {K:Frag} {g g2:TG} {tt tt2:TT} {wi2:TI} {te:TE} {pg pg2:PyData->PEnv->(PEnv->Prop)->Prop} {pt pt2:PTt} {pi2:PAr} {pd:PDt} [hg:RG K g pg] [ht:RT K tt pt] [hi2:RI K wi2 pi2] [hg2:RG K g2 pg2] [ht2:RT K tt2 pt2] [he:RD K te pd] {c:Ct} {w:Wd} {env:PEnv} {σ:St} {J:It} {xs:LP} {cap:List (Option Nat)} {D:Addr} {Fp:LP->Prop} {Fin:Hpp->Prop}
  (hK:c.K=K) (E:EnvOk c w env σ) (wk:Walk ⟨c.K,w,c.Z⟩ w J xs) (p:A1b xs pg pt pi2 pg2 pt2 pd (F0 cap env) Fp) (hD:w.H D=none) (k:∀ w' ys,Res c w env σ w' (.ref D) (.own ys)->Fp ys->Fin w'.H):A4i J g tt wi2 g2 tt2 te D Fin (capσ cap σ) w.H:=by
 subst hK;obtain ⟨Pv,p0,step,fin⟩:=p;have hw0:c.w0.H D=none:=E.le0.dom D hD;refine ⟨fun i m σ' H' vs=>m=xs.length - i/\i<=xs.length/\∃ e w' ys,w'.H=H'/\EnvOk ⟨c.K,w,fun a=>a=D⟩ w' e σ'/\w'.H D=some (.lst vs)/\vs.length < 1000000/\DenAll c.K w'.F vs ys/\Pv i e ys,
  ⟨xs.length,rfl,Nat.zero_le _,F0 cap env,w.lay D (.lst []),[],rfl,E.cap cap hD,B3,by decide,.nil,p0⟩,?_⟩
 rintro i m σ1 _ vs ⟨rfl,hle,e1,w1,ys,rfl,E1,h1,hvl,d1,q1⟩;refine ⟨h1,L1 (by omega),?_⟩;obtain ⟨go,stop,yld⟩:=wk w1 E1.wok E1.le0 E1.le0.f;by_cases hlt:i < xs.length
 ·refine .inr ⟨go i hlt,fun v H' y=>?_⟩;obtain ⟨w1',x,rfl,ok1',le1,hx,dx⟩:=yld i v H' y hlt;replace h1:=le1.h _ _ h1 (E1.zf D rfl).2.2;replace E1:=E1.mono ok1' le1;replace d1:=DenAll.same le1.f d1;clear yld go stop y le1 ok1';generalize w1'=w1 at E1 h1 d1 dx;refine hg.ok ⟨c.K,w,fun a=>a=D⟩ w1 e1 σ1 v x _ _ rfl E1 dx (step i x e1 ys hx q1).2 fun e2 σ2 E2 q2=>?_;refine ht.ok ⟨c.K,w,fun a=>a=D⟩ w1 e2 σ2 _ _ rfl E2 q2 fun b e3 w3 E3 l3 q3=>?_;have h3:=l3.h _ _ h1 (E2.zf D rfl).2.2;cases b with
  | true =>
   refine hi2.ok ⟨c.K,w,fun a=>a=D⟩ w3 e3 σ2 _ _ rfl E3 q3 fun J2 us e4 w4 E4 l4 wk4 q4=>?_;have h4:=l4.h _ _ h3 (E3.zf D rfl).2.2;exact B6p (pg:=pg2) (pt:=pt2) (pd:=pd) E4 wk4 hD h4 hvl (DenAll.same (l3.f.trans l4.f) d1) q4 fun e' w' σ' ys' vs' E' h' hv' d' q'=>⟨xs.length - (i + 1),by omega,rfl,hlt,e',w',ys',rfl,E',h',hv',d',q'⟩
  | false=>exact ⟨xs.length - (i + 1),by omega,rfl,hlt,e3,w3,ys,rfl,E3,h3,hvl,DenAll.same l3.f d1,q3⟩
 ·have e:i=xs.length:=by omega
  subst e;obtain ⟨z1,z2,z3⟩:=E1.zf D rfl;refine .inl ⟨stop,k w1 ys ⟨E.mono E1.wok E1.le0,E1.le0.toLw,⟨D,vs,rfl,h1,z1,z3,hw0,d1⟩,fun a f=>?_,rfl⟩ (fin e1 ys q1).2⟩;have:V.ref D=.ref a:=f;cases this;exact E.fresh hD
def X1 (pi:PAr) (pg:PyData->PEnv->(PEnv->Prop)->Prop) (pt:PTt) (pi2:PAr) (pg2:PyData->PEnv->(PEnv->Prop)->Prop) (pt2:PTt) (pd:PDt) (cap:List (Option Nat)) (i:Nat) (D:PEnds) (env:PEnv):Prop:=pi env fun xs e=>A1b xs pg pt pi2 pg2 pt2 pd (F0 cap e) (@hold LP ⟨fun ys=>D.nx (e.set i (some (.own ys)))⟩)
instance rs_setComp2 {K:Frag} {wi wi2:TI} {g g2:TG} {tt tt2:TT} {te:TE} {cap:List (Option Nat)} {i:Nat} {pi pi2:PAr} {pg pg2:PyData->PEnv->(PEnv->Prop)->Prop} {pt pt2:PTt} {pd:PDt} [hi:RI K wi pi] [hg:RG K g pg] [ht:RT K tt pt] [hi2:RI K wi2 pi2] [hg2:RG K g2 pg2] [ht2:RT K tt2 pt2] [he:RD K te pd]:RS K (V8 wi g tt wi2 g2 tt2 te cap i) (X1 pi pg pt pi2 pg2 pt2 pd cap i) where
 ok:=by
  rintro c w env σ Dp D rfl E h p;refine hi.ok c w env σ _ _ rfl E p fun J xs e1 w1 E1 l1 wk q l hl=>?_;exact B6q (pg:=pg) (pt:=pt) (pi2:=pi2) (pg2:=pg2) (pt2:=pt2) (pd:=pd) rfl E1 (wk.up E1.le0) q hl fun w' ys R q'=>h.nx _ _ w' (R.ev.set R.val R.new) (l1.f.trans R.lw.f) q'
theorem C2s {us ys:LP} {pg:PyData->PEnv->(PEnv->Prop)->Prop} {pt:PTt} {pd:PDt} {e0:PEnv} {Dn:PEnv->LP->Prop} (Iv:Nat->PEnv->LP->Prop) (h0:Iv 0 e0 ys)
  (hs:∀ j u e ws,us[j]?=some u->Iv j e ws->ws.length + 1 < 1000000/\pg u e fun e2=>pt e2 fun b e3=>if b=true then pd e3 fun y e4=>Iv (j + 1) e4 (ws++[y]) else Iv (j + 1) e3 ws) (hd:∀ e ws,Iv us.length e ws->Dn e ws):V5 us pg pt pd e0 ys Dn:=⟨Iv,h0,hs,hd⟩
theorem C2r {xs:LP} {pg:PyData->PEnv->(PEnv->Prop)->Prop} {pt:PTt} {pi2:PAr} {pg2:PyData->PEnv->(PEnv->Prop)->Prop} {pt2:PTt} {pd:PDt} {e0:PEnv} {Fin:LP->Prop} (Pv:Nat->PEnv->LP->Prop) (h0:Pv 0 e0 [])
  (hs:∀ i x e ys,xs[i]?=some x->Pv i e ys->ys.length < 1000000/\pg x e fun e2=>pt e2 fun b e3=>if b=true then pi2 e3 fun us e4=>V5 us pg2 pt2 pd e4 ys (Pv (i + 1)) else Pv (i + 1) e3 ys) (hd:∀ e ys,Pv xs.length e ys->ys.length < 1000000/\Fin ys):A1b xs pg pt pi2 pg2 pt2 pd e0 Fin:=⟨Pv,h0,hs,hd⟩
section
variable {X:Cx} {scope:Scope} {cl:List (Str × Addr)} {N':List Str} {cap:List (Option Nat)} {elt t1 i1 t2 i2:Expr} {f1 f2:List Expr} {wi wi2:TI} {g g2:TG} {tt tt2:TT} {te:TE} {pos spos py:Pos} {y:Str} {i:Nat}
theorem A2a (hc:X.calm=true) (hN:X.N.Nodup) (hi:X.N[i]?=some y) (hy:X.env.scope.names.lookup y=some .local) (C:CompSc X scope cl N' cap) (hit:QI X t1 i1 wi) (hg:∀ s3 H3 fp,QG (X.block scope cl N' s3 H3 fp) t1 g)
  (ht:∀ s3 H3 fp,QTs (X.block scope cl N' s3 H3 fp) f1 tt) (hi2:∀ s3 H3 fp,QI (X.block scope cl N' s3 H3 fp) t2 i2 wi2) (hg2:∀ s3 H3 fp,QG (X.block scope cl N' s3 H3 fp) t2 g2) (ht2:∀ s3 H3 fp,QTs (X.block scope cl N' s3 H3 fp) f2 tt2)
  (he:∀ s3 H3 fp,QE (X.block scope cl N' s3 H3 fp) elt te)
  (hsw:swapsWith (.ListComp elt [⟨t1,i1,f1,0⟩,⟨t2,i2,f2,0⟩] scope pos) (some (.Name y py)) spos.line X.env=pure true) (hs:∀ x,foldedSetIterable i1 X.env x=pure x:=by intro _; rfl) (hs2:∀ env x,foldedSetIterable i2 env x=pure x:=by intro _ _; rfl) :
  QS X (.Assign [.Name y py] (.ListComp elt [⟨t1,i1,f1,0⟩,⟨t2,i2,f2,0⟩] scope pos) spos) (V8 wi g tt wi2 g2 tt2 te cap i) :=
 ⟨A31 hc hN hi hy C hit.out (fun a b c=>(hg a b c).out) (fun a b c=>(ht a b c).out) (fun a b c=>(hi2 a b c).out) (fun a b c=>(hg2 a b c).out) (fun a b c=>(ht2 a b c).out) (fun a b c=>(he a b c).out) hsw hs hs2⟩
end
end Pu
namespace L2
open PySem PySem.Spec PyProof.Rows
def chV (x:Str):List V:=x.cps.toList.map fun c=>V.str ⟨#[c]⟩
def chD (x:Str):LP:=x.cps.toList.map fun c=>PyData.str ⟨#[c]⟩
theorem C6t {K:PySem.W.Frag} {F:Hp} (x:Str):DenAll K F (chV x) (chD x):=by
 unfold chV chD;generalize x.cps.toList=l;induction l with
 | nil=>exact .nil
 | cons c r ih=>exact .cons (.str _) ih
def A9b:List V->Hp->VK->Prop:=fun xs H Q=>∃ x:Str,xs=[.str x]/\x.length<=1000/\∀ p,H p=none->Q (.ref p) (upd H p (.lst (chV x)))
section
variable {X:Cx}
theorem A4j (hc:X.calm=true):CallR X (.type "list") A9b:=by
 intro pins s σ H xs us Q I r h;obtain ⟨x,rfl,hn,q⟩:=h;obtain ⟨u,rfl,rx⟩:=A1x r;obtain ⟨t,rfl⟩:=rx;have hs:x.cps.size<=sizeLine:=Zx (show x.cps.size<=1000 from hn) N4;refine call_list_str (I.ok.hd hc) x t (hn:=hs) fun h' tk acc' c' kp e' it=>?_;have vl:Vals (chV x) acc'.toList:=by
  refine A00 (by simp [chV,it.1]) fun i y u hy hu=>?_;unfold chV at hy;rw [Zh] at hy;obtain ⟨c,t',hc',hv⟩:=it.2 i u (by rw [<- Array.getElem?_toList]; exact hu);have:x.cps.toList[i]?=some c:=by rw [Array.getElem?_toList]; exact hc'
  rw [this] at hy;cases hy;exact ⟨_,hv⟩
 refine ⟨.ref s.heap.objs.size,_,I.laid (t':=tk) kp (Zv _) (show ObjOk X.prog X.w _ h' _ (.lst (chV x)) from ⟨?_,acc'.toList,c',vl,e'⟩),rfl,q _ (I.hok.fresh (Zv _))⟩;simp only [chV,List.length_map,Array.length_toList];exact hs
theorem C0s {body:List Stmt} {h0:ExceptHandler} {hs:List ExceptHandler} {pos:Pos} {tb:TS} (hx:X.xe=fun _ _=>False) (hb:PSs X body tb):PS X (.Try body (h0 :: hs) [] [] pos) tb:=by
 intro pins s σ H D I h;refine wpAny_Try_except (wpAny_mono (hb pins s σ H D I h) (fun f s1 q=>?_) fun e s1 z=>by rw [hx] at z; exact z.elim);cases f with
 | next=>exact wpAny_execs_nil q
 | _=>exact q
end
end L2
namespace Pu
open PySem L2 My Prf
def A35 (pa:PDt) (env:PEnv) (Q:SV->PEnv->Prop):Prop:=pa env fun d e=>∃ x:Str,d=.str x/\x.length<=1000/\Q (.own (chD x)) e
instance re_lstStr {K:Frag} {te:TE} {pa:PDt} [ha:RW K te pa]:RE K (tCB A9b (F9 te tNil)) (A35 pa) where
 ok:=by
  rintro c w env σ Qp Q rfl E p k;refine ha.ok c w env σ _ _ rfl E p fun v x e1 w1 E1 l1 v1 q1=>?_;obtain ⟨z,rfl,hz,q⟩:=q1;have ev:v=.str z:=(v1.den E1.wok).strE;subst ev;exact ⟨z,rfl,hz,fun p hp=>k _ _ e1 _ ((Res.lst E1 hp (C6t z)).pre l1) q⟩
theorem B5d {X:Cx} {body:List Stmt} {h0:ExceptHandler} {hs:List ExceptHandler} {pos:Pos} {tb:TS} (hx:X.xe=fun _ _=>False) (hb:QSs X body tb):QS X (.Try body (h0 :: hs) [] [] pos) tb:=⟨C0s hx hb.out⟩
end Pu
namespace Pu
open PySem L2 My Prf
def OT.ls:OT->Option (List OT)
 | .nil=>some []
 | .cons h t=>t.ls.map (h :: ·)
 | _=>none
theorem A1h:∀ ts:List OT,(kids ts).ls=some ts
 | []=>rfl
 | t :: r=>by show (kids r).ls.map _=_; rw [A1h r]; rfl
theorem A1j:∀ {k:OT} {ts:List OT},k.ls=some ts->k=kids ts
 | .nil,_,h=>by cases h; rfl
 | .cons a t,ts,h=>by
  have h':t.ls.map (a :: ·)=some ts:=h;cases q:t.ls with
  | none=>rw [q] at h'; cases h'
  | some us=>rw [q] at h'; cases h'; rw [A1j q]; rfl
def OT.tl:OT->Option (List OT)
 | .nd false _ k=>k.ls
 | .leaf (.tuple xs)=>some (xs.map .leaf)
 | _=>none
theorem Tre.each {K:Frag} {w:Wd}:∀ {ts:List OT} {vs:List V},Tre K w (kids ts) vs->vs.length=ts.length/\∀ (i:Nat) v,vs[i]?=some v->∃ t,ts[i]?=some t/\Tre K w t [v]
 | [],_,e=>by cases (show _=[] from e); exact ⟨rfl,fun i v z=>by simp at z⟩
 | t :: r,_,⟨x,rr,rfl,hx,hr⟩=>by
  obtain ⟨h1,h2⟩:=Tre.each (ts:=r) hr;refine ⟨by simp [h1],fun i v z=>?_⟩;cases i with
  | zero=>cases (show some x=some v from z); exact ⟨t,rfl,hx⟩
  | succ i=>exact h2 i v z
theorem B4o {c:Ct} {w:Wd} {k:OT} {vs:List V} {ts:List OT} (h:Tre c.K ⟨c.w0.M,c.w0.H,w.F⟩ k vs) (o:∀ a ∈ k.fp,¬ c.w0.M a) (e:k.ls=some ts):vs.length=ts.length/\∀ (i:Nat) v,vs[i]?=some v->∃ t,ts[i]?=some t/\VR c w v (.bt t):=by
 obtain ⟨h1,h2⟩:=Tre.each (by rw [<- A1j e]; exact h);refine ⟨h1,fun i v q=>?_⟩;obtain ⟨t,e1,e2⟩:=h2 i v q;refine ⟨t,e1,e2,fun a ha=>o a ?_⟩;rw [A1j e];exact kids_fp.mpr ⟨t,Zm e1,ha⟩
theorem T7 {c:Ct} {w:Wd} {vs:List V} {xs:LP} (h:DenAll c.K w.F vs xs):vs.length=(xs.map OT.leaf).length/\∀ (i:Nat) v,vs[i]?=some v->∃ t,(xs.map OT.leaf)[i]?=some t/\VR c w v (.bt t):=by
 refine ⟨by rw [Zl]; exact h.len,fun i v q=>?_⟩;obtain ⟨x,e1,e2⟩:=h.get q;exact ⟨.leaf x,by rw [Zh,e1]; rfl,⟨v,rfl,e2⟩,fun a z=>nomatch z⟩
class RGO (K:Frag) (g:TG) (pg:outParam (OT->PEnv->(PEnv->Prop)->Prop)):Prop where
 ok:∀ (c:Ct) (w:Wd) (env:PEnv) (σ:St) (v:V) (x:OT) (Qp:PEnv->Prop) (Q:St->Hpp->Prop),c.K=K->EnvOk c w env σ->VR c w v (.bt x)->pg x env Qp->(∀ env' σ',EnvOk c w env' σ'->Qp env'->Q σ' w.H)->g v σ w.H Q
class RGOs (K:Frag) (g:TGs) (pg:outParam (List OT->PEnv->(PEnv->Prop)->Prop)):Prop where
 ok:∀ (c:Ct) (w:Wd) (env:PEnv) (σ:St) (vs:List V) (xs:List OT) (Qp:PEnv->Prop) (Q:St->Hpp->Prop),c.K=K->EnvOk c w env σ->(vs.length=xs.length/\∀ (i:Nat) v,vs[i]?=some v->∃ t,xs[i]?=some t/\VR c w v (.bt t))->pg xs env Qp->(∀ env' σ',EnvOk c w env' σ'->Qp env'->Q σ' w.H)->g vs σ w.H Q
def C2c (i:Nat) (x:OT) (env:PEnv) (Q:PEnv->Prop):Prop:=Q (env.set i (some x.sv))
instance rgo_name {K:Frag} {i:Nat}:RGO K (P2 i) (C2c i) where
 ok:=by
  rintro c w env σ v x Qp Q rfl E d p k;exact k _ _ (E.set d.sv A80) p
def oNil (xs:List OT) (env:PEnv) (Q:PEnv->Prop):Prop:=match xs with
 | []=>Q env
 | _=>False
def C2d (pg:OT->PEnv->(PEnv->Prop)->Prop) (pr:List OT->PEnv->(PEnv->Prop)->Prop) (xs:List OT) (env:PEnv) (Q:PEnv->Prop):Prop:=match xs with
 | x :: r=>pg x env fun e=>pr r e Q
 | []=>False
theorem B84 {env:PEnv} {Q:PEnv->Prop}:oNil [] env Q=Q env:=rfl
theorem B2g {pg:OT->PEnv->(PEnv->Prop)->Prop} {pr:List OT->PEnv->(PEnv->Prop)->Prop} {x:OT} {r:List OT} {env:PEnv} {Q:PEnv->Prop}:C2d pg pr (x :: r) env Q=pg x env fun e=>pr r e Q:=rfl
instance rgos_nil {K:Frag}:RGOs K gNil oNil where
 ok:=by
  rintro c w env σ vs xs Qp Q rfl E d p k;unfold oNil at p;split at p
  ·obtain ⟨d1,_⟩:=d;cases vs with
   | nil=>exact ⟨rfl,k env σ E p⟩
   | cons _ _=>cases d1
  ·exact p.elim
instance rgos_cons {K:Frag} {g:TG} {gs:TGs} {pg:OT->PEnv->(PEnv->Prop)->Prop} {pr:List OT->PEnv->(PEnv->Prop)->Prop} [hg:RGO K g pg] [hr:RGOs K gs pr]:RGOs K (A0f g gs) (C2d pg pr) where
 ok:=by
  rintro c w env σ vs xs Qp Q rfl E d p k;unfold C2d at p;split at p
  ·obtain ⟨d1,d2⟩:=d;cases vs with
   | nil=>cases d1
   | cons v vr =>
    rename_i x r;obtain ⟨t,et,ht⟩:=d2 0 v rfl;have ex:x=t:=Zj et;subst ex;refine ⟨v,vr,rfl,hg.ok c w env σ v x _ _ rfl E ht p fun e1 σ1 E1 q1=>?_⟩;exact hr.ok c w e1 σ1 vr r _ _ rfl E1 ⟨Nat.succ.inj d1,fun i v q=>d2 (i + 1) v q⟩ q1 k
  ·exact p.elim
def oTup (n:Nat) (pr:List OT->PEnv->(PEnv->Prop)->Prop) (x:OT) (env:PEnv) (Q:PEnv->Prop):Prop:=∃ ts,x.tl=some ts/\ts.length=n/\pr ts env Q
theorem C6u {c:Ct} {w:Wd} {v:V} {x:OT} {ts:List OT} (ok:w.Ok) (l:Le c.w0 w) (h:VR c w v (.bt x)) (e:x.tl=some ts):∃ p vs,v=.ref p/\SqT c.K w.H p vs/\vs.length=ts.length/\∀ (i:Nat) u,vs[i]?=some u->∃ t,ts[i]?=some t/\VR c w u (.bt t):=by
 unfold OT.tl at e;split at e
 ·rename_i a k;obtain ⟨⟨ev,us,h1,h2⟩,h3⟩:=h;cases ev;obtain ⟨g1,g2⟩:=B4o h2 (fun b hb=>h3 b (by simp [OT.fp,hb])) e;exact ⟨a,us,rfl,SqT.of (l.h _ _ h1 (h3 a (by simp [OT.fp]))),g1,g2⟩
 ·rename_i xs;cases e;obtain ⟨⟨v',ev,h⟩,_⟩:=h;cases ev;obtain ⟨p,vs,rfl,h1,h2⟩:=Den.tupE h;obtain ⟨g1,g2⟩:=T7 (c:=c) h2;exact ⟨p,vs,rfl,SqT.same ok.sub h1,g1,g2⟩
 ·cases e
instance rgo_tup {K:Frag} {n:Nat} {gs:TGs} {pr:List OT->PEnv->(PEnv->Prop)->Prop} [hr:RGOs K gs pr]:RGO K (gTup K n gs) (oTup n pr) where
 ok:=by
  rintro c w env σ v x Qp Q rfl E d p k;obtain ⟨ts,e,hn,p⟩:=p;obtain ⟨q,vs,rfl,hs,h1,h2⟩:=C6u E.wok E.le0 d e;exact ⟨q,vs,rfl,hs,h1.trans hn,hr.ok c w env σ vs ts _ _ rfl E ⟨h1,h2⟩ p k⟩
def WalkO (c:Ct) (w1:Wd) (J:It) (xs:List OT):Prop :=
 ∀ w',w'.Ok->Le c.w0 w'->Same w1.F w'.F->(∀ i,i < xs.length->J.go i w'.H)/\J.stop xs.length w'.H/\∀ i v H',J.yld i w'.H v H'->i < xs.length->∃ w2 x,w2.H=H'/\w2.Ok/\Le w' w2/\xs[i]?=some x/\VR c w2 v (.bt x)
theorem Q1 {c:Ct} {w1:Wd} {a:Addr} {b:Bool} {vs:List V} {ts:List OT} (d:vs.length=ts.length/\∀ (i:Nat) v,vs[i]?=some v->∃ t,ts[i]?=some t/\VR c w1 v (.bt t)) (h:∀ w',w'.Ok->Le c.w0 w'->Same w1.F w'.F->if b=true then SqL c.K w'.H a vs else SqT c.K w'.H a vs):WalkO c w1 (if b=true then Itl c.K a else Itt c.K a) ts:=by
 intro w' ok l s;obtain ⟨hl,d⟩:=d;have q:=h w' ok l s;cases b with
 | true =>
  rw [if_pos rfl] at q;refine ⟨fun i hi=>⟨vs,vs[i]'(by omega),q,Zg _⟩,⟨vs,q,by omega⟩,fun i v H' y hi=>?_⟩;obtain ⟨e,y⟩:=y;obtain ⟨x,g1,g2⟩:=d i v (y vs q);exact ⟨w',x,e.symm,ok,Le.refl w',g1,Y8 s g2⟩
 | false =>
  rw [if_neg (by decide)] at q;refine ⟨fun i hi=>⟨vs,vs[i]'(by omega),q,Zg _⟩,⟨vs,q,by omega⟩,fun i v H' y hi=>?_⟩;obtain ⟨e,y⟩:=y;obtain ⟨x,g1,g2⟩:=d i v (y vs q);exact ⟨w',x,e.symm,ok,Le.refl w',g1,Y8 s g2⟩
def A1a (xs:List OT) (pg:OT->PEnv->(PEnv->Prop)->Prop) (pt:PTt) (pd:PDt) (e0:PEnv) (Fin:LP->Prop):Prop :=
 ∃ Pv:Nat->PEnv->LP->Prop,Pv 0 e0 []/\(∀ i x e ys,xs[i]?=some x->Pv i e ys->pg x e fun e2=>pt e2 fun b e3=>if b=true then pd e3 fun y e4=>Pv (i + 1) e4 (ys++[y]) else Pv (i + 1) e3 ys)/\∀ e ys,Pv xs.length e ys->Fin ys
def X2 (xs:List OT) (pg:OT->PEnv->(PEnv->Prop)->Prop) (pt:PTt) (pe:PX) (e0:PEnv) (Fin:List OT->Prop):Prop :=
 ∃ Pv:Nat->PEnv->List OT->Prop,Pv 0 e0 []/\(∀ i x e ys,xs[i]?=some x->Pv i e ys->pg x e fun e2=>pt e2 fun b e3=>if b=true then pe e3 fun s e4=>s.ot fun t=>Pv (i + 1) e4 (ys++[t]) else Pv (i + 1) e3 ys)/\∀ e ys,Pv xs.length e ys->Fin ys
theorem B6o {K:Frag} {g:TG} {tt:TT} {te:TE} {pg:OT->PEnv->(PEnv->Prop)->Prop} {pt:PTt} {pd:PDt} [hg:RGO K g pg] [ht:RT K tt pt] [he:RD K te pd] {c:Ct} {w:Wd} {env:PEnv} {σ:St} {J:It} {xs:List OT} {cap:List (Option Nat)} {D:Addr} {Fp:LP->Prop} {Fin:Hpp->Prop}
  (hK:c.K=K) (E:EnvOk c w env σ) (wk:WalkO ⟨c.K,w,c.Z⟩ w J xs) (hn:xs.length < 1000000) (p:A1a xs pg pt pd (F0 cap env) Fp) (hD:w.H D=none) (k:∀ w' ys,Res c w env σ w' (.ref D) (.own ys)->Fp ys->Fin w'.H):Y5 J g tt te D Fin (capσ cap σ) w.H:=by
 subst hK;obtain ⟨Pv,p0,step,fin⟩:=p;have hw0:c.w0.H D=none:=E.le0.dom D hD;refine ⟨fun i m σ' H' vs=>m=xs.length - i/\i<=xs.length/\∃ e w' ys,w'.H=H'/\EnvOk ⟨c.K,w,fun a=>a=D⟩ w' e σ'/\w'.H D=some (.lst vs)/\vs.length<=i/\DenAll c.K w'.F vs ys/\Pv i e ys,
  ⟨xs.length,rfl,Nat.zero_le _,F0 cap env,w.lay D (.lst []),[],rfl,E.cap cap hD,B3,Zv _,.nil,p0⟩,?_⟩
 rintro i m σ1 _ vs ⟨rfl,hle,e1,w1,ys,rfl,E1,h1,hvl,d1,q1⟩;refine ⟨h1,L1 (by omega),?_⟩;obtain ⟨go,stop,yld⟩:=wk w1 E1.wok E1.le0 E1.le0.f;by_cases hlt:i < xs.length
 ·refine .inr ⟨go i hlt,fun v H' y=>?_⟩;obtain ⟨w1',x,rfl,ok1',le1,hx,dx⟩:=yld i v H' y hlt;replace h1:=le1.h _ _ h1 (E1.zf D rfl).2.2;replace E1:=E1.mono ok1' le1;replace d1:=DenAll.same le1.f d1;clear yld go stop y le1 ok1';generalize w1'=w1 at E1 h1 d1 dx;refine hg.ok ⟨c.K,w,fun a=>a=D⟩ w1 e1 σ1 v x _ _ rfl E1 dx (step i x e1 ys hx q1) fun e2 σ2 E2 q2=>?_;refine ht.ok ⟨c.K,w,fun a=>a=D⟩ w1 e2 σ2 _ _ rfl E2 q2 fun b e3 w3 E3 l3 q3=>?_;have nm:=(E2.zf D rfl).2.2;have h3:=l3.h _ _ h1 nm;cases b with
  | true =>
   refine he.ok ⟨c.K,w,fun a=>a=D⟩ w3 e3 σ2 _ _ rfl E3 q3 fun y' y e4 w4 E4 l4 d4 q4=>?_;have h4:=l4.h _ _ h3 (E3.zf D rfl).2.2;refine ⟨vs,h4,L1 (by omega),xs.length - (i + 1),by omega,rfl,hlt,e4,⟨w4.M,upd w4.H D (.lst (vs++[y'])),w4.F⟩,ys++[y],rfl,E4.writeZ rfl hD,B3,by rw [Ze]; simp; exact hvl,(DenAll.same (l3.f.trans l4.f) d1).app (.cons d4 .nil),q4⟩
  | false =>
   exact ⟨xs.length - (i + 1),by omega,rfl,hlt,e3,w3,ys,rfl,E3,h3,by omega,DenAll.same l3.f d1,q3⟩
 ·have e:i=xs.length:=by omega
  subst e;obtain ⟨z1,z2,z3⟩:=E1.zf D rfl;refine .inl ⟨stop,k w1 ys ⟨E.mono E1.wok E1.le0,E1.le0.toLw,⟨D,vs,rfl,h1,z1,z3,hw0,d1⟩,fun a f=>?_,rfl⟩ (fin e1 ys q1)⟩;have:V.ref D=.ref a:=f;cases this;exact E.fresh hD
theorem A25 {K:Frag} {g:TG} {tt:TT} {te:TE} {pg:OT->PEnv->(PEnv->Prop)->Prop} {pt:PTt} {pe:PX} [hg:RGO K g pg] [ht:RT K tt pt] [he:RE K te pe] {c:Ct} {w:Wd} {env:PEnv} {σ:St} {J:It} {xs:List OT} {cap:List (Option Nat)} {D:Addr} {Fp:List OT->Prop} {Fin:Hpp->Prop}
  (hK:c.K=K) (E:EnvOk c w env σ) (wk:WalkO ⟨c.K,w,c.Z⟩ w J xs) (hn:xs.length < 1000000) (p:X2 xs pg pt pe (F0 cap env) Fp) (hD:w.H D=none) (k:∀ w' ts,Res c w env σ w' (.ref D) (.tr (.nd true D (kids ts)))->Fp ts->Fin w'.H):Y5 J g tt te D Fin (capσ cap σ) w.H:=by
 subst hK;obtain ⟨Pv,p0,step,fin⟩:=p;refine ⟨fun i m σ' H' vs=>m=xs.length - i/\i<=xs.length/\∃ e w' ts,w'.H=H'/\EnvOk ⟨c.K,w,fun a=>a=D\/a ∈ (kids ts).fp⟩ w' e σ'/\w'.H D=some (.lst vs)/\vs.length<=i/\Tre c.K w' (kids ts) vs/\(∀ a ∈ (kids ts).fp,w.H a=none/\a≠D)/\(kids ts).fp.Nodup/\Pv i e ts,
  ⟨xs.length,rfl,Nat.zero_le _,F0 cap env,w.lay D (.lst []),[],rfl,?_,B3,Zv _,rfl,(fun a z=>nomatch z),List.nodup_nil,p0⟩,?_⟩
 ·have E0:=E.cap cap hD;exact ⟨E0.wok,E0.le0,E0.len,fun i s q=>let ⟨v,h1,h2⟩:=E0.at' i s q; ⟨v,h1,h2.reZ⟩,E0.own,fun a z=>z.elim (E0.zf a) fun z=>(nomatch z),fun a j t u z=>z.elim (E0.zo a j t u) fun z=>(nomatch z)⟩
 rintro i m σ1 _ vs ⟨rfl,hle,e1,w1,ts,rfl,E1,h1,hvl,d1,fr,nd,q1⟩;refine ⟨h1,L1 (by omega),?_⟩;obtain ⟨go,stop,yld⟩:=wk w1 E1.wok E1.le0 E1.le0.f;by_cases hlt:i < xs.length
 ·refine .inr ⟨go i hlt,fun v H' y=>?_⟩;obtain ⟨w1',x,rfl,ok1',le1,hx,dx⟩:=yld i v H' y hlt;have nm1:∀ a ∈ (kids ts).fp,¬ w1.M a:=fun a ha=>(E1.zf a (.inr ha)).2.2;replace h1:=le1.h _ _ h1 (E1.zf D (.inl rfl)).2.2;replace E1:=E1.mono ok1' le1;replace d1:=d1.mono le1.toLw nm1;clear yld go stop y le1 ok1' nm1;generalize w1'=w1 at E1 h1 d1 dx;have cc:Ct:=⟨c.K,w,fun a=>a=D\/a ∈ (kids ts).fp⟩;refine hg.ok ⟨c.K,w,fun a=>a=D\/a ∈ (kids ts).fp⟩ w1 e1 σ1 v x _ _ rfl E1 dx (step i x e1 ts hx q1) fun e2 σ2 E2 q2=>?_;refine ht.ok ⟨c.K,w,fun a=>a=D\/a ∈ (kids ts).fp⟩ w1 e2 σ2 _ _ rfl E2 q2 fun b e3 w3 E3 l3 q3=>?_;have nmD:∀ a,a=D\/a ∈ (kids ts).fp->¬ w1.M a:=fun a z=>(E2.zf a z).2.2;have h3:=l3.h _ _ h1 (nmD D (.inl rfl));have d3:=d1.mono l3 fun a ha=>nmD a (.inr ha);cases b with
  | true =>
   refine he.ok ⟨c.K,w,fun a=>a=D\/a ∈ (kids ts).fp⟩ w3 e3 σ2 _ _ rfl E3 q3 fun y' s e4 w4 R q4=>?_;have nm3:∀ a,a=D\/a ∈ (kids ts).fp->¬ w3.M a:=fun a z=>(E3.zf a z).2.2;have h4:=R.lw.h _ _ h3 (nm3 D (.inl rfl));have d4:=d3.mono R.lw fun a ha=>nm3 a (.inr ha);obtain ⟨t,tt',ho,hn',q5⟩:=R.ot q4;have E4:=R.ev;have nD:D ∉ (kids ts).fp:=fun z=>(fr D z).2 rfl;have ntD:D ∉ t.fp:=fun z=>(hn' D z).2 (.inl rfl);refine ⟨vs,h4,L1 (by omega),xs.length - (i + 1),by omega,rfl,hlt,e4,⟨w4.M,upd w4.H D (.lst (vs++[y'])),w4.F⟩,ts++[t],rfl,?_,B3,by rw [Ze]; simp; exact hvl,?_,fun a ha=>?_,?_,q5⟩
   ·have E5:=E4.writeZ (us:=vs++[y']) (.inl rfl) hD;refine ⟨E5.wok,E5.le0,E5.len,fun i s q=>let ⟨v,h1,h2⟩:=E5.at' i s q; ⟨v,h1,h2.reZ⟩,E5.own,fun a z=>?_,fun a j s u z q q'=>?_⟩
    ·rcases z with z | z
     ·exact E5.zf a (.inl z)
     ·rw [E7,List.mem_append] at z;rcases z with z | z
      ·exact E5.zf a (.inr z)
      ·obtain ⟨o1,o2,o3,_⟩:=ho.1 a z;exact ⟨o2,fun y=>o1 (K5 y),o3⟩
    ·rcases z with z | z
     ·exact E5.zo a j s u (.inl z) q q'
     ·rw [E7,List.mem_append] at z;rcases z with z | z
      ·exact E5.zo a j s u (.inr z) q q'
      ·exact (hn' a z).1 j s u q q'
   ·exact Tre.snoc (tt'.writ ntD) (d4.writ nD)
   ·rw [E7,List.mem_append] at ha;rcases ha with z | z
    ·exact fr a z
    ·exact ⟨(ho.1 a z).2.2.2,fun y=>ntD (y ▸ z)⟩
   ·rw [E7];exact List.nodup_append.mpr ⟨nd,ho.2,fun a ha b hb e=>(hn' b hb).2 (.inr (e ▸ ha))⟩
  | false =>
   exact ⟨xs.length - (i + 1),by omega,rfl,hlt,e3,w3,ts,rfl,E3,h3,by omega,d3,fr,nd,q3⟩
 ·have e:i=xs.length:=by omega
  subst e;obtain ⟨z1,z2,z3⟩:=E1.zf D (.inl rfl);have one:∀ a,a ∈ (OT.nd true D (kids ts)).fp->(a=D\/a ∈ (kids ts).fp)/\w.H a=none:=fun a ha=>by
   rcases List.mem_cons.mp (show a ∈ D :: (kids ts).fp from ha) with rfl | z
   ·exact ⟨.inl rfl,hD⟩
   ·exact ⟨.inr z,(fr a z).1⟩
  refine .inl ⟨stop,k w1 ts ⟨E.mono E1.wok E1.le0,E1.le0.toLw,⟨⟨rfl,vs,h1,d1⟩,fun a ha=>?_,List.nodup_cons.mpr ⟨fun z=>(fr D z).2 rfl,nd⟩⟩,fun a f=>E.fresh (one a f).2,rfl⟩ (fin e1 ts q1)⟩;obtain ⟨g1,g2⟩:=one a ha;obtain ⟨y1,y2,y3⟩:=E1.zf a g1;exact ⟨y2,y1,y3,E.le0.dom a g2⟩
def OT.el:OT->Option (List OT)
 | .nd _ _ k=>k.ls
 | .leaf (.list xs)=>some (xs.map .leaf)
 | .leaf (.tuple xs)=>some (xs.map .leaf)
 | _=>none
def tBt (te:TE):TE:=te
def B0n (pb:PEnv->(OT->PEnv->Prop)->Prop) (env:PEnv) (Q:List OT->PEnv->Prop):Prop:=pb env fun t e=>∃ ts,t.el=some ts/\Q ts e
class RIO (K:Frag) (wi:TI) (pi:outParam (PEnv->(List OT->PEnv->Prop)->Prop)):Prop where
 ok:∀ (c:Ct) (w:Wd) (env:PEnv) (σ:St) (Qp:List OT->PEnv->Prop) (R:It->Hpp->Prop),c.K=K->EnvOk c w env σ->pi env Qp->(∀ J xs env' w',EnvOk c w' env' σ->Lw w w'->WalkO ⟨c.K,w',c.Z⟩ w' J xs->Qp xs env'->R J w'.H)->wi σ w.H R
instance rio_seq {K:Frag} {te:TE} {pb:PEnv->(OT->PEnv->Prop)->Prop} [hb:RTr K te pb]:RIO K (iSq K (tBt te)) (B0n pb) where
 ok:=by
  rintro c w env σ Qp R rfl E p k;refine hb.ok c w env σ _ _ rfl E p fun v t e1 w1 E1 l1 v1 ⟨ts,el,q⟩=>?_;have v2:VR ⟨c.K,w1,c.Z⟩ w1 v (.bt t):=v1;unfold OT.el at el;split at el
  ·rename_i b a kk zz;obtain ⟨⟨ev,us,h1,h2⟩,h3⟩:=v2;cases ev;have d:=B4o (c:=⟨c.K,w1,c.Z⟩) h2 (fun x hx=>h3 x (by simp [OT.fp,hx])) el;have nm:=h3 a (by simp [OT.fp]);cases b with
   | true=>exact .inl ⟨a,rfl,⟨us,SqL.of h1⟩,k _ _ e1 w1 E1 l1 (Q1 (b:=true) d fun w' ok l s=>by rw [if_pos rfl]; exact SqL.of (l.h _ _ h1 nm)) q⟩
   | false=>exact .inr ⟨a,rfl,⟨us,SqT.of h1⟩,k _ _ e1 w1 E1 l1 (Q1 (b:=false) d fun w' ok l s=>by rw [if_neg (by decide)]; exact SqT.of (l.h _ _ h1 nm)) q⟩
  ·cases el;obtain ⟨⟨v',ev,h⟩,_⟩:=v2;cases ev;obtain ⟨a,vs,e,g1,g2⟩:=Den.lstE h;exact .inl ⟨a,e,⟨vs,E1.wok.sub.seq g1⟩,k _ _ e1 w1 E1 l1 (Q1 (b:=true) (T7 (c:=⟨c.K,w1,c.Z⟩) g2) fun w' ok l s=>by rw [if_pos rfl]; exact (s.trans ok.sub).seq g1) q⟩
  ·cases el;obtain ⟨⟨v',ev,h⟩,_⟩:=v2;cases ev;obtain ⟨a,vs,e,g1,g2⟩:=Den.tupE h;exact .inr ⟨a,e,⟨vs,SqT.same E1.wok.sub g1⟩,k _ _ e1 w1 E1 l1 (Q1 (b:=false) (T7 (c:=⟨c.K,w1,c.Z⟩) g2) fun w' ok l s=>by rw [if_neg (by decide)]; exact SqT.same (s.trans ok.sub) g1) q⟩
  ·cases el
def B0y (pi:PEnv->(List OT->PEnv->Prop)->Prop) (pg:OT->PEnv->(PEnv->Prop)->Prop) (pt:PTt) (pd:PDt) (cap:List (Option Nat)) (env:PEnv) (Q:SV->PEnv->Prop):Prop:=pi env fun xs e=>xs.length < 1000000/\A1a xs pg pt pd (F0 cap e) (@hold LP ⟨fun ys=>Q (.own ys) e⟩)
instance (priority:=high) re_compO {K:Frag} {te':TE} {g:TG} {tt:TT} {te:TE} {cap:List (Option Nat)} {pi:PEnv->(List OT->PEnv->Prop)->Prop} {pg:OT->PEnv->(PEnv->Prop)->Prop} {pt:PTt} {pd:PDt} [hi:RIO K (iSq K (tBt te')) pi] [hg:RGO K g pg] [ht:RT K tt pt] [he:RD K te pd]:RE K (A7b (iSq K (tBt te')) g tt te cap) (B0y pi pg pt pd cap) where
 ok:=by
  rintro c w env σ Qp Q rfl E p k;refine hi.ok c w env σ _ _ rfl E p fun J xs e1 w1 E1 l1 wk ⟨hn,q⟩ D hD=>?_;exact B6o (pg:=pg) (pt:=pt) (pd:=pd) rfl E1 wk hn q hD fun w' ys R q'=>k _ _ e1 w' (R.pre l1) q'
def A2j (pi:PEnv->(List OT->PEnv->Prop)->Prop) (pg:OT->PEnv->(PEnv->Prop)->Prop) (pt:PTt) (pd:PDt) (cap:List (Option Nat)) (i:Nat) (D:PEnds) (env:PEnv):Prop:=pi env fun xs e=>xs.length < 1000000/\A1a xs pg pt pd (F0 cap e) (@hold LP ⟨fun ys=>D.nx (e.set i (some (.own ys)))⟩)
def C1y (pi:PEnv->(List OT->PEnv->Prop)->Prop) (pg:OT->PEnv->(PEnv->Prop)->Prop) (pt:PTt) (pe:PX) (cap:List (Option Nat)) (env:PEnv) (Q:SV->PEnv->Prop):Prop:=pi env fun xs e=>xs.length < 1000000/\X2 xs pg pt pe (F0 cap e) (@hold (List OT) ⟨fun ts=>∀ a,Q (.tr (.nd true a (kids ts))) e⟩)
instance (priority:=high) re_cmTO {K:Frag} {te':TE} {g:TG} {tt:TT} {te:TE} {cap:List (Option Nat)} {pi:PEnv->(List OT->PEnv->Prop)->Prop} {pg:OT->PEnv->(PEnv->Prop)->Prop} {pt:PTt} {pe:PX} [hi:RIO K (iSq K (tBt te')) pi] [hg:RGO K g pg] [ht:RT K tt pt] [he:RE K te pe]:RE K (tCmT (A7b (iSq K (tBt te')) g tt te cap)) (C1y pi pg pt pe cap) where
 ok:=by
  rintro c w env σ Qp Q rfl E p k;show A7b (iSq c.K (tBt te')) g tt te cap σ w.H Q;refine hi.ok c w env σ _ _ rfl E p fun J xs e1 w1 E1 l1 wk ⟨hn,q⟩ D hD=>?_;exact A25 (pg:=pg) (pt:=pt) (pe:=pe) rfl E1 wk hn q hD fun w' ts R q'=>k _ _ e1 w' (R.pre l1) (q' D)
def B31:List Nat->TGs
 | []=>gNil
 | a :: r=>A0f (P2 a) (B31 r)
def W1 (e:PEnv):List Nat->List OT->PEnv
 | a :: L,u :: us=>W1 (e.set a (some u.slot)) L us
 | _,_=>e
theorem V1 {e:PEnv} {a:Nat} {L:List Nat} {u:OT} {us:List OT}:W1 e (a :: L) (u :: us)=W1 (e.set a (some u.slot)) L us:=rfl
theorem B5b {e:PEnv} {us:List OT}:W1 e [] us=e:=by cases us <;> rfl
theorem A5v {c:Ct} {w:Wd} {Q:St->Hpp->Prop}:∀ {L:List Nat} {us:List OT} {vs:List V} {env:PEnv} {σ:St},EnvOk c w env σ->Tre c.K w (kids us) vs->us.length=L.length->(∀ a ∈ (kids us).fp,w.H a≠none/\w.F a=none/\¬ w.M a/\c.w0.H a=none)->(kids us).fp.Nodup ->
  (∀ a ∈ (kids us).fp,(∀ (j:Nat) t u,env[j]?=some (some t)->σ[j]?=some (some u)->¬ t.foot u a)/\¬ c.Z a)->(∀ σ',EnvOk c w (W1 env L us) σ'->Q σ' w.H)->B31 L vs σ w.H Q
 | [],[],_,_,_,E,h,_,_,_,_,k=>by cases (show _=[] from h); exact ⟨rfl,k _ E⟩
 | a :: L,u :: us,_,env,σ,E,⟨v,r,rfl,hv,hr⟩,hl,o,d,n,k=>by
  have fe:(kids (u :: us)).fp=u.fp++(kids us).fp:=rfl;rw [fe] at o d n;obtain ⟨d1,d2,d3⟩:=List.nodup_append.mp d;refine ⟨v,r,rfl,?_⟩;have E1:=E.set (i:=a) (v:=v) (s:=u.slot) (C0e hv (fun q hq=>o q (Zt _ hq)) d1) (fun q f=>n q (Zt _ (A16 (B7b hv) f)));refine A5v (L:=L) E1 hr (Nat.succ.inj hl) (fun q hq=>o q (Zw _ hq)) d2 (fun q hq=>⟨fun j t z ht hz ft=>?_,(n q (Zw _ hq)).2⟩) k;rw [List.getElem?_set] at ht hz;split at ht
  ·rename_i ej;split at ht
   ·cases ht;rw [if_pos ej,if_pos (by rw [<- E.len]; assumption)] at hz;cases hz;exact d3 q (A16 (B7b hv) ft) q hq rfl
   ·cases ht
  ·rename_i ej;exact (n q (Zw _ hq)).1 j t z ht (by simpa [ej] using hz) ft
def unN (s:SV) (n:Nat) (L:List Nat) (e:PEnv) (k:PEnv->Prop):Prop:=∃ p us,s=.tr (.nd false p (kids us))/\us.length=n/\L.length=n/\k (W1 e L us)
def pUnN (pe:PX) (n:Nat) (L:List Nat) (D:PEnds) (env:PEnv):Prop:=pe env fun s e=>unN s n L e D.nx
theorem C7a {p:Addr} {us:List OT} {n:Nat} {L:List Nat} {e:PEnv} {k:PEnv->Prop} (h1:us.length=n) (h2:L.length=n) (h:k (W1 e L us)):unN (.tr (.nd false p (kids us))) n L e k:=⟨p,us,rfl,h1,h2,h⟩
class GNe (gs:TGs) (L:outParam (List Nat)):Prop where
 ok:gs=B31 L
instance gne_nil:GNe gNil []:=⟨rfl⟩
instance gne_cons {a:Nat} {gs:TGs} {L:List Nat} [h:GNe gs L]:GNe (A0f (P2 a) gs) (a :: L):=⟨by rw [h.ok]; rfl⟩
instance rs_unN {K:Frag} {te:TE} {n:Nat} {gs:TGs} {L:List Nat} {pe:PX} [he:RE K te pe] [hg:GNe gs L]:RS K (tAsg (tUn te) (gTup K n gs)) (pUnN pe n L) where
 ok:=by
  rintro c w env σ Dp D rfl E h p;refine he.ok c w env σ _ _ rfl E p fun v s e1 w1 R q=>?_;obtain ⟨p',us,rfl,hn,hL,q⟩:=q;obtain ⟨⟨ev,vs,hH,hk⟩,o,d⟩:=R.val;cases ev;obtain ⟨dp,dk⟩:=List.nodup_cons.mp (show (p' :: (kids us).fp).Nodup from d);refine ⟨p',vs,rfl,SqT.of hH,hk.each.1.trans hn,?_⟩;rw [hg.ok];exact A5v R.ev hk (by rw [hn,hL]) (fun a ha=>o a (Zr _ ha)) dk (fun a ha=>R.new a (Zr _ ha)) fun σ' E'=>h.nx _ σ' w1 E' R.lw.f q
theorem EnvOk.wipe {c:Ct} {w:Wd} {env:PEnv} {σ:St} {i:Nat} {T u:OT} {r:OT->OT} {v0 v:V} {a:Addr} {k:OT} (E:EnvOk c w env σ) (e:env[i]?=some (some (.tr T))) (hv:σ[i]?=some (some v0)) (S:Sub c.K w T u r v0 v) (hu:u=.nd true a k) :
  v=.ref a/\(∃ us,w.H a=some (.lst us))/\EnvOk c ⟨w.M,upd w.H a (.lst []),w.F⟩ (env.set i (some (.tr (r (.nd true a .nil))))) σ:=by
 subst hu;obtain ⟨v',hv',VRT⟩:=E.at' i _ e;rw [hv] at hv'; cases hv';obtain ⟨tre,re,A,B,eT,er⟩:=S;obtain ⟨ev,us,h1,h2⟩:=tre;cases ev;have ef:(r (.nd true a .nil)).fp=A++[a]++B:=er _;have eT':T.fp=A++(a :: k.fp)++B:=eT;have sub:(r (.nd true a .nil)).fp.Sublist T.fp:=by
  rw [ef,eT'];exact List.Sublist.append (List.Sublist.append (List.Sublist.refl _) (List.Sublist.cons_cons _ (List.nil_sublist _))) (List.Sublist.refl _)
 have haT:a ∈ T.fp:=by rw [eT']; simp
 refine ⟨rfl,⟨us,h1⟩,?_⟩;refine E.writeAt (s':=.tr (r (.nd true a .nil))) e hv haT (fun b hb=>sub.subset hb) ⟨re _ _ (fun b o ho hn=>?_) (Same.refl _) ⟨rfl,[],B3,rfl⟩,fun b hb=>?_,VRT.2.2.sublist sub⟩
 ·show upd w.H a _ b=_;rw [C4 (fun z=>hn (by rw [z]; simp [OT.fp]))]; exact ho
 ·obtain ⟨z1,z2⟩:=VRT.2.1 b (sub.subset hb);exact ⟨fun z=>z1 (K5 z),z2⟩
def tCk (t:TS):TS:=t
def isNd (u:OT) (k:Addr->Prop):Prop:=∃ a ks,u=.nd true a ks/\k a
theorem B3s {a:Addr} {ks:OT} {k:Addr->Prop}:isNd (.nd true a ks) k=k a:=propext ⟨fun ⟨_,_,e,h⟩=>by rw [(OT.nd.inj e).2.1]; exact h,fun h=>⟨a,ks,rfl,h⟩⟩
def B5z (i:Nat) (pm:OT->(OT->(OT->OT)->Prop)->Prop) (D:PEnds) (env:PEnv):Prop:=asTr env[i]? fun T=>pm T fun u r=>isNd u fun a=>D.nx (env.set i (some (.tr (r (.nd true a .nil)))))
instance (priority:=high) rs_clrK {K:Frag} {te:TE} {i:Nat} {pm:OT->(OT->(OT->OT)->Prop)->Prop} [h:RRt K (tPo te) i pm]:RS K (tCk (Z4 (tBM0 K "list" A9d (tPo te)))) (B5z i pm) where
 ok:=by
  rintro c w env σ Dp D rfl E hD p;unfold B5z asTr at p;split at p
  ·rename_i T e;obtain ⟨v0,hv,_⟩:=E.at' i _ e;refine h.ok c w env σ T v0 _ _ rfl E e hv p fun v u r ⟨a,ks,eu,q⟩ S=>?_;obtain ⟨rfl,⟨us,h1⟩,E'⟩:=E.wipe e hv S eu;exact ⟨.inl ⟨rfl,_,SqL.of h1⟩,a,us,rfl,rfl,h1,hD.nx _ σ ⟨w.M,upd w.H a (.lst []),w.F⟩ E' (Same.refl _) q⟩
  ·exact p.elim
class CsD (K:Frag) (te:TE) (x:outParam PyData):Prop where
 ok:∀ (c:Ct) (w:Wd) (env:PEnv) (σ:St) (Q:VK),c.K=K->EnvOk c w env σ->(∀ v w1,EnvOk c w1 env σ->Same w.H w1.H->Same w.F w1.F->Den K w1.F v x->Q v w1.H)->te σ w.H Q
class CsA (K:Frag) (ta:TA) (xs:outParam LP):Prop where
 ok:∀ (c:Ct) (w:Wd) (env:PEnv) (σ:St) (Q:List V->Hpp->Prop),c.K=K->EnvOk c w env σ->(∀ vs w1,EnvOk c w1 env σ->Same w.H w1.H->Same w.F w1.F->DenAll K w1.F vs xs->Q vs w1.H)->ta σ w.H Q
instance csd_int {K:Frag} {i:Int}:CsD K (tC (.int i)) (.int i):=⟨fun c w env σ Q _ E k=>k _ w E (Same.refl _) (Same.refl _) (.int i)⟩
instance csa_nil {K:Frag}:CsA K tNil []:=⟨fun c w env σ Q _ E k=>k _ w E (Same.refl _) (Same.refl _) .nil⟩
instance csa_cons {K:Frag} {te:TE} {tr:TA} {x:PyData} {xs:LP} [h:CsD K te x] [hr:CsA K tr xs]:CsA K (F9 te tr) (x :: xs) where
 ok:=by
  rintro c w env σ Q rfl E k;refine h.ok c w env σ _ rfl E fun v w1 E1 h1 f1 d1=>?_;refine hr.ok c w1 env σ _ rfl E1 fun vs w2 E2 h2 f2 d2=>?_;exact k _ w2 E2 (h1.trans h2) (f1.trans f2) (.cons (Den.same f2 d1) d2)
class Sml (xs:LP):Prop where
 ok:xs.length<=1000
instance sml1 {a:PyData}:Sml [a]:=⟨by show 1<=1000; decide⟩
instance sml2 {a b:PyData}:Sml [a,b]:=⟨by show 2<=1000; decide⟩
instance csd_tup {K:Frag} {ta:TA} {xs:LP} [h:CsA K ta xs] [z:Sml xs]:CsD K (tTup ta) (.tuple xs) where
 ok:=by
  rintro c w env σ Q rfl E k;refine h.ok c w env σ _ rfl E fun vs w1 E1 h1 f1 d1=>?_;refine ⟨by rw [d1.len]; exact Zx z.ok N4,fun p hp=>?_⟩;have fp:=E1.wok.fnone hp;exact k (.ref p) (w1.tup p (.tup vs)) (E1.mono (Wd.tup_ok E1.wok hp) (Wd.tup_le E1.wok hp)) (h1.trans (Same.upd hp)) (f1.trans (Same.upd fp)) (.tup (SqD.of B3) (DenAll.same (Same.upd fp) d1))
instance csd_lst {K:Frag} {ta:TA} {xs:LP} [h:CsA K ta xs] [z:Sml xs]:CsD K (tLst ta) (.list xs) where
 ok:=by
  rintro c w env σ Q rfl E k;refine h.ok c w env σ _ rfl E fun vs w1 E1 h1 f1 d1=>?_;refine ⟨by rw [d1.len]; exact Zx z.ok N4,fun p hp=>?_⟩;have fp:=E1.wok.fnone hp;exact k (.ref p) (w1.tup p (.lst vs)) (E1.mono (Wd.tup_ok E1.wok hp) (Wd.tup_le E1.wok hp)) (h1.trans (Same.upd hp)) (f1.trans (Same.upd fp)) (.lst (SqL.of B3) (DenAll.same (Same.upd fp) d1))
theorem Sub.up {K:Frag} {w w1:Wd} {T u:OT} {r:OT->OT} {v0 v:V} (h:Same w.H w1.H) (f:Same w.F w1.F) (S:Sub K w T u r v0 v):Sub K w1 T u r v0 v :=
 ⟨S.tre.agree f fun a _ o ho=>h a o ho,fun w' x ag f' hx=>S.re w' x (fun a o ho hn=>ag a o (h a o ho) hn) (f.trans f') hx,S.fp⟩
def tAk (t:TS):TS:=t
def B51 (i:Nat) (pm:OT->(OT->(OT->OT)->Prop)->Prop) (x:PyData) (D:PEnds) (env:PEnv):Prop:=asTr env[i]? fun T=>pm T fun u r=>isLs u fun a xs=>xs.length < 1000000/\D.nx (env.set i (some (.tr (r (.nd true a (B1 (xs++[x])))))))
instance (priority:=high) rs_appC {K:Frag} {te tx:TE} {i:Nat} {x:PyData} {pm:OT->(OT->(OT->OT)->Prop)->Prop} [h:RRt K (tPo te) i pm] [hx:CsD K tx x]:RS K (tAk (Z4 (tBM K "list" W2 (tPo te) (F9 tx tNil)))) (B51 i pm x) where
 ok:=by
  rintro c w env σ Dp D rfl E hD p;unfold B51 asTr at p;split at p
  ·rename_i T e;obtain ⟨v0,hv,_⟩:=E.at' i _ e;refine h.ok c w env σ T v0 _ _ rfl E e hv p fun v u r ⟨a,xs,eu,hl,q⟩ S=>?_;obtain ⟨rfl,us,h1,h2⟩:=S.lst eu;refine ⟨.inl ⟨rfl,_,SqL.of h1⟩,?_⟩;refine hx.ok c w env σ _ rfl E fun y w1 E1 hs fs hy=>?_;exact ⟨a,us,y,rfl,rfl,hs _ _ h1,by rw [h2.len]; exact L1 hl,hD.nx _ σ ⟨w1.M,upd w1.H a (.lst (us++[y])),w1.F⟩ (E1.change e hv (S.up hs fs) eu ((DenAll.same fs h2).app (.cons hy .nil))) fs q⟩
  ·exact p.elim
end Pu
namespace L2
open PySem PySem.Spec PyProof.Rows
variable {X:Cx} {e:Expr} {st:Stmt}
theorem qBt {t:TE} (h:QE X e t):QE X e (Pu.tBt t):=h
theorem qCk {t:TS} (h:QS X st t):QS X st (Pu.tCk t):=h
theorem qAk {t:TS} (h:QS X st t):QS X st (Pu.tAk t):=h
end L2
namespace Pu
open PySem L2 My Prf
def tSt (t:TS):TS:=t
def X0 (pi:PAr) (pg:PyData->PEnv->(PEnv->Prop)->Prop) (pt:PTt) (pe:PX) (cap:List (Option Nat)) (i:Nat) (D:PEnds) (env:PEnv):Prop:=pi env fun xs e=>xs.length < 1000000/\A09 xs pg pt pe (F0 cap e) (@hold (List OT) ⟨fun ts=>∀ a,D.nx (e.set i (some (.tr (.nd true a (kids ts)))))⟩)
instance (priority:=high) rs_setCompT {K:Frag} {wi:TI} {g:TG} {tt:TT} {te:TE} {cap:List (Option Nat)} {i:Nat} {pi:PAr} {pg:PyData->PEnv->(PEnv->Prop)->Prop} {pt:PTt} {pe:PX} [hi:RI K wi pi] [hg:RG K g pg] [ht:RT K tt pt] [he:RE K te pe]:RS K (tSt (M9 wi g tt te cap i)) (X0 pi pg pt pe cap i) where
 ok:=by
  rintro c w env σ Dp D rfl E h p;show M9 wi g tt te cap i D σ w.H;refine hi.ok c w env σ _ _ rfl E p fun J xs e1 w1 E1 l1 wk ⟨hn,q⟩ l hl=>?_;exact B6n (pg:=pg) (pt:=pt) (pe:=pe) rfl E1 (wk.up E1.le0) hn q hl fun w' ts R q'=>h.nx _ _ w' (R.ev.set R.val R.new) (l1.f.trans R.lw.f) (q' l)
def S6 (pi:PEnv->(List OT->PEnv->Prop)->Prop) (pg:OT->PEnv->(PEnv->Prop)->Prop) (pt:PTt) (pe:PX) (cap:List (Option Nat)) (i:Nat) (D:PEnds) (env:PEnv):Prop:=pi env fun xs e=>xs.length < 1000000/\X2 xs pg pt pe (F0 cap e) (@hold (List OT) ⟨fun ts=>∀ a,D.nx (e.set i (some (.tr (.nd true a (kids ts)))))⟩)
instance (priority:=high + 1) rs_setCompTO {K:Frag} {te':TE} {g:TG} {tt:TT} {te:TE} {cap:List (Option Nat)} {i:Nat} {pi:PEnv->(List OT->PEnv->Prop)->Prop} {pg:OT->PEnv->(PEnv->Prop)->Prop} {pt:PTt} {pe:PX} [hi:RIO K (iSq K (tBt te')) pi] [hg:RGO K g pg] [ht:RT K tt pt] [he:RE K te pe]:RS K (tSt (M9 (iSq K (tBt te')) g tt te cap i)) (S6 pi pg pt pe cap i) where
 ok:=by
  rintro c w env σ Dp D rfl E h p;show M9 (iSq c.K (tBt te')) g tt te cap i D σ w.H;refine hi.ok c w env σ _ _ rfl E p fun J xs e1 w1 E1 l1 wk ⟨hn,q⟩ l hl=>?_;exact A25 (pg:=pg) (pt:=pt) (pe:=pe) rfl E1 wk hn q hl fun w' ts R q'=>h.nx _ _ w' (R.ev.set R.val R.new) (l1.f.trans R.lw.f) (q' l)
def C1r (pb:PEnv->(OT->PEnv->Prop)->Prop) (env:PEnv) (Q:SV->PEnv->Prop):Prop:=pb env fun t e=>∃ ts,t.el=some ts/\Q (.d (.int (ts.length:Int))) e
theorem C6q {K:Frag} {w:Wd} {v:V} {t:OT} {ts:List OT} (ok:w.Ok) (h:TV K w v t) (e:t.el=some ts):∃ p vs,v=.ref p/\vs.length=ts.length/\(SqL K w.H p vs\/SqT K w.H p vs):=by
 unfold OT.el at e;split at e
 ·rename_i b a k;obtain ⟨⟨ev,us,h1,h2⟩,h3⟩:=h;cases ev;rw [A1j e] at h2;cases b with
  | true=>exact ⟨a,us,rfl,h2.each.1,.inl (SqL.of h1)⟩
  | false=>exact ⟨a,us,rfl,h2.each.1,.inr (SqT.of h1)⟩
 ·cases e;obtain ⟨⟨v',ev,h⟩,_⟩:=h;cases ev;obtain ⟨a,vs,e,g1,g2⟩:=Den.lstE h;exact ⟨a,vs,e,by rw [Zl]; exact g2.len,.inl (ok.sub.seq g1)⟩
 ·cases e;obtain ⟨⟨v',ev,h⟩,_⟩:=h;cases ev;obtain ⟨a,vs,e,g1,g2⟩:=Den.tupE h;exact ⟨a,vs,e,by rw [Zl]; exact g2.len,.inr (SqT.same ok.sub g1)⟩
 ·cases e
instance (priority:=high) re_lenO {K:Frag} {te:TE} {pb:PEnv->(OT->PEnv->Prop)->Prop} [hb:RTr K te pb]:RE K (tCB (B5c K) (F9 (tBt te) tNil)) (C1r pb) where
 ok:=by
  rintro c w env σ Qp Q rfl E p k;refine hb.ok c w env σ _ _ rfl E p fun v t e1 w1 E1 l1 v1 ⟨ts,el,q⟩=>?_;obtain ⟨p,vs,rfl,hl,hs⟩:=C6q E1.wok v1 el;exact .inl ⟨p,vs,rfl,hs,by rw [hl]; exact k _ _ e1 w1 ((Res.data E1 (.int _)).pre l1) q⟩
theorem B7f {a:Addr} {k:OT}:OT.sv (.nd false a k)=.bt (.nd false a k):=rfl
theorem B7h {z:Str}:OT.sv (.leaf (.str z))=.d (.str z):=rfl
theorem B7g {xs:LP}:OT.sv (.leaf (.tuple xs))=.d (.tuple xs):=rfl
theorem B7j {i:Int}:OT.sv (.leaf (.int i))=.d (.int i):=rfl
theorem B7i {xs:LP}:OT.sv (.leaf (.list xs))=.bor xs:=rfl
end Pu
namespace L2
open PySem PySem.Spec PyProof.Rows
variable {X:Cx} {st:Stmt}
theorem qSt {t:TS} (h:QS X st t):QS X st (Pu.tSt t):=h
end L2
namespace Pu
open PySem L2 My Prf
def tSf (te:TE):TE:=te
def pSlF (pa:PDt) (pl ph:PEnv->(Option Int->PEnv->Prop)->Prop) (env:PEnv) (Q:SV->PEnv->Prop):Prop:=pa env fun x e=>pl e fun lo e1=>ph e1 fun hi e2=>∃ (xs:LP) (b:Nat),x=.tuple xs/\lo=some (b:Int)/\hi=none/\(0 < b/\b<=xs.length)/\Q (.d (.tuple (xs.drop b))) e2
instance (priority:=high) re_slF {K:Frag} {te:TE} {tl th:TO} {pa:PDt} {pl ph:PEnv->(Option Int->PEnv->Prop)->Prop} [ha:RD K te pa] [hl:RP K tl pl] [hh:RP K th ph]:RE K (tSf (tSl (C0k K) te tl th)) (pSlF pa pl ph) where
 ok:=by
  rintro c w env σ Qp Q rfl E p k;show tSl (C0k c.K) te tl th σ w.H Q;refine ha.ok c w env σ _ _ rfl E p fun v dx e1 w1 E1 l1 d1 q1=>?_;refine hl.ok c w1 e1 σ _ _ rfl E1 q1 fun lo e2 w2 E2 l2 q2=>?_;refine hh.ok c w2 e2 σ _ _ rfl E2 q2 fun hi e3 w3 E3 l3 q3=>?_;obtain ⟨xs,b,rfl,rfl,rfl,⟨hb0,hb⟩,q⟩:=q3;have d3:Den c.K w3.F v (.tuple xs):=(d1.same l2.f).same l3.f;obtain ⟨a,vs,e,g1,g2⟩:=VV.tup E3.wok (.inl d3);have hlen:=g2.len;refine .inl ⟨a,vs,e,g1,fun z=>?_,fun p hp=>?_⟩
  ·have:=z.1;rw [HT.sIx_nat] at this;omega
  ·have ec:cutV vs (some (b:Int)) none=vs.drop b:=by
    unfold cutV;rw [HT.sIx_none,HT.sIx_nat,Nat.min_eq_left (by omega),List.take_of_length_le (by rw [List.length_drop]; exact Zv _)]
   rw [ec];exact k _ _ e3 _ ((Res.tup E3 hp (g2.drop b)).pre (l1.trans (l2.trans l3))) q
end Pu
namespace L2
open PySem PySem.Spec PyProof.Rows
variable {X:Cx} {e:Expr}
theorem qSf {t:TE} (h:QE X e t):QE X e (Pu.tSf t):=h
end L2
set_option synthInstance.maxHeartbeats 0
set_option synthInstance.maxSize 100000
set_option maxHeartbeats 4000000
namespace Prf
open PySem L2 My Pu
local macro_rules | `(tactic| trivial) => `(tactic| try simp only [pSeq, B5w, B8l, C40, B0a, C1x, pRet, A97, B13, B12, B11, B10, C4k, pIf, pAsg, C10, B70, B83, pApp, B4y, B8h, B5u, A93, C67, pYes, pNot, pAnd, pOr, C1l, C11, pOrV, pIfE, pOp, pI_i, C4s, pEqD, pNeD, pIsN, C4p, A2v, A6j, A2x, A6i, A2w, A6h, B74, B73, pU_i, pUn, pNil, B0w, pTup, pLst, pCB, B0e, A2l, A5l, B8q, B72, B71, B8c, B8d, A5j, A5i, B8a, B85, A8k, A4y, A8j, A4v, A4w, A8i, A8l, B7t, B8x, B8w, B8v, A91, B1p, B1o, B1q, pC, pdat, C66, C65, B03, B5v, A5t, B0s, A5r, C60, B9l, A7h, A9g, A3y, V4, A49, A5g, C1t, A5o, A5z, A5y, A50, A65, A0y, A3m, A3n, A96, B1z, A95, B1y, pFor, B0x, A0p, F0, SV.lent, A34, C1k, C61, pSlL, pRev, A94, B1x, B8i, B8p, B8o, B0o, List.map_cons, List.map_nil, List.replicate_succ, List.replicate_zero, List.cons_append, List.nil_append, List.getElem?_cons_zero, List.getElem?_cons_succ, List.set_cons_zero, List.set_cons_succ, List.length_cons, List.length_nil, C1w, C1v, C4u, C4t, Option.bind_some, Option.bind_none, Option.map_some, Option.map_none, Option.join_some, B0k, B0j, B2u, A58, A57, B4b, A6w, B38, A6u, B86, B9y, A1l, B9v, A21, A20, B3r, B7a, decide_eq_true_eq, Bool.not_eq_true', decide_eq_false_iff_not, ite_not, true_and, and_true, reduceIte, Nat.zero_le, Nat.reduceAdd, Nat.reduceLeDiff, Nat.reduceSub, Int.zero_add, A5n, A5m, List.length_map, A8b, B8t, A8o, B3z, B35, B2s, B39, B87, B9h, B9k, B9g, B9j, B9a, B9e, B9d, B88, B89, B9b, Bool.true_eq_false, Bool.false_eq_true, reduceCtorEq, Bool.not_true, Bool.not_false, decide_true, decide_false, B7s, B8u, B0q, B2f, pLsN, pLsC, C1q, B0d, B2a, B19, B2b, A4f, B4c, B36, A6k, eq_self, C1e, A0x, A3l, A6r, B34, A6e, A6b, A6d, A6a, A6c, A59, B9f, B9i, B9c, B5t, B0t, C1m, ot_d, ot_o, ot_t, A5u, A92, B1t, B1s, B1u, B1r, pKid, B00, B91, C1c, C64, C63, C62, pTr, B7w, B81, B80, B82, B0v, B7u, B8z, B8y, B05, B2h, N9, A9f, A6m, A5p, A52, A5s, B17, B16, B15, C4q, pIn, B3d, B3e, B3b, B3c, B3l, B3m, B3j, B3k, B25, B26, B23, B24, B21, B22, B2z, B20, B29, B3a, B27, B28, B2x, B2y, B2v, B2w, B3h, B3i, B3f, B3g, A4x, C6y, B0m, pS, C43, B78, B75, B77, B79, B76, B0i, B0f, B0h, B0g, C1s, C1h, C4x, B01, pRep, B0c, B8e, pIdx, C4l, C4g, B7v, pStr, C4f, B02, C44, B7o, B0b, pSlT, B5x, B2d, B2c, pPth, pVw, A8g, pLf, B2p, pBr, pMuV, C5l, B7x, pA2, C6e, pC2, pMu, B8r, B8m, B0r, B7l, B8g, A2k, pDa, B0z, C45, C4h, B6c, mIx, Y0, A53, pUnT, C25, A15, W0, B04, pCmT, C4d, C4e, B8k, B8n, alAt, B9p, pArV, B7y, pFz, C5m, C5n, C1i, B1w, C4m, A98, C4n, B0p, B7z, A36, B0u, pDN, pDk, pDk0, pDIn, C6h, C6i, C6z, C4y, B9o, B8f, A6s, A81, pPr0, pPr, B2q, C4w, C4o, B8b, pFp, B9s, B50, A99, C4z, C42, A53, X1, A35, B0y, A2j, C1y, B0n, pUnN, B5z, B3s, B51, X0, S6, C1r, C2c, B2g, B84, B7f, B7h, B7g, B7j, B7i, pSlF])
local macro_rules | `(tactic| nofun) => `(tactic| try simp -implicitDefEqProofs only [pSeq, B5w, B8l, C40, B0a, C1x, pRet, A97, B13, B12, B11, B10, C4k, pIf, pAsg, C10, B70, B83, pApp, B4y, B8h, B5u, A93, C67, pYes, pNot, pAnd, pOr, C1l, C11, pOrV, pIfE, pOp, pI_i, C4s, pEqD, pNeD, pIsN, C4p, A2v, A6j, A2x, A6i, A2w, A6h, B74, B73, pU_i, pUn, pNil, B0w, pTup, pLst, pCB, B0e, A2l, A5l, B8q, B72, B71, B8c, B8d, A5j, A5i, B8a, B85, A8k, A4y, A8j, A4v, A4w, A8i, A8l, B7t, B8x, B8w, B8v, A91, B1p, B1o, B1q, pC, pdat, C66, C65, B03, B5v, A5t, B0s, A5r, C60, B9l, A7h, A9g, A3y, V4, A49, A5g, C1t, A5o, A5z, A5y, A50, A65, A0y, A3m, A3n, A96, B1z, A95, B1y, pFor, B0x, A0p, F0, SV.lent, A34, C1k, C61, pSlL, pRev, A94, B1x, B8i, B8p, B8o, B0o, List.map_cons, List.map_nil, List.replicate_succ, List.replicate_zero, List.cons_append, List.nil_append, List.getElem?_cons_zero, List.getElem?_cons_succ, List.set_cons_zero, List.set_cons_succ, List.length_cons, List.length_nil, C1w, C1v, C4u, C4t, Option.bind_some, Option.bind_none, Option.map_some, Option.map_none, Option.join_some, B0k, B0j, B2u, A58, A57, B4b, A6w, B38, A6u, B86, B9y, A1l, B9v, A21, A20, B3r, B7a, decide_eq_true_eq, Bool.not_eq_true', decide_eq_false_iff_not, ite_not, true_and, and_true, reduceIte, Nat.zero_le, Nat.reduceAdd, Nat.reduceLeDiff, Nat.reduceSub, Int.zero_add, A5n, A5m, List.length_map, A8b, B8t, A8o, B3z, B35, B2s, B39, B87, B9h, B9k, B9g, B9j, B9a, B9e, B9d, B88, B89, B9b, Bool.true_eq_false, Bool.false_eq_true, reduceCtorEq, Bool.not_true, Bool.not_false, decide_true, decide_false, B7s, B8u, B0q, B2f, pLsN, pLsC, C1q, B0d, B2a, B19, B2b, A4f, B4c, B36, A6k, eq_self, C1e, A0x, A3l, A6r, B34, A6e, A6b, A6d, A6a, A6c, A59, B9f, B9i, B9c, B5t, B0t, C1m, ot_d, ot_o, ot_t, A5u, A92, B1t, B1s, B1u, B1r, pKid, B00, B91, C1c, C64, C63, C62, pTr, B7w, B81, B80, B82, B0v, B7u, B8z, B8y, B05, B2h, N9, A9f, A6m, A5p, A52, A5s, B17, B16, B15, C4q, pIn, B3d, B3e, B3b, B3c, B3l, B3m, B3j, B3k, B25, B26, B23, B24, B21, B22, B2z, B20, B29, B3a, B27, B28, B2x, B2y, B2v, B2w, B3h, B3i, B3f, B3g, A4x, C6y, B0m, pS, C43, B78, B75, B77, B79, B76, B0i, B0f, B0h, B0g, C1s, C1h, C4x, B01, pRep, B0c, B8e, pIdx, C4l, C4g, B7v, pStr, C4f, B02, C44, B7o, B0b, pSlT, B5x, B2d, B2c, pPth, pVw, A8g, pLf, B2p, pBr, pMuV, C5l, B7x, pA2, C6e, pC2, pMu, B8r, B8m, B0r, B7l, B8g, A2k, pDa, B0z, C45, C4h, B6c, mIx, Y0, A53, pUnT, C25, A15, W0, B04, pCmT, C4d, C4e, B8k, B8n, alAt, B9p, pArV, B7y, pFz, C5m, C5n, C1i, B1w, C4m, A98, C4n, B0p, B7z, A36, B0u, pDN, pDk, pDk0, pDIn, C6h, C6i, C6z, C4y, B9o, B8f, A6s, A81, pPr0, pPr, B2q, C4w, C4o, B8b, pFp, B9s, B50, A99, C4z, C42, A53, X1, A35, B0y, A2j, C1y, B0n, pUnN, B5z, B3s, B51, X0, S6, C1r, C2c, B2g, B84, B7f, B7h, B7g, B7j, B7i, pSlF])
set_option genInjectivity false
set_option genSizeOfSpec false
structure Adr where
 a_ba:Addr
 d_ba:FuncData
 a_ae:Addr
 d_ae:FuncData
 a_ac:Addr
 d_ac:FuncData
 a_b9:Addr
 d_b9:FuncData
 a_c9:Addr
 d_c9:FuncData
 a_d6:Addr
 d_d6:FuncData
 a_d2:Addr
 d_d2:FuncData
 a_bb:Addr
 d_bb:FuncData
 a_cd:Addr
 d_cd:FuncData
 a_c8:Addr
 d_c8:FuncData
 a_a4:Addr
 d_a4:FuncData
 a_b1:Addr
 d_b1:FuncData
 a_aa:Addr
 d_aa:FuncData
 a_a0:Addr
 d_a0:FuncData
 a_a1:Addr
 d_a1:FuncData
 a_b8:Addr
 d_b8:FuncData
 a_b2:Addr
 d_b2:FuncData
 a_a2:Addr
 d_a2:FuncData
 a_cc:Addr
 d_cc:FuncData
 a_ca:Addr
 d_ca:FuncData
 a_c7:Addr
 d_c7:FuncData
 a_b7:Addr
 d_b7:FuncData
 a_a6:Addr
 d_a6:FuncData
 a_a9:Addr
 d_a9:FuncData
 a_a8:Addr
 d_a8:FuncData
 a_a7:Addr
 d_a7:FuncData
 a_a5:Addr
 d_a5:FuncData
 a_af:Addr
 d_af:FuncData
 a_ad:Addr
 d_ad:FuncData
 a_ab:Addr
 d_ab:FuncData
 a_bf:Addr
 d_bf:FuncData
 a_d1:Addr
 d_d1:FuncData
 a_d4:Addr
 d_d4:FuncData
 a_d0:Addr
 d_d0:FuncData
 a_c1:Addr
 d_c1:FuncData
 a_c5:Addr
 d_c5:FuncData
 a_b3:Addr
 d_b3:FuncData
 a_c3:Addr
 d_c3:FuncData
 a_c2:Addr
 d_c2:FuncData
 a_c4:Addr
 d_c4:FuncData
 a_d3:Addr
 d_d3:FuncData
 a_c6:Addr
 d_c6:FuncData
 a_c0:Addr
 d_c0:FuncData
 a_b4:Addr
 d_b4:FuncData
 a_d5:Addr
 d_d5:FuncData
 a_bc:Addr
 d_bc:FuncData
 a_ce:Addr
 d_ce:FuncData
 a_b0:Addr
 d_b0:FuncData
 a_b5:Addr
 d_b5:FuncData
 a_cf:Addr
 d_cf:FuncData
 a_b6:Addr
 d_b6:FuncData
 a_bd:Addr
 d_bd:FuncData
 a_be:Addr
 d_be:FuncData
 a_a3:Addr
 d_a3:FuncData
 a_d7:Addr
 d_d7:FuncData
 k_NOUGHT:Addr
 k_KINDS:Addr
 k_HOLD_KINDS:Addr
structure TxB (K:PySem.W.Frag) (a_ba a_ae a_ac a_b9 a_c9 a_d6 a_d2 a_bb a_cd a_c8 a_a4 a_b1 a_aa a_a0 a_a1 a_b8 a_b2 a_a2 a_cc a_ca a_c7 a_b7 a_a6 a_a9 a_a8 a_a7 a_a5 a_af a_ad a_ab a_bf a_d1 a_d4 a_d0 a_c1 a_c5 a_b3 a_c3 a_c2 a_c4 a_d3 a_c6 a_c0 a_b4 a_d5 a_bc a_ce a_b0 a_b5 a_cf a_b6 a_bd a_be a_a3 k_NOUGHT k_KINDS k_HOLD_KINDS:Addr) (d_ba d_ae d_ac d_b9 d_c9 d_d6 d_d2 d_bb d_cd d_c8 d_a4 d_b1 d_aa d_a0 d_a1 d_b8 d_b2 d_a2 d_cc d_ca d_c7 d_b7 d_a6 d_a9 d_a8 d_a7 d_a5 d_af d_ad d_ab d_bf d_d1 d_d4 d_d0 d_c1 d_c5 d_b3 d_c3 d_c2 d_c4 d_d3 d_c6 d_c0 d_b4 d_d5 d_bc d_ce d_b0 d_b5 d_cf d_b6 d_bd d_be d_a3:FuncData):Prop where
 g_ba:PySem.W.nsIn K mainGlobals "is_whole"=some (some (.ref a_ba))
 F_ba:Fun K "is_whole" "is_whole" s_ba a_ba d_ba
 g_ae:PySem.W.nsIn K mainGlobals "is_tuple_of"=some (some (.ref a_ae))
 F_ae:Fun K "is_tuple_of" "is_tuple_of" s_ae a_ae d_ae
 g_ac:PySem.W.nsIn K mainGlobals "common_part"=some (some (.ref a_ac))
 F_ac:Fun K "common_part" "common_part" s_ac a_ac d_ac
 g_b9:PySem.W.nsIn K mainGlobals "is_ratio"=some (some (.ref a_b9))
 F_b9:Fun K "is_ratio" "is_ratio" s_b9 a_b9 d_b9
 g_c9:PySem.W.nsIn K mainGlobals "is_name"=some (some (.ref a_c9))
 F_c9:Fun K "is_name" "is_name" s_c9 a_c9 d_c9
 g_d6:PySem.W.nsIn K mainGlobals "plus"=some (some (.ref a_d6))
 F_d6:Fun K "plus" "plus" s_d6 a_d6 d_d6
 g_d2:PySem.W.nsIn K mainGlobals "minus"=some (some (.ref a_d2))
 F_d2:Fun K "minus" "minus" s_d2 a_d2 d_d2
 g_bb:PySem.W.nsIn K mainGlobals "product"=some (some (.ref a_bb))
 F_bb:Fun K "product" "product" s_bb a_bb d_bb
 g_cd:PySem.W.nsIn K mainGlobals "parted"=some (some (.ref a_cd))
 F_cd:Fun K "parted" "parted" s_cd a_cd d_cd
 g_c8:PySem.W.nsIn K mainGlobals "is_less"=some (some (.ref a_c8))
 F_c8:Fun K "is_less" "is_less" s_c8 a_c8 d_c8
 g_a4:PySem.W.nsIn K mainGlobals "is_from_nought"=some (some (.ref a_a4))
 F_a4:Fun K "is_from_nought" "is_from_nought" s_a4 a_a4 d_a4
 g_b1:PySem.W.nsIn K mainGlobals "is_corner"=some (some (.ref a_b1))
 F_b1:Fun K "is_corner" "is_corner" s_b1 a_b1 d_b1
 g_aa:PySem.W.nsIn K mainGlobals "rate_between"=some (some (.ref a_aa))
 F_aa:Fun K "rate_between" "rate_between" s_aa a_aa d_aa
 g_a0:PySem.W.nsIn K mainGlobals "are_dearer_in_order"=some (some (.ref a_a0))
 F_a0:Fun K "are_dearer_in_order" "are_dearer_in_order" s_a0 a_a0 d_a0
 g_a1:PySem.W.nsIn K mainGlobals "are_ever_steeper"=some (some (.ref a_a1))
 F_a1:Fun K "are_ever_steeper" "are_ever_steeper" s_a1 a_a1 d_a1
 g_b8:PySem.W.nsIn K mainGlobals "is_offer"=some (some (.ref a_b8))
 F_b8:Fun K "is_offer" "is_offer" s_b8 a_b8 d_b8
 g_b2:PySem.W.nsIn K mainGlobals "smoothed"=some (some (.ref a_b2))
 F_b2:Fun K "smoothed" "smoothed" s_b2 a_b2 d_b2
 g_a2:PySem.W.nsIn K mainGlobals "is_number_below"=some (some (.ref a_a2))
 F_a2:Fun K "is_number_below" "is_number_below" s_a2 a_a2 d_a2
 g_cc:PySem.W.nsIn K mainGlobals "is_work"=some (some (.ref a_cc))
 F_cc:Fun K "is_work" "is_work" s_cc a_cc d_cc
 g_ca:PySem.W.nsIn K mainGlobals "is_wait"=some (some (.ref a_ca))
 F_ca:Fun K "is_wait" "is_wait" s_ca a_ca d_ca
 g_c7:PySem.W.nsIn K mainGlobals "is_hold"=some (some (.ref a_c7))
 F_c7:Fun K "is_hold" "is_hold" s_c7 a_c7 d_c7
 g_b7:PySem.W.nsIn K mainGlobals "is_group"=some (some (.ref a_b7))
 F_b7:Fun K "is_group" "is_group" s_b7 a_b7 d_b7
 g_a6:PySem.W.nsIn K mainGlobals "look_at_length"=some (some (.ref a_a6))
 F_a6:Fun K "look_at_length" "look_at_length" s_a6 a_a6 d_a6
 g_a9:PySem.W.nsIn K mainGlobals "look_at_works"=some (some (.ref a_a9))
 F_a9:Fun K "look_at_works" "look_at_works" s_a9 a_a9 d_a9
 g_a8:PySem.W.nsIn K mainGlobals "look_at_waits"=some (some (.ref a_a8))
 F_a8:Fun K "look_at_waits" "look_at_waits" s_a8 a_a8 d_a8
 g_a7:PySem.W.nsIn K mainGlobals "look_at_holds"=some (some (.ref a_a7))
 F_a7:Fun K "look_at_holds" "look_at_holds" s_a7 a_a7 d_a7
 g_a5:PySem.W.nsIn K mainGlobals "look_at_groups"=some (some (.ref a_a5))
 F_a5:Fun K "look_at_groups" "look_at_groups" s_a5 a_a5 d_a5
 g_af:PySem.W.nsIn K mainGlobals "look_at_net"=some (some (.ref a_af))
 F_af:Fun K "look_at_net" "look_at_net" s_af a_af d_af
 g_ad:PySem.W.nsIn K mainGlobals "is_straight"=some (some (.ref a_ad))
 F_ad:Fun K "is_straight" "is_straight" s_ad a_ad d_ad
 g_ab:PySem.W.nsIn K mainGlobals "smoothed_net"=some (some (.ref a_ab))
 F_ab:Fun K "smoothed_net" "smoothed_net" s_ab a_ab d_ab
 g_bf:PySem.W.nsIn K mainGlobals "_law_begun"=some (some (.ref a_bf))
 F_bf:Fun K "_law_begun" "_law_begun" s_bf a_bf d_bf
 g_d1:PySem.W.nsIn K mainGlobals "_law_take"=some (some (.ref a_d1))
 F_d1:Fun K "_law_take" "_law_take" s_d1 a_d1 d_d1
 g_d4:PySem.W.nsIn K mainGlobals "_law_low"=some (some (.ref a_d4))
 F_d4:Fun K "_law_low" "_law_low" s_d4 a_d4 d_d4
 g_d0:PySem.W.nsIn K mainGlobals "_law_plus"=some (some (.ref a_d0))
 F_d0:Fun K "_law_plus" "_law_plus" s_d0 a_d0 d_d0
 g_c1:PySem.W.nsIn K mainGlobals "_law_minus"=some (some (.ref a_c1))
 F_c1:Fun K "_law_minus" "_law_minus" s_c1 a_c1 d_c1
 g_c5:PySem.W.nsIn K mainGlobals "_law_times"=some (some (.ref a_c5))
 F_c5:Fun K "_law_times" "_law_times" s_c5 a_c5 d_c5
 g_b3:PySem.W.nsIn K mainGlobals "_law_amount"=some (some (.ref a_b3))
 F_b3:Fun K "_law_amount" "_law_amount" s_b3 a_b3 d_b3
 g_c3:PySem.W.nsIn K mainGlobals "_law_offer"=some (some (.ref a_c3))
 F_c3:Fun K "_law_offer" "_law_offer" s_c3 a_c3 d_c3
 g_c2:PySem.W.nsIn K mainGlobals "_law_names"=some (some (.ref a_c2))
 F_c2:Fun K "_law_names" "_law_names" s_c2 a_c2 d_c2
 g_c4:PySem.W.nsIn K mainGlobals "_law_order"=some (some (.ref a_c4))
 F_c4:Fun K "_law_order" "_law_order" s_c4 a_c4 d_c4
 g_d3:PySem.W.nsIn K mainGlobals "_law_lag"=some (some (.ref a_d3))
 F_d3:Fun K "_law_lag" "_law_lag" s_d3 a_d3 d_d3
 g_c6:PySem.W.nsIn K mainGlobals "_law_waits"=some (some (.ref a_c6))
 F_c6:Fun K "_law_waits" "_law_waits" s_c6 a_c6 d_c6
 g_c0:PySem.W.nsIn K mainGlobals "_law_holds"=some (some (.ref a_c0))
 F_c0:Fun K "_law_holds" "_law_holds" s_c0 a_c0 d_c0
 g_b4:PySem.W.nsIn K mainGlobals "_law_groups"=some (some (.ref a_b4))
 F_b4:Fun K "_law_groups" "_law_groups" s_b4 a_b4 d_b4
 g_d5:PySem.W.nsIn K mainGlobals "_law_net"=some (some (.ref a_d5))
 F_d5:Fun K "_law_net" "_law_net" s_d5 a_d5 d_d5
 g_bc:PySem.W.nsIn K mainGlobals "_law_alike"=some (some (.ref a_bc))
 F_bc:Fun K "_law_alike" "_law_alike" s_bc a_bc d_bc
 g_ce:PySem.W.nsIn K mainGlobals "_law_copy"=some (some (.ref a_ce))
 F_ce:Fun K "_law_copy" "_law_copy" s_ce a_ce d_ce
 g_b0:PySem.W.nsIn K mainGlobals "_law_greater"=some (some (.ref a_b0))
 F_b0:Fun K "_law_greater" "_law_greater" s_b0 a_b0 d_b0
 g_b5:PySem.W.nsIn K mainGlobals "_law_paired"=some (some (.ref a_b5))
 F_b5:Fun K "_law_paired" "_law_paired" s_b5 a_b5 d_b5
 g_cf:PySem.W.nsIn K mainGlobals "_law_lets"=some (some (.ref a_cf))
 F_cf:Fun K "_law_lets" "_law_lets" s_cf a_cf d_cf
 g_b6:PySem.W.nsIn K mainGlobals "_law_smooth"=some (some (.ref a_b6))
 F_b6:Fun K "_law_smooth" "_law_smooth" s_b6 a_b6 d_b6
 g_bd:PySem.W.nsIn K mainGlobals "_law_apart"=some (some (.ref a_bd))
 F_bd:Fun K "_law_apart" "_law_apart" s_bd a_bd d_bd
 g_be:PySem.W.nsIn K mainGlobals "_law_asked"=some (some (.ref a_be))
 F_be:Fun K "_law_asked" "_law_asked" s_be a_be d_be
 g_a3:PySem.W.nsIn K mainGlobals "_law_all_straight"=some (some (.ref a_a3))
 F_a3:Fun K "_law_all_straight" "_law_all_straight" s_a3 a_a3 d_a3
 gc_NOUGHT:PySem.W.nsIn K mainGlobals "NOUGHT"=some (some (.ref k_NOUGHT))
 gc_KINDS:PySem.W.nsIn K mainGlobals "KINDS"=some (some (.ref k_KINDS))
 gc_HOLD_KINDS:PySem.W.nsIn K mainGlobals "HOLD_KINDS"=some (some (.ref k_HOLD_KINDS))
 z_abs:PySem.W.nsIn K mainGlobals "abs"=some none
 z_all:PySem.W.nsIn K mainGlobals "all"=some none
 z_bool:PySem.W.nsIn K mainGlobals "bool"=some none
 z_enumerate:PySem.W.nsIn K mainGlobals "enumerate"=some none
 z_int:PySem.W.nsIn K mainGlobals "int"=some none
 z_isinstance:PySem.W.nsIn K mainGlobals "isinstance"=some none
 z_len:PySem.W.nsIn K mainGlobals "len"=some none
 z_list:PySem.W.nsIn K mainGlobals "list"=some none
 z_max:PySem.W.nsIn K mainGlobals "max"=some none
 z_min:PySem.W.nsIn K mainGlobals "min"=some none
 z_range:PySem.W.nsIn K mainGlobals "range"=some none
 z_str:PySem.W.nsIn K mainGlobals "str"=some none
 z_tuple:PySem.W.nsIn K mainGlobals "tuple"=some none
 z_zip:PySem.W.nsIn K mainGlobals "zip"=some none
structure Txt (K:PySem.W.Frag) (mg:Str->Option Value) (D:Adr):Prop where
 B:TxB K D.a_ba D.a_ae D.a_ac D.a_b9 D.a_c9 D.a_d6 D.a_d2 D.a_bb D.a_cd D.a_c8 D.a_a4 D.a_b1 D.a_aa D.a_a0 D.a_a1 D.a_b8 D.a_b2 D.a_a2 D.a_cc D.a_ca D.a_c7 D.a_b7 D.a_a6 D.a_a9 D.a_a8 D.a_a7 D.a_a5 D.a_af D.a_ad D.a_ab D.a_bf D.a_d1 D.a_d4 D.a_d0 D.a_c1 D.a_c5 D.a_b3 D.a_c3 D.a_c2 D.a_c4 D.a_d3 D.a_c6 D.a_c0 D.a_b4 D.a_d5 D.a_bc D.a_ce D.a_b0 D.a_b5 D.a_cf D.a_b6 D.a_bd D.a_be D.a_a3 D.k_NOUGHT D.k_KINDS D.k_HOLD_KINDS D.d_ba D.d_ae D.d_ac D.d_b9 D.d_c9 D.d_d6 D.d_d2 D.d_bb D.d_cd D.d_c8 D.d_a4 D.d_b1 D.d_aa D.d_a0 D.d_a1 D.d_b8 D.d_b2 D.d_a2 D.d_cc D.d_ca D.d_c7 D.d_b7 D.d_a6 D.d_a9 D.d_a8 D.d_a7 D.d_a5 D.d_af D.d_ad D.d_ab D.d_bf D.d_d1 D.d_d4 D.d_d0 D.d_c1 D.d_c5 D.d_b3 D.d_c3 D.d_c2 D.d_c4 D.d_d3 D.d_c6 D.d_c0 D.d_b4 D.d_d5 D.d_bc D.d_ce D.d_b0 D.d_b5 D.d_cf D.d_b6 D.d_bd D.d_be D.d_a3
 m_ba:mg "is_whole"=some (.ref D.a_ba)
 m_ae:mg "is_tuple_of"=some (.ref D.a_ae)
 m_ac:mg "common_part"=some (.ref D.a_ac)
 m_b9:mg "is_ratio"=some (.ref D.a_b9)
 m_c9:mg "is_name"=some (.ref D.a_c9)
 m_d6:mg "plus"=some (.ref D.a_d6)
 m_d2:mg "minus"=some (.ref D.a_d2)
 m_bb:mg "product"=some (.ref D.a_bb)
 m_cd:mg "parted"=some (.ref D.a_cd)
 m_c8:mg "is_less"=some (.ref D.a_c8)
 m_a4:mg "is_from_nought"=some (.ref D.a_a4)
 m_b1:mg "is_corner"=some (.ref D.a_b1)
 m_aa:mg "rate_between"=some (.ref D.a_aa)
 m_a0:mg "are_dearer_in_order"=some (.ref D.a_a0)
 m_a1:mg "are_ever_steeper"=some (.ref D.a_a1)
 m_b8:mg "is_offer"=some (.ref D.a_b8)
 m_b2:mg "smoothed"=some (.ref D.a_b2)
 m_a2:mg "is_number_below"=some (.ref D.a_a2)
 m_cc:mg "is_work"=some (.ref D.a_cc)
 m_ca:mg "is_wait"=some (.ref D.a_ca)
 m_c7:mg "is_hold"=some (.ref D.a_c7)
 m_b7:mg "is_group"=some (.ref D.a_b7)
 m_a6:mg "look_at_length"=some (.ref D.a_a6)
 m_a9:mg "look_at_works"=some (.ref D.a_a9)
 m_a8:mg "look_at_waits"=some (.ref D.a_a8)
 m_a7:mg "look_at_holds"=some (.ref D.a_a7)
 m_a5:mg "look_at_groups"=some (.ref D.a_a5)
 m_af:mg "look_at_net"=some (.ref D.a_af)
 m_ad:mg "is_straight"=some (.ref D.a_ad)
 m_ab:mg "smoothed_net"=some (.ref D.a_ab)
 m_bf:mg "_law_begun"=some (.ref D.a_bf)
 m_d1:mg "_law_take"=some (.ref D.a_d1)
 m_d4:mg "_law_low"=some (.ref D.a_d4)
 m_d0:mg "_law_plus"=some (.ref D.a_d0)
 m_c1:mg "_law_minus"=some (.ref D.a_c1)
 m_c5:mg "_law_times"=some (.ref D.a_c5)
 m_b3:mg "_law_amount"=some (.ref D.a_b3)
 m_c3:mg "_law_offer"=some (.ref D.a_c3)
 m_c2:mg "_law_names"=some (.ref D.a_c2)
 m_c4:mg "_law_order"=some (.ref D.a_c4)
 m_d3:mg "_law_lag"=some (.ref D.a_d3)
 m_c6:mg "_law_waits"=some (.ref D.a_c6)
 m_c0:mg "_law_holds"=some (.ref D.a_c0)
 m_b4:mg "_law_groups"=some (.ref D.a_b4)
 m_d5:mg "_law_net"=some (.ref D.a_d5)
 m_bc:mg "_law_alike"=some (.ref D.a_bc)
 m_ce:mg "_law_copy"=some (.ref D.a_ce)
 m_b0:mg "_law_greater"=some (.ref D.a_b0)
 m_b5:mg "_law_paired"=some (.ref D.a_b5)
 m_cf:mg "_law_lets"=some (.ref D.a_cf)
 m_b6:mg "_law_smooth"=some (.ref D.a_b6)
 m_bd:mg "_law_apart"=some (.ref D.a_bd)
 m_be:mg "_law_asked"=some (.ref D.a_be)
 m_a3:mg "_law_all_straight"=some (.ref D.a_a3)
 F_d7:Fun K "law" "law" s_d7 D.a_d7 D.d_d7
 m_d7:mg "law"=some (.ref D.a_d7)
 c_NOUGHT:mg "NOUGHT"=some (.ref D.k_NOUGHT)
 c_KINDS:mg "KINDS"=some (.ref D.k_KINDS)
 c_HOLD_KINDS:mg "HOLD_KINDS"=some (.ref D.k_HOLD_KINDS)
 z_abs:mg "abs"=none
 z_all:mg "all"=none
 z_bool:mg "bool"=none
 z_enumerate:mg "enumerate"=none
 z_int:mg "int"=none
 z_isinstance:mg "isinstance"=none
 z_len:mg "len"=none
 z_list:mg "list"=none
 z_max:mg "max"=none
 z_min:mg "min"=none
 z_range:mg "range"=none
 z_str:mg "str"=none
 z_tuple:mg "tuple"=none
 z_zip:mg "zip"=none
 c2_NOUGHT:Pu.GD K D.k_NOUGHT (dq 0)
 c2_KINDS:Pu.GD K D.k_KINDS (.tuple [.str "straight",.str "steps"])
 c2_HOLD_KINDS:Pu.GD K D.k_HOLD_KINDS (.tuple [.str "from",.str "till",.str "by"])
 ci_LONGEST_NAME:∃ t,mg "LONGEST_NAME"=some (.int 8 t)
 ci_MOST_CORNERS:∃ t,mg "MOST_CORNERS"=some (.int 5 t)
 ci_MOST_WORKS:∃ t,mg "MOST_WORKS"=some (.int 10 t)
 ci_MOST_WAITS:∃ t,mg "MOST_WAITS"=some (.int 40 t)
 ci_MOST_HOLDS:∃ t,mg "MOST_HOLDS"=some (.int 40 t)
 ci_MOST_GROUPS:∃ t,mg "MOST_GROUPS"=some (.int 4 t)
abbrev sp_law:=C0c
theorem scI {N P:List Str} {sc:Scope} (a:sc.kind=.function:=by rfl) (b:sc.isCoroutine=false:=by rfl) (c:sc.isGenerator=false:=by rfl) (d:N.Nodup:=by decide +kernel) (e:N.take P.length=P:=by rfl) (f:∀ x ∈ P,sc.names.lookup x=some .local\/sc.names.lookup x=some .cell:=by decide +kernel) (g:∀ y ∈ sc.names,y.2≠.free:=by decide +kernel):FnScope N P sc:=⟨a,b,c,d,e,f,g⟩
structure KCl (K:PySem.W.Frag) (mg:Str->Option Value) (x:Str) (f:Addr) (fd:FuncData) (ps:List Str):Prop where
 m:mg x=some (.ref f)
 k:PySem.W.keepIn K (.ref f)=true
 b:Binds K fd ps []
theorem qcK {X:Cx} {k:Nat} {f:Addr} {fd:FuncData} {ps:List Str} {sp:Sp} {x:Str} {p pos:Pos} {e:Expr} {es:List Expr} {t:TA} (F:FnOk X.prog X.w X.K X.mg X.base CX0 k f fd ps sp) (hr:Room k X.A) (c:KCl X.K X.mg x f fd ps) (ha:QA X (e :: es) t) (hg:Gl X x:=by rfl) (hdb:(x == ("__debug__":Str))=false:=by decide) (he:starEach (e :: es) X.env=(false,eval e X.env) :: starEach es X.env:=by rfl) (hpl:(backTo pos (starEach es X.env)).any (·.1)=false:=by rfl):QE X (.Call (.Name x p) (e :: es) [] pos) (A1z sp [] E0 t):=B5h F hr hg c.m c.k c.b .nil C7m ha hdb he hpl
theorem qgn {X:Cx} (i:Nat) {P:List Str} {sc:Scope} {x:Str} {pos:Pos} (S:FnScope X.N P sc) (hi:X.N[i]?=some x:=by rfl) (hx:Loc X.env.scope x:=by exact Or.inl rfl) (hf:X.fn x=true\/X.env.scope.names.lookup x=some .local:=by first | exact .inl rfl | exact .inr rfl | assumption):QG X (.Name x pos) (P2 i):=A47 S.nd hi hx hf
theorem qgc {X:Cx} (i:Nat) (N:List Str) {x:Str} {pos:Pos} (hN:X.N=N:=by exact rfl) (hd:N.Nodup:=by decide +kernel) (hi:X.N[i]?=some x:=by exact rfl) (hx:Loc X.env.scope x:=by exact Or.inl rfl) (hf:X.fn x=true\/X.env.scope.names.lookup x=some .local:=by exact Or.inr rfl):QG X (.Name x pos) (P2 i):=A47 (hN ▸ hd) hi hx hf
theorem qst {X:Cx} (i:Nat) {P:List Str} {sc:Scope} {x:Str} {e:Expr} {te:TE} {pos pos':Pos} (S:FnScope X.N P sc) (he:QE X e te) (hi:X.N[i]?=some x:=by rfl) (hx:Loc X.env.scope x:=by exact Or.inl rfl) (hs:swapsWith e (some (.Name x pos')) pos.line X.env=pure false:=by rfl) (hf:X.fn x=true\/X.env.scope.names.lookup x=some .local:=by first | exact .inl rfl | exact .inr rfl | assumption):QS X (.Assign [.Name x pos'] e pos) (tAsg te (P2 i)):=O2 S.nd hi hx he hs hf
theorem qln (K:PySem.W.Frag) {X:Cx} {p pos:Pos} {e:Expr} {te:TE} (hm:X.mg "len"=none) (he:QE X e te) (h:X.K=K:=by rfl) (hg:Gl X "len":=by rfl) (hs:starEach [e] X.env=(false,eval e X.env) :: starEach [] X.env:=by rfl) (hpl:(backTo pos (starEach [] X.env)).any (·.1)=false:=by rfl):QE X (.Call (.Name "len" p) [e] [] pos) (tCB (B5c K) (F9 te tNil)):=B0 (A74 h) hg hm PySem.boot_len (A0 he A1 hs) (by decide) (by decide) hs hpl
theorem qix (K:PySem.W.Frag) {X:Cx} {a b:Expr} {ta tb:TE} {pos:Pos} (ha:QE X a ta) (hb:QE X b tb) (h:X.K=K:=by rfl) (hs:A4o b:=by exact fun _ _=>rfl):QE X (.Subscript a b pos) (tOp (rIx K) ta tb):=C3t (C2k h) ha hb hs
theorem _root_.L2.Fun.b1 {K:PySem.W.Frag} {x q:Str} {st:Stmt} {f:Addr} {fd:FuncData} {a:Str} (F:L2.Fun K x q st f fd) (h:∀ (kV doc pm:Value) (an:Option Addr) (cdv ct u:Value),bindArgs (PySem.W.fnOf x q (K6 st) (J5 st) (A5 st) .none kV doc pm an cdv ct) ⟨[u],[]⟩=pure [(a,u)]:=by intros; rfl):Binds K fd [a] []:=F.binds (ps:=[a]) fun _ _ _ _ _ _ us hl=>by obtain ⟨_,rfl⟩:=us1 hl; exact h ..
theorem _root_.L2.Fun.b2 {K:PySem.W.Frag} {x q:Str} {st:Stmt} {f:Addr} {fd:FuncData} {a b:Str} (F:L2.Fun K x q st f fd) (h:∀ (kV doc pm:Value) (an:Option Addr) (cdv ct u v:Value),bindArgs (PySem.W.fnOf x q (K6 st) (J5 st) (A5 st) .none kV doc pm an cdv ct) ⟨[u,v],[]⟩=pure [(a,u),(b,v)]:=by intros; rfl):Binds K fd [a,b] []:=F.binds (ps:=[a,b]) fun _ _ _ _ _ _ us hl=>by obtain ⟨_,_,rfl⟩:=us2 hl; exact h ..
theorem _root_.L2.Fun.b3 {K:PySem.W.Frag} {x q:Str} {st:Stmt} {f:Addr} {fd:FuncData} {a b c:Str} (F:L2.Fun K x q st f fd) (h:∀ (kV doc pm:Value) (an:Option Addr) (cdv ct u v w:Value),bindArgs (PySem.W.fnOf x q (K6 st) (J5 st) (A5 st) .none kV doc pm an cdv ct) ⟨[u,v,w],[]⟩=pure [(a,u),(b,v),(c,w)]:=by intros; rfl):Binds K fd [a,b,c] []:=F.binds (ps:=[a,b,c]) fun _ _ _ _ _ _ us hl=>by obtain ⟨_,_,_,rfl⟩:=us3 hl; exact h ..
theorem _root_.L2.Fun.b4 {K:PySem.W.Frag} {x q:Str} {st:Stmt} {f:Addr} {fd:FuncData} {a b c d:Str} (F:L2.Fun K x q st f fd) (h:∀ (kV doc pm:Value) (an:Option Addr) (cdv ct u v w x1:Value),bindArgs (PySem.W.fnOf x q (K6 st) (J5 st) (A5 st) .none kV doc pm an cdv ct) ⟨[u,v,w,x1],[]⟩=pure [(a,u),(b,v),(c,w),(d,x1)]:=by intros; rfl):Binds K fd [a,b,c,d] []:=F.binds (ps:=[a,b,c,d]) fun _ _ _ _ _ _ us hl=>by obtain ⟨_,_,_,_,rfl⟩:=us4 hl; exact h ..
theorem _root_.L2.Fun.b6 {K:PySem.W.Frag} {x q:Str} {st:Stmt} {f:Addr} {fd:FuncData} {a b c d e g:Str} (F:L2.Fun K x q st f fd) (h:∀ (kV doc pm:Value) (an:Option Addr) (cdv ct u v w x1 y z:Value),bindArgs (PySem.W.fnOf x q (K6 st) (J5 st) (A5 st) .none kV doc pm an cdv ct) ⟨[u,v,w,x1,y,z],[]⟩=pure [(a,u),(b,v),(c,w),(d,x1),(e,y),(g,z)]:=by intros; rfl):Binds K fd [a,b,c,d,e,g] []:=F.binds (ps:=[a,b,c,d,e,g]) fun _ _ _ _ _ _ us hl=>by obtain ⟨_,_,_,_,_,_,rfl⟩:=us6 hl; exact h ..
def Zz:=@Pu.spOf.len
def Zf:=@PassesOwn.never
section
variable {K:PySem.W.Frag} {mg:Str->Option Value} {D:Adr}
theorem sc_ba:FnScope ["thing"] ["thing"] (A5 s_ba):=scI
theorem Y9 (T:Txt K mg D):KCl K mg "is_whole" D.a_ba D.d_ba ["thing"]:=⟨T.m_ba,T.B.F_ba.kp,T.B.F_ba.b1⟩
theorem sc_ae:FnScope ["thing","many"] ["thing","many"] (A5 s_ae):=scI
theorem G9 (T:Txt K mg D):KCl K mg "is_tuple_of" D.a_ae D.d_ae ["thing","many"]:=⟨T.m_ae,T.B.F_ae.kp,T.B.F_ae.b2⟩
theorem sc_ac:FnScope ["one","other"] ["one","other"] (A5 s_ac):=scI
theorem K4 (T:Txt K mg D):KCl K mg "common_part" D.a_ac D.d_ac ["one","other"]:=⟨T.m_ac,T.B.F_ac.kp,T.B.F_ac.b2⟩
theorem sc_b9:FnScope ["thing","top","bottom"] ["thing"] (A5 s_b9):=scI
theorem Z0 (T:Txt K mg D):KCl K mg "is_ratio" D.a_b9 D.d_b9 ["thing"]:=⟨T.m_b9,T.B.F_b9.kp,T.B.F_b9.b1⟩
theorem sc_c9:FnScope ["thing"] ["thing"] (A5 s_c9):=scI
theorem B60 (T:Txt K mg D):KCl K mg "is_name" D.a_c9 D.d_c9 ["thing"]:=⟨T.m_c9,T.B.F_c9.kp,T.B.F_c9.b1⟩
theorem sc_d6:FnScope ["one","other","shared","mine","theirs","top","rest"] ["one","other"] (A5 s_d6):=scI
theorem C6w (T:Txt K mg D):KCl K mg "plus" D.a_d6 D.d_d6 ["one","other"]:=⟨T.m_d6,T.B.F_d6.kp,T.B.F_d6.b2⟩
theorem sc_d2:FnScope ["one","other"] ["one","other"] (A5 s_d2):=scI
theorem B4s (T:Txt K mg D):KCl K mg "minus" D.a_d2 D.d_d2 ["one","other"]:=⟨T.m_d2,T.B.F_d2.kp,T.B.F_d2.b2⟩
theorem sc_bb:FnScope ["one","other","mine","theirs"] ["one","other"] (A5 s_bb):=scI
theorem B4r (T:Txt K mg D):KCl K mg "product" D.a_bb D.d_bb ["one","other"]:=⟨T.m_bb,T.B.F_bb.kp,T.B.F_bb.b2⟩
theorem sc_cd:FnScope ["one","other","top","bottom"] ["one","other"] (A5 s_cd):=scI
theorem B6x (T:Txt K mg D):KCl K mg "parted" D.a_cd D.d_cd ["one","other"]:=⟨T.m_cd,T.B.F_cd.kp,T.B.F_cd.b2⟩
theorem sc_c8:FnScope ["one","other"] ["one","other"] (A5 s_c8):=scI
theorem R6 (T:Txt K mg D):KCl K mg "is_less" D.a_c8 D.d_c8 ["one","other"]:=⟨T.m_c8,T.B.F_c8.kp,T.B.F_c8.b2⟩
theorem sc_a4:FnScope ["thing"] ["thing"] (A5 s_a4):=scI
theorem P6 (T:Txt K mg D):KCl K mg "is_from_nought" D.a_a4 D.d_a4 ["thing"]:=⟨T.m_a4,T.B.F_a4.kp,T.B.F_a4.b1⟩
theorem sc_b1:FnScope ["thing"] ["thing"] (A5 s_b1):=scI
theorem A77 (T:Txt K mg D):KCl K mg "is_corner" D.a_b1 D.d_b1 ["thing"]:=⟨T.m_b1,T.B.F_b1.kp,T.B.F_b1.b1⟩
theorem sc_aa:FnScope ["longer","quicker"] ["longer","quicker"] (A5 s_aa):=scI
theorem N6 (T:Txt K mg D):KCl K mg "rate_between" D.a_aa D.d_aa ["longer","quicker"]:=⟨T.m_aa,T.B.F_aa.kp,T.B.F_aa.b2⟩
theorem sc_a0:FnScope ["corners","at","ahead","corner"] ["corners"] (A5 s_a0):=scI
theorem R7 (T:Txt K mg D):KCl K mg "are_dearer_in_order" D.a_a0 D.d_a0 ["corners"]:=⟨T.m_a0,T.B.F_a0.kp,T.B.F_a0.b1⟩
theorem sc_a1:FnScope ["corners","rates"] ["corners"] (A5 s_a1):=scI
theorem U7 (T:Txt K mg D):KCl K mg "are_ever_steeper" D.a_a1 D.d_a1 ["corners"]:=⟨T.m_a1,T.B.F_a1.kp,T.B.F_a1.b1⟩
theorem sc_b8:FnScope ["thing","kind","corners"] ["thing"] (A5 s_b8):=scI
theorem B4t (T:Txt K mg D):KCl K mg "is_offer" D.a_b8 D.d_b8 ["thing"]:=⟨T.m_b8,T.B.F_b8.kp,T.B.F_b8.b1⟩
theorem sc_b2:FnScope ["offer","kept","corner"] ["offer"] (A5 s_b2):=scI
theorem A0w (T:Txt K mg D):KCl K mg "smoothed" D.a_b2 D.d_b2 ["offer"]:=⟨T.m_b2,T.B.F_b2.kp,T.B.F_b2.b1⟩
theorem sc_a2:FnScope ["thing","many"] ["thing","many"] (A5 s_a2):=scI
theorem J6 (T:Txt K mg D):KCl K mg "is_number_below" D.a_a2 D.d_a2 ["thing","many"]:=⟨T.m_a2,T.B.F_a2.kp,T.B.F_a2.b2⟩
theorem sc_cc:FnScope ["thing","ahead"] ["thing","ahead"] (A5 s_cc):=scI
theorem B6y (T:Txt K mg D):KCl K mg "is_work" D.a_cc D.d_cc ["thing","ahead"]:=⟨T.m_cc,T.B.F_cc.kp,T.B.F_cc.b2⟩
theorem sc_ca:FnScope ["thing","many","one","other","wait"] ["thing","many"] (A5 s_ca):=scI
theorem B6z (T:Txt K mg D):KCl K mg "is_wait" D.a_ca D.d_ca ["thing","many"]:=⟨T.m_ca,T.B.F_ca.kp,T.B.F_ca.b2⟩
theorem sc_c7:FnScope ["thing","many","kind","work","moment"] ["thing","many"] (A5 s_c7):=scI
theorem B61 (T:Txt K mg D):KCl K mg "is_hold" D.a_c7 D.d_c7 ["thing","many"]:=⟨T.m_c7,T.B.F_c7.kp,T.B.F_c7.b2⟩
theorem sc_b7:FnScope ["thing","works","ahead","taken","number","bound"] ["thing","works","ahead"] (A5 s_b7):=scI
theorem B4u (T:Txt K mg D):KCl K mg "is_group" D.a_b7 D.d_b7 ["thing","works","ahead"]:=⟨T.m_b7,T.B.F_b7.kp,T.B.F_b7.b3⟩
theorem sc_a6:FnScope ["part","thing","least","most"] ["part","thing","least","most"] (A5 s_a6):=scI
theorem K1 (T:Txt K mg D):KCl K mg "look_at_length" D.a_a6 D.d_a6 ["part","thing","least","most"]:=⟨T.m_a6,T.B.F_a6.kp,T.B.F_a6.b4⟩
theorem sc_a9:FnScope ["works","at","work"] ["works"] (A5 s_a9):=scI
theorem A1o (T:Txt K mg D):KCl K mg "look_at_works" D.a_a9 D.d_a9 ["works"]:=⟨T.m_a9,T.B.F_a9.kp,T.B.F_a9.b1⟩
theorem sc_a8:FnScope ["waits","many","at","wait"] ["waits","many"] (A5 s_a8):=scI
theorem A1p (T:Txt K mg D):KCl K mg "look_at_waits" D.a_a8 D.d_a8 ["waits","many"]:=⟨T.m_a8,T.B.F_a8.kp,T.B.F_a8.b2⟩
theorem sc_a7:FnScope ["holds","many","at","hold"] ["holds","many"] (A5 s_a7):=scI
theorem A1q (T:Txt K mg D):KCl K mg "look_at_holds" D.a_a7 D.d_a7 ["holds","many"]:=⟨T.m_a7,T.B.F_a7.kp,T.B.F_a7.b2⟩
theorem sc_a5:FnScope ["groups","works","at","group"] ["groups","works"] (A5 s_a5):=scI
theorem A0g (T:Txt K mg D):KCl K mg "look_at_groups" D.a_a5 D.d_a5 ["groups","works"]:=⟨T.m_a5,T.B.F_a5.kp,T.B.F_a5.b2⟩
theorem sc_af:FnScope ["thing","works","waits","holds","groups"] ["thing"] (A5 s_af):=scI
theorem A4m (T:Txt K mg D):KCl K mg "look_at_net" D.a_af D.d_af ["thing"]:=⟨T.m_af,T.B.F_af.kp,T.B.F_af.b1⟩
theorem sc_ad:FnScope ["net"] ["net"] (A5 s_ad):=scI
theorem U3 (T:Txt K mg D):KCl K mg "is_straight" D.a_ad D.d_ad ["net"]:=⟨T.m_ad,T.B.F_ad.kp,T.B.F_ad.b1⟩
theorem sc_ab:FnScope ["net","works","waits","holds"] ["net"] (A5 s_ab):=scI
theorem K8 (T:Txt K mg D):KCl K mg "smoothed_net" D.a_ab D.d_ab ["net"]:=⟨T.m_ab,T.B.F_ab.kp,T.B.F_ab.b1⟩
theorem sc_bf:FnScope ["_law_script","_law_k","_law_cell"] ["_law_script","_law_k"] (A5 s_bf):=scI
theorem R8 (T:Txt K mg D):KCl K mg "_law_begun" D.a_bf D.d_bf ["_law_script","_law_k"]:=⟨T.m_bf,T.B.F_bf.kp,T.B.F_bf.b2⟩
theorem sc_d1:FnScope ["_law_state","_law_many","_law_digit","_law_made","_law_turn"] ["_law_state","_law_many"] (A5 s_d1):=scI
theorem C9 (T:Txt K mg D):KCl K mg "_law_take" D.a_d1 D.d_d1 ["_law_state","_law_many"]:=⟨T.m_d1,T.B.F_d1.kp,T.B.F_d1.b2⟩
theorem sc_d4:FnScope ["_law_top","_law_bottom","_law_one","_law_other"] ["_law_top","_law_bottom"] (A5 s_d4):=scI
theorem A62 (T:Txt K mg D):KCl K mg "_law_low" D.a_d4 D.d_d4 ["_law_top","_law_bottom"]:=⟨T.m_d4,T.B.F_d4.kp,T.B.F_d4.b2⟩
theorem sc_d0:FnScope ["_law_one","_law_other"] ["_law_one","_law_other"] (A5 s_d0):=scI
theorem T9 (T:Txt K mg D):KCl K mg "_law_plus" D.a_d0 D.d_d0 ["_law_one","_law_other"]:=⟨T.m_d0,T.B.F_d0.kp,T.B.F_d0.b2⟩
theorem sc_c1:FnScope ["_law_one","_law_other"] ["_law_one","_law_other"] (A5 s_c1):=scI
theorem A1t (T:Txt K mg D):KCl K mg "_law_minus" D.a_c1 D.d_c1 ["_law_one","_law_other"]:=⟨T.m_c1,T.B.F_c1.kp,T.B.F_c1.b2⟩
theorem sc_c5:FnScope ["_law_one","_law_other"] ["_law_one","_law_other"] (A5 s_c5):=scI
theorem B63 (T:Txt K mg D):KCl K mg "_law_times" D.a_c5 D.d_c5 ["_law_one","_law_other"]:=⟨T.m_c5,T.B.F_c5.kp,T.B.F_c5.b2⟩
theorem sc_b3:FnScope ["_law_state","_law_plain","_law_least","_law_way","_law_bottom"] ["_law_state","_law_plain","_law_least"] (A5 s_b3):=scI
theorem M6 (T:Txt K mg D):KCl K mg "_law_amount" D.a_b3 D.d_b3 ["_law_state","_law_plain","_law_least"]:=⟨T.m_b3,T.B.F_b3.kp,T.B.F_b3.b3⟩
theorem sc_c3:FnScope ["_law_state","_law_kind","_law_most","_law_plain","_law_many","_law_time","_law_price","_law_gaps","_law_gap","_law_corners","_law_rate","_law_step"] ["_law_state","_law_kind","_law_most","_law_plain"] (A5 s_c3):=scI
theorem A1s (T:Txt K mg D):KCl K mg "_law_offer" D.a_c3 D.d_c3 ["_law_state","_law_kind","_law_most","_law_plain"]:=⟨T.m_c3,T.B.F_c3.kp,T.B.F_c3.b4⟩
theorem sc_c2:FnScope ["_law_state","_law_many","_law_way","_law_turn","_law_base","_law_at","_law_words","_law_made","_law_k","_law_letters"] ["_law_state","_law_many"] (A5 s_c2):=scI
theorem B64 (T:Txt K mg D):KCl K mg "_law_names" D.a_c2 D.d_c2 ["_law_state","_law_many"]:=⟨T.m_c2,T.B.F_c2.kp,T.B.F_c2.b2⟩
theorem sc_c4:FnScope ["_law_state","_law_many","_law_left","_law_made"] ["_law_state","_law_many"] (A5 s_c4):=scI
theorem A1r (T:Txt K mg D):KCl K mg "_law_order" D.a_c4 D.d_c4 ["_law_state","_law_many"]:=⟨T.m_c4,T.B.F_c4.kp,T.B.F_c4.b2⟩
theorem sc_d3:FnScope ["_law_state","_law_plain","_law_lag_here"] ["_law_state","_law_plain"] (A5 s_d3):=scI
theorem A63 (T:Txt K mg D):KCl K mg "_law_lag" D.a_d3 D.d_d3 ["_law_state","_law_plain"]:=⟨T.m_d3,T.B.F_d3.kp,T.B.F_d3.b2⟩
theorem sc_c6:FnScope ["_law_state","_law_many","_law_plain","_law_order_here","_law_rare","_law_made","_law_k","_law_j","_law_far"] ["_law_state","_law_many","_law_plain"] (A5 s_c6):=scI
theorem B62 (T:Txt K mg D):KCl K mg "_law_waits" D.a_c6 D.d_c6 ["_law_state","_law_many","_law_plain"]:=⟨T.m_c6,T.B.F_c6.kp,T.B.F_c6.b3⟩
theorem sc_c0:FnScope ["_law_state","_law_many","_law_plain","_law_late","_law_made","_law_k","_law_kind","_law_moment"] ["_law_state","_law_many","_law_plain","_law_late"] (A5 s_c0):=scI
theorem B65 (T:Txt K mg D):KCl K mg "_law_holds" D.a_c0 D.d_c0 ["_law_state","_law_many","_law_plain","_law_late"]:=⟨T.m_c0,T.B.F_c0.kp,T.B.F_c0.b4⟩
theorem sc_b4:FnScope ["_law_state","_law_works","_law_left","_law_made","_law_size","_law_alike_here"] ["_law_state","_law_works"] (A5 s_b4):=scI
theorem B4x (T:Txt K mg D):KCl K mg "_law_groups" D.a_b4 D.d_b4 ["_law_state","_law_works"]:=⟨T.m_b4,T.B.F_b4.kp,T.B.F_b4.b2⟩
theorem sc_d5:FnScope ["_law_script","_law_at","_law_most","_law_corners","_law_kinds","_law_plain","_law_state","_law_many","_law_names_here","_law_works","_law_late","_law_name","_law_offer_here","_law_waits_here","_law_holds_here"] ["_law_script","_law_at","_law_most","_law_corners","_law_kinds","_law_plain"] (A5 s_d5):=scI
theorem C6x (T:Txt K mg D):KCl K mg "_law_net" D.a_d5 D.d_d5 ["_law_script","_law_at","_law_most","_law_corners","_law_kinds","_law_plain"]:=⟨T.m_d5,T.B.F_d5.kp,T.B.F_d5.b6⟩
theorem sc_bc:FnScope ["_law_found","_law_due"] ["_law_found","_law_due"] (A5 s_bc):=scI
theorem N7 (T:Txt K mg D):KCl K mg "_law_alike" D.a_bc D.d_bc ["_law_found","_law_due"]:=⟨T.m_bc,T.B.F_bc.kp,T.B.F_bc.b2⟩
theorem sc_ce:FnScope ["_law_net_here","_law_works"] ["_law_net_here"] (A5 s_ce):=scI
theorem A1u (T:Txt K mg D):KCl K mg "_law_copy" D.a_ce D.d_ce ["_law_net_here"]:=⟨T.m_ce,T.B.F_ce.kp,T.B.F_ce.b1⟩
theorem sc_b0:FnScope ["_law_state","_law_net_here","_law_works","_law_waits_here","_law_holds_here","_law_groups_here","_law_taken","_law_name","_law_one"] ["_law_state","_law_net_here"] (A5 s_b0):=scI
theorem A78 (T:Txt K mg D):KCl K mg "_law_greater" D.a_b0 D.d_b0 ["_law_state","_law_net_here"]:=⟨T.m_b0,T.B.F_b0.kp,T.B.F_b0.b2⟩
theorem sc_b5:FnScope ["_law_state","_law_net_here","_law_works","_law_pairs"] ["_law_state","_law_net_here"] (A5 s_b5):=scI
theorem B4v (T:Txt K mg D):KCl K mg "_law_paired" D.a_b5 D.d_b5 ["_law_state","_law_net_here"]:=⟨T.m_b5,T.B.F_b5.kp,T.B.F_b5.b2⟩
theorem sc_cf:FnScope ["_law_net_here"] ["_law_net_here"] (A5 s_cf):=scI
theorem B4w (T:Txt K mg D):KCl K mg "_law_lets" D.a_cf D.d_cf ["_law_net_here"]:=⟨T.m_cf,T.B.F_cf.kp,T.B.F_cf.b1⟩
theorem sc_b6:FnScope ["_law_net_here","_law_told","_law_one","_law_other"] ["_law_net_here","_law_told"] (A5 s_b6):=scI
theorem A3k (T:Txt K mg D):KCl K mg "_law_smooth" D.a_b6 D.d_b6 ["_law_net_here","_law_told"]:=⟨T.m_b6,T.B.F_b6.kp,T.B.F_b6.b2⟩
theorem sc_bd:FnScope ["_law_net_here","_law_twin","_law_told","_law_due"] ["_law_net_here"] (A5 s_bd):=scI
theorem B66 (T:Txt K mg D):KCl K mg "_law_apart" D.a_bd D.d_bd ["_law_net_here"]:=⟨T.m_bd,T.B.F_bd.kp,T.B.F_bd.b1⟩
theorem sc_be:FnScope ["_law_net_here","_law_handed","_law_straight","_law_told","_law_again"] ["_law_net_here"] (A5 s_be):=scI
theorem A64 (T:Txt K mg D):KCl K mg "_law_asked" D.a_be D.d_be ["_law_net_here"]:=⟨T.m_be,T.B.F_be.kp,T.B.F_be.b1⟩
theorem sc_a3:FnScope ["_law_net_here"] ["_law_net_here"] (A5 s_a3):=scI
theorem A0h (T:Txt K mg D):KCl K mg "_law_all_straight" D.a_a3 D.d_a3 ["_law_net_here"]:=⟨T.m_a3,T.B.F_a3.kp,T.B.F_a3.b1⟩
theorem sc_d7:FnScope ["_law_script","_law_at","_law_state","_law_kinds","_law_net_here","_law_other"] ["_law_script"] (A5 s_d7):=scI
end
theorem A2s:(PyData.str "steps").canLay0=true:=by decide +kernel
theorem U2:(PyData.str "straight").canLay0=true:=by decide +kernel
theorem B9u:PyData.eqv (.str "steps") (.str "steps")=true:=by decide +kernel
theorem C6n:PyData.eqv (.str "straight") (.str "straight")=true:=by decide +kernel
theorem C6o:PyData.eqv (.str "straight") (.str "steps")=false:=by decide +kernel
def offD (kd:Str) (cs:LR):PyData:=.tuple [.str kd,.list (cs.map dcn)]
def Kd (kd:Str):Prop:=kd="straight"\/kd="steps"
theorem Kd.lay {kd:Str} (h:Kd kd):(PyData.str kd).canLay0=true:=by rcases h with rfl | rfl; exact U2; exact A2s
def C5 (c d:Rat × Rat):Rat:=(d.2 - c.2) / (c.1 - d.1)
def OffT (t0:OT) (kd:Str) (cs:LR):Prop:=t0=.leaf (.tuple [.str kd,.list (cs.map dcn)])\/∃ a b,t0=.nd false a (.cons (.leaf (.str kd)) (.cons (.nd true b (B1 (cs.map dcn))) .nil))
def P9 (c d:Rat × Rat) (t:Rat):Rat:=c.2 + C5 c d * (c.1 - t)
theorem C68 {c d:Rat × Rat} (h:d.1 < c.1) (h1:SmR 161 85 c.1) (h2:SmR 285 151 c.2) (h3:SmR 161 85 d.1) (h4:SmR 285 151 d.2):SmR 607 549 (C5 c d) :=
 ((h4.sub h2).div (h1.sub h3) (by grind)).mono (by decide) (by decide)
theorem C7v:("steps":Str)≠"straight":=by decide +kernel
def lm (vs:List Rat) (m:Rat):Rat:=vs.foldl (fun m v=>if v < m then v else m) m
theorem C7s:∀ (vs:List Rat) (m:Rat),lm vs m<=m/\∀ v ∈ vs,lm vs m<=v
 | [],m=>⟨Rat.le_refl,fun v h=>absurd h (by simp)⟩
 | v :: r,m=>by
  obtain ⟨h1,h2⟩:=C7s r (if v < m then v else m);have e:lm (v :: r) m=lm r (if v < m then v else m):=rfl;rw [e];have h3:(if v < m then v else m)<=m/\(if v < m then v else m)<=v:=by
   split
   ·constructor <;> grind
   ·constructor <;> grind
  refine ⟨by grind,fun x hx=>?_⟩;rcases List.mem_cons.mp hx with rfl | hx
  ·grind
  ·exact h2 x hx
def val (q:Rat) (c:Rat × Rat):Rat:=c.2 + q * c.1
theorem C22 {q m t:Rat} {c d:Rat × Rat} (hcd:d.1 < c.1) (h1:m<=val q c) (h2:m<=val q d) (t1:d.1<=t) (t2:t<=c.1):¬ P9 c d t + q * t < m:=by
 have hn:c.1 - d.1≠0:=by grind
 have hp:0 < c.1 - d.1:=by grind
 obtain ⟨x,hx⟩:∃ x,x=(c.1 - t) / (c.1 - d.1):=⟨_,rfl⟩;have hx1:x * (c.1 - d.1)=c.1 - t:=by rw [hx]; exact Rat.div_mul_cancel hn
 have x0:0<=x:=by
  refine Rat.le_of_mul_le_mul_right (c:=c.1 - d.1) ?_ hp;rw [hx1]; grind
 have x1:x<=1:=by
  refine Rat.le_of_mul_le_mul_right (c:=c.1 - d.1) ?_ hp;rw [hx1]; grind
 have e1:C5 c d * (c.1 - t)=(d.2 - c.2) * x:=by
  unfold C5;rw [hx,Rat.div_def,Rat.div_def]; grind
 have e2:P9 c d t + q * t=(1 - x) * val q c + x * val q d:=by
  unfold P9 val;rw [e1];have ht:t=c.1 - x * (c.1 - d.1):=by grind
  rw [ht]; grind
 have a1:0<=(1 - x) * (val q c - m):=Rat.mul_nonneg (by grind) (by grind);have a2:0<=x * (val q d - m):=Rat.mul_nonneg x0 (by grind);rw [e2];grind
theorem OfOk.up {cs:LR} {a b c d a' b' c' d':Nat} (h:OfOk cs a b c d) (h1:a<=a') (h2:b<=b') (h3:c<=c') (h4:d<=d'):OfOk cs a' b' c' d' :=
 ⟨h.ne,h.le,h.dec,fun x hx=>⟨(h.sm x hx).1.mono h1 h2,(h.sm x hx).2.mono h3 h4⟩⟩
theorem C5e {kd:Str} (cs:LR) (h:(PyData.str kd).canLay0=true):(PyData.tuple [.str kd,.list (cs.map dcn)]).canLay0=true:=by
 show ((PyData.str kd).canLay0 && (PyData.canLayAll0 (cs.map dcn) && true))=true;rw [h,B4e]; rfl
theorem smr0:SmR 1 1 0:=⟨by unfold Sm; decide,by unfold Sm; decide⟩
theorem smq0:SmQ 3900 0:=⟨smr0.1.mono (by decide),smr0.2.mono (by decide)⟩
def CvI (l:LR):Prop:=∀ (i:Nat) a b c,l[i]?=some a->l[i + 1]?=some b->l[i + 2]?=some c->C5 a b < C5 b c
def Ltt (l:LR):Prop:=l.Pairwise fun a b=>b.1 < a.1
theorem A4p:∀ {l:LR},Dec l->Ltt l
 | [],_=>.nil
 | _ :: _,h=>.cons (fun d hd=>h.lt d hd) (A4p h.tail)
theorem M1 {a b:Rat × Rat} (h:b.1 < a.1):C5 a b * (a.1 - b.1)=b.2 - a.2:=by unfold C5; exact Rat.div_mul_cancel (by grind)
theorem CvI.push {l:LR} {c:Rat × Rat} (H:CvI l) (h:∀ A a b,l=A++[a,b]->C5 a b < C5 b c):CvI (l++[c]):=by
 intro j x y z h1 h2 h3;have hl:j + 2 < l.length + 1:=by have:=(Zs h3).1; simpa using this
 rcases (show j + 2 < l.length\/j + 2=l.length by omega) with q | q
 ·rw [List.getElem?_append_left (by omega)] at h1 h2 h3;exact H j x y z h1 h2 h3
 ·rw [List.getElem?_append_left (by omega)] at h1 h2;rw [List.getElem?_append_right (by omega),q,Nat.sub_self] at h3;cases h3;refine h (l.take j) x y ?_;have e1:l.drop j=[x,y]:=by
   refine List.ext_getElem? fun k=>?_;rw [List.getElem?_drop];match k with
   | 0=>simpa using h1
   | 1=>simpa using h2
   | k + 2=>simp; omega
  rw [<- e1,List.take_append_drop]
def CvR (l:LR) (R:Rat):Prop:=CvI l/\∀ A a b,l=A++[a,b]->C5 a b=R
theorem CvR.one (c:Rat × Rat):CvR [c] 0:=by
 refine ⟨fun i a b d h1 h2 h3=>?_,fun A a b e=>?_⟩
 ·have:=(Zs h3).1; simp at this
 ·have:=congrArg List.length e; simp at this
theorem CvR.step {cs:LR} {T P R q v v2:Rat} (q0:0 < q) (v0:0 < v) (hv:v2=(R + v) * q) (h:CvR (cs++[(T,P)]) R):CvR (cs++[(T,P)]++[(T - q,P + v2)]) (R + v):=by
 have es:C5 (T,P) (T - q,P + v2)=R + v:=by
  have e:=M1 (a:=(T,P)) (b:=(T - q,P + v2)) (by show T - q < T; grind);have e':C5 (T,P) (T - q,P + v2) * q=(R + v) * q:=by
   rw [<- hv];have:C5 (T,P) (T - q,P + v2) * (T - (T - q))=P + v2 - P:=e;grind
  have hq:q≠0:=by grind
  rw [<- Rat.mul_div_cancel (b:=q) hq (a:=C5 (T,P) (T - q,P + v2)),e',Rat.mul_div_cancel hq]
 refine ⟨h.1.push fun A a b e=>?_,fun A a b e=>?_⟩
 ·have hb:b=(T,P):=by
   have e':cs++[(T,P)]=(A++[a])++[b]:=by rw [e]; simp
   have:=(List.append_inj' e' rfl).2;cases this; rfl
  have:=h.2 A a b e;rw [this,hb,es]; grind
 ·have e':cs++[(T,P),(T - q,P + v2)]=A++[a,b]:=by rw [<- e]; simp
  have:=(List.append_inj' e' rfl).2;cases this; exact es
theorem A6x {α:Type} {f:α->PyData} {xs:List α} {n:Nat} (h:n<=xs.length):cutD (xs.map f) none (some (n:Int))=(xs.take n).map f:=by
 unfold cutD;rw [HT.sIx_none,show HT.sIx (xs.map f).length (xs.map f).length (some (n:Int))=min n xs.length by rw [Zl]; exact HT.sIx_nat _ _ n,List.map_take];rw [Nat.min_eq_left h]; simp
def RiseO (cs:LR):Prop:=∀ (i:Nat) c d,cs[i]?=some c->cs[i + 1]?=some d->d.1 < c.1/\c.2 < d.2
theorem RiseO.one (c:Rat × Rat):RiseO [c]:=fun i a b _ h=>by rw [List.getElem?_eq_none (by simp)] at h; cases h
theorem RiseO.snoc {cs:LR} {c d:Rat × Rat} (h:RiseO (cs++[c])) (h1:d.1 < c.1) (h2:c.2 < d.2):RiseO (cs++[c]++[d]):=fun i a b ha hb=>by
 rcases Nat.lt_trichotomy (i + 1) (cs++[c]).length with z | z | z
 ·rw [List.getElem?_append_left (by omega)] at ha;rw [List.getElem?_append_left z] at hb;exact h i a b ha hb
 ·rw [List.getElem?_append_left (by omega)] at ha;rw [z,List.getElem?_append_right (Zv _),Nat.sub_self] at hb;have hi:i=cs.length:=by simp at z; exact z
  rw [hi,List.getElem?_append_right (Zv _),Nat.sub_self] at ha;cases ha; cases hb;exact ⟨h1,h2⟩
 ·rw [List.getElem?_eq_none (by simp at z ⊢; omega)] at hb; cases hb
def sumR (qs:List Rat):Rat:=qs.foldr (· + ·) 0
theorem A10:∀ (qs:List Rat) (q:Rat),sumR (qs++[q])=sumR qs + q
 | [],q=>by show q + 0=0 + q; grind
 | p :: r,q=>by
  have h:=A10 r q;show p + sumR (r++[q])=p + sumR r + q;rw [h]; grind
theorem A01:∀ {qs:List Rat},(∀ q ∈ qs,0 < q)->0<=sumR qs
 | [],_=>Rat.le_refl
 | p :: r,h=>by
  have h1:=A01 (qs:=r) fun q hq=>h q (Zr _ hq);have h2:=h p Zy;show 0<=p + sumR r;grind
structure OfG (kd:Str) (cs:LR) (a b c d:Nat):Prop where
 ok:OfOk cs a b c d
 nn:∀ x ∈ cs,0<=x.1/\0<=x.2
 up:RiseO cs
 cv:kd="straight"->CvI cs
def wD (w:Int × Int × Rat):PyData:=.tuple [.int w.1,.int w.2.1,dq w.2.2]
def hD (h:Str × Int × Rat):PyData:=.tuple [.str h.1,.int h.2.1,dq h.2.2]
def On (B k:Nat) (q:Rat):Prop:=∃ z:Int,q=Rat.divInt z (B:Int)/\z.natAbs<=k * B
theorem On.mono {B k l:Nat} {q:Rat} (h:On B k q) (g:k<=l):On B l q:=let ⟨z,e,b⟩:=h; ⟨z,e,Zx b (Zu _ g)⟩
theorem On.add {B k l:Nat} {p q:Rat} (hB:0 < B) (h:On B k p) (g:On B l q):On B (k + l) (p + q):=by
 obtain ⟨z,rfl,b⟩:=h;obtain ⟨y,rfl,c⟩:=g;have hn:(B:Int)≠0:=by omega
 refine ⟨z + y,?_,Zx (Int.natAbs_add_le _ _) (by rw [Nat.add_mul]; omega)⟩;rw [Rat.divInt_add_divInt _ _ hn hn,<- Int.add_mul,Rat.divInt_mul_right hn]
theorem On.neg {B k:Nat} {p:Rat} (h:On B k p):On B k (-p):=by
 obtain ⟨z,rfl,b⟩:=h;exact ⟨-z,by rw [Rat.neg_divInt],by rw [Int.natAbs_neg]; exact b⟩
theorem On.sub {B k l:Nat} {p q:Rat} (hB:0 < B) (h:On B k p) (g:On B l q):On B (k + l) (p - q):=by
 rw [Rat.sub_eq_add_neg]; exact h.add hB g.neg
theorem On.of {B a b:Nat} {q:Rat} (hB:0 < B) (h:SmR a b q) (d:q.den ∣ B):On B (2 ^ a) q:=by
 obtain ⟨c,rfl⟩:=d;have hd:=q.den_pos;by_cases hc:c=0
 ·subst hc; rw [Nat.mul_zero] at hB; exact absurd hB (Nat.lt_irrefl _)
 ·refine ⟨q.num * c,?_,?_⟩
  ·rw [Int.natCast_mul,Rat.divInt_mul_right (by omega),Rat.num_divInt_den]
  ·rw [Int.natAbs_mul,Int.natAbs_natCast];have h1:q.num.natAbs<=2 ^ a:=Nat.le_of_lt h.1;exact Nat.mul_le_mul h1 (Nat.le_mul_of_pos_left _ hd)
theorem On.zero {B:Nat}:On B 0 0:=⟨0,by rw [Rat.zero_divInt],by simp⟩
theorem On.q {B k:Nat} {q:Rat} (hB:0 < B) (h:On B k q) (g:k * B < 2 ^ 3900) (g2:B < 2 ^ 3900):SmQ 3900 q:=by
 obtain ⟨z,rfl,b⟩:=h;have:=SmR.low (n:=3900) (d:=3900) (t:=z) (b:=(B:Int)) (Nat.lt_of_le_of_lt b g) (by unfold Sm; rw [Int.natAbs_natCast]; exact g2) (by omega);exact ⟨this.1,this.2⟩
theorem On.up {B C k:Nat} {q:Rat} (hC:0 < C) (h:On B k q):On (B * C) k q:=by
 obtain ⟨z,rfl,b⟩:=h;refine ⟨z * C,by rw [Int.natCast_mul,Rat.divInt_mul_right (by omega)],?_⟩;rw [Int.natAbs_mul,Int.natAbs_natCast,<- Nat.mul_assoc];exact Zu _ b
theorem N5 {a b:Str}:PyData.eqv (.str a) (.str b)=decide (a=b):=by
 rw [Bool.eq_iff_iff,decide_eq_true_eq];simp [PyData.eqv]
def LL:Nat:=591133442051411133755680800
theorem L4:0 < LL:=by decide
theorem C50 {d:Nat} (h0:0 < d) (h:d < 64):d ∣ LL:=by
 have k:∀ d:Fin 64,d.val=0\/LL % d.val=0:=by decide +kernel
 rcases k ⟨d,h⟩ with z | z
 ·exact absurd z (Nat.ne_of_gt h0)
 ·exact Nat.dvd_of_mod_eq_zero z
theorem P4 {q:Rat} (h:SmR 41 6 q):On LL (2 ^ 41) q:=by
 refine On.of L4 h (C50 q.den_pos ?_);have:=h.2; unfold Sm at this; rw [Int.natAbs_natCast] at this; exact this
theorem On.mul {B C k l:Nat} {p q:Rat} (h:On B k p) (g:On C l q):On (B * C) (k * l) (p * q):=by
 obtain ⟨z,rfl,b⟩:=h;obtain ⟨y,rfl,c⟩:=g;refine ⟨z * y,by rw [Rat.divInt_mul_divInt,Int.natCast_mul],?_⟩;rw [Int.natAbs_mul];have:=Nat.mul_le_mul b c;rw [Nat.mul_mul_mul_comm] at this;exact this
theorem C5c {B k:Nat} {n:Int} (hB:0 < B) (h:n.natAbs<=k):On B k (n:Rat):=by
 refine ⟨n * (B:Int),?_,by rw [Int.natAbs_mul,Int.natAbs_natCast]; exact Zu _ h⟩;have:=Rat.divInt_mul_right (n:=n) (d:=1) (a:=(B:Int)) (by omega);rw [Int.one_mul] at this;rw [this];have e:=Rat.num_divInt_den (n:Rat);rw [Rat.num_intCast,Rat.den_intCast] at e;exact e.symm
theorem onQ {B k:Nat} {q:Rat} (h:On B k q) (hB:0 < B) (hb:B<=2 ^ 1000) (g:k<=2 ^ 1000):SmQ 3900 q:=by
 refine h.q hB (Nat.lt_of_le_of_lt (Nat.mul_le_mul g hb) ?_) (Nat.lt_of_le_of_lt hb ?_)
 ·rw [<- Nat.pow_add]; exact Nat.pow_lt_pow_right (by decide) (by decide)
 ·exact Nat.pow_lt_pow_right (by decide) (by decide)
theorem C7z:LL<=2 ^ 1000:=Zx (Nat.le_of_ble_eq_true rfl:LL<=2 ^ 100) (Zp (by decide) (by decide))
theorem onL {a:Nat} {q:Rat} (h:On LL (2 ^ a) q) (ha:a<=1000):SmQ 3900 q:=onQ h L4 C7z (Zp (by decide) ha)
theorem On.p2 {B a b:Nat} {q:Rat} (h:On B (2 ^ a) q) (g:a<=b):On B (2 ^ b) q:=h.mono (Zp (by decide) g)
theorem On.add2 {B a b:Nat} {p q:Rat} (hB:0 < B) (h:On B (2 ^ a) p) (g:On B (2 ^ a) q) (hb:a + 1<=b):On B (2 ^ b) (p + q):=by
 refine (h.add hB g).mono (Zx ?_ (Zp (by decide) hb));rw [Nat.pow_succ]; omega
def OnC (cs:LR):Prop:=∀ c ∈ cs,On LL (2 ^ 45) c.1/\On (LL * LL) (2 ^ 90) c.2
def WOk (n:Int) (ws:LW):Prop:=∀ w ∈ ws,(0<=w.1/\w.1 < n)/\(0<=w.2.1/\w.2.1 < n)/\On LL (2 ^ 55) w.2.2
theorem WOk.snoc {n:Int} {ws:LW} {w:Int × Int × Rat} (h:WOk n ws) (g:(0<=w.1/\w.1 < n)/\(0<=w.2.1/\w.2.1 < n)/\On LL (2 ^ 55) w.2.2):WOk n (ws++[w]):=fun x hx=>by
 rcases Za hx with z | z
 ·exact h x z
 ·rw [Zn z]; exact g
def Hk (k:Str):Prop:=k="from"\/k="till"\/k="by"
def HOk (n:Int) (hs:LH):Prop:=∀ h ∈ hs,Hk h.1/\(0<=h.2.1/\h.2.1 < n)/\On LL (2 ^ 55) h.2.2
theorem HOk.snoc {n:Int} {hs:LH} {h:Str × Int × Rat} (k:HOk n hs) (g:Hk h.1/\(0<=h.2.1/\h.2.1 < n)/\On LL (2 ^ 55) h.2.2):HOk n (hs++[h]):=fun x hx=>by
 rcases Za hx with z | z
 ·exact k x z
 ·rw [Zn z]; exact g
theorem C7w {g:Int} (g0:0<=g) (g1:g < 4):∃ kd:Str,Hk kd/\L2.atI [PyData.str "from",.str "from",.str "till",.str "by"] g=some (.str kd):=by
 have hg:g=0\/g=1\/g=2\/g=3:=by omega
 rcases hg with rfl | rfl | rfl | rfl
 ·exact ⟨_,.inl rfl,rfl⟩
 ·exact ⟨_,.inl rfl,rfl⟩
 ·exact ⟨_,.inr (.inl rfl),rfl⟩
 ·exact ⟨_,.inr (.inr rfl),rfl⟩
theorem Hk.lay {kd:Str} (h:Hk kd):(PyData.str kd).canLay0=true:=by rcases h with rfl | rfl | rfl <;> decide +kernel
theorem C54:(PyData.str "from").canLay0=true:=by decide +kernel
theorem B5a:∀ cs:List Nat,PyData.depthAll (cs.map sgn)<=1
 | []=>by decide
 | c :: r=>by
  show max (sgn c).depth (PyData.depthAll (r.map sgn))<=1;have:=B5a r;have:(sgn c).depth=0:=rfl;omega
def ltr:Str:=Str.ofString "abcdefghijklmnopqrstuvwxyz"
theorem C2g:ltr.length=26:=by decide +kernel
theorem A85:∀ cs:List Nat,A3s (cs.map sgn)=some (cs.map fun c=>(⟨#[c]⟩:Str))
 | []=>rfl
 | c :: r=>by
  show (A3s (r.map sgn)).map ((⟨#[c]⟩:Str) :: ·)=_;rw [A85 r]; rfl
theorem B7k:∀ cs:List Nat,((cs.map fun c=>(⟨#[c]⟩:Str)).map fun z=>z.length + (Str.ofString "").length).sum=cs.length
 | []=>rfl
 | c :: r=>by
  rw [List.map_cons,List.map_cons,List.sum_cons,B7k r,List.length_cons];have:(⟨#[c]⟩:Str).length + (Str.ofString "").length=1:=by
   rw [show (Str.ofString "").length=0 by decide +kernel]; rfl
  omega
theorem A86:∀ (cs:List Nat) (a:Array Nat),(List.foldl (fun acc (p:Str)=>acc++(Str.ofString "").cps++p.cps) a (cs.map fun c=>(⟨#[c]⟩:Str))).toList=a.toList++cs
 | [],a=>by simp
 | c :: r,a=>by
  rw [List.map_cons,List.foldl_cons,A86 r,show (Str.ofString "").cps=#[] by decide +kernel]; simp
theorem C0i (cs:List Nat):((Str.ofString "").join (cs.map fun c=>(⟨#[c]⟩:Str))).cps.toList=cs:=by
 cases cs with
 | nil=>rfl
 | cons c r=>rw [<- StrLaws.glued_eq_join]; exact A86 r #[c]
def wordsZ:List Str:=["from","till","by","work","wait","hold","none","start","end","steps"]
def A0i:LP:=wordsZ.map PyData.str
theorem A8d:∀ z ∈ wordsZ,(PyData.str z).canLay0=true:=by decide +kernel
theorem C69 {m:Int} (h0:0<=m) (h1:m < 10):∃ z:Str,L2.atI A0i m=some (.str z)/\(PyData.str z).canLay0=true:=by
 obtain ⟨i,rfl⟩:=Zi h0;have hl:wordsZ.length=10:=rfl;have hi:i < wordsZ.length:=by omega
 exact ⟨wordsZ[i],F6 (by unfold A0i; rw [Zh,Zg hi]; rfl),A8d _ (List.getElem_mem hi)⟩
abbrev Wk:=Str × Str × LR
def kD (x:Wk):PyData:=.tuple [.str x.1,offD x.2.1 x.2.2]
theorem C75 {xs:List Wk} {o:Int} (h0:0<=o) (h1:o < (xs.length:Int)):∃ x,x ∈ xs/\L2.atI (xs.map kD) o=some (kD x):=by
 obtain ⟨i,rfl⟩:=Zi h0;have hi:i < xs.length:=by omega
 exact ⟨xs[i],List.getElem_mem hi,F6 (by rw [Zh,Zg hi]; rfl)⟩
def wat (xs:List Wk) (o:Int):Wk:=xs.getD o.toNat (Str.ofString "",Str.ofString "",[])
theorem A4r {xs:List Wk} {o:Int} (h0:0<=o) (h1:o < (xs.length:Int)):L2.atI (xs.map kD) o=some (.tuple [.str (wat xs o).1,.tuple [.str (wat xs o).2.1,.list ((wat xs o).2.2.map dcn)]]):=by
 obtain ⟨i,rfl⟩:=Zi h0;have hi:i < xs.length:=by omega
 refine F6 ?_;unfold wat;rw [Zh,Int.toNat_natCast,List.getD_eq_getElem?_getD,Zg hi]; rfl
theorem A8f {xs:List Wk} {o:Int} (h0:0<=o) (h1:o < (xs.length:Int)):wat xs o ∈ xs:=by
 unfold wat;rw [List.getD_eq_getElem?_getD,Zg (by omega:o.toNat < xs.length)];exact List.getElem_mem _
structure GrOk (xs:List Wk) (g:List Int):Prop where
 l2:2<=g.length
 l9:g.length<=10
 ix:∀ w ∈ g,0<=w/\w < (xs.length:Int)
 st:∀ w ∈ g,(wat xs w).2.1="steps"
 eq:∀ w ∈ g,∀ v ∈ g,(wat xs w).2.2.length=(wat xs v).2.2.length
def gD (g:List Int):PyData:=.list (g.map .int)
structure NetG (n:Int) (xs:List Wk) (ws:LW) (hs:LH) (gs:List (List Int)):Prop where
 ln:(xs.length:Int)=n
 n0:1<=n
 n1:n<=10
 of:∀ x ∈ xs,Kd x.2.1/\OfG x.2.1 x.2.2 100 54 244 130/\OnC x.2.2
 wl:ws.length<=40
 wk:WOk n ws
 hl:hs.length<=40
 hk:HOk n hs
 gl:gs.length<=4
 gk:∀ g ∈ gs,GrOk xs g
 nm:∀ x ∈ xs,(PyData.str x.1).canLay0=true
def netD (xs:List Wk) (ws:LW) (hs:LH) (gs:LP):PyData:=.tuple [.list (xs.map kD),.list (ws.map wD),.list (hs.map hD),.list gs]
structure Off (kd:Str) (cs:LR) (t:Rat):Prop where
 st:kd="steps"->∃ c ∈ cs,c.1=t
 sr:kd="straight"->∃ c0 cl,cs[0]?=some c0/\cs[cs.length - 1]?=some cl/\¬ t < cl.1/\¬ c0.1 < t
theorem V7:∀ ls:List Int,PyData.canLayAll0 (ls.map PyData.int)=true
 | []=>rfl
 | n :: r=>by
  show ((PyData.int n).canLay0 && PyData.canLayAll0 (r.map PyData.int))=true;rw [V7 r]; rfl
theorem A6v:∀ ls:List Int,PyData.depthAll (ls.map PyData.int)<=1
 | []=>by decide
 | n :: r=>by
  show max (PyData.int n).depth (PyData.depthAll (r.map PyData.int))<=1;have:=A6v r;have:(PyData.int n).depth=0:=rfl;omega
theorem B4a (ls:List Int):(PyData.list (ls.map PyData.int)).depth<=60:=by
 show PyData.depthAll (ls.map PyData.int) + 1<=60;have:=A6v ls;omega
theorem B6m (ls:List Int):(PyData.list (ls.map PyData.int)).eqv (.list [])=ls.isEmpty:=by
 cases ls <;> rfl
theorem B2n (ls:List Int) (k:Nat):(ls.map PyData.int).eraseIdx k=(ls.eraseIdx k).map PyData.int:=by
 induction ls generalizing k with
 | nil=>rfl
 | cons a r ih =>
  cases k with
  | zero=>rfl
  | succ k=>show PyData.int a :: (r.map PyData.int).eraseIdx k=_; rw [ih]; rfl
theorem B33 (ls:List Int) {k:Nat} (h:k < ls.length):(ls.eraseIdx k).length + 1=ls.length:=by
 rw [List.length_eraseIdx,if_pos h]; omega
def fstC (cs:LR):Rat × Rat:=(cs[0]?).getD (0,0)
def lstC (cs:LR):Rat × Rat:=(cs[cs.length - 1]?).getD (0,0)
theorem C6k {cs:LR} (h:1<=cs.length):cs[0]?=some (fstC cs):=by
 unfold fstC; rw [Zg (by omega:0 < cs.length)]; rfl
theorem C5z {cs:LR} (h:1<=cs.length):cs[cs.length - 1]?=some (lstC cs):=by
 unfold lstC; rw [Zg (by omega:cs.length - 1 < cs.length)]; rfl
theorem T8 {α:Type} (f:α->Bool):∀ xs:List α,blsD (xs.map fun x=>.bool (f x))=some (xs.map f)
 | []=>rfl
 | x :: r=>by
  show (blsD (r.map fun x=>.bool (f x))).map (f x :: ·)=_;rw [T8 f r]; rfl
def isW:PyData->Bool
 | .int _=>true
 | _=>false
def isT (n:Int):PyData->Bool
 | .tuple xs=>decide ((xs.length:Int)=n)
 | _=>false
def isR:PyData->Bool
 | .tuple [.int a,.int b]=>decide (1<=b) && decide (((Int.gcd a b:Nat):Int)=1)
 | _=>false
def A0e (c:Nat):Bool:=decide (97<=c) && decide (c<=122)
def isN:PyData->Bool
 | .str z=>decide (1<=z.length) && decide (z.length<=8) && z.cps.toList.all A0e
 | _=>false
theorem sg_a:(Str.ofString "a").cps.toList=[97]:=by decide +kernel
theorem sg_z:(Str.ofString "z").cps.toList=[122]:=by decide +kernel
theorem C3j (c:Nat):([c] < (Str.ofString "a").cps.toList) ↔ ¬ 97<=c:=by
 rw [sg_a];constructor
 ·intro z; have:=List.cons_lt_cons_iff.mp z; simp at this; omega
 ·intro h; exact List.Lex.rel (by omega)
theorem C3l (c:Nat):((Str.ofString "z").cps.toList < [c]) ↔ ¬ c<=122:=by
 rw [sg_z];constructor
 ·intro z; have:=List.cons_lt_cons_iff.mp z; simp at this; omega
 ·intro h; exact List.Lex.rel (by omega)
theorem C3k (c:Nat):(!decide ((Str.ofString "z").cps.toList < [c]))=decide (c<=122):=by
 by_cases h:c<=122
 ·rw [Zk h,Zd (fun z=>(C3l c).mp z h)]; rfl
 ·rw [Zd h,Zk ((C3l c).mpr h)]; rfl
theorem B92:∀ {l:LR},Ltt l->Dec l
 | [],_=>True.intro
 | [_],_=>True.intro
 | _ :: d :: _,.cons h t=>⟨h d (by simp),B92 t⟩
def Z5:PyData->Option Rat
 | .tuple [.int a,.int b]=>if 1<=b/\Int.gcd a b=1 then some (Rat.divInt a b) else none
 | _=>none
theorem Q5 {x:PyData} {q:Rat} (h:Z5 x=some q):x=dq q:=by
 unfold Z5 at h;split at h
 ·rename_i a b;split at h
  ·rename_i hc;cases h;have hb:b≠0:=by omega
   have e1:=A4e (t:=a) hb;have e2:=B2o (t:=a) hb;have hs:sh a b=1:=by unfold sh; rw [if_neg (by omega),hc.2]; rfl
   rw [hs,Int.fdiv_one] at e1 e2;unfold dq;rw [<- e1,<- e2]
  ·cases h
 ·cases h
theorem V2 (q:Rat):Z5 (dq q)=some q:=by
 have h1:=q.den_pos;have h2:Int.gcd q.num (q.den:Int)=1:=q.reduced;show (if 1<=(q.den:Int)/\Int.gcd q.num (q.den:Int)=1 then some (Rat.divInt q.num (q.den:Int)) else none)=some q;rw [if_pos ⟨by omega,h2⟩,Rat.num_divInt_den]
theorem B3q (x:PyData):isR x=(Z5 x).isSome:=by
 unfold isR Z5;split
 ·rename_i a b;have e:(((Int.gcd a b:Nat):Int)=1) ↔ Int.gcd a b=1:=by omega
  by_cases h1:1<=b <;> by_cases h2:Int.gcd a b=1 <;> simp [h1,h2,e]
 ·rename_i hn;first
   | rfl
   | (split
      ·rename_i a b; exact absurd rfl (hn a b)
      ·rfl)
def nnOf (x:PyData):Option Rat:=(Z5 x).filter fun q=>decide (0<=q)
def bdOf:PyData->Option (Rat × Rat)
 | .tuple [a,b]=>match nnOf a,nnOf b with
  | some p,some q=>some (p,q)
  | _,_=>none
 | _=>none
def SmX (x:PyData):Prop:=∀ a b,x=.tuple [.int a,.int b]->Sm 1000 a/\Sm 1000 b
theorem SmX.q {x:PyData} {q:Rat} (h:SmX x) (e:Z5 x=some q):SmR 1000 1000 q:=by
 have:=Q5 e;subst this;exact h _ _ rfl
theorem B2j {x:PyData} {q:Rat} (h:nnOf x=some q):Z5 x=some q/\0<=q:=by
 unfold nnOf at h;obtain ⟨h1,h2⟩:=Option.filter_eq_some_iff.mp h;exact ⟨h1,by simpa using h2⟩
theorem B4q {a b:PyData}:bdOf (.tuple [a,b])=match nnOf a,nnOf b with | some p,some q=>some (p,q) | _,_=>none:=rfl
theorem C2x {x:PyData} {c:Rat × Rat} (h:bdOf x=some c):x=dcn c/\0<=c.1/\0<=c.2:=by
 unfold bdOf at h;split at h
 ·rename_i a b;split at h
  ·rename_i p q e1 e2;cases h;obtain ⟨h1,h2⟩:=B2j e1;obtain ⟨h3,h4⟩:=B2j e2;exact ⟨by rw [Q5 h1,Q5 h3]; rfl,h2,h4⟩
  ·cases h
 ·cases h
theorem C6v {c:Rat × Rat} (h1:0<=c.1) (h2:0<=c.2):bdOf (dcn c)=some c:=by
 show (match nnOf (dq c.1),nnOf (dq c.2) with | some p,some q=>some (p,q) | _,_=>none)=some c;have e:∀ q:Rat,0<=q->nnOf (dq q)=some q:=fun q h=>by unfold nnOf; rw [V2]; simp [Option.filter,h]
 rw [e _ h1,e _ h2]
def SmX2 (x:PyData):Prop:=∀ a b,x=.tuple [.int a,.int b]->Sm 200 a/\Sm 200 b
theorem SmX2.q {x:PyData} {q:Rat} (h:SmX2 x) (e:Z5 x=some q):SmR 200 200 q:=by
 have:=Q5 e;subst this;exact h _ _ rfl
theorem SmX2.up {x:PyData} (h:SmX2 x):SmX x:=fun a b e=>⟨(h a b e).1.mono (by decide),(h a b e).2.mono (by decide)⟩
def SmB (x:PyData):Prop:=∀ a b,x=.tuple [a,b]->SmX2 a/\SmX b
theorem SmB.sm {c:Rat × Rat} (h:SmB (dcn c)):SmR 200 200 c.1/\SmR 1000 1000 c.2:=by
 obtain ⟨h1,h2⟩:=h _ _ rfl;exact ⟨h1.q (V2 _),h2.q (V2 _)⟩
theorem B4p:∀ {ds:LP},(∀ d ∈ ds,(bdOf d).isSome=true)->ds=(ds.filterMap bdOf).map dcn
 | [],_=>rfl
 | d :: r,h=>by
  have ih:=B4p fun x hx=>h x (Zr _ hx);cases e:bdOf d with
  | none=>have:=h d Zy; rw [e] at this; cases this
  | some c=>rw [List.filterMap_cons_some e,List.map_cons,<- ih,<- (C2x e).1]
theorem B90:∀ {cs:LR},(∀ c ∈ cs,0<=c.1/\0<=c.2)->(cs.map dcn).filterMap bdOf=cs
 | [],_=>rfl
 | c :: r,h=>by
  have h1:=h c Zy;rw [List.map_cons,List.filterMap_cons_some (C6v h1.1 h1.2),B90 fun x hx=>h x (Zr _ hx)]
theorem B47 {c d:Rat × Rat} (h:d.1 < c.1) (hc:SmR 200 200 c.1/\SmR 1000 1000 c.2) (hd:SmR 200 200 d.1/\SmR 1000 1000 d.2):SmR 2500 2500 (C5 c d) :=
 ((hd.2.sub hc.2).div (hc.1.sub hd.1) (by grind)).mono (by decide) (by decide)
theorem hd {a b:PSt} {D:PEnds} {e:PEnv} (h:∀ R,R=b->pSeq a R D e):pSeq a b D e:=h b rfl
open Classical in
noncomputable def ofB:PyData->Bool
 | .tuple [.str z,.list ds]=>decide (Kd z/\(1<=ds.length/\ds.length<=5)/\(∀ d ∈ ds,(bdOf d).isSome=true)/\RiseO (ds.filterMap bdOf)/\(z="steps"\/CvI (ds.filterMap bdOf)))
 | _=>false
def OSm (x:PyData):Prop:=∀ y b,x=.tuple [y,b]->(∀ z,y=.str z->(PyData.str z).canLay0=true)/\∀ ds,b=.list ds->ds.length<=1000/\∀ d ∈ ds,SmB d
theorem C2l {x:PyData} (ht:¬ isT 2 x=false):∃ a b,x=.tuple [a,b]:=by
 unfold isT at ht;split at ht
 ·rename_i xs;match xs with
  | [a,b]=>exact ⟨a,b,rfl⟩
  | []=>simp at ht
  | [_]=>simp at ht
  | _ :: _ :: _ :: _=>simp at ht; omega
 ·exact absurd rfl ht
theorem B1n {x:PyData} (h:∀ z ds,x≠.tuple [.str z,.list ds]):ofB x=false:=by
 unfold ofB;split
 ·rename_i z ds; exact absurd rfl (h z ds)
 ·rfl
theorem B2t:PyData.canLayAll0 [PyData.str (Str.ofString "straight"),PyData.str (Str.ofString "steps")]=true:=by decide +kernel
theorem B3n {z:Str} (h:Kd z):¬ ([PyData.str (Str.ofString "straight"),PyData.str (Str.ofString "steps")].any fun z_1=>z_1.eqv (PyData.str z))=false:=by
 rcases h with h | h <;> subst h <;> decide +kernel
theorem B6f {z:Str} (h:¬ Kd z):([PyData.str (Str.ofString "straight"),PyData.str (Str.ofString "steps")].any fun z_1=>z_1.eqv (PyData.str z))=false:=by
 rw [List.any_cons,List.any_cons,List.any_nil,N5,N5,Zd (fun e=>h (.inl e.symm)),Zd (fun e=>h (.inr e.symm))]; rfl
open Classical in
theorem C5h {z:Str} {ds:LP} (h:¬ (Kd z/\(1<=ds.length/\ds.length<=5)/\(∀ d ∈ ds,(bdOf d).isSome=true)/\RiseO (ds.filterMap bdOf)/\(z="steps"\/CvI (ds.filterMap bdOf)))):ofB (.tuple [.str z,.list ds])=false:=by
 unfold ofB; exact Zd h
open Classical in
theorem C5f {z:Str} {ds:LP} (h:Kd z/\(1<=ds.length/\ds.length<=5)/\(∀ d ∈ ds,(bdOf d).isSome=true)/\RiseO (ds.filterMap bdOf)/\(z="steps"\/CvI (ds.filterMap bdOf))):ofB (.tuple [.str z,.list ds])=true:=by
 unfold ofB; exact Zk h
theorem C5g {z:Str} {b:PyData} (h:¬ Kd z):ofB (.tuple [.str z,b])=false:=by
 cases b with
 | list ds=>exact C5h fun q=>h q.1
 | _=>rfl
theorem C71 {p q:Rat × Rat} {t:Rat} (h:q.1 < p.1) (u:p.2 < q.2) (h1:t<=p.1) (h2:q.1<=t):p.2<=P9 p q t/\P9 p q t<=q.2:=by
 have e:=M1 h;have d:0 < p.1 - q.1:=by grind
 have S:¬ C5 p q < 0:=fun z=>by
  have:=Rat.mul_lt_mul_of_pos_right z d;rw [e,Rat.zero_mul] at this; grind
 have S0:0<=C5 p q:=Rat.not_lt.mp S;have g1:=Rat.mul_nonneg S0 (show 0<=p.1 - t by grind);have g2:=Rat.mul_nonneg S0 (show 0<=t - q.1 by grind);unfold P9;have:C5 p q * (p.1 - q.1)=C5 p q * (p.1 - t) + C5 p q * (t - q.1):=by grind
 exact ⟨by grind,by grind⟩
theorem C73 {cs:LR} {n:Nat} (h:n + 1 < cs.length):∃ A p q B,cs=A++p :: q :: B/\A.length=n :=
 ⟨cs.take n,cs[n],cs[n + 1],cs.drop (n + 2),by rw [<- List.drop_eq_getElem_cons,<- List.drop_eq_getElem_cons,List.take_append_drop],by rw [List.length_take]; omega⟩
def rt (z:Nat):Rat:=Rat.divInt 1 ((10:Int) ^ (6 + 3 * z))
theorem osm2 {y b:PyData} (h1:∀ z,y=.str z->(PyData.str z).canLay0=true) (h2:∀ ds,b=.list ds->ds.length<=1000/\∀ d ∈ ds,SmB d):OSm (.tuple [y,b]):=fun y' b' e=>by
 injection e with e
 injection e with e1 e2
 injection e2 with e2 _
 subst e1 e2;exact ⟨h1,h2⟩
theorem C7x {p:PyData->Prop}:∀ x ∈ ([]:LP),p x:=fun _ z=>nomatch z
theorem B5y {α:Type} {f:α->PyData} {A:List α} {a b:α} {Q:SV->Prop} (q:Q (.d (f a))):pGet ((A++[a,b]).map f) (-2) Q:=by
 refine D1 (z:=f a) ?_ q;unfold L2.atI ixN;rw [if_neg (by decide),if_pos (by rw [Zl,Ze]; simp; omega)];show ((A++[a,b]).map f)[((-2:Int) + (((A++[a,b]).map f).length:Int)).toNat]?=_;rw [show ((-2:Int) + (((A++[a,b]).map f).length:Int)).toNat=A.length by rw [Zl,Ze]; simp; omega,Zh];simp
def Above (l:LR) (p:Rat × Rat):Prop:=∃ A a b B,l=A++a :: b :: B/\b.1<=p.1/\p.1<=a.1/\P9 a b p.1<=p.2
theorem A13 {a b c:Rat × Rat} (h1:b.1 < a.1) (h2:c.1 < b.1) (h:¬ C5 a b < C5 b c):C5 b c<=C5 a c/\C5 a c<=C5 a b:=by
 have e1:=M1 h1;have e2:=M1 h2;have e3:=M1 (a:=a) (b:=c) (by grind);have e4:C5 a b * (a.1 - b.1) + C5 b c * (b.1 - c.1)=C5 a c * (a.1 - c.1):=by grind
 generalize C5 a b=x at *;generalize C5 b c=y at *;generalize C5 a c=z at *;have u:0 < a.1 - b.1:=by grind
 have v:0 < b.1 - c.1:=by grind
 have hxy:y<=x:=Rat.not_lt.mp h;refine ⟨Rat.not_lt.mp fun hz=>?_,Rat.not_lt.mp fun hz=>?_⟩
 ·have p1:=Rat.mul_pos (show 0 < x - z by grind) u;have p2:=Rat.mul_pos (show 0 < y - z by grind) v;grind
 ·have p1:=Rat.mul_pos (show 0 < z - x by grind) u;have p2:=Rat.mul_pos (show 0 < z - y by grind) v;grind
theorem A39 {a c:Rat × Rat} {t:Rat} (h:c.1 < a.1):P9 a c t=c.2 - C5 a c * (t - c.1):=by
 have e:=M1 h;unfold P9; grind
theorem A8e {a b c:Rat × Rat} {t:Rat} (h1:b.1 < a.1) (h2:c.1 < b.1) (h:¬ C5 a b < C5 b c) (t2:t<=a.1):P9 a c t<=P9 a b t:=by
 have m:=(A13 h1 h2 h).2;have p:=Rat.mul_nonneg (show 0<=C5 a b - C5 a c by grind) (show 0<=a.1 - t by grind);unfold P9; grind
theorem C23 {a b c:Rat × Rat} {t:Rat} (h1:b.1 < a.1) (h2:c.1 < b.1) (h:¬ C5 a b < C5 b c) (t1:c.1<=t):P9 a c t<=P9 b c t:=by
 have m:=(A13 h1 h2 h).1;have p:=Rat.mul_nonneg (show 0<=C5 a c - C5 b c by grind) (show 0<=t - c.1 by grind);rw [A39 (show c.1 < a.1 by grind),A39 h2]; grind
theorem B52 {a b:Rat × Rat} (h:b.1 < a.1):P9 a b b.1=b.2:=by rw [A39 h]; grind
theorem Above.more {l:LR} {p c:Rat × Rat} (h:Above l p):Above (l++[c]) p:=by
 obtain ⟨A,a,b,B,e,h⟩:=h;exact ⟨A,a,b,B++[c],by rw [e]; simp,h⟩
theorem Above.pop {l:LR} {a b c p:Rat × Rat} (h1:b.1 < a.1) (h2:c.1 < b.1) (h:¬ C5 a b < C5 b c) (q:Above (l++[a,b,c]) p):Above (l++[a,c]) p:=by
 obtain ⟨A,x,y,B,e,t1,t2,g⟩:=q;rcases List.eq_nil_or_concat B with rfl | ⟨B',z,rfl⟩
 ·have e':(l++[a])++[b,c]=A++[x,y]:=by rw [<- e]; simp
  obtain ⟨_,e2⟩:=List.append_inj' e' rfl;cases e2;have:=C23 h1 h2 h t1;exact ⟨l,a,c,[],rfl,t1,by grind,by grind⟩
 ·rcases List.eq_nil_or_concat B' with rfl | ⟨B'',w,rfl⟩
  ·have e':l++[a,b,c]=A++[x,y,z]:=by rw [e]; simp
   obtain ⟨_,e2⟩:=List.append_inj' e' rfl;cases e2;have:=A8e h1 h2 h t2;exact ⟨l,a,c,[],rfl,by grind,t2,by grind⟩
  ·have e':(l++[a])++[b,c]=(A++x :: y :: B'')++[w,z]:=by
    have:(l++[a])++[b,c]=l++[a,b,c]:=by simp
    rw [this,e]; simp
   obtain ⟨e1,e2⟩:=List.append_inj' e' rfl;exact ⟨A,x,y,B''++[c],by rw [show l++[a,c]=(l++[a])++[c] by simp,e1]; simp,t1,t2,g⟩
theorem Ltt.inj:∀ {l:LR},Ltt l->∀ {x y:Rat × Rat},x ∈ l->y ∈ l->x.1=y.1->x=y
 | _ :: r,.cons h t,x,y,hx,hy,e=>by
  rcases List.mem_cons.mp hx with hx' | hx'
  ·rcases List.mem_cons.mp hy with hy' | hy'
   ·rw [hx',hy']
   ·have:=h y hy'; rw [<- hx'] at this; grind
  ·rcases List.mem_cons.mp hy with hy' | hy'
   ·have:=h x hx'; rw [<- hy'] at this; grind
   ·exact Ltt.inj t hx' hy' e
structure Hull (cs out:LR):Prop where
 sub:out.Sublist cs
 hd:out[0]?=cs[0]?
 lst:out[out.length - 1]?=cs[cs.length - 1]?
 cv:CvI out
 ab:∀ p ∈ cs,p ∈ out\/Above out p
 id:CvI cs->out=cs
structure Half (cs:LR) (i:Nat) (l:LR) (more:LR):Prop where
 sub:l.Sublist (cs.take i)
 hd:0 < i->l[0]?=cs[0]?/\1<=l.length
 cv:CvI l
 ab:∀ p ∈ cs.take i,p ∈ l\/Above (l++more) p
 id:CvI cs->l=cs.take i
theorem CvI.pre {A B:LR} (h:CvI (A++B)):CvI A:=fun i a b c h1 h2 h3=>by
 have g:∀ {j x},A[j]?=some x->(A++B)[j]?=some x:=fun {j x} z=>by
  rw [List.getElem?_append_left (Zs z).1]; exact z
 exact h i a b c (g h1) (g h2) (g h3)
theorem B3y {cs:LR} {i:Nat} {l:LR} {c:Rat × Rat} (d:Ltt cs) (s:l.Sublist (cs.take i)) (hc:cs[i]?=some c):Ltt (l++[c]):=by
 have s2:(l++[c]).Sublist (cs.take (i + 1)):=by
  rw [List.take_add_one,hc]; exact s.append (List.Sublist.refl _)
 exact List.Pairwise.sublist (s2.trans (List.take_sublist _ _)) d
theorem Half.pop {cs:LR} {i:Nat} {A:LR} {a b c:Rat × Rat} (d:Ltt cs) (hc:cs[i]?=some c) (H:Half cs i (A++[a,b]) [c]) (h:¬ C5 a b < C5 b c):Half cs i (A++[a]) [c]:=by
 have lt:=B3y d H.sub hc;have h1:b.1 < a.1:=by
  have:=(List.pairwise_append.mp (List.pairwise_append.mp lt).1).2.1;cases this with | cons z _=>exact z b (by simp)
 have h2:c.1 < b.1:=(List.pairwise_append.mp lt).2.2 b (by simp) c (by simp);have ee:A++[a,b]=(A++[a])++[b]:=by simp
 refine ⟨(ee ▸ List.sublist_append_left (A++[a]) [b]).trans H.sub,fun hi=>⟨?_,by simp⟩,CvI.pre (B:=[b]) (ee ▸ H.cv),fun p hp=>?_,fun z=>?_⟩
 ·rw [<- (H.hd hi).1];cases A with
  | nil=>rfl
  | cons x r=>rfl
 ·rcases H.ab p hp with z | z
  ·rcases Za (ee ▸ z) with z | z
   ·exact .inl z
   ·cases Zn z;refine .inr ⟨A,a,c,[],by simp,Rat.le_of_lt h2,Rat.le_of_lt h1,?_⟩;have:=A8e (t:=b.1) h1 h2 h (Rat.le_of_lt h1);rw [B52 h1] at this;exact this
  ·have z':Above (A++[a,b,c]) p:=by have q:=z; rw [show (A++[a,b])++[c]=A++[a,b,c] by simp] at q; exact q
   have:=z'.pop h1 h2 h;rw [show A++[a,c]=(A++[a])++[c] by simp] at this;exact .inr this
 ·exfalso;have e:=H.id z;have hi:i=A.length + 2:=by
   have:=congrArg List.length e;rw [List.length_take] at this;have hl:=(Zs hc).1;simp at this; omega
  have g:∀ {j x},(A++[a,b])[j]?=some x->cs[j]?=some x:=fun {j x} q=>by
   rw [e,List.getElem?_take] at q;split at q
   ·exact q
   ·cases q
  exact h (z A.length a b c (g (by simp)) (g (by simp)) (by rw [<- hi]; exact hc))
theorem Half.start {cs:LR} {i:Nat} {l:LR} {c:Rat × Rat} (H:Half cs i l []):Half cs i l [c] :=
 ⟨H.sub,H.hd,H.cv,fun p hp=>(H.ab p hp).imp (fun z=>z) fun z=>by rw [List.append_nil] at z; exact z.more,H.id⟩
theorem Half.push {cs:LR} {i:Nat} {l:LR} {c:Rat × Rat} (hc:cs[i]?=some c) (H:Half cs i l [c]) (h:∀ A a b,l=A++[a,b]->C5 a b < C5 b c):Half cs (i + 1) (l++[c]) []:=by
 have et:cs.take (i + 1)=cs.take i++[c]:=by rw [List.take_add_one,hc]; rfl
 refine ⟨by rw [et]; exact H.sub.append (List.Sublist.refl _),fun _=>⟨?_,by simp⟩,fun j x y z h1 h2 h3=>?_,fun p hp=>?_,fun z=>by rw [et,<- H.id z]⟩
 ·rcases Nat.eq_zero_or_pos i with rfl | hi
  ·have:l=[]:=by have:=H.sub; simpa using this
   subst this; rw [hc]; rfl
  ·obtain ⟨h1,h2⟩:=H.hd hi;rw [List.getElem?_append_left (by omega)]; exact h1
 ·have hl:j + 2 < l.length + 1:=by have:=(Zs h3).1; simpa using this
  rcases (show j + 2 < l.length\/j + 2=l.length by omega) with q | q
  ·rw [List.getElem?_append_left (by omega)] at h1 h2 h3;exact H.cv j x y z h1 h2 h3
  ·rw [List.getElem?_append_left (by omega)] at h1 h2;rw [List.getElem?_append_right (by omega),q,Nat.sub_self] at h3;cases h3;refine h (l.take j) x y ?_;have e1:l.drop j=[x,y]:=by
    refine List.ext_getElem? fun k=>?_;rw [List.getElem?_drop];match k with
    | 0=>simpa using h1
    | 1=>simpa using h2
    | k + 2=>simp; omega
   rw [<- e1,List.take_append_drop]
 ·rw [et] at hp;rcases Za hp with z | z
  ·rcases H.ab p z with q | q
   ·exact .inl (Zt _ q)
   ·exact .inr (by rw [List.append_nil]; exact q)
  ·exact .inl (Zw _ z)
theorem Half.done {cs l:LR} (hl:1<=cs.length) (e:l[l.length - 1]?=cs[cs.length - 1]?) (H:Half cs cs.length l []):Hull cs l:=by
 obtain ⟨h1,h2,h3,h4,h5⟩:=H;rw [List.take_length] at h1 h4 h5;exact ⟨h1,(h2 hl).1,e,h3,fun p hp=>by have:=h4 p hp; rwa [List.append_nil] at this,h5⟩
theorem A40 {c d:Rat × Rat} (h:d.1 < c.1) (h1:SmR 161 85 c.1) (h2:SmR 810 674 c.2) (h3:SmR 161 85 d.1) (h4:SmR 810 674 d.2):SmR 1655 1595 (C5 c d) :=
 ((h4.sub h2).div (h1.sub h3) (by grind)).mono (by decide) (by decide)
theorem Hull.ok {cs out:LR} {a b c d:Nat} (h:Hull cs out) (ok:OfOk cs a b c d):OfOk out a b c d:=by
 have n1:=ok.ne;have n5:=ok.le;have e0:cs[0]?=some (cs[0]'(by omega)):=Zg _;have l0:=(Zs (h.hd.trans e0)).1;have l5:=h.sub.length_le;exact ⟨by omega,by omega,B92 (List.Pairwise.sublist h.sub (A4p ok.dec)),fun x hx=>ok.sm x (h.sub.subset hx)⟩
theorem C2h:ltr.cps.toList=(List.range 26).map (97 + ·):=by decide +kernel
theorem getL {n:Int} (h0:0<=n) (h1:n < 26) {Q:SV->Prop} (q:Q (.d (sgn (97 + n.toNat)))):C1u ltr n Q:=by
 obtain ⟨m,rfl⟩:=Zi h0;refine ⟨97 + m,F6 ?_,q⟩;rw [C2h,Zh,List.getElem?_range (by omega)]; rfl
def mkN (cs:List Int):Str:=(Str.ofString "").join (cs.map fun c=>(⟨#[97 + c.toNat]⟩:Str))
theorem A1g (cs:List Int):(mkN cs).cps.toList=cs.map fun c=>97 + c.toNat:=by
 have:=C0i (cs.map fun c=>97 + c.toNat);rw [List.map_map] at this;exact this
def NmOk (z:Str):Prop:=isN (.str z)=true
theorem NmOk.all {z:Str} (h:NmOk z):(1<=z.length/\z.length<=8)/\∀ c ∈ z.cps.toList,97<=c/\c<=122:=by
 have h:(decide (1<=z.length) && decide (z.length<=8) && z.cps.toList.all A0e)=true:=h;rw [Bool.and_eq_true,Bool.and_eq_true,decide_eq_true_eq,decide_eq_true_eq,List.all_eq_true] at h;refine ⟨h.1,fun c hc=>?_⟩;have:=h.2 c hc;unfold A0e at this;rw [Bool.and_eq_true,decide_eq_true_eq,decide_eq_true_eq] at this;exact this
theorem NmOk.of {z:Str} (h1:1<=z.length) (h8:z.length<=8) (h:∀ c ∈ z.cps.toList,97<=c/\c<=122):NmOk z:=by
 show (decide (1<=z.length) && decide (z.length<=8) && z.cps.toList.all A0e)=true;rw [Zk h1,Zk h8,Bool.true_and,Bool.true_and,List.all_eq_true];intro c hc;unfold A0e;rw [Zk (h c hc).1,Zk (h c hc).2]; rfl
theorem NmOk.lay {z:Str} (h:NmOk z):(PyData.str z).canLay0=true:=by
 show PyData.strOk z=true;unfold PyData.strOk;rw [<- Array.all_toList,List.all_eq_true];intro c hc;have:=h.all.2 c hc;exact Zk (by omega)
theorem C5y {cs:List Int} (h1:1<=cs.length) (h8:cs.length<=8) (hb:∀ b ∈ cs,0<=b/\b < 26):NmOk (mkN cs):=by
 have hl:(mkN cs).length=cs.length:=by
  have:=congrArg List.length (A1g cs);rw [Array.length_toList,Zl] at this;exact this
 refine NmOk.of (by omega) (by omega) fun c hc=>?_;rw [A1g] at hc;obtain ⟨b,hb',rfl⟩:=List.mem_map.mp hc;have:=hb b hb';omega
theorem B58 {css:List (List Int)} {p:Nat} {t:Int} (hl:css.length<=10) (h:∀ (j:Nat) cs,css[j]?=some cs->cs[p]?=some ((t + (j:Int)) % 26)):(css.map mkN).Nodup:=by
 rw [List.Nodup,List.pairwise_map,List.pairwise_iff_getElem];intro i j hi hj hij e;have e1:=congrArg (fun z:Str=>z.cps.toList[p]?) e;rw [A1g,A1g,Zh,Zh,h i _ (Zg hi),h j _ (Zg hj)] at e1;have e2:97 + ((t + (i:Int)) % 26).toNat=97 + ((t + (j:Int)) % 26).toNat:=Zj e1;omega
theorem B40:∀ z ∈ wordsZ,isN (.str z)=true:=by decide +kernel
theorem A8c:wordsZ.Nodup:=by decide +kernel
theorem B42 {m:Int} (h0:0<=m) (h1:m < 10):∃ z:Str,wordsZ[m.toNat]?=some z/\L2.atI A0i m=some (.str z)/\NmOk z:=by
 obtain ⟨i,rfl⟩:=Zi h0;have hl:wordsZ.length=10:=rfl;have hi:i < wordsZ.length:=by omega
 exact ⟨wordsZ[i],Zg hi,F6 (by unfold A0i; rw [Zh,Zg hi]; rfl),B40 _ (List.getElem_mem hi)⟩
theorem B41 {ws:List Str} {t:Int} (hl:ws.length<=10) (h:∀ (j:Nat) z,ws[j]?=some z->wordsZ[((t + (j:Int)) % 10).toNat]?=some z):ws.Nodup:=by
 rw [List.Nodup,List.pairwise_iff_getElem];intro i j hi hj hij e;have h1:=h i _ (Zg hi);have h2:=h j _ (Zg hj);rw [e,<- h2] at h1;have hw:wordsZ.length=10:=rfl;have:=(List.getElem?_inj (by omega) A8c).mp h1;omega
theorem C2e {ls os:List Int} {d:Nat} (h:d < ls.length) (nd:(ls++os).Nodup):(ls.eraseIdx d++(os++[ls[d]])).Nodup:=by
 have p1:(ls[d] :: ls.eraseIdx d).Perm ls:=by
  have e1:ls=ls.take d++(ls[d] :: ls.drop (d + 1)):=by rw [List.getElem_cons_drop,List.take_append_drop]
  rw [List.eraseIdx_eq_take_drop_succ]
  conv=>rhs; rw [e1]
  exact List.perm_middle.symm
 have p2:(ls.eraseIdx d++(os++[ls[d]])).Perm (ls++os):=by
  rw [<- List.append_assoc];refine List.perm_append_comm.trans ?_;exact List.Perm.append_right os p1
 exact p2.nodup_iff.mpr nd
def WV (n:Int) (ws:LW):Prop:=WOk n ws/\∀ w ∈ ws,w.1≠w.2.1
theorem WV.snoc {n:Int} {ws:LW} {w:Int × Int × Rat} (h:WV n ws) (ne:w.1≠w.2.1) (g:(0<=w.1/\w.1 < n)/\(0<=w.2.1/\w.2.1 < n)/\On LL (2 ^ 55) w.2.2):WV n (ws++[w]):=⟨h.1.snoc g,fun x hx=>by
 rcases Za hx with z | z
 ·exact h.2 x z
 ·rw [Zn z]; exact ne⟩
theorem C7r {os:List Int} (nd:os.Nodup) {i j:Nat} (h:j < i) {a b:Int} (hi:os[i]?=some a) (hj:os[j]?=some b):b≠a:=by
 obtain ⟨h1,rfl⟩:=Zs hi;obtain ⟨h2,rfl⟩:=Zs hj;exact List.pairwise_iff_getElem.mp nd j i h2 h1 h
theorem B06 {n:Int} {os:List Int} (h:∀ o ∈ os,0<=o/\o < n) {j:Nat} (hj:j < os.length):∃ o,(0<=o/\o < n)/\os[j]?=some o/\L2.atI (os.map PyData.int) (j:Int)=some (.int o) :=
 ⟨os[j],h _ (List.getElem_mem hj),Zg hj,F6 (by rw [Zh,Zg hj]; rfl)⟩
structure NetV (n:Int) (xs:List Wk) (ws:LW) (hs:LH) (gs:List (List Int)):Prop extends NetG n xs ws hs gs where
 nok:∀ x ∈ xs,NmOk x.1
 nnd:(xs.map (·.1)).Nodup
 wne:∀ w ∈ ws,w.1≠w.2.1
 gnd:gs.flatten.Nodup
theorem C5t {ls us al gf:List Int} (nd:(ls++gf).Nodup) (hu:us.Sublist ls) (ha:al.Sublist ls) (hd:∀ o ∈ us,o ∉ al):(us++(gf++al)).Nodup:=by
 obtain ⟨n1,n2,n3⟩:=List.nodup_append.mp nd;refine List.nodup_append.mpr ⟨n1.sublist hu,List.nodup_append.mpr ⟨n2,n1.sublist ha,fun x hx y hy e=>n3 y (ha.subset hy) x hx e.symm⟩,fun x hx y hy e=>?_⟩;rcases Za hy with z | z
 ·exact n3 x (hu.subset hx) y z e
 ·exact hd x hx (e ▸ z)
theorem B2l {ls us gf:List Int} (nd:(ls++gf).Nodup) (hu:us.Sublist ls):(us++gf).Nodup:=by
 obtain ⟨n1,n2,n3⟩:=List.nodup_append.mp nd;exact List.nodup_append.mpr ⟨n1.sublist hu,n2,fun x hx y hy e=>n3 x (hu.subset hx) y hy e⟩
theorem B9z {α:Type} {f:α->PyData} {xs:List α} {n:Int} (h:0<=n):cutD (xs.map f) none (some n)=(xs.take n.toNat).map f:=by
 obtain ⟨m,rfl⟩:=Zi h;by_cases hm:m<=xs.length
 ·exact A6x hm
 ·unfold cutD;rw [HT.sIx_none,HT.sIx_nat,List.drop_zero,Zl,Nat.sub_zero,Nat.min_eq_right (by omega),Int.toNat_natCast,List.take_of_length_le (by rw [Zl]; exact Zv _),List.take_of_length_le (by omega)]
theorem B68 {al:List Int} {b:Int} (h:((al.map PyData.int).any fun z=>z.eqv (.int b))=false):b ∉ al:=fun hb=>by
 have:=List.any_eq_false.mp h (.int b) (List.mem_map_of_mem hb);exact this (by show decide (b=b)=true; exact Zk rfl)
theorem A02 {ls os:List Int} {i:Nat} {b:Int} (h:ls.Sublist (os.take i)) (hb:os[i]?=some b):(ls++[b]).Sublist (os.take (i + 1)):=by
 rw [List.take_add_one,hb];exact h.append (List.Sublist.refl _)
theorem A03 {ls os:List Int} {i:Nat} (h:ls.Sublist (os.take i)):ls.Sublist (os.take (i + 1)):=h.trans (List.take_sublist_take_left (Nat.le_succ i))
def popR (c:Rat × Rat):LR->LR
 | b :: a :: r=>if C5 a b < C5 b c then b :: a :: r else popR c (a :: r)
 | l=>l
def hfR (cs:LR):LR:=cs.foldl (fun l c=>c :: popR c l) []
theorem B6k {cs:LR} {c:Rat × Rat}:hfR (cs++[c])=c :: popR c (hfR cs):=by unfold hfR; rw [List.foldl_append]; rfl
theorem A9w {l:LR} {c:Rat × Rat} (h:∀ A a b,l=A++[a,b]->C5 a b < C5 b c):popR c l.reverse=l.reverse:=by
 cases e:l.reverse with
 | nil=>rfl
 | cons b r =>
  cases r with
  | nil=>rfl
  | cons a r =>
   have e2:l=r.reverse++[a,b]:=by
    have:=congrArg List.reverse e;rw [List.reverse_reverse] at this;rw [this]; simp
   show (if C5 a b < C5 b c then b :: a :: r else popR c (a :: r))=_;rw [if_pos (h _ _ _ e2)]
theorem C0z {A:LR} {a b c:Rat × Rat} (h:¬ C5 a b < C5 b c):popR c (A++[a,b]).reverse=popR c (A++[a]).reverse:=by
 have e1:(A++[a,b]).reverse=b :: a :: A.reverse:=by simp
 have e2:(A++[a]).reverse=a :: A.reverse:=by simp
 rw [e1,e2];show (if C5 a b < C5 b c then b :: a :: A.reverse else popR c (a :: A.reverse))=_;rw [if_neg h]
theorem B53 (g:List Int) (h:g.length < 1000) (n:Nat):okA (n + 1) (.list (g.map .int)):=⟨by simpa using h,fun x hx=>by
 obtain ⟨c,_,rfl⟩:=List.mem_map.mp hx;unfold okA; trivial⟩
theorem X9 {n:Nat} {xs:LP} (h:xs.length < 1000) (g:∀ x ∈ xs,okA n x):okA (n + 1) (.tuple xs):=⟨h,g⟩
theorem A4d {n:Nat} {xs:LP} (h:xs.length < 1000) (g:∀ x ∈ xs,okA n x):okA (n + 1) (.list xs):=⟨h,g⟩
theorem D0 {p:PyData->Prop} {a:PyData} {b:LP} (h:p a) (g:∀ x ∈ b,p x):∀ x ∈ a :: b,p x:=fun x hx=>by
 rcases List.mem_cons.mp hx with z | z
 ·exact z ▸ h
 ·exact g x z
theorem N8 {p:PyData->Prop}:∀ x ∈ ([]:LP),p x:=fun _ z=>nomatch z
theorem A0z {α:Type} {f:α->PyData} {xs:List α} {p:PyData->Prop} (h:∀ x ∈ xs,p (f x)):∀ x ∈ xs.map f,p x:=fun x hx=>by
 obtain ⟨c,hc,rfl⟩:=List.mem_map.mp hx;exact h c hc
theorem A4c {n:Int} {xs:List Wk} {ws:LW} {hs:LH} {gs:List (List Int)} (ok:NetG n xs ws hs gs):okA 7 (netD xs ws hs (gs.map gD)):=by
 have h1:=ok.ln;have h3:=ok.n1;have wl:=ok.wl;have hl:=ok.hl;have gl:=ok.gl;refine X9 (by show 4 < 1000; decide) (D0 (A4d (by rw [Zl]; omega) (A0z fun x hx=>?_)) (D0 (A4d (by rw [Zl]; omega) (A0z fun x hx=>?_)) (D0 (A4d (by rw [Zl]; omega) (A0z fun x hx=>?_)) (D0 (A4d (by rw [Zl]; omega) (A0z fun x hx=>?_)) N8))))
 ·have o5:=(ok.of x hx).2.1.ok.le;exact X9 (by show 2 < 1000; decide) (D0 (ok.nm x hx) (D0 (X9 (by show 2 < 1000; decide) (D0 (ok.of x hx).1.lay (D0 (B1l (by omega) 0) N8))) N8))
 ·exact X9 (by show 3 < 1000; decide) (D0 True.intro (D0 True.intro (D0 (A2p _ _) N8)))
 ·exact X9 (by show 3 < 1000; decide) (D0 (ok.hk x hx).1.lay (D0 True.intro (D0 (A2p _ _) N8)))
 ·have:=(ok.gk x hx).l9;exact B53 x (by omega) _
def isNb (n:Int):PyData->Bool
 | .int i=>decide (0<=i) && decide (i < n)
 | _=>false
theorem A6l {n i:Int} (h:0<=i/\i < n):isNb n (.int i)=true:=by
 show (decide (0<=i) && decide (i < n))=true;rw [Zk h.1,Zk h.2]; rfl
theorem A66 {α:Type} {f:α->Str} {xs:List α} {z:Str}:((xs.map fun x=>PyData.str (f x)).any fun y=>y.eqv (.str z))=decide (z ∈ xs.map f):=by
 rw [Bool.eq_iff_iff,List.any_eq_true,decide_eq_true_eq,List.mem_map];constructor
 ·rintro ⟨y,hy,e⟩;obtain ⟨x,hx,rfl⟩:=List.mem_map.mp hy;rw [N5,decide_eq_true_eq] at e;exact ⟨x,hx,e⟩
 ·rintro ⟨x,hx,rfl⟩;exact ⟨_,List.mem_map_of_mem hx,by rw [N5]; exact Zk rfl⟩
theorem A1i {α:Type} {f:α->Str}:∀ {xs:List α},(∀ x ∈ xs,(PyData.str (f x)).canLay0=true)->PyData.canLayAll0 (xs.map fun x=>PyData.str (f x))=true
 | [],_=>rfl
 | x :: r,h=>by
  show ((PyData.str (f x)).canLay0 && PyData.canLayAll0 (r.map fun x=>PyData.str (f x)))=true;rw [h x Zy,A1i fun y hy=>h y (Zr _ hy)]; rfl
theorem A56:∀ {xs:List Wk},(∀ x ∈ xs,Kd x.2.1)->PyData.canLayAll0 (xs.map fun x=>offD x.2.1 x.2.2)=true
 | [],_=>rfl
 | x :: r,h=>by
  show ((offD x.2.1 x.2.2).canLay0 && PyData.canLayAll0 (r.map fun x=>offD x.2.1 x.2.2))=true;rw [show (offD x.2.1 x.2.2).canLay0=true from C5e _ (h x Zy).lay,A56 fun y hy=>h y (Zr _ hy)]; rfl
theorem A6t:∀ {xs:List Wk},PyData.depthAll (xs.map fun x=>offD x.2.1 x.2.2)<=50
 | []=>by decide
 | x :: r=>by
  have h1:=A6t (xs:=r);have h2:(offD x.2.1 x.2.2).depth<=50:=by
   have:=A24 x.2.2;show max 0 (max (PyData.depthAll (x.2.2.map dcn) + 1) 0) + 1<=50;omega
  show max (offD x.2.1 x.2.2).depth (PyData.depthAll (r.map fun x=>offD x.2.1 x.2.2))<=50;omega
theorem A6g {n:Int} {xs:LP} (h:(xs.length:Int)=n):¬ isT n (.tuple xs)=false:=by
 show ¬ decide ((xs.length:Int)=n)=false;rw [Zk h]; decide
theorem B9m (q:Rat):isR (dq q)=true:=by rw [B3q,V2]; rfl
def wT (x:Wk) (t:OT):Prop:=∃ p q r,t=.nd false p (.cons (.leaf (.str x.1)) (.cons (.nd false q (.cons (.leaf (.str x.2.1)) (.cons (.nd true r (B1 (x.2.2.map dcn))) .nil))) .nil))
def wTs (xs:List Wk) (ts:List OT):Prop:=ts.length=xs.length/\∀ (i:Nat) x t,xs[i]?=some x->ts[i]?=some t->wT x t
theorem wTs.snoc {xs:List Wk} {ts:List OT} {x:Wk} {t:OT} (h:wTs xs ts) (g:wT x t):wTs (xs++[x]) (ts++[t]):=by
 obtain ⟨h1,h2⟩:=h;refine ⟨by simp [h1],fun i y s hy hs=>?_⟩;rw [List.getElem?_append] at hy hs;rw [h1] at hs;split at hy
 ·rename_i hi; rw [if_pos hi] at hs; exact h2 i y s hy hs
 ·rename_i hi;rw [if_neg hi] at hs;have e:i - xs.length=0:=by
   have:=(Zs hy).1;rw [List.length_singleton] at this; omega
  rw [e] at hy hs;cases hy; cases hs; exact g
theorem wT.dat {x:Wk} {t:OT} (h:wT x t):t.dat=[kD x]:=by
 obtain ⟨p,q,r,rfl⟩:=h;show [PyData.tuple (PyData.str x.1 :: (OT.dat _++[]))]=_;show [PyData.tuple (PyData.str x.1 :: ([PyData.tuple (PyData.str x.2.1 :: ([PyData.list (B1 (x.2.2.map dcn)).dat]++[]))]++[]))]=_;rw [J1]; rfl
theorem wTs.dat {xs:List Wk} {ts:List OT} (h:wTs xs ts):(kids ts).dat=xs.map kD:=by
 induction ts generalizing xs with
 | nil =>
  cases xs with
  | nil=>rfl
  | cons _ _=>cases h.1
 | cons t r ih =>
  cases xs with
  | nil=>cases h.1
  | cons x xr =>
   show t.dat++(kids r).dat=_;rw [(h.2 0 x t rfl rfl).dat,ih ⟨Nat.succ.inj h.1,fun i y s hy hs=>h.2 (i + 1) y s hy hs⟩]; rfl
def NetTr (xs:List Wk) (ws:LW) (hs:LH) (gs:LP) (t:OT):Prop :=
 ∃ p a1 a2 a3 a4 ts,t=.nd false p (.cons (.nd true a1 (kids ts)) (.cons (.nd true a2 (B1 (ws.map wD))) (.cons (.nd true a3 (B1 (hs.map hD))) (.cons (.nd true a4 (B1 gs)) .nil))))/\wTs xs ts
theorem NetTr.dat {xs:List Wk} {ws:LW} {hs:LH} {gs:LP} {t:OT} (h:NetTr xs ws hs gs t):t.dat=[netD xs ws hs gs]:=by
 obtain ⟨p,a1,a2,a3,a4,ts,rfl,hw⟩:=h;show [PyData.tuple ([PyData.list (kids ts).dat]++([PyData.list (B1 (ws.map wD)).dat]++([PyData.list (B1 (hs.map hD)).dat]++([PyData.list (B1 gs).dat]++[]))))]=_;rw [hw.dat,J1,J1,J1]; rfl
theorem A55 {xs:List Wk} {ts:List OT} (h:wTs xs ts) (n:0 < xs.length):(kids ts).lvs=none:=by
 cases ts with
 | nil=>have:=h.1; rw [List.length_nil] at this; omega
 | cons t r =>
  obtain ⟨p,q,s,rfl⟩:=h.2 0 _ t (Zg n) rfl;rfl
theorem C0b {xs:List Wk} {ts:List OT} {a:Addr} (h:wTs xs ts) (n:0 < xs.length):OT.sv (.nd true a (kids ts))=.bt (.nd true a (kids ts)):=by
 show (match (kids ts).lvs with | some xs=>SV.bor xs | none=>.bt (.nd true a (kids ts)))=_;rw [A55 h n]
theorem A84 {xs:List Wk} {ts:List OT} {a:Addr} (h:wTs xs ts) (n:0 < xs.length):OT.slot (.nd true a (kids ts))=.tr (.nd true a (kids ts)):=by
 show (match (kids ts).lvs with | some xs=>SV.own xs | none=>.tr (.nd true a (kids ts)))=_;rw [A55 h n]
def SmO (xs ys:List Wk):Prop:=ys.length=xs.length/\∀ (i:Nat) x y,xs[i]?=some x->ys[i]?=some y->y.1=x.1/\y.2.1="straight"/\Hull x.2.2 y.2.2/\y.2.2.reverse=hfR x.2.2
theorem SmO.uniq {xs ys zs:List Wk} (h:SmO xs ys) (g:SmO xs zs):ys=zs:=by
 refine List.ext_getElem? fun i=>?_;by_cases hi:i < xs.length
 ·have h1:=h.1; have g1:=g.1;obtain ⟨a1,a2,_,a3⟩:=h.2 i _ _ (Zg hi) (Zg (by omega));obtain ⟨b1,b2,_,b3⟩:=g.2 i _ _ (Zg hi) (Zg (by omega));rw [Zg (by omega),Zg (by omega)];congr 1
  refine Prod.ext (a1.trans b1.symm) (Prod.ext (a2.trans b2.symm) ?_);have:=congrArg List.reverse (a3.trans b3.symm)
  rwa [List.reverse_reverse,List.reverse_reverse] at this
 ·rw [List.getElem?_eq_none (by have:=h.1; omega),List.getElem?_eq_none (by have:=g.1; omega)]
theorem C12 {kd:Str} {cs:LR} {a b c d:Nat} (hk:Kd kd) (ok:OfOk cs a b c d) (ha:a<=200) (hb:b<=200) (hc:c<=1000) (hd:d<=1000):OSm (offD kd cs):=by
 refine osm2 (fun z e=>by cases e; exact hk.lay) fun ds e=>?_;cases e;have:=ok.le;refine ⟨by rw [Zl]; omega,fun x hx=>?_⟩;obtain ⟨y,hy,rfl⟩:=List.mem_map.mp hx;obtain ⟨s1,s2⟩:=ok.sm y hy;intro u v e;cases e;refine ⟨fun m n e=>?_,fun m n e=>?_⟩
 ·cases e; exact ⟨s1.1.mono ha,s1.2.mono hb⟩
 ·cases e; exact ⟨s2.1.mono hc,s2.2.mono hd⟩
theorem C2a {kd:Str} {cs:LR} {a b c d:Nat} (hk:Kd kd) (g:OfG kd cs a b c d):ofB (offD kd cs)=true:=by
 have eb:=B90 g.nn;refine C5f ⟨hk,⟨by rw [Zl]; exact g.ok.ne,by rw [Zl]; exact g.ok.le⟩,fun d hd=>?_,by rw [eb]; exact g.up,?_⟩
 ·obtain ⟨y,hy,rfl⟩:=List.mem_map.mp hd;rw [C6v (g.nn y hy).1 (g.nn y hy).2]; rfl
 ·rw [eb];rcases hk with e | e
  ·exact .inr (g.cv e)
  ·exact .inl e
theorem B43 {pt:PTt} {pb R:PSt} {D:PEnds} {env:PEnv} (Iv:Nat->PEnv->Prop) (h0:∃ m,Iv m env) (h:∀ m e,Iv m e->pt e fun b e2=>if b=true then pb ⟨fun e3=>∃ m',m' < m/\Iv m' e3,D.rt,R D,fun e3=>∃ m',m' < m/\Iv m' e3⟩ e2 else R D e2):pSeq (A5g pt pb) R D env:=⟨Iv,h0,h⟩
theorem pig {α:Type} [DecidableEq α]:∀ {l m:List α},l.Nodup->(∀ x ∈ l,x ∈ m)->l.length<=m.length
 | [],_,_,_=>Nat.zero_le _
 | x :: r,m,nd,h=>by
  obtain ⟨h1,h2⟩:=List.nodup_cons.mp nd;have hx:=h x Zy;have h3:=List.length_erase_of_mem hx;have h4:0 < m.length:=List.length_pos_of_mem hx;have:=pig (l:=r) (m:=m.erase x) h2 fun y hy=>(List.mem_erase_of_ne (fun e=>h1 (by rw [<- e]; exact hy))).mpr (h y (Zr _ hy));rw [List.length_cons]; omega
def sixteen:List Nat:=(Str.ofString "qwertyuiopasdfgh").cps.toList
def tri (c:Nat):Str:=Txt.mul ⟨#[c]⟩ 3
theorem A3p (c:Nat):(tri c).cps.toList=[c,c,c]:=rfl
theorem A7f:sixteen.Nodup:=by decide +kernel
theorem A3t:sixteen.length=16:=by decide +kernel
theorem A7e:∀ c ∈ sixteen,97<=c/\c<=122:=by decide +kernel
theorem C26:(sixteen.map tri).Nodup:=by
 rw [List.Nodup,List.pairwise_map];refine List.Pairwise.imp (fun {a b} h e=>h ?_) A7f;have:=congrArg (fun z:Str=>z.cps.toList) e;rw [A3p,A3p] at this;exact (List.cons.inj this).1
theorem B7c {c:Nat} (h:c ∈ sixteen):NmOk (tri c):=by
 refine NmOk.of (by show 1<=3; decide) (by show 3<=8; decide) fun d hd=>?_;rw [A3p] at hd;have:d=c:=by simpa using hd
 rw [this]; exact A7e c h
theorem B95 {zs:List Str} (h:zs.length < 16):∃ c r,sixteen.filter (fun c=>!decide (tri c ∈ zs))=c :: r:=by
 cases e:sixteen.filter (fun c=>!decide (tri c ∈ zs)) with
 | cons c r=>exact ⟨c,r,rfl⟩
 | nil =>
  have h1:=List.filter_eq_nil_iff.mp e;have:=pig C26 (m:=zs) fun x hx=>by
   obtain ⟨c,hc,rfl⟩:=List.mem_map.mp hx;have:=h1 c hc;simpa using this
  rw [Zl,A3t] at this;omega
theorem A3o {xs ys:List Wk} {w:Int} (h0:0<=w) (h1:w < (xs.length:Int)):wat (xs++ys) w=wat xs w:=by
 unfold wat;rw [List.getD_eq_getElem?_getD,List.getD_eq_getElem?_getD,List.getElem?_append_left (by omega)]
theorem GrOk.app {xs ys:List Wk} {g:List Int} (h:GrOk xs g):GrOk (xs++ys) g :=
 ⟨h.l2,h.l9,fun w hw=>⟨(h.ix w hw).1,by rw [Ze]; have:=(h.ix w hw).2; omega⟩,fun w hw=>by rw [A3o (h.ix w hw).1 (h.ix w hw).2]; exact h.st w hw,fun w hw v hv=>by rw [A3o (h.ix w hw).1 (h.ix w hw).2,A3o (h.ix v hv).1 (h.ix v hv).2]; exact h.eq w hw v hv⟩
theorem A45:∀ {cs:LR},RiseO cs->cs.Pairwise fun c d=>d.1 < c.1/\c.2 < d.2
 | [],_=>List.Pairwise.nil
 | [_],_=>List.pairwise_singleton ..
 | c :: d :: r,h=>by
  have h1:=h 0 c d rfl rfl;have ih:=A45 (cs:=d :: r) fun i a b ha hb=>h (i + 1) a b ha hb;refine List.Pairwise.cons (fun e he=>?_) ih;rcases List.mem_cons.mp he with z | z
  ·rw [z]; exact h1
  ·have h2:=(List.pairwise_cons.mp ih).1 e z;exact ⟨by grind,by grind⟩
theorem A88 {cs ds:LR} (h:RiseO cs) (s:ds.Sublist cs):RiseO ds:=fun i a b ha hb=>by
 have hp:=(A45 h).sublist s;obtain ⟨h1,rfl⟩:=Zs ha;obtain ⟨h2,rfl⟩:=Zs hb;exact List.pairwise_iff_getElem.mp hp i (i + 1) h1 h2 (by omega)
theorem R3 {t:OT}:∀ {ts:List OT},(kids (ts++[t])).dat=(kids ts).dat++t.dat
 | []=>by show t.dat++[]=[]++t.dat; simp
 | s :: r=>by show s.dat++(kids (r++[t])).dat=(s.dat++(kids r).dat)++t.dat; rw [R3,List.append_assoc]
theorem ix0 {t:OT} {r:List OT}:ixN (kids (t :: r)).len 0=some 0:=by
 rw [A1k]; unfold ixN; simp
theorem C7u {g:Int} (g0:0<=g) (g1:g < 3):∃ kz:List Str,(1<=kz.length/\kz.length<=3/\∀ z ∈ kz,Kd z)/\L2.atI [PyData.list [.str "straight"],.list [.str "steps"],.list [.str "straight",.str "steps"]] g=some (.list (kz.map .str)):=by
 have hg:g=0\/g=1\/g=2:=by omega
 rcases hg with rfl | rfl | rfl
 ·exact ⟨["straight"],⟨by decide,by decide,fun z hz=>by rw [Zn hz]; exact .inl rfl⟩,rfl⟩
 ·exact ⟨["steps"],⟨by decide,by decide,fun z hz=>by rw [Zn hz]; exact .inr rfl⟩,rfl⟩
 ·refine ⟨["straight","steps"],⟨by decide,by decide,fun z hz=>?_⟩,rfl⟩;rcases List.mem_cons.mp hz with rfl | hz
  ·exact .inl rfl
  ·rw [Zn hz]; exact .inr rfl
theorem A8n (a b:Int) (t:Bool):L2.atI [PyData.int a,.int b] (if t=true then 1 else 0)=some (.int (if t=true then b else a)):=by cases t <;> rfl
theorem A8m (a b:Int) {p:Prop} [Decidable p]:L2.atI [PyData.int a,.int b] (if p then 1 else 0)=some (.int (if p then b else a)):=by by_cases h:p <;> simp only [h,if_true,if_false] <;> rfl
def stB (xs:List Wk):Bool:=xs.all fun x=>decide (x.2.1=("straight":Str))
section
variable {P:Program} {w:World} {K:PySem.W.Frag} {mg:Str->Option Value} {base:Heap} {D:Adr}
def A7j:Pu.PSp:=fun as Q=>∃ x:PyData,as=[.d x]/\Q (.d (.bool (isW x)))
theorem S7 (T:Txt K mg D):FnOk P w K mg base CX0 1 D.a_ba D.d_ba ["thing"] (Pu.spOf K [.dat] A7j):=by
 refine T.B.F_ba.ok sc_ba (Zz rfl) (fun cdv A outer s H vs Q E hr h=>?_);refine ⟨_,(QSs.out (A4 (A6 (G1 (B0 (C6 (K:=K) rfl) (by rfl) T.z_isinstance (by rfl) (A0 (qpv 0) (A0 (C7 (v:=.ty "int") rfl T.z_int (by rfl) rfl) A1))) (G3 (A3v (B0 (C6 (K:=K) rfl) (by rfl) T.z_isinstance (by rfl) (A0 (qpv 0) (A0 (C7 (v:=.ty "bool") rfl T.z_bool (by rfl) rfl) A1))))))))),?_⟩
 haveI:=T.c2_KINDS
 haveI:=T.c2_HOLD_KINDS
 refine Pu.D6 h ?_;rintro as Qp ⟨x,rfl,k⟩;trivial;cases x <;> trivial <;> exact k
def A2e:Pu.PSp:=fun as Q=>∃ (x:PyData) (n:Int),as=[.d x,.d (.int n)]/\Q (.d (.bool (isT n x)))
theorem G2 (T:Txt K mg D):FnOk P w K mg base CX0 1 D.a_ae D.d_ae ["thing","many"] (Pu.spOf K [.dat,.dat] A2e):=by
 refine T.B.F_ae.ok sc_ae (Zz rfl) (fun cdv A outer s H vs Q E hr h=>?_);refine ⟨_,(QSs.out (A4 (A6 (G1 (B0 (C6 (K:=K) rfl) (by rfl) T.z_isinstance (by rfl) (A0 (qpv 0) (A0 (C7 (v:=.ty "tuple") rfl T.z_tuple (by rfl) rfl) A1))) (G3 (D5 (D9 (K:=K) rfl hr.units) (qln K T.z_len (qpv 0)) (qpv 1) (B4 _))))))),?_⟩
 haveI:=T.c2_KINDS
 haveI:=T.c2_HOLD_KINDS
 refine Pu.D6 h ?_;rintro as Qp ⟨x,n,rfl,k⟩;trivial;cases x <;> trivial <;> exact k
theorem J4 (T:Txt K mg D):FnOk P w K mg base CX0 1 D.a_ac D.d_ac ["one","other"] (Pu.spOf K [.dat,.dat] C31):=by
 refine T.B.F_ac.ok sc_ac (Zz rfl) (fun cdv A outer s H vs Q E hr h=>?_);refine ⟨_,(QSs.out (A3 (S2 (i:=0) (j:=1) rfl sc_ac.nd rfl rfl (by decide) rfl rfl (A0 (B0 A3c (by rfl) T.z_abs (by rfl) (A0 (qpv 0) A1)) (A0 (B0 A3c (by rfl) T.z_abs (by rfl) (A0 (qpv 1) A1)) A1)) rfl)
   (A3 (K2 Zf (A9 (G8 (K:=K) rfl hr.units) (qpv 1) A2 (B4 _))
    (A4 (S2 (i:=0) (j:=1) rfl sc_ac.nd rfl rfl (by decide) rfl rfl (A0 (qpv 1) (A0 (B2 M3 (qpv 0) (qpv 1)) A1)) rfl)))
   (A4 (A6 (qpv 0)))))),?_⟩
 haveI:=T.c2_KINDS
 haveI:=T.c2_HOLD_KINDS
 refine Pu.D6 h ?_;rintro as Qp ⟨a,b,rfl,k⟩;trivial;refine ⟨fun m e=>∃ x y:Int,e=[some (.d (.int x)),some (.d (.int y))]/\0<=x/\0<=y/\m=y.toNat/\Int.gcd x y=Int.gcd a b,⟨_,_,_,rfl,by split <;> omega,by split <;> omega,rfl,C2q a b⟩,?_⟩
 rintro m e ⟨x,y,rfl,hx,hy,rfl,hg⟩;trivial;refine ite2 (fun e=>?_) (fun hn=>?_)
 ·subst e;have:=A6o x hx;rw [hg] at this;rw [<- this]; exact k
 ·have h1:=Int.emod_lt_of_pos x (show 0 < y by omega);have h2:=Int.emod_nonneg x hn;exact ⟨by omega,(x % y).toNat,by omega,y,x % y,rfl,hy,h2,rfl,by rw [B30,hg]⟩
def A7k:Pu.PSp:=fun as Q=>∃ x:PyData,as=[.d x]/\Q (.d (.bool (isR x)))
theorem S8 (T:Txt K mg D):FnOk P w K mg base CX0 2 D.a_b9 D.d_b9 ["thing"] (Pu.spOf K [.dat] A7k):=by
 refine T.B.F_b9.ok sc_b9 (Zz rfl) (fun cdv A outer s H vs Q E hr h=>?_);refine ⟨_,(QSs.out (A3 (C0 (B6 (B5 (qcK (G2 (K:=K) T) hr.mo (G9 T) (A0 (qpv 0) (A0 A2 A1)))))
    (A4 (A6 D3))
    A8)
   (A3 (O3 (qpv 0) (D8 (K:=K) (n:=2) rfl rfl (A7 (qgn 1 sc_b9) (A7 (qgn 2 sc_b9) D7)) rfl rfl))
   (A3 (C0 (QW.pt (F8 (B6 (B5 (qcK (S7 (K:=K) T) hr.mo (Y9 T) (A0 (qpv 1) A1)))) (F3 (B6 (B5 (qcK (S7 (K:=K) T) hr.mo (Y9 T) (A0 (qpv 2) A1)))))))
    (A4 (A6 D3))
    A8)
   (A4 (A6 (G1 (D5 C5a (qpv 2) A2 (B4 _)) (G3 (D5 (D9 (K:=K) rfl hr.units) (qcK (J4 (K:=K) T) hr.mo (K4 T) (A0 (qpv 1) (A0 (qpv 2) A1))) A2 (B4 _)))))))))),?_⟩
 haveI:=T.c2_KINDS
 haveI:=T.c2_HOLD_KINDS
 refine Pu.D6 h ?_;rintro as Qp ⟨x,rfl,k⟩;trivial;refine ⟨x,2,rfl,?_⟩;trivial;by_cases ht:isT 2 x=false
 ·rw [if_pos ht];have:isR x=false:=by
   unfold isT at ht;unfold isR;split
   ·simp at ht
   ·rfl
  rw [this] at k; exact k
 ·rw [if_neg ht];obtain ⟨a,b,rfl⟩:∃ a b,x=.tuple [a,b]:=by
   unfold isT at ht;split at ht
   ·rename_i xs;match xs with
    | [a,b]=>exact ⟨a,b,rfl⟩
    | []=>simp at ht
    | [_]=>simp at ht
    | _ :: _ :: _ :: _=>simp at ht; omega
   ·exact absurd rfl ht
  trivial;refine ⟨a,rfl,?_⟩;trivial;by_cases ha:isW a=false
  ·rw [if_pos ha];have:isR (.tuple [a,b])=false:=by
    cases a with
    | int i=>simp [isW] at ha
    | _=>rfl
   rw [this] at k; exact k
  ·rw [if_neg ha];obtain ⟨i,rfl⟩:∃ i,a=.int i:=by
    cases a with
    | int i=>exact ⟨i,rfl⟩
    | _=>exact absurd rfl ha
   refine ⟨b,rfl,?_⟩;trivial;by_cases hb:isW b=false
   ·rw [if_pos hb];have:isR (.tuple [.int i,b])=false:=by
     cases b with
     | int j=>simp [isW] at hb
     | _=>rfl
    rw [this] at k; exact k
   ·rw [if_neg hb];obtain ⟨j,rfl⟩:∃ j,b=.int j:=by
     cases b with
     | int j=>exact ⟨j,rfl⟩
     | _=>exact absurd rfl hb
    trivial;have k:Qp (.d (.bool (decide (1<=j) && decide (((Int.gcd i j:Nat):Int)=1)))):=k;refine ite2 (fun h=>?_) (fun h=>?_)
    ·rw [Zk h,Bool.true_and] at k;refine ⟨_,_,rfl,?_⟩;trivial;exact k
    ·rw [Zd h,Bool.false_and] at k;exact k
def A9m:Pu.PSp:=fun as Q=>∃ x:PyData,as=[.d x]/\(∀ z,x=.str z->z.length<=1000)/\Q (.d (.bool (isN x)))
theorem B1d (T:Txt K mg D):FnOk P w K mg base CX0 1 D.a_c9 D.d_c9 ["thing"] (Pu.spOf K [.dat] A9m):=by
 refine T.B.F_c9.ok sc_c9 (Zz rfl) (fun cdv A outer s H vs Q E hr h=>?_);refine ⟨_,(QSs.out (A3 (C0 (QW.pt (F8 (B6 (B5 (B0 (C6 (K:=K) rfl) (by rfl) T.z_isinstance (by rfl) (A0 (qpv 0) (A0 (C7 (v:=.ty "str") rfl T.z_str (by rfl) rfl) A1))))) (F3 (B6 (W4 A37 A37 A2 (qln K T.z_len (qpv 0)) (K7 (v:=.int 8) rfl T.ci_LONGEST_NAME.choose_spec ⟨_,rfl⟩))))))
    (A4 (A6 D3))
    A8)
   (A4 (A6 (B0 (M5 (K:=K) rfl) (by rfl) T.z_all (by rfl) (A0 (F2 rfl (B9 ["sign"] [none]) (C0m (qpv 0)) (fun _ _ _=>(qgc 0 ["sign"])) (fun _ _ _=>D4) (fun _ _ _=>(A2b B8s B8s B7 (qpv 0) B7))) A1)))))),?_⟩
 haveI:=T.c2_KINDS
 haveI:=T.c2_HOLD_KINDS
 refine Pu.D6 h ?_;rintro as Qp ⟨x,rfl,hz,k⟩;cases x with
 | str z =>
  have hl:=hz z rfl;have k:Qp (.d (.bool (decide (1<=z.length) && decide (z.length<=8) && z.cps.toList.all A0e))):=k;have sl:(A3u z).length=z.length:=by unfold A3u; rw [Zl,Array.length_toList]; rfl
  trivial;refine ⟨hl,ite2 (fun h1=>ite2 (fun h2=>?_) (fun h2=>?_)) (fun h1=>?_)⟩
  ·rw [Zk (show 1<=z.length by omega),Zk (show z.length<=8 by omega),Bool.true_and,Bool.true_and] at k;refine ⟨by omega,?_⟩;unfold A3u;refine K0 (fun i e ys=>∃ o0:Option SV,e=[o0]/\ys=((z.cps.toList.take i).map fun c=>.bool (A0e c))) ⟨_,rfl,rfl⟩ ?_ ?_
   ·rintro i c e ys hc ⟨o0,rfl,rfl⟩;unfold sgn;trivial;refine ite2 (fun h=>?_) (fun h=>?_)
    ·exact ⟨_,rfl,by rw [List.take_add_one,hc,Zc]; unfold A0e; simp only [Option.toList_some,List.map_cons,List.map_nil]; rw [Zd ((C3j c).mp h),Bool.false_and]⟩
    ·exact ⟨_,rfl,by rw [List.take_add_one,hc,Zc]; unfold A0e; simp only [Option.toList_some,List.map_cons,List.map_nil]; rw [Zk (Classical.byContradiction fun z=>h ((C3j c).mpr z)),Bool.true_and,C3k]⟩
   ·rintro e ys ⟨o0,rfl,rfl⟩;rw [List.take_of_length_le (Zv _)];trivial;refine ⟨_,T8 A0e _,?_⟩;rw [List.all_map]; exact k
  ·rw [Zd (show ¬ z.length<=8 by omega),Bool.and_false,Bool.false_and] at k; exact k
  ·rw [Zd (show ¬ 1<=z.length by omega),Bool.false_and,Bool.false_and] at k; exact k
 | none =>
  trivial;exact k
 | bool b =>
  trivial;exact k
 | int i =>
  trivial;exact k
 | list xs =>
  trivial;exact k
 | tuple xs =>
  trivial;exact k
 | dict xs =>
  trivial;exact k
theorem C15 (T:Txt K mg D):FnOk P w K mg base CX0 2 D.a_d6 D.d_d6 ["one","other"] (Pu.spOf K [.dat,.dat] (A0o (·+·))):=by
 refine T.B.F_d6.ok sc_d6 (Zz rfl) (fun cdv A outer s H vs Q E hr h=>?_);refine ⟨_,(QSs.out (A3 (qst 2 sc_d6 (qcK (J4 (K:=K) T) hr.mo (K4 T) (A0 (qix K (qpv 0) A2) (A0 (qix K (qpv 1) A2) A1))))
   (A3 (S2 (i:=3) (j:=4) rfl sc_d6.nd rfl rfl (by decide) rfl rfl (A0 (B2 G5 (qix K (qpv 0) A2) (qpv 2)) (A0 (B2 G5 (qix K (qpv 1) A2) (qpv 2)) A1)) rfl)
   (A3 (qst 5 sc_d6 (B2 F7 (B2 F1 (qix K (qpv 0) A2) (qpv 4)) (B2 F1 (qix K (qpv 1) A2) (qpv 3))))
   (A3 (qst 6 sc_d6 (qcK (J4 (K:=K) T) hr.mo (K4 T) (A0 (qpv 5) (A0 (qpv 2) A1))))
   (A4 (A6 (B8 (A0 (B2 G5 (qpv 5) (qpv 6)) (A0 (B2 F1 (qpv 3) (B2 G5 (qix K (qpv 1) A2) (qpv 6))) A1)))))))))),?_⟩
 haveI:=T.c2_KINDS
 haveI:=T.c2_HOLD_KINDS
 refine Pu.D6 h ?_;rintro as Qp ⟨p,q,rfl,sp,sq,k⟩;trivial;refine ⟨_,_,rfl,?_⟩;trivial;have p2:=sp.2.mono (l:=8000) (by decide);have q2:=sq.2.mono (l:=8000) (by decide);have g0:=T4 (t:=(p.den:Int)) q;have gs:=A14 (t:=(p.den:Int)) q2 (den0 q);have gn:(0:Int)<=((Int.gcd (p.den:Int) (q.den:Int):Nat):Int):=Int.natCast_nonneg _;refine ⟨⟨g0,gs⟩,⟨g0,gs⟩,⟨sp.1.mono (by decide),A2z q2 gn⟩,⟨sq.1.mono (by decide),A2z p2 gn⟩,_,_,rfl,?_⟩;trivial;refine ⟨⟨A6p g0,A14 gs g0⟩,⟨A6p g0,A14 gs g0⟩,⟨A2z p2 gn,A2z q2 (Int.natCast_nonneg _)⟩,?_⟩;obtain ⟨e1,e2⟩:=C03 p q _ _ rfl rfl;rw [e1,e2]; exact k
theorem A5w (T:Txt K mg D):FnOk P w K mg base CX0 3 D.a_d2 D.d_d2 ["one","other"] (Pu.spOf K [.dat,.dat] (A0o (·-·))):=by
 refine T.B.F_d2.ok sc_d2 (Zz rfl) (fun cdv A outer s H vs Q E hr h=>?_);refine ⟨_,(QSs.out (A4 (A6 (qcK (C15 (K:=K) T) hr.mo (C6w T) (A0 (qpv 0) (A0 (B8 (A0 (U1 U0 (qix K (qpv 1) A2)) (A0 (qix K (qpv 1) A2) A1))) A1)))))),?_⟩
 haveI:=T.c2_KINDS
 haveI:=T.c2_HOLD_KINDS
 refine Pu.D6 h ?_;rintro as Qp ⟨p,q,rfl,sp,sq,k⟩;trivial;rw [C6r];refine ⟨_,_,rfl,sp,⟨by have:=sq.1; unfold Sm at *; show (-q.num).natAbs < _; omega,sq.2⟩,?_⟩;show Qp (.d (dq (p + -q)));rw [<- Rat.sub_eq_add_neg]; exact k
theorem A7s (T:Txt K mg D):FnOk P w K mg base CX0 2 D.a_bb D.d_bb ["one","other"] (Pu.spOf K [.dat,.dat] (A0o (·*·))):=by
 refine T.B.F_bb.ok sc_bb (Zz rfl) (fun cdv A outer s H vs Q E hr h=>?_);refine ⟨_,(QSs.out (A3 (S2 (i:=2) (j:=3) rfl sc_bb.nd rfl rfl (by decide) rfl rfl (A0 (qcK (J4 (K:=K) T) hr.mo (K4 T) (A0 (qix K (qpv 0) A2) (A0 (qix K (qpv 1) A2) A1))) (A0 (qcK (J4 (K:=K) T) hr.mo (K4 T) (A0 (qix K (qpv 1) A2) (A0 (qix K (qpv 0) A2) A1))) A1)) rfl)
   (A4 (A6 (B8 (A0 (B2 F1 (B2 G5 (qix K (qpv 0) A2) (qpv 2)) (B2 G5 (qix K (qpv 1) A2) (qpv 3))) (A0 (B2 F1 (B2 G5 (qix K (qpv 0) A2) (qpv 3)) (B2 G5 (qix K (qpv 1) A2) (qpv 2))) A1))))))),?_⟩
 haveI:=T.c2_KINDS
 haveI:=T.c2_HOLD_KINDS
 refine Pu.D6 h ?_;rintro as Qp ⟨p,q,rfl,sp,sq,k⟩;trivial;refine ⟨_,_,rfl,?_⟩;trivial;refine ⟨_,_,rfl,?_⟩;trivial;have p1:=sp.1.mono (l:=8000) (by decide);have q1:=sq.1.mono (l:=8000) (by decide);have p2:=sp.2.mono (l:=8000) (by decide);have q2:=sq.2.mono (l:=8000) (by decide);have g0:=T4 (t:=p.num) q;have gs:=A14 (t:=p.num) q2 (den0 q);have h0:=T4 (t:=q.num) p;have hs:=A14 (t:=q.num) p2 (den0 p);refine ⟨⟨g0,gs⟩,⟨h0,hs⟩,⟨A2z p1 (Int.natCast_nonneg _),A2z q1 (Int.natCast_nonneg _)⟩,⟨h0,hs⟩,⟨g0,gs⟩,⟨A2z p2 (Int.natCast_nonneg _),A2z q2 (Int.natCast_nonneg _)⟩,?_⟩;rw [C5v,C5w]; exact k
theorem B1a (T:Txt K mg D):FnOk P w K mg base CX0 3 D.a_cd D.d_cd ["one","other"] (Pu.spOf K [.dat,.dat] A9j):=by
 refine T.B.F_cd.ok sc_cd (Zz rfl) (fun cdv A outer s H vs Q E hr h=>?_);refine ⟨_,(QSs.out (A3 (O3 (qpv 1) (D8 (K:=K) (n:=2) rfl rfl (A7 (qgn 2 sc_cd) (A7 (qgn 3 sc_cd) D7)) rfl rfl))
   (A3 (C0 (A9 (D9 (K:=K) rfl hr.units) (qpv 2) A2 (B4 _))
    (A4 L3)
    A8)
   (A4 (A6 (qcK (A7s (K:=K) T) hr.mo (B4r T) (A0 (qpv 0) (A0 (A9e (A9 A2m (qpv 2) A2 (B4 _)) (B8 (A0 (qpv 3) (A0 (qpv 2) A1))) (B8 (A0 (U1 U0 (qpv 3)) (A0 (U1 U0 (qpv 2)) A1)))) A1)))))))),?_⟩
 haveI:=T.c2_KINDS
 haveI:=T.c2_HOLD_KINDS
 refine Pu.D6 h ?_;rintro as Qp ⟨p,q,rfl,sp,sq,hq,k⟩;trivial;rw [if_neg (B2i hq)];have e:=B3u hq;have kk:Qp (.d (dq (p * q⁻¹))):=by rw [<- Rat.div_def]; exact k
 refine ite2 (fun h=>?_) (fun h=>?_)
 ·rw [if_pos h,if_pos h] at e;trivial;rw [<- e];exact ⟨_,_,rfl,sp,B9q sq hq,kk⟩
 ·rw [if_neg h,if_neg h] at e;trivial;rw [<- e];exact ⟨_,_,rfl,sp,B9q sq hq,kk⟩
theorem O4 (T:Txt K mg D):FnOk P w K mg base CX0 1 D.a_c8 D.d_c8 ["one","other"] (Pu.spOf K [.dat,.dat] C0u):=by
 refine T.B.F_c8.ok sc_c8 (Zz rfl) (fun cdv A outer s H vs Q E hr h=>?_);refine ⟨_,(QSs.out (A4 (A6 (D5 A1c (B2 F1 (qix K (qpv 0) A2) (qix K (qpv 1) A2)) (B2 F1 (qix K (qpv 1) A2) (qix K (qpv 0) A2)) (B4 _))))),?_⟩
 haveI:=T.c2_KINDS
 haveI:=T.c2_HOLD_KINDS
 refine Pu.D6 h ?_;rintro as Qp ⟨p,q,rfl,sp,sq,k⟩;trivial;have p1:=sp.1.mono (l:=8000) (by decide);have p2:=sp.2.mono (l:=8000) (by decide);have q1:=sq.1.mono (l:=8000) (by decide);have q2:=sq.2.mono (l:=8000) (by decide);refine ⟨⟨p1,q2⟩,⟨q1,p2⟩,?_⟩;rw [B6d]; exact k
def W7:Pu.PSp:=fun as Q=>∃ x:PyData,as=[.d x]/\SmX x/\Q (.d (.bool (nnOf x).isSome))
theorem O5 (T:Txt K mg D):FnOk P w K mg base CX0 3 D.a_a4 D.d_a4 ["thing"] (Pu.spOf K [.dat] W7):=by
 refine T.B.F_a4.ok sc_a4 (Zz rfl) (fun cdv A outer s H vs Q E hr h=>?_);refine ⟨_,(QSs.out (A4 (A6 (G1 (qcK (S8 (K:=K) T) hr.mo (Z0 T) (A0 (qpv 0) A1)) (G3 (A3v (qcK (O4 (K:=K) T) hr.mo (R6 T) (A0 (qpv 0) (A0 (K7 (v:=.ref D.k_NOUGHT) rfl T.c_NOUGHT rfl) A1))))))))),?_⟩
 haveI:=T.c2_NOUGHT
 haveI:=T.c2_KINDS
 haveI:=T.c2_HOLD_KINDS
 refine Pu.D6 h ?_;rintro as Qp ⟨x,rfl,sx,k⟩;trivial;refine ⟨x,rfl,?_⟩;rw [B3q];cases e:Z5 x with
 | none =>
  have:nnOf x=none:=by unfold nnOf; rw [e]; rfl
  rw [this] at k;trivial;exact k
 | some q =>
  have e1:=Q5 e;have sq:=sx.q e;subst e1;have:(nnOf (dq q)).isSome=decide (0<=q):=by
   unfold nnOf;rw [e];by_cases h:0<=q <;> simp [Option.filter,h]
  rw [this] at k;trivial;refine ⟨q,0,rfl,sq.q (by decide) (by decide),smq0,?_⟩;rw [show decide (0<=q)=!decide (q < 0) by by_cases h:q < 0 <;> simp [h,Rat.not_lt.mp,Rat.not_le] <;> grind] at k
  trivial;exact k
def A32:Pu.PSp:=fun as Q=>∃ x:PyData,as=[.d x]/\SmB x/\Q (.d (.bool (bdOf x).isSome))
theorem A4a (T:Txt K mg D):FnOk P w K mg base CX0 4 D.a_b1 D.d_b1 ["thing"] (Pu.spOf K [.dat] A32):=by
 refine T.B.F_b1.ok sc_b1 (Zz rfl) (fun cdv A outer s H vs Q E hr h=>?_);refine ⟨_,(QSs.out (A4 (A6 (G1 (qcK (G2 (K:=K) T) hr.mo (G9 T) (A0 (qpv 0) (A0 A2 A1))) (G1 (qcK (O5 (K:=K) T) hr.mo (P6 T) (A0 (qix K (qpv 0) A2) A1)) (G3 (qcK (O5 (K:=K) T) hr.mo (P6 T) (A0 (qix K (qpv 0) A2) A1)))))))),?_⟩
 haveI:=T.c2_KINDS
 haveI:=T.c2_HOLD_KINDS
 refine Pu.D6 h ?_;rintro as Qp ⟨x,rfl,sx,k⟩;trivial;refine ⟨x,2,rfl,?_⟩;trivial;by_cases ht:isT 2 x=true
 ·obtain ⟨a,b,rfl⟩:∃ a b,x=.tuple [a,b]:=by
   unfold isT at ht;split at ht
   ·rename_i xs;match xs with
    | [a,b]=>exact ⟨a,b,rfl⟩
    | []=>simp at ht
    | [_]=>simp at ht
    | _ :: _ :: _ :: _=>simp at ht; omega
   ·cases ht
  obtain ⟨sa,sb⟩:=sx a b rfl;rw [if_pos ht];trivial;refine ⟨a,rfl,sa.up,?_⟩;trivial;cases ea:nnOf a with
  | none =>
   have:bdOf (.tuple [a,b])=none:=by rw [B4q,ea]
   rw [this] at k;trivial;exact k
  | some p =>
   trivial;refine ⟨b,rfl,sb,?_⟩;cases eb:nnOf b with
   | none =>
    have:bdOf (.tuple [a,b])=none:=by rw [B4q,ea,eb]
    rw [this] at k;trivial;exact k
   | some q =>
    have:bdOf (.tuple [a,b])=some (p,q):=by rw [B4q,ea,eb]
    rw [this] at k;trivial;exact k
 ·have:bdOf x=none:=by
   unfold bdOf;split
   ·exact absurd rfl ht
   ·rfl
  rw [this] at k;rw [if_neg ht];trivial;exact k
def Z7:Pu.PSp:=fun as Q=>∃ c d:Rat × Rat,as=[.d (dcn c),.d (dcn d)]/\d.1 < c.1/\(SmR 200 200 c.1/\SmR 1000 1000 c.2)/\(SmR 200 200 d.1/\SmR 1000 1000 d.2)/\Q (.d (dq (C5 c d)))
theorem L9 (T:Txt K mg D):FnOk P w K mg base CX0 4 D.a_aa D.d_aa ["longer","quicker"] (Pu.spOf K [.dat,.dat] Z7):=by
 refine T.B.F_aa.ok sc_aa (Zz rfl) (fun cdv A outer s H vs Q E hr h=>?_);refine ⟨_,(QSs.out (A4 (A6 (qcK (B1a (K:=K) T) hr.mo (B6x T) (A0 (qcK (A5w (K:=K) T) hr.mo (B4s T) (A0 (qix K (qpv 1) A2) (A0 (qix K (qpv 0) A2) A1))) (A0 (qcK (A5w (K:=K) T) hr.mo (B4s T) (A0 (qix K (qpv 0) A2) (A0 (qix K (qpv 1) A2) A1))) A1)))))),?_⟩
 haveI:=T.c2_KINDS
 haveI:=T.c2_HOLD_KINDS
 refine Pu.D6 h ?_;rintro as Qp ⟨c,d,rfl,h,⟨h1,h2⟩,⟨h3,h4⟩,k⟩;trivial;refine ⟨_,_,rfl,h4.q (by decide) (by decide),h2.q (by decide) (by decide),?_⟩;trivial;refine ⟨_,_,rfl,h1.q (by decide) (by decide),h3.q (by decide) (by decide),?_⟩;trivial;exact ⟨_,_,rfl,(h4.sub h2).q (by decide) (by decide),(h1.sub h3).q (by decide) (by decide),by grind,k⟩
def P7:Pu.PSp:=fun as Q=>∃ cs:LR,as=[.d (.list (cs.map dcn))]/\cs.length<=1000/\(∀ c ∈ cs,SmR 200 200 c.1/\SmR 1000 1000 c.2)/\∀ b:Bool,(b=true ↔ RiseO cs)->Q (.d (.bool b))
theorem Q0 (T:Txt K mg D):FnOk P w K mg base CX0 2 D.a_a0 D.d_a0 ["corners"] (Pu.spOf K [.dat] P7):=by
 refine T.B.F_a0.ok sc_a0 (Zz rfl) (fun cdv A outer s H vs Q E hr h=>?_);refine ⟨_,(QSs.out (A3 (G0 Zf rfl (S3 rfl T.z_range (A0 A2 (A0 (qln K T.z_len (qpv 0)) A1))) (qgn 1 sc_a0)
    (A3 (S2 (i:=2) (j:=3) rfl sc_a0.nd rfl rfl (by decide) rfl rfl (A0 (qix K (qpv 0) (B2 A0q (qpv 1) A2)) (A0 (qix K (qpv 0) (qpv 1)) A1)) rfl)
    (A4 (C0 (QW.pt (F8 (B6 (B5 (qcK (O4 (K:=K) T) hr.mo (R6 T) (A0 (qix K (qpv 3) A2) (A0 (qix K (qpv 2) A2) A1))))) (F3 (B6 (B5 (qcK (O4 (K:=K) T) hr.mo (R6 T) (A0 (qix K (qpv 2) A2) (A0 (qix K (qpv 3) A2) A1))))))))
     (A4 (A6 D3))
     A8))))
   (A4 (A6 D3)))),?_⟩
 haveI:=T.c2_KINDS
 haveI:=T.c2_HOLD_KINDS
 refine Pu.D6 h ?_;rintro as Qp ⟨cs,rfl,hl,sm,k⟩;trivial;refine ⟨by omega,T6 (fun i e=>∃ o1 o2 o3:Option SV,e=[some (.d (.list (cs.map dcn))),o1,o2,o3]/\∀ j c d,j < i->cs[j]?=some c->cs[j + 1]?=some d->d.1 < c.1/\c.2 < d.2) ⟨_,_,_,rfl,fun j c d z=>absurd z (Nat.not_lt_zero j)⟩ ?_ ?_⟩
 ·rintro i e hi ⟨o1,o2,o3,rfl,hn⟩;have hi:i + 1 < cs.length:=by omega
  obtain ⟨c,ec⟩:∃ c,cs[i]?=some c:=⟨_,Zg (by omega)⟩;obtain ⟨d,ed⟩:∃ d,cs[i + 1]?=some d:=⟨_,Zg (by omega)⟩;have sc:=sm c (Zm ec);have sd:=sm d (Zm ed);trivial;rw [show (1:Int) + (i:Int) - 1=(i:Int) by omega];refine L8 ec ?_;trivial;rw [show (1:Int) + (i:Int)=((i + 1:Nat):Int) by omega];refine L8 ed ?_;trivial;refine ⟨_,_,rfl,sd.1.q (by decide) (by decide),sc.1.q (by decide) (by decide),?_⟩;by_cases h1:d.1 < c.1
  ·rw [Zk h1];trivial;refine ⟨_,_,rfl,sc.2.q (by decide) (by decide),sd.2.q (by decide) (by decide),?_⟩;by_cases h2:c.2 < d.2
   ·rw [Zk h2];trivial;refine ⟨_,_,_,rfl,fun j c' d' hj hc hd=>?_⟩;rcases Nat.lt_succ_iff_lt_or_eq.mp hj with z | z
    ·exact hn j c' d' z hc hd
    ·subst z; rw [ec] at hc; rw [ed] at hd; cases hc; cases hd; exact ⟨h1,h2⟩
   ·rw [Zd h2];trivial;exact k _ ⟨fun z=>Bool.noConfusion z,fun z=>absurd (z i c d ec ed).2 h2⟩
  ·rw [Zd h1];trivial;exact k _ ⟨fun z=>Bool.noConfusion z,fun z=>absurd (z i c d ec ed).1 h1⟩
 ·rintro e ⟨o1,o2,o3,rfl,hn⟩;trivial;exact k _ ⟨fun _ i c d ec ed=>hn i c d (by have:=(Zs ed).1; omega) ec ed,fun _=>rfl⟩
def S5:Pu.PSp:=fun as Q=>∃ cs:LR,as=[.d (.list (cs.map dcn))]/\cs.length<=1000/\(∀ c ∈ cs,SmR 200 200 c.1/\SmR 1000 1000 c.2)/\RiseO cs/\∀ b:Bool,(b=true ↔ CvI cs)->Q (.d (.bool b))
theorem S9 (T:Txt K mg D):FnOk P w K mg base CX0 5 D.a_a1 D.d_a1 ["corners"] (Pu.spOf K [.dat] S5):=by
 refine T.B.F_a1.ok sc_a1 (Zz rfl) (fun cdv A outer s H vs Q E hr h=>?_);refine ⟨_,(QSs.out (A3 (O2 (i:=1) sc_a1.nd rfl (Or.inr rfl) (F2 rfl (B9 ["corners","at"] [some 0,none]) (S3 rfl T.z_range (A0 A2 (A0 (qln K T.z_len (qpv 0)) A1))) (fun _ _ _=>(qgc 1 ["corners","at"])) (fun _ _ _=>D4) (fun _ _ _=>(qcK (L9 (K:=K) T) hr.mo (N6 T) (A0 (qix K (qpv 0) (B2 A0q (qpv 1) A2)) (A0 (qix K (qpv 0) (qpv 1)) A1))))))
   (A4 (A6 (B0 (M5 (K:=K) rfl) (by rfl) T.z_all (by rfl) (A0 (F2 rfl (B9 ["rates","at"] [some 1,none]) (S3 rfl T.z_range (A0 A2 (A0 (qln K T.z_len (qpv 1)) A1))) (fun _ _ _=>(qgc 1 ["rates","at"])) (fun _ _ _=>D4) (fun _ _ _=>(qcK (O4 (K:=K) T) hr.mo (R6 T) (A0 (qix K (qpv 0) (B2 A0q (qpv 1) A2)) (A0 (qix K (qpv 0) (qpv 1)) A1))))) A1)))))),?_⟩
 haveI:=T.c2_KINDS
 haveI:=T.c2_HOLD_KINDS
 refine Pu.D6 h ?_;rintro as Qp ⟨cs,rfl,hl,sm,up,k⟩;trivial;refine ⟨by omega,by rw [J7]; omega,?_⟩;refine R5 (fun i e ys=>∃ (o:Option SV) (rs:List Rat),e=[some (.d (.list (cs.map dcn))),o]/\ys=rs.map dq/\rs.length=i/\∀ (j:Nat) r,rs[j]?=some r->∃ c d,cs[j]?=some c/\cs[j + 1]?=some d/\d.1 < c.1/\r=C5 c d) ⟨_,[],rfl,rfl,rfl,fun j r z=>by cases z⟩ ?_ ?_
 ·rintro i e ys hi ⟨o,rs,rfl,rfl,hrl,hr⟩;have hi:i + 1 < cs.length:=by omega
  obtain ⟨c,ec⟩:∃ c,cs[i]?=some c:=⟨_,Zg (by omega)⟩;obtain ⟨d,ed⟩:∃ d,cs[i + 1]?=some d:=⟨_,Zg (by omega)⟩;have h1:=(up i c d ec ed).1;trivial;rw [show (1:Int) + (i:Int) - 1=(i:Int) by omega];refine L8 ec ?_;trivial;rw [show (1:Int) + (i:Int)=((i + 1:Nat):Int) by omega];refine L8 ed ?_;trivial;refine ⟨c,d,rfl,h1,sm c (Zm ec),sm d (Zm ed),?_⟩;trivial;refine ⟨_,rs++[C5 c d],rfl,by rw [Zc]; rfl,by simp [hrl],fun j r hj=>?_⟩;rcases Nat.lt_trichotomy j rs.length with z | z | z
  ·rw [List.getElem?_append_left z] at hj; exact hr j r hj
  ·subst z;have:r=C5 c d:=by simpa using hj.symm
   rw [hrl]; exact ⟨c,d,ec,ed,h1,this⟩
  ·rw [List.getElem?_eq_none (by simp; omega)] at hj; cases hj
 rintro e ys ⟨o,rs,rfl,rfl,hrl,hr⟩;trivial;have hrl:rs.length=cs.length - 1:=by omega
 have sr:∀ (j:Nat) r,rs[j]?=some r->SmQ 3900 r:=fun j r hj=>by
  obtain ⟨c,d,ec,ed,h1,rfl⟩:=hr j r hj;exact (B47 h1 (sm c (Zm ec)) (sm d (Zm ed))).q (by decide) (by decide)
 refine ⟨by omega,by rw [J7]; omega,?_⟩;refine R5 (fun i e ys=>∃ (o:Option SV) (bs:List Bool),e=[some (.bor (rs.map dq)),o]/\ys=(bs.map fun b=>PyData.bool b)/\bs.length=i/\∀ (j:Nat) b p q,bs[j]?=some b->rs[j]?=some p->rs[j + 1]?=some q->b=decide (p < q)) ⟨_,[],rfl,rfl,rfl,fun j b p q z=>by cases z⟩ ?_ ?_
 ·rintro i e ys hi ⟨o,bs,rfl,rfl,hbl,hb⟩;have hi:i + 1 < rs.length:=by omega
  obtain ⟨p,ep⟩:∃ c,rs[i]?=some c:=⟨_,Zg (by omega)⟩;obtain ⟨q,eq⟩:∃ d,rs[i + 1]?=some d:=⟨_,Zg (by omega)⟩;trivial;rw [show (1:Int) + (i:Int) - 1=(i:Int) by omega];refine L8 ep ?_;trivial;rw [show (1:Int) + (i:Int)=((i + 1:Nat):Int) by omega];refine L8 eq ?_;trivial;refine ⟨p,q,rfl,sr i p ep,sr (i + 1) q eq,?_⟩;trivial;refine ⟨_,bs++[decide (p < q)],rfl,by rw [Zc]; rfl,by simp [hbl],fun j b p' q' hj hp hq=>?_⟩;rcases Nat.lt_trichotomy j bs.length with z | z | z
  ·rw [List.getElem?_append_left z] at hj; exact hb j b p' q' hj hp hq
  ·subst z;have e1:b=decide (p < q):=by simpa using hj.symm
   rw [hbl] at hp hq;rw [ep] at hp; rw [eq] at hq; cases hp; cases hq; exact e1
  ·rw [List.getElem?_eq_none (by simp; omega)] at hj; cases hj
 ·rintro e ys ⟨o,bs,rfl,rfl,hbl,hb⟩;trivial;refine ⟨_,T8 (fun b:Bool=>b) bs,k _ ?_⟩;rw [List.map_id',List.all_eq_true];constructor
  ·intro h i a b c ha hb' hc;have hlt:=(Zs hc).1;obtain ⟨p,ep⟩:∃ c,rs[i]?=some c:=⟨_,Zg (by omega)⟩;obtain ⟨q,eq⟩:∃ d,rs[i + 1]?=some d:=⟨_,Zg (by omega)⟩;obtain ⟨t,et⟩:∃ b,bs[i]?=some b:=⟨_,Zg (by omega)⟩;have ht:t=true:=h t (Zm et);have h2:=hb i t p q et ep eq;rw [ht] at h2;obtain ⟨c1,d1,x1,x2,_,rfl⟩:=hr i p ep;obtain ⟨c2,d2,y1,y2,_,rfl⟩:=hr (i + 1) q eq;rw [ha] at x1; rw [hb'] at x2 y1; rw [hc] at y2;cases x1; cases x2; cases y1; cases y2;exact of_decide_eq_true h2.symm
  ·intro h t ht;obtain ⟨i,hi,rfl⟩:=List.mem_iff_getElem.mp ht;obtain ⟨p,ep⟩:∃ c,rs[i]?=some c:=⟨_,Zg (by omega)⟩;obtain ⟨q,eq⟩:∃ d,rs[i + 1]?=some d:=⟨_,Zg (by omega)⟩;have h2:=hb i _ p q (Zg hi) ep eq;obtain ⟨c1,d1,x1,x2,_,rfl⟩:=hr i p ep;obtain ⟨c2,d2,y1,y2,_,rfl⟩:=hr (i + 1) q eq;rw [x2] at y1; cases y1;show bs[i]=true;rw [h2]; exact Zk (h i c1 d1 d2 x1 x2 y2)
def A7l:Pu.PSp:=fun as Q=>∃ x:PyData,as=[.d x]/\OSm x/\Q (.d (.bool (ofB x)))
theorem A7t (T:Txt K mg D):FnOk P w K mg base CX0 6 D.a_b8 D.d_b8 ["thing"] (Pu.spOf K [.dat] A7l):=by
 refine T.B.F_b8.ok sc_b8 (Zz rfl) (fun cdv A outer s H vs Q E hr h=>?_);refine ⟨_,(QSs.out (A3 (C0 (B6 (B5 (qcK (G2 (K:=K) T) hr.mo (G9 T) (A0 (qpv 0) (A0 A2 A1)))))
    (A4 (A6 D3))
    A8)
   (A3 (O3 (qpv 0) (D8 (K:=K) (n:=2) rfl rfl (A7 (qgn 1 sc_b8) (A7 (qgn 2 sc_b8) D7)) rfl rfl))
   (A3 (C0 (QW.pt (F8 (B6 (B5 (B0 (C6 (K:=K) rfl) (by rfl) T.z_isinstance (by rfl) (A0 (qpv 1) (A0 (C7 (v:=.ty "str") rfl T.z_str (by rfl) rfl) A1))))) (F3 (A9 (M2 (K:=K) rfl hr.units) (qpv 1) (K7 (v:=.ref D.k_KINDS) rfl T.c_KINDS rfl) (by with_unfolding_all rfl)))))
    (A4 (A6 D3))
    A8)
   (A3 (C0 (QW.pt (F8 (B6 (B5 (B0 (C6 (K:=K) rfl) (by rfl) T.z_isinstance (by rfl) (A0 (qpv 2) (A0 (C7 (v:=.ty "list") rfl T.z_list (by rfl) rfl) A1))))) (F3 (B6 (W4 A37 A37 A2 (qln K T.z_len (qpv 2)) (K7 (v:=.int 5) rfl T.ci_MOST_CORNERS.choose_spec ⟨_,rfl⟩))))))
    (A4 (A6 D3))
    A8)
   (A3 (C0 (QW.pt (F8 (B6 (B5 (B0 (M5 (K:=K) rfl) (by rfl) T.z_all (by rfl) (A0 (F2 rfl (B9 ["corner"] [none]) (E6 (K:=K) rfl (qpv 2)) (fun _ _ _=>(qgc 0 ["corner"])) (fun _ _ _=>D4) (fun _ _ _=>(qcK (A4a (K:=K) T) hr.mo (A77 T) (A0 (qpv 0) A1)))) A1)))) (F3 (B6 (B5 (qcK (Q0 (K:=K) T) hr.mo (R7 T) (A0 (qpv 2) A1)))))))
    (A4 (A6 D3))
    A8)
   (A4 (A6 (C3s (D5 (D9 (K:=K) rfl hr.units) (qpv 1) B7 (B4 _)) (G3 (qcK (S9 (K:=K) T) hr.mo (U7 T) (A0 (qpv 2) A1)))))))))))),?_⟩
 haveI:=T.c2_KINDS
 haveI:=T.c2_HOLD_KINDS
 refine Pu.D6 h ?_;rintro as Qp ⟨x,rfl,sx,k⟩;trivial;refine ⟨x,2,rfl,?_⟩;trivial;by_cases ht:isT 2 x=false
 ·rw [if_pos ht];rw [B1n (fun z ds e=>by subst e; exact absurd ht (fun q=>by cases q))] at k;exact k
 rw [if_neg ht];obtain ⟨a,b,rfl⟩:=C2l ht;trivial;cases a with
 | str z =>
  trivial;obtain ⟨hz,hds⟩:=sx _ _ rfl;refine ⟨B2t,hz z rfl,?_⟩;by_cases hk:Kd z;case neg =>
   rw [if_pos (B6f hk)];rw [C5g hk] at k;exact k
  rw [if_neg (B3n hk)];cases b with
  | list ds =>
   obtain ⟨hl,sd⟩:=hds ds rfl;have no:¬ (Kd z/\(1<=ds.length/\ds.length<=5)/\(∀ d ∈ ds,(bdOf d).isSome=true)/\RiseO (ds.filterMap bdOf)/\(z="steps"\/CvI (ds.filterMap bdOf)))->Qp (.d (.bool false)):=fun q=>by rw [C5h q] at k; exact k
   have yes:(Kd z/\(1<=ds.length/\ds.length<=5)/\(∀ d ∈ ds,(bdOf d).isSome=true)/\RiseO (ds.filterMap bdOf)/\(z="steps"\/CvI (ds.filterMap bdOf)))->Qp (.d (.bool true)):=fun q=>by rw [C5f q] at k; exact k
   trivial;refine ite2 (fun h1=>?_) (fun h1=>no fun q=>h1 (by have:=q.2.1.1; omega));refine ite2 (fun h5=>?_) (fun h5=>no fun q=>h5 (by have:=q.2.1.2; omega));refine ⟨by omega,⟨fun i e ys=>∃ o:Option SV,e=[o]/\ys=(ds.take i).map fun d=>.bool (bdOf d).isSome,⟨_,rfl,rfl⟩,?_,?_⟩⟩
   ·rintro i x e ys hx ⟨o,rfl,rfl⟩;trivial;refine ⟨x,rfl,sd x (Zm hx),?_⟩;trivial;refine ⟨_,rfl,?_⟩;rw [List.take_succ,hx,Zc]; rfl
   rintro e ys ⟨o,rfl,rfl⟩;rw [List.take_length];trivial;refine ⟨_,T8 _ ds,?_⟩;by_cases hall:∀ d ∈ ds,(bdOf d).isSome=true;case neg =>
    rw [if_pos (by rw [List.all_map]; exact Bool.eq_false_iff.mpr fun z=>hall (List.all_eq_true.mp z))];exact no fun q=>hall q.2.2.1
   rw [if_neg (by rw [List.all_map]; intro z; exact absurd (List.all_eq_true.mpr hall) (by rw [show (ds.all fun d=>(bdOf d).isSome)=_ from z]; decide))];obtain ⟨cs,ecs⟩:∃ cs,ds.filterMap bdOf=cs:=⟨_,rfl⟩;have eds:=B4p hall;rw [ecs] at eds no yes;have sm:∀ c ∈ cs,SmR 200 200 c.1/\SmR 1000 1000 c.2:=fun c hc=>by
    have:=sd (dcn c) (by rw [eds]; exact List.mem_map.mpr ⟨c,hc,rfl⟩);exact this.sm
   have hlc:cs.length<=1000:=by rw [eds,Zl] at hl; exact hl
   refine ⟨cs,by rw [<- eds],hlc,sm,fun b hb=>?_⟩;cases b with
   | false =>
    trivial;exact no fun q=>Bool.noConfusion (hb.mpr q.2.2.2.1)
   | true =>
    have up:=hb.mp rfl;trivial;refine ⟨hk.lay,A2s,?_⟩;rcases id hk with hk' | hk'
    ·have hk':z="straight":=hk';subst hk';rw [C6o];trivial;refine ⟨cs,by rw [<- eds],hlc,sm,up,fun b hb=>?_⟩;cases b with
     | false=>exact no fun q=>Bool.noConfusion (hb.mpr (q.2.2.2.2.resolve_left fun e=>C7v e.symm))
     | true=>exact yes ⟨hk,⟨by omega,by omega⟩,hall,up,.inr (hb.mp rfl)⟩
    ·have hk':z="steps":=hk';subst hk';rw [B9u];trivial;exact yes ⟨hk,⟨by omega,by omega⟩,hall,up,.inl rfl⟩
  | _ =>
   trivial;rw [B1n (fun z ds e=>by cases e)] at k;exact k
 | _ =>
  trivial;rw [B1n (fun z ds e=>by cases e)] at k;exact k
def A30:Pu.PSp:=fun as Q=>∃ (t0:OT) (kd:Str) (cs:LR),as=[.bt t0]/\OffT t0 kd cs/\OfOk cs 161 85 810 674/\∀ a b out,Hull cs out->out.reverse=hfR cs->Q (.tr (.nd false a (.cons (.leaf (.str "straight")) (.cons (.nd true b (B1 (out.map dcn))) .nil))))
theorem X3 (T:Txt K mg D):FnOk P w K mg base CX0 5 D.a_b2 D.d_b2 ["offer"] (Pu.spOf K [.bt] A30):=by
 refine T.B.F_b2.ok sc_b2 (Zz rfl) (fun cdv A outer s H vs Q E hr h=>?_);refine ⟨_,(QSs.out (A3 (qst 1 sc_b2 (C3 A1))
   (A3 (G0 Zf rfl (E6 (K:=K) rfl (qKid (qix K (qpv 0) A2))) (qgn 2 sc_b2)
    (A3 (K2 Zf (QW.pt (W3 (A9 A2m (qln K T.z_len (qpv 1)) A2 (B4 _)) (Q6 (B6 (B5 (qcK (O4 (K:=K) T) hr.mo (R6 T) (A0 (qcK (L9 (K:=K) T) hr.mo (N6 T) (A0 (qix K (qpv 1) (U1 U0 A2)) (A0 (qix K (qpv 1) (U1 U0 A2)) A1))) (A0 (qcK (L9 (K:=K) T) hr.mo (N6 T) (A0 (qix K (qpv 1) (U1 U0 A2)) (A0 (qpv 2) A1))) A1))))))))
     (A4 (C1 (V3 (K:=K) rfl Z1 PySem.F.slot_list_pop PySem.F.type_list_pop C5x (qpv 1)))))
    (A4 (C1 (F4 (K:=K) rfl Z1 Z2 Z3 C8 (qpv 1) (A0 (qpv 2) A1))))))
   (A4 (A6 (A3x (B8 (A0 B7 (A0 (qpv 1) A1))))))))),?_⟩
 haveI:=T.c2_KINDS
 haveI:=T.c2_HOLD_KINDS
 refine Pu.D6 h ?_;rintro as Qp ⟨t0,kd,cs,rfl,ho,ok,k⟩;have n1:=ok.ne;have n5:=ok.le;have dl:=(A4p ok.dec);trivial;obtain ⟨u,v,hp,hv⟩:∃ u v,t0.pair=some (u,v)/\v.sv=.bor (cs.map dcn):=by
  rcases ho with rfl | ⟨a,b,rfl⟩
  ·exact ⟨_,_,rfl,rfl⟩
  ·exact ⟨_,_,rfl,N9⟩
 refine ⟨u,v,_,hp,hv,?_⟩;refine Y3 (fun i e=>∃ (o2:Option SV) (l:LR),e=[some (.bt t0),some (.own (l.map dcn)),o2]/\Half cs i l []/\(∀ j,j + 1=i->l[l.length - 1]?=cs[j]?)/\l.reverse=hfR (cs.take i)) ⟨none,[],rfl,⟨by simp,fun h=>absurd h (by decide),fun i a b c h=>by simp at h,fun p hp=>by simp at hp,fun _=>by simp⟩,(fun j h=>by omega),rfl⟩ ?_ ?_
 ·rintro i c e hc ⟨o2,l0,rfl,hf,_,hh⟩;have hi:=(Zs hc).1;have mc:=Zm hc;trivial;refine ⟨fun m e=>∃ l:LR,e=[some (.bt t0),some (.own (l.map dcn)),some (.d (dcn c))]/\Half cs i l [c]/\m=l.length/\popR c l.reverse=popR c l0.reverse,⟨_,l0,rfl,hf.start,rfl,rfl⟩,?_⟩;rintro m e ⟨l,rfl,hf,rfl,hp⟩;trivial;have lt:=B3y dl hf.sub hc;have ll:l.length<=5:=by have:=hf.sub.length_le; rw [List.length_take] at this; omega
  have fin:(∀ A a b,l=A++[a,b]->C5 a b < C5 b c)->l.length < 1000000/\∃ (o2:Option SV) (l':LR),[some (SV.bt t0),some (.own (l.map dcn++[dcn c])),some (.d (dcn c))]=[some (.bt t0),some (.own (l'.map dcn)),o2]/\Half cs (i + 1) l' []/\(∀ j,j + 1=i + 1->l'[l'.length - 1]?=cs[j]?)/\l'.reverse=hfR (cs.take (i + 1)):=fun h =>
   ⟨by omega,_,l++[c],by rw [Zc]; rfl,hf.push hc h,(fun j hj=>by
    have:j=i:=by omega
    subst this;rw [hc,Ze,List.length_singleton,Nat.add_sub_cancel,List.getElem?_append_right (Zv _),Nat.sub_self]; rfl),by
    rw [List.take_add_one,hc,Option.toList_some,B6k,List.reverse_append,<- hh,<- hp,A9w h]; rfl⟩
  refine ite2 (fun h=>?_) (fun h=>?_)
  ·obtain ⟨A,a,b,rfl⟩:∃ A a b,l=A++[a,b]:=by
    rcases List.eq_nil_or_concat l with rfl | ⟨l1,b,rfl⟩
    ·simp at h
    ·rcases List.eq_nil_or_concat l1 with rfl | ⟨A,a,rfl⟩
     ·simp at h
     ·exact ⟨A,a,b,by simp⟩
   have ma:a ∈ cs:=List.mem_of_mem_take (hf.sub.subset (by simp));have mb:b ∈ cs:=List.mem_of_mem_take (hf.sub.subset (by simp));have h1:b.1 < a.1:=by
    have:=(List.pairwise_append.mp (List.pairwise_append.mp lt).1).2.1;cases this with | cons z _=>exact z b (by simp)
   have h2:c.1 < b.1:=(List.pairwise_append.mp lt).2.2 b (by simp) c (by simp);obtain ⟨a1,a2⟩:=ok.sm a ma;obtain ⟨b1,b2⟩:=ok.sm b mb;obtain ⟨c1,c2⟩:=ok.sm c mc;refine B5y ?_;trivial;refine Q9 (xs:=A++[a,b]) (a:=b) (by simp) (by simp) ?_;trivial;refine ⟨a,b,rfl,h1,⟨a1.mono (by decide) (by decide),a2.mono (by decide) (by decide)⟩,⟨b1.mono (by decide) (by decide),b2.mono (by decide) (by decide)⟩,?_⟩;trivial;refine Q9 (xs:=A++[a,b]) (a:=b) (by simp) (by simp) ?_;trivial;refine ⟨b,c,rfl,h2,⟨b1.mono (by decide) (by decide),b2.mono (by decide) (by decide)⟩,⟨c1.mono (by decide) (by decide),c2.mono (by decide) (by decide)⟩,?_⟩;trivial;refine ⟨_,_,rfl,(A40 h1 a1 a2 b1 b2).q (by decide) (by decide),(A40 h2 b1 b2 c1 c2).q (by decide) (by decide),?_⟩;trivial;refine ite2 (fun g=>?_) (fun g=>?_)
   ·exact fin fun A' a' b' e=>by
     obtain ⟨_,e2⟩:=List.append_inj' e rfl;cases e2; exact g
   ·refine ⟨by simp,(A++[a]).length,by simp,A++[a],?_,hf.pop dl hc g,rfl,by rw [<- hp]; exact (C0z g).symm⟩;simp
  ·exact fin fun A a b e=>by rw [e] at h; simp at h; omega
 ·rintro e ⟨o2,l,rfl,hf,hl,hh⟩;trivial;intro b1 _ _;refine ⟨by show 2<=1000; decide,fun a3 _=>?_⟩;exact k a3 b1 l (hf.done n1 (hl (cs.length - 1) (by omega))) (by rw [hh]; congr 1; exact List.take_of_length_le (by simp))
theorem A7x (T:Txt K mg D):FnOk P w K mg base CX0 1 D.a_bf D.d_bf ["_law_script","_law_k"] (A41 K):=by
 refine T.B.F_bf.ok sc_bf (fun vs H Q E h=>?_) (fun cdv A outer s H vs Q E hr h=>?_)
 ·obtain ⟨a,ns,k,rfl,_⟩:=h; rfl
 ·obtain ⟨a,ns,k,rfl,ha,k0,k1,kk⟩:=h;refine ⟨_,(J8 (A0n (i:=2) sc_bf.nd rfl (Or.inl rfl) E9)
   (J8 (C0v (A9h A1c (pv 1) (A5f call_len_seq (by rfl) T.z_len PySem.boot_len (P8 (pv 0) A2i)) (B4 _))
    (S4 (A0n (i:=2) sc_bf.nd rfl (Or.inl rfl) (A07 ix_list (pv 0) (pv 1) (fun _ _=>rfl))))
    A3z)
   (S4 (A5a (B7r (P8 (pv 2) (P8 (L5 M3 (L5 F7 (L5 F7 (L5 M3 (pv 2) E9) (L5 F1 (L5 F1 E9 (pv 1)) (pv 1))) E9) E9) (P8 (A08 C5a (pv 2) (L5 B07 E9 E9) (B4 _)) A2i)))))))),?_⟩
  have fin:∀ c:Int,∃ v,([some (V.ref a),some (V.int k),some (V.int c)]:St)[2]?=some (some v) /\
    (F9 (tOp (rI (fun _ j=>0 < j) fun i j=>.int (i % j)) (tOp (rI0 fun i j=>.int (i + j)) (tOp (rI0 fun i j=>.int (i + j)) (tOp (rI (fun _ j=>0 < j) fun i j=>.int (i % j)) (tVar 2) (tC (.int 2147483587)))
     (tOp (rI C21 fun i j=>.int (i * j)) (tOp (rI C21 fun i j=>.int (i * j)) (tC (.int 104729)) (tVar 1)) (tVar 1))) (tC (.int 7))) (tC (.int 2147483587)))
     (F9 (tOp (rI0 fun i j=>.bl (decide (j<=i))) (tVar 2) (tOp (rI CPow fun i j=>.int (i ^ j.toNat)) (tC (.int 10)) (tC (.int 18)))) tNil)) [some (V.ref a),some (V.int k),some (V.int c)] H
     fun xs H1=>(v :: xs).length<=sizeLine/\∀ p,H1 p=none->Q (.ref p) (upd H1 p (.lst (v :: xs))):=by
   intro c;refine ⟨_,rfl,_,rfl,_,_,rfl,rfl,(by show (0:Int) < 2147483587; decide),_,rfl,_,_,rfl,rfl,⟨A0k 0,A42 k0 k1⟩,_,rfl,_,_,rfl,rfl,⟨(Sm.mul (k:=20) (l:=20) (by unfold Sm; decide) (C3d k0 k1)).mono (by decide),A42 k0 k1⟩,
    _,_,rfl,rfl,_,_,rfl,rfl,_,_,rfl,rfl,(by show (0:Int) < 2147483587; decide),_,rfl,_,_,rfl,rfl,B4g 18,_,_,rfl,rfl,by show 3<=sizeLine; decide,fun p hp=>?_⟩
   have e1:=Int.emod_nonneg (c % 2147483587 + 104729 * k * k + 7) (show (2147483587:Int)≠0 by decide);have e2:=Int.emod_lt_of_pos (c % 2147483587 + 104729 * k * k + 7) (show (0:Int) < 2147483587 by decide);exact kk p _ hp ⟨_,_,_,B3,e1,by omega⟩ (Same.upd hp).kp
  refine ⟨_,rfl,_,rfl,a,_,rfl,.inl ha,_,_,rfl,rfl,_,rfl,?_⟩;refine ifD (fun hn=>?_) (fun hn=>?_)
  ·have hk:(ns.map V.int)[k.toNat]?=some (V.int (ns.getD k.toNat 0)):=by
    have hlt:k.toNat < ns.length:=by rw [Zl] at hn; omega
    rw [Zh,Zg hlt,List.getD_eq_getElem?_getD,Zg hlt]; rfl
   have hk':atI (ns.map V.int) k=some (V.int (ns.getD k.toNat 0)):=by
    have:=F6 hk
    rwa [show ((k.toNat:Nat):Int)=k by omega] at this
   refine ⟨_,rfl,_,rfl,a,_,k,_,rfl,rfl,ha,hk',?_⟩;exact fin _
  ·exact fin 0
theorem O6 (T:Txt K mg D):FnOk P w K mg base CX0 1 D.a_bf D.d_bf ["_law_script","_law_k"] (Pu.spOf K [.vw,.dat] Pu.A5b):=FnOk.imp (A7x T) Pu.B6w
theorem B1h (T:Txt K mg D):FnOk P w K mg base CX0 1 D.a_d1 D.d_d1 ["_law_state","_law_many"] A82:=by
 refine T.B.F_d1.ok sc_d1 (fun vs H Q E h=>?_) (fun cdv A outer s H vs Q E hr h=>?_)
 ·obtain ⟨p,n,rfl,_⟩:=h; rfl
 ·obtain ⟨p,n,rfl,S0,n0,sn,k⟩:=h;refine ⟨_,(J8 (C0v (B7p (A07 ix_list (pv 0) E9 (fun _ _=>rfl)))
    (J8 (A0n (i:=2) sc_d1.nd rfl (Or.inl rfl) (L5 M3 (A07 ix_list (pv 0) E9 (fun _ _=>rfl)) (pv 1)))
    (J8 (A5c (L5 G5 (A07 ix_list (pv 0) E9 (fun _ _=>rfl)) (pv 1)) (A5e (pv 0) E9 V0))
    (J8 (A5c (A08 A2m (A07 ix_list (pv 0) E9 (fun _ _=>rfl)) E9 (B4 _)) (A5e (pv 0) E9 V0))
    (S4 (A5a (pv 2))))))
    A3z)
   (J8 (A0n (i:=3) sc_d1.nd rfl (Or.inl rfl) E9)
   (J8 (B7q Zf rfl (A2g rfl T.z_range (P8 (L5 F7 E9 (L5 F1 E9 (A2h A3b (by rfl) T.z_int (by rfl) (P8 (A08 A2m (pv 1) (L5 B07 E9 E9) (B4 _)) A2i)))) A2i)) (A9z (i:=4) sc_d1.nd rfl (Or.inl rfl) (Or.inl rfl))
    (J8 (A5c (L5 M3 (L5 F7 (L5 F1 (A07 ix_list (pv 0) E9 (fun _ _=>rfl)) E9) E9) E9) (A5e (pv 0) E9 V0))
    (S4 (A0n (i:=3) sc_d1.nd rfl (Or.inl rfl) (L5 F7 (L5 F1 (pv 3) E9) (L5 M3 (L5 F1 (A07 ix_list (pv 0) E9 (fun _ _=>rfl)) (A07 ix_list (pv 0) E9 (fun _ _=>rfl))) E9))))))
   (S4 (A5a (L5 M3 (L5 G5 (pv 3) E9) (pv 1))))))),?_⟩
  obtain ⟨c,m,f,hp,m0,m1⟩:=S0.ex;refine ⟨_,rfl,p,_,_,_,rfl,rfl,SqL.of hp,at2,f,rfl,?_⟩;have s8:Sm 8000 n:=sn.mono (by decide);cases f with
  | true =>
   refine iteT ?_;refine ⟨_,rfl,p,_,_,_,rfl,rfl,SqL.of hp,at0,_,rfl,_,_,rfl,rfl,n0,?_⟩;refine ⟨_,rfl,p,_,_,_,rfl,rfl,SqL.of hp,at0,_,rfl,_,_,rfl,rfl,⟨by omega,s8⟩,_,rfl,p,_,_,0,rfl,rfl,hp,rfl,?_⟩;refine ⟨_,rfl,p,_,_,_,rfl,rfl,SqL.of B3,at0,_,_,rfl,rfl,_,rfl,p,_,_,2,rfl,rfl,B3,rfl,?_⟩;refine ⟨_,rfl,?_⟩;exact k _ _ (Int.emod_nonneg c (by omega)) (Int.emod_lt_of_pos c n0) ⟨_,_,_,B3,m0,m1⟩ (Kp.upd.trans Kp.upd)
  | false =>
   refine iteF ?_;refine ⟨_,rfl,_,_,rfl,rfl,B4g 6,_,_,rfl,rfl,.inr ⟨_,rfl,_,_,rfl,rfl,⟨A0k 0,C3e _⟩,_,_,rfl,rfl,_,rfl,?_,?_,B32 (lo:=0)
    (fun i σ H'=>∃ (m' md:Int) (x:Option V),σ=[some (V.ref p),some (V.int n),none,some (V.int md),x]/\H' p=some (.lst [.int c,.int m',.bl false])/\0<=m'/\m' < 2147483648/\Kp p H H'/\Sm (40 * i + 1) md)
    ⟨m,0,none,rfl,hp,m0,m1,Kp.refl,by unfold Sm; decide⟩ ?_ ?_⟩⟩
   ·split <;> omega
   ·split <;> omega
   ·rintro i σ H' hi ⟨m',md,x,rfl,hp',h0,h1,kk,sd⟩;have hi9:i < 9:=by
     refine Nat.lt_of_lt_of_le hi ?_;split <;> decide
    refine ⟨_,rfl,p,_,_,_,rfl,rfl,SqL.of hp',at1,_,_,rfl,rfl,⟨sm32 h0 h1,A0k 0⟩,_,_,rfl,rfl,_,_,rfl,rfl,(by show (0:Int) < 2147483647; decide),_,rfl,p,_,_,1,rfl,rfl,hp',rfl,?_⟩;have e1:=Int.emod_nonneg (m' * 39373 + 17) (show (2147483647:Int)≠0 by decide);have e2:=Int.emod_lt_of_pos (m' * 39373 + 17) (show (0:Int) < 2147483647 by decide);have sm:=sm32 e1 (by omega);refine ⟨_,rfl,_,_,rfl,rfl,⟨sd.mono (by omega),A0k 0⟩,_,rfl,p,_,_,_,rfl,rfl,SqL.of B3,at1,_,rfl,p,_,_,_,rfl,rfl,SqL.of B3,at1,_,_,rfl,rfl,⟨sm,sm⟩,_,_,rfl,rfl,(by show (0:Int) < 2147483587; decide),_,_,rfl,rfl,?_⟩;have g1:=Int.emod_nonneg ((m' * 39373 + 17) % 2147483647 * ((m' * 39373 + 17) % 2147483647)) (show (2147483587:Int)≠0 by decide);have g2:=Int.emod_lt_of_pos ((m' * 39373 + 17) % 2147483647 * ((m' * 39373 + 17) % 2147483647)) (show (0:Int) < 2147483587 by decide);refine ⟨_,_,_,rfl,B3,e1,by omega,kk.trans Kp.upd,?_⟩;refine Sm.mono (k:=40 * i + 1 + 32 + 1) (Sm.add (sd.mul (l:=32) (by unfold Sm; decide)) ?_) (by omega);exact Sm.mono (k:=32) (by unfold Sm; omega) (by omega)
   ·rintro σ H' ⟨m',md,x,rfl,hp',h0,h1,kk,sd⟩;refine ⟨_,rfl,_,_,rfl,rfl,⟨by decide,A0k 0⟩,_,rfl,_,_,rfl,rfl,n0,?_⟩;exact k _ _ (Int.emod_nonneg _ (by omega)) (Int.emod_lt_of_pos _ n0) ⟨_,_,_,hp',h0,h1⟩ kk
theorem C2 (T:Txt K mg D):FnOk P w K mg base CX0 1 D.a_d1 D.d_d1 ["_law_state","_law_many"] (Pu.spOf K [.st,.dat] Pu.A9i):=FnOk.imp (B1h T) Pu.B96
theorem A1d (T:Txt K mg D):FnOk P w K mg base CX0 1 D.a_d4 D.d_d4 ["_law_top","_law_bottom"] (Pu.spOf K [.dat,.dat] C0t):=by
 refine T.B.F_d4.ok sc_d4 (Zz rfl) (fun cdv A outer s H vs Q E hr h=>?_);refine ⟨_,(QSs.out (A3 (qst 2 sc_d4 (qpv 0))
   (A3 (qst 3 sc_d4 (qpv 1))
   (A3 (K2 Zf (A9 (G8 (K:=K) rfl hr.units) (qpv 3) A2 (B4 _))
    (A4 (S2 (i:=2) (j:=3) rfl sc_d4.nd rfl rfl (by decide) rfl rfl (A0 (qpv 3) (A0 (B2 M3 (qpv 2) (qpv 3)) A1)) rfl)))
   (A4 (A6 (B8 (A0 (B2 G5 (qpv 0) (qpv 2)) (A0 (B2 G5 (qpv 1) (qpv 2)) A1))))))))),?_⟩
 haveI:=T.c2_KINDS
 haveI:=T.c2_HOLD_KINDS
 refine Pu.D6 h ?_;rintro as Qp ⟨t,b,rfl,hb,st,sb,k⟩;trivial;refine ⟨fun m e=>∃ x y:Int,e=[some (.d (.int t)),some (.d (.int b)),some (.d (.int x)),some (.d (.int y))]/\0<=y/\(y=0->0 < x)/\m=y.toNat/\Int.gcd x y=Int.gcd t b,⟨_,_,_,rfl,by omega,fun e=>by omega,rfl,rfl⟩,?_⟩;rintro m e ⟨x,y,rfl,hy,hx,rfl,hg⟩;trivial;refine ite2 (fun e=>?_) (fun hn=>?_)
 ·subst e;have hx0:=hx rfl;have e1:x=sh t b:=by
   have:=A6o x (by omega);rw [hg] at this;unfold sh; rw [if_neg (by omega)]; exact this.symm
  subst e1;have hb0:b≠0:=by omega
  refine ⟨⟨C3h hb0,C3c sb hb0⟩,⟨C3h hb0,C3c sb hb0⟩,?_⟩;rw [A4e hb0,B2o hb0]; exact k
 ·have h1:=Int.emod_lt_of_pos x (show 0 < y by omega);have h2:=Int.emod_nonneg x hn;exact ⟨by omega,(x % y).toNat,by omega,y,x % y,rfl,h2,fun _=>by omega,rfl,by rw [B30,hg]⟩
theorem O9 (T:Txt K mg D):FnOk P w K mg base CX0 2 D.a_d0 D.d_d0 ["_law_one","_law_other"] (Pu.spOf K [.dat,.dat] (A0o (·+·))):=by
 refine T.B.F_d0.ok sc_d0 (Zz rfl) (fun cdv A outer s H vs Q E hr h=>?_);refine ⟨_,(QSs.out (A4 (A6 (qcK (A1d (K:=K) T) hr.mo (A62 T) (A0 (B2 F7 (B2 F1 (qix K (qpv 0) A2) (qix K (qpv 1) A2)) (B2 F1 (qix K (qpv 1) A2) (qix K (qpv 0) A2))) (A0 (B2 F1 (qix K (qpv 0) A2) (qix K (qpv 1) A2)) A1)))))),?_⟩
 haveI:=T.c2_KINDS
 haveI:=T.c2_HOLD_KINDS
 refine Pu.D6 h ?_;rintro as Qp ⟨p,q,rfl,sp,sq,k⟩;trivial;have p1:=sp.1.mono (l:=8000) (by decide);have p2:=sp.2.mono (l:=8000) (by decide);have q1:=sq.1.mono (l:=8000) (by decide);have q2:=sq.2.mono (l:=8000) (by decide);refine ⟨⟨p1,q2⟩,⟨q1,p2⟩,⟨p2,q2⟩,_,_,rfl,Int.mul_pos (denp p) (denp q),((sp.1.mul sq.2).add (sq.1.mul sp.2)).mono (by decide),(sp.2.mul sq.2).mono (by decide),?_⟩;rw [C3w]; exact k
theorem X7 (T:Txt K mg D):FnOk P w K mg base CX0 2 D.a_c1 D.d_c1 ["_law_one","_law_other"] (Pu.spOf K [.dat,.dat] (A0o (·-·))):=by
 refine T.B.F_c1.ok sc_c1 (Zz rfl) (fun cdv A outer s H vs Q E hr h=>?_);refine ⟨_,(QSs.out (A4 (A6 (qcK (A1d (K:=K) T) hr.mo (A62 T) (A0 (B2 A0q (B2 F1 (qix K (qpv 0) A2) (qix K (qpv 1) A2)) (B2 F1 (qix K (qpv 1) A2) (qix K (qpv 0) A2))) (A0 (B2 F1 (qix K (qpv 0) A2) (qix K (qpv 1) A2)) A1)))))),?_⟩
 haveI:=T.c2_KINDS
 haveI:=T.c2_HOLD_KINDS
 refine Pu.D6 h ?_;rintro as Qp ⟨p,q,rfl,sp,sq,k⟩;trivial;have p1:=sp.1.mono (l:=8000) (by decide);have p2:=sp.2.mono (l:=8000) (by decide);have q1:=sq.1.mono (l:=8000) (by decide);have q2:=sq.2.mono (l:=8000) (by decide);refine ⟨⟨p1,q2⟩,⟨q1,p2⟩,⟨p2,q2⟩,_,_,rfl,Int.mul_pos (denp p) (denp q),((sp.1.mul sq.2).sub (sq.1.mul sp.2)).mono (by decide),(sp.2.mul sq.2).mono (by decide),?_⟩;rw [C3u]; exact k
theorem B1g (T:Txt K mg D):FnOk P w K mg base CX0 2 D.a_c5 D.d_c5 ["_law_one","_law_other"] (Pu.spOf K [.dat,.dat] (A0o (·*·))):=by
 refine T.B.F_c5.ok sc_c5 (Zz rfl) (fun cdv A outer s H vs Q E hr h=>?_);refine ⟨_,(QSs.out (A4 (A6 (qcK (A1d (K:=K) T) hr.mo (A62 T) (A0 (B2 F1 (qix K (qpv 0) A2) (qix K (qpv 1) A2)) (A0 (B2 F1 (qix K (qpv 0) A2) (qix K (qpv 1) A2)) A1)))))),?_⟩
 haveI:=T.c2_KINDS
 haveI:=T.c2_HOLD_KINDS
 refine Pu.D6 h ?_;rintro as Qp ⟨p,q,rfl,sp,sq,k⟩;trivial;have p1:=sp.1.mono (l:=8000) (by decide);have p2:=sp.2.mono (l:=8000) (by decide);have q1:=sq.1.mono (l:=8000) (by decide);have q2:=sq.2.mono (l:=8000) (by decide);refine ⟨⟨p1,q1⟩,⟨p2,q2⟩,_,_,rfl,Int.mul_pos (denp p) (denp q),(sp.1.mul sq.1).mono (by decide),(sp.2.mul sq.2).mono (by decide),?_⟩;rw [C3v]; exact k
theorem K9 (T:Txt K mg D):FnOk P w K mg base CX0 2 D.a_b3 D.d_b3 ["_law_state","_law_plain","_law_least"] (Pu.spOf K [.st,.dat,.dat] A9o):=by
 refine T.B.F_b3.ok sc_b3 (Zz rfl) (fun cdv A outer s H vs Q E hr h=>?_);refine ⟨_,(QSs.out (A3 (qst 3 sc_b3 (qcK (C2 (K:=K) T) hr.mo (C9 T) (A0 (qpv 0) (A0 A2 A1))))
   (A3 (C0 (B5 (qpv 1))
    (A4 (A6 (B8 (A0 (B2 F7 (qpv 2) (qcK (C2 (K:=K) T) hr.mo (C9 T) (A0 (qpv 0) (A0 (qix K (C3 (A0 A2 (A0 A2 (A0 A2 (A0 A2 (A0 A2 (A0 A2 A1))))))) (qpv 3)) A1)))) (A0 A2 A1)))))
    A8)
   (A3 (qst 4 sc_b3 (B2 F7 A2 (qcK (C2 (K:=K) T) hr.mo (C9 T) (A0 (qpv 0) (A0 (qix K (C3 (A0 A2 (A0 A2 (A0 A2 (A0 A2 (A0 A2 (A0 A2 A1))))))) (qpv 3)) A1)))))
   (A4 (A6 (qcK (A1d (K:=K) T) hr.mo (A62 T) (A0 (B2 F7 (qpv 2) (qcK (C2 (K:=K) T) hr.mo (C9 T) (A0 (qpv 0) (A0 (qix K (C3 (A0 A2 (A0 A2 (A0 A2 (A0 A2 (A0 (B2 B07 A2 A2) (A0 A2 A1))))))) (qpv 3)) A1)))) (A0 (qpv 4) A1))))))))),?_⟩
 haveI:=T.c2_KINDS
 haveI:=T.c2_HOLD_KINDS
 refine Pu.D6 h ?_;rintro as Qp ⟨pl,le,rfl,hle,k⟩;trivial;refine ⟨6,rfl,by decide,sm4 6,fun d d0 d6=>?_⟩;trivial;refine ite2 (fun hp=>?_) (fun hp=>?_)
 ·obtain ⟨z,hz,e⟩:=B6b (xs:=[2,3,3,4,5,6]) d0 d6;have hb:2<=z/\z<=6:=by simp at hz; omega
  refine D1 e ?_;trivial;refine ⟨z,rfl,by omega,A83 (by omega) (by omega),fun d2 g0 g1=>?_⟩;trivial;rw [B9w];have s3:Sm 3 (le + d2):=Q3 (B:=7) (by omega) (by omega) (by decide);exact k _ (C6g (by omega)) (fun h1=>C6f (by omega)) ((A04 s3).mono (by decide) (by decide)) fun _=>⟨A04 s3,C0d (A04 s3)⟩
 ·obtain ⟨x,hx,ex⟩:=B6b (xs:=[1,1,2,4,12,60]) d0 d6;have hbx:1<=x/\x<=60:=by simp at hx; omega
  obtain ⟨z,hz,ez⟩:=B6b (xs:=[3,9,12,30,1000000000000,90]) d0 d6;have hbz:3<=z/\z<=1000000000000:=by simp at hz; omega
  refine D1 ex ?_;trivial;refine ⟨x,rfl,by omega,A83 (by omega) (by omega),fun d1 f0 f1=>?_⟩;trivial;refine ⟨B4g 12,D1 ez ?_⟩;trivial;refine ⟨z,rfl,by omega,A83 (by omega) (by omega),fun d2 g0 g1=>?_⟩;trivial;have st:Sm 41 (le + d2):=Q3 (B:=1000000000000) (by omega) (by omega) (by decide);have sb:Sm 6 (1 + d1):=Q3 (B:=60) (by omega) (by omega) (by decide);refine ⟨_,_,rfl,by omega,st.mono (by decide),sb.mono (by decide),?_⟩;exact k _ (A48 (by omega) (by omega)) (fun h1=>C7d (by omega) (by omega)) (SmR.low st sb (by omega)) fun h=>absurd h hp
def A9r:Pu.PSp:=fun as Q=>∃ (kd:Str) (mo:Int),as=[.st,.d (.str kd),.d (.int mo),.d (.bool false)]/\0 < mo/\mo<=5/\Kd kd/\∀ cs,OfG kd cs 100 54 244 130->OnC cs->cs.length<=mo.toNat->Q (.d (offD kd cs))
theorem X6 (T:Txt K mg D):FnOk P w K mg base CX0 3 D.a_c3 D.d_c3 ["_law_state","_law_kind","_law_most","_law_plain"] (Pu.spOf K [.st,.dat,.dat,.dat] A9r):=by
 refine T.B.F_c3.ok sc_c3 (Zz rfl) (fun cdv A outer s H vs Q E hr h=>?_);refine ⟨_,(QSs.out (A3 (qst 4 sc_c3 (B2 F7 A2 (qcK (C2 (K:=K) T) hr.mo (C9 T) (A0 (qpv 0) (A0 (qpv 2) A1)))))
   (A3 (qst 5 sc_c3 (qcK (K9 (K:=K) T) hr.mo (M6 T) (A0 (qpv 0) (A0 (qpv 3) (A0 A2 A1)))))
   (A3 (qst 6 sc_c3 (qcK (K9 (K:=K) T) hr.mo (M6 T) (A0 (qpv 0) (A0 (qpv 3) (A0 A2 A1)))))
   (A3 (G7 (i:=7) rfl sc_c3.nd rfl rfl (B9 ["_law_state","_law_plain","_law_k"] [some 0,some 3,none]) (I0 rfl T.z_range (A0 (B2 A0q (qpv 4) A2) A1)) (fun _ _ _=>(qgc 2 ["_law_state","_law_plain","_law_k"])) (fun _ _ _=>D4) (fun _ _ _=>(qcK (K9 (K:=K) T) hr.mo (M6 T) (A0 (qpv 0) (A0 (qpv 1) (A0 A2 A1))))) rfl)
   (A3 (G0 Zf rfl (E6 (K:=K) rfl (qpv 7)) (qgn 8 sc_c3)
    (A4 (qst 5 sc_c3 (qcK (O9 (K:=K) T) hr.mo (T9 T) (A0 (qpv 5) (A0 (qpv 8) A1))))))
   (A3 (qst 9 sc_c3 (C3 (A0 (B8 (A0 (qpv 5) (A0 (qpv 6) A1))) A1)))
   (A3 (qst 10 sc_c3 (B8 (A0 A2 (A0 A2 A1))))
   (A3 (G0 Zf rfl (E6 (K:=K) rfl (qpv 7)) (qgn 8 sc_c3)
    (A3 (qst 11 sc_c3 (qcK (K9 (K:=K) T) hr.mo (M6 T) (A0 (qpv 0) (A0 (qpv 3) (A0 A2 A1)))))
    (A3 (qst 5 sc_c3 (qcK (X7 (K:=K) T) hr.mo (A1t T) (A0 (qpv 5) (A0 (qpv 8) A1))))
    (A3 (qst 10 sc_c3 (qcK (O9 (K:=K) T) hr.mo (T9 T) (A0 (qpv 10) (A0 (qpv 11) A1))))
    (A3 (C0 (A9 (D9 (K:=K) rfl hr.units) (qpv 1) B7 (B4 _))
     (A4 (qst 11 sc_c3 (qcK (B1g (K:=K) T) hr.mo (B63 T) (A0 (qpv 10) (A0 (qpv 8) A1)))))
     A8)
    (A3 (qst 6 sc_c3 (qcK (O9 (K:=K) T) hr.mo (T9 T) (A0 (qpv 6) (A0 (qpv 11) A1))))
    (A4 (C1 (F4 (K:=K) rfl Z1 Z2 Z3 C8 (qpv 9) (A0 (B8 (A0 (qpv 5) (A0 (qpv 6) A1))) A1))))))))))
   (A4 (A6 (B8 (A0 (qpv 1) (A0 (qpv 9) A1)))))))))))))),?_⟩
 haveI:=T.c2_KINDS
 haveI:=T.c2_HOLD_KINDS
 refine Pu.D6 h ?_;rintro as Qp ⟨kd,mo,rfl,m0,m5,hk,k⟩;trivial;refine ⟨mo,rfl,m0,Q3 (B:=5) (by omega) (by omega) (by decide),fun d d0 d1=>?_⟩;trivial;refine ⟨_,_,rfl,.inl rfl,fun q1 q10 _ s1 _=>?_⟩;trivial;refine ⟨_,_,rfl,.inl rfl,fun q2 q20 _ s2 _=>?_⟩;trivial;refine ⟨by omega,by rw [J7]; omega,?_⟩;refine R5 (fun i e ys=>∃ (qs:List Rat) (o:Option SV),e=[some .st,some (.d (.bool false)),o]/\ys=qs.map dq/\qs.length=i/\∀ q ∈ qs,0 < q/\SmR 41 6 q) ⟨[],_,rfl,rfl,rfl,fun _ z=>nomatch z⟩ ?_ ?_
 ·rintro i e ys hi ⟨qs,o,rfl,rfl,hl,hq⟩;trivial;refine ⟨_,_,rfl,.inr rfl,fun q _ qp sq _=>?_⟩;trivial;refine ⟨qs++[q],_,rfl,by rw [Zc]; rfl,by simp [hl],fun c z=>(Za z).elim (hq c) fun z=>?_⟩;simp at z; subst z; exact ⟨qp rfl,sq⟩
 ·rintro e ys ⟨qs,o,rfl,rfl,hl,hq⟩;have hm:qs.length<=4:=by omega
  trivial;refine Y3 (fun i e=>∃ (o8:Option SV) (T':Rat),e=[some .st,some (.d (.str kd)),some (.d (.int mo)),some (.d (.bool false)),some (.d (.int (1 + d))),some (.d (dq T')),some (.d (dq q2)),some (.d (.list (qs.map dq))),o8,none,none,none]/\SmR (41 + 7 * i) (6 + 6 * i) T'/\T'=q1 + sumR (qs.take i)/\On LL ((1 + i) * 2 ^ 41) T') ⟨_,_,rfl,s1,by show q1=q1 + 0; grind,(P4 s1).mono (Nat.le_of_ble_eq_true rfl)⟩ ?_ ?_
  ·rintro i q e hqi ⟨o8,T',rfl,sT,eT,oT⟩;have hil:i < qs.length:=(Zs hqi).1;have sg:=(hq q (Zm hqi)).2;trivial;refine ⟨_,_,rfl,sT.q (by omega) (by omega),sg.q (by decide) (by decide),?_⟩;trivial;exact ⟨_,_,rfl,(sT.add sg).mono (by omega) (by omega),by rw [List.take_add_one,hqi,Option.toList_some,A10,eT]; grind,(oT.add L4 (P4 sg)).mono (by rw [show 1 + (i + 1)=(1 + i) + 1 by omega,Nat.add_mul (1 + i) 1,Nat.one_mul]; exact Zv _)⟩
  ·rintro e ⟨o8,T0,rfl,sT0,eT0,oT0⟩;try rw [Zl] at oT0
   try rw [Zl] at eT0
   rw [List.take_length] at eT0;have hq0:∀ q ∈ qs,0 < q:=fun q hq'=>(hq q hq').1;have sT0:SmR 69 30 T0:=sT0.mono (by omega) (by omega);trivial;refine Y3 (fun i e=>∃ (o8 o11:Option SV) (T' P' R':Rat) (cs:LR),e=[some .st,some (.d (.str kd)),some (.d (.int mo)),some (.d (.bool false)),some (.d (.int (1 + d))),some (.d (dq T')),some (.d (dq P')),some (.d (.list (qs.map dq))),o8,some (.own ((cs++[(T',P')]).map dcn)),some (.d (dq R')),o11] /\
    SmR (69 + 7 * i) (30 + 6 * i) T'/\SmR (116 + 32 * i) (6 + 31 * i) P'/\SmR (41 + 7 * i) (1 + 6 * i) R'/\(On LL ((6 + i) * 2 ^ 41) T'/\On (LL * LL) ((1 + i) * 2 ^ 85) P'/\On LL (i * 2 ^ 41) R'/\OnC cs)/\(T'=q1 + sumR (qs.drop i)/\0<=P'/\0<=R'/\RiseO (cs++[(T',P')])/\∀ c ∈ cs,0<=c.1/\0<=c.2)/\(kd="straight"->CvR (cs++[(T',P')]) R')/\Dec (cs++[(T',P')])/\cs.length=i/\∀ c ∈ cs,SmR 100 54 c.1/\SmR 244 130 c.2)
    ⟨_,_,T0,q2,0,[],rfl,sT0,s2.mono (by decide) (by decide),sm_zero.mono (by decide) (by decide),⟨oT0.mono (Zu _ (by omega)),((P4 s2).up L4).mono (Nat.le_of_ble_eq_true rfl),On.zero.mono (Nat.zero_le _),fun _ z=>nomatch z⟩,⟨eT0,q20,Rat.le_refl,RiseO.one _,fun _ z=>nomatch z⟩,fun _=>CvR.one _,True.intro,rfl,fun _ z=>nomatch z⟩ ?_ ?_
   ·rintro i q e hqi ⟨o8,o11,T',P',R',cs,rfl,sT,sP,sR,⟨oT,oP,oR,oC⟩,⟨eT,P0,R0,up,nn⟩,cv,dec,hcl,hcs⟩;have hil:i < qs.length:=(Zs hqi).1;obtain ⟨qp,sg⟩:=hq q (Zm hqi);have ed:qs.drop i=q :: qs.drop (i + 1):=by rw [List.drop_eq_getElem_cons hil]; congr 1; exact (Zs hqi).2
    have eT2:T' - q=q1 + sumR (qs.drop (i + 1)):=by
     rw [ed] at eT;have:sumR (q :: qs.drop (i + 1))=q + sumR (qs.drop (i + 1)):=rfl;rw [this] at eT; grind
    have nT2:=A01 (qs:=qs.drop (i + 1)) fun x hx=>hq0 x (List.mem_of_mem_drop hx);have nT:=A01 (qs:=qs.drop i) fun x hx=>hq0 x (List.mem_of_mem_drop hx);trivial;refine ⟨_,_,rfl,.inr rfl,fun v1 _ vp sv1 _=>?_⟩;have v0:=vp rfl;have nn':∀ c ∈ cs++[(T',P')],0<=c.1/\0<=c.2:=fun c hc=>by
     rcases Za hc with z | z
     ·exact nn c z
     ·cases Zn z;exact ⟨by show 0<=T'; rw [eT]; grind,P0⟩
    trivial;refine ⟨_,_,rfl,sT.q (by omega) (by omega),sg.q (by decide) (by decide),?_⟩;trivial;refine ⟨_,_,rfl,sR.q (by omega) (by omega),sv1.q (by decide) (by decide),?_⟩;trivial;have hi4:i < 4:=by omega
    have oT2:On LL ((6 + (i + 1)) * 2 ^ 41) (T' - q):=(oT.sub L4 (P4 sg)).mono (by rw [show 6 + (i + 1)=(6 + i) + 1 by omega,Nat.add_mul (6 + i) 1,Nat.one_mul]; exact Zv _);have oR2:On LL ((i + 1) * 2 ^ 41) (R' + v1):=(oR.add L4 (P4 sv1)).mono (by rw [Nat.add_mul,Nat.one_mul]; exact Zv _);have oC2:OnC (cs++[(T',P')]):=fun c hc=>by
     rcases Za hc with z | z
     ·exact oC c z
     ·cases Zn z;exact ⟨oT.mono (Zx (Zu _ (show 6 + i<=16 by omega)) (Nat.le_of_ble_eq_true rfl)),oP.mono (Zx (Zu _ (show 1 + i<=16 by omega)) (Nat.le_of_ble_eq_true rfl))⟩
    have sT2:SmR (69 + 7 * (i + 1)) (30 + 6 * (i + 1)) (T' - q):=(sT.sub sg).mono (by omega) (by omega);have sR2:SmR (41 + 7 * (i + 1)) (1 + 6 * (i + 1)) (R' + v1):=(sR.add sv1).mono (by omega) (by omega);refine ⟨hk.lay,U2,?_⟩;refine ite2 (fun h2=>?_) (fun h2=>?_);case' refine_1 =>
     refine ⟨_,_,rfl,sR2.q (by omega) (by omega),sg.q (by decide) (by decide),?_⟩;trivial;have sv2:SmR 110 31 ((R' + v1) * q):=(sR2.mul sg).mono (by omega) (by omega);obtain ⟨v2,ev2⟩:∃ v2,v2=(R' + v1) * q:=⟨_,rfl⟩;rw [<- ev2] at sv2 ⊢;have hv:kd="straight"->v2=(R' + v1) * q:=fun _=>ev2;have ov:On (LL * LL) (2 ^ 85) v2:=by rw [ev2]; exact (oR2.mul (P4 sg)).mono (Zx (Zu _ (Zu _ (show i + 1<=8 by omega))) (Nat.le_of_ble_eq_true rfl))
     have w0:0 < v2:=by rw [ev2]; exact Rat.mul_pos (by grind) qp
    case' refine_2 =>
     have sv2:SmR 110 31 v1:=sv1.mono (by decide) (by decide);have hv:kd="straight"->v1=(R' + v1) * q:=fun z=>absurd (by rw [z]; exact C6n) h2;have ov:On (LL * LL) (2 ^ 85) v1:=((P4 sv1).up L4).mono (Nat.le_of_ble_eq_true rfl);have w0:0 < v1:=v0
    all_goals
     refine ⟨_,_,rfl,sP.q (by omega) (by omega),sv2.q (by decide) (by decide),?_⟩;trivial;refine ⟨by simp; omega,_,_,_,_,_,cs++[(T',P')],by simp only [List.map_append]; rfl,sT2,(sP.add sv2).mono (by omega) (by omega),sR2,⟨oT2,(oP.add (Nat.mul_pos L4 L4) ov).mono (by rw [show 1 + (i + 1)=(1 + i) + 1 by omega,Nat.add_mul (1 + i) 1,Nat.one_mul]; exact Zv _),oR2,oC2⟩,⟨eT2,by grind,by grind,RiseO.snoc up (by show T' - q < T'; grind) (by show P' < P' + _; grind),nn'⟩,fun z=>(cv z).step qp (vp rfl) (hv z),Dec.snoc dec (by show T' - q < T'; grind),by simp [hcl],fun c hc=>?_⟩;rcases Za hc with z | z
     ·exact hcs c z
     ·cases Zn z;exact ⟨sT.mono (by omega) (by omega),sP.mono (by omega) (by omega)⟩
   ·rintro e ⟨o8,o11,T',P',R',cs,rfl,sT,sP,sR,⟨oT,oP,oR,oC⟩,⟨eT,P0,R0,up,nn⟩,cv,dec,hcl,hcs⟩;trivial;have nT:=A01 (qs:=qs.drop (qs.map dq).length) fun x hx=>hq0 x (List.mem_of_mem_drop hx);have hl4:(qs.map dq).length<=4:=by rw [Zl]; exact hm
    refine k _ ⟨⟨by simp,by simp; omega,dec,fun c hc=>?_⟩,fun c hc=>?_,up,fun z=>(cv z).1⟩ (fun c hc=>?_) (by simp; omega)
    ·rcases Za hc with z | z
     ·exact hcs c z
     ·simp at z; subst z; exact ⟨sT.mono (by omega) (by omega),sP.mono (by omega) (by omega)⟩
    ·rcases Za hc with z | z
     ·exact nn c z
     ·simp at z; subst z; exact ⟨by show 0<=T'; rw [eT]; grind,P0⟩
    ·rcases Za hc with z | z
     ·exact oC c z
     ·cases Zn z;exact ⟨oT.mono (Zx (Zu _ (show 6 + _<=16 by omega)) (Nat.le_of_ble_eq_true rfl)),oP.mono (Zx (Zu _ (show 1 + _<=16 by omega)) (Nat.le_of_ble_eq_true rfl))⟩
def A9s:Pu.PSp:=fun as Q=>∃ n:Int,as=[.st,.d (.int n)]/\1<=n/\n<=10/\∀ zs:List Str,zs.length=n.toNat->(∀ z ∈ zs,NmOk z)->zs.Nodup->Q (.d (.list (zs.map .str)))
theorem B1i (T:Txt K mg D):FnOk P w K mg base CX0 2 D.a_c2 D.d_c2 ["_law_state","_law_many"] (Pu.spOf K [.st,.dat] A9s):=by
 refine T.B.F_c2.ok sc_c2 (Zz rfl) (fun cdv A outer s H vs Q E hr h=>?_);refine' Exists.intro _ (And.intro (QSs.out ?h) ?g)
 case h =>
  exact (A3 (qst 2 sc_c2 (qcK (C2 (K:=K) T) hr.mo (C9 T) (A0 (qpv 0) (A0 A2 A1))))
   (A3 (O2 (i:=3) sc_c2.nd rfl (Or.inr rfl) (qcK (C2 (K:=K) T) hr.mo (C9 T) (A0 (qpv 0) (A0 A2 A1))))
   (A3 (G7 (i:=4) rfl sc_c2.nd rfl rfl (B9 ["_law_state","_law_k"] [some 0,none]) (I0 rfl T.z_range (A0 (B2 F7 A2 (qcK (C2 (K:=K) T) hr.mo (C9 T) (A0 (qpv 0) (A0 A2 A1)))) A1)) (fun _ _ _=>(qgc 1 ["_law_state","_law_k"])) (fun _ _ _=>D4) (fun _ _ _=>(qcK (C2 (K:=K) T) hr.mo (C9 T) (A0 (qpv 0) (A0 A2 A1)))) rfl)
   (A3 (qst 5 sc_c2 (qcK (C2 (K:=K) T) hr.mo (C9 T) (A0 (qpv 0) (A0 (qln K T.z_len (qpv 4)) A1))))
   (A3 (O2 (i:=6) sc_c2.nd rfl (Or.inr rfl) (C3 (A0 B7 (A0 B7 (A0 B7 (A0 B7 (A0 B7 (A0 B7 (A0 B7 (A0 B7 (A0 B7 (A0 B7 A1))))))))))))
   (A3 (qst 7 sc_c2 (C3 A1))
   (A3 (G0 Zf rfl (I0 rfl T.z_range (A0 (qpv 1) A1)) (qgn 8 sc_c2)
    (A3 (qst 9 sc_c2 (D2 (G4 (K:=K) rfl) (by rfl) T.z_list (by rfl) (A0 (qpv 4) A1)))
    (A3 (O3 (B2 M3 (B2 F7 (qpv 3) (qpv 8)) A2) (C0n (qpv 9) (qpv 5) V0))
    (A3 (C0 (A9 (D9 (K:=K) rfl hr.units) (qpv 2) A2 (B4 _))
     (A4 (qst 9 sc_c2 (B2 (C14 (K:=K) rfl) (C3 (A0 (B2 M3 (B2 F7 (qpv 3) (qpv 8)) A2) A1)) (K3 (N1 (K:=K) rfl) (qpv 9) L7 (L6 (B2 M3 (qpv 8) (qln K T.z_len (qpv 4))))))))
     A8)
    (A4 (C1 (F4 (K:=K) rfl Z1 Z2 Z3 C8 (qpv 7) (A0 (F4 (K:=K) rfl PySem.F.plainAttrs_str PySem.F.slot_str_join PySem.F.type_str_join (B6a (K:=K) rfl) B7 (A0 (F2 rfl (B9 ["_law_letter"] [none]) (E6 (K:=K) rfl (qpv 9)) (fun _ _ _=>(qgc 0 ["_law_letter"])) (fun _ _ _=>D4) (fun _ _ _=>(qix K B7 (qpv 0)))) A1)) A1))))))))
   (A4 (A6 (qix K (C3 (A0 (qpv 7) (A0 (F2 rfl (B9 ["_law_words","_law_turn","_law_k"] [some 6,some 3,none]) (I0 rfl T.z_range (A0 (qpv 1) A1)) (fun _ _ _=>(qgc 2 ["_law_words","_law_turn","_law_k"])) (fun _ _ _=>D4) (fun _ _ _=>(qix K (qpv 0) (B2 M3 (B2 F7 (qpv 1) (qpv 2)) A2)))) A1))) (D2 Y7 (by rfl) T.z_int (by rfl) (A0 (D5 (D9 (K:=K) rfl hr.units) (qpv 2) A2 (B4 _)) A1))))))))))))
 case g =>
  haveI:=T.c2_NOUGHT
  haveI:=T.c2_KINDS
  haveI:=T.c2_HOLD_KINDS
  refine Pu.D6 h ?_;rintro as Qp ⟨n,rfl,n0,n1,k⟩;trivial;refine ⟨4,rfl,by decide,sm4 4,fun way w0 w4=>?_⟩;trivial;refine ⟨26,rfl,by decide,sm4 26,fun turn t0 t1=>?_⟩;trivial;refine ⟨8,rfl,by decide,sm4 8,fun d d0 d1=>?_⟩;trivial;refine ⟨⟨by omega,by omega⟩,by rw [J7]; omega,?_⟩;refine R5 (fun i e ys=>∃ (o:Option SV) (bs:List Int),e=[some SV.st,o]/\bs.length=i/\(∀ b ∈ bs,0<=b/\b < 26)/\ys=bs.map .int) ⟨_,[],rfl,rfl,(fun _ h=>by cases h),rfl⟩ ?_ ?_
  ·rintro i e ys hi ⟨o,bs,rfl,rfl,hb,rfl⟩;trivial;refine ⟨26,rfl,by decide,sm4 26,fun x x0 x1=>?_⟩;trivial;exact ⟨_,bs++[x],rfl,by rw [Ze,List.length_singleton],fun b hb'=>by
    rcases Za hb' with z | z
    ·exact hb b z
    ·rw [Zn z]; exact ⟨x0,x1⟩,by rw [Zc]; rfl⟩
  ·rintro e ys ⟨o,bs,rfl,hl,hb,hy⟩;have hyl:ys.length=bs.length:=by rw [hy,Zl]
   have hp0:(0:Int) < (ys.length:Int):=by omega
   refine Exists.intro (ys.length:Int) (And.intro rfl (And.intro hp0 (And.intro (Q3 (B:=40) (by omega) (by omega) (by decide)) fun a a0 a1=>?_)));refine And.intro (Nat.le_of_ble_eq_true rfl) ?_;refine And.intro (Nat.le_of_ble_eq_true rfl) ?_;have ew:∃ p:Nat,(if way=1 then (0:Nat) else a.toNat)=p:=⟨_,rfl⟩;obtain ⟨p,hp⟩:=ew;refine And.intro ⟨by omega,by omega⟩ (T6 (fun i e=>∃ (css:List (List Int)) (o1 o2:Option SV),e=[some .st,some (.d (.int n)),some (.d (.int way)),some (.d (.int turn)),some (.own ys),some (.d (.int a)),some (.own A0i),some (.own ((css.map mkN).map .str)),o1,o2]/\css.length=i/\∀ (j:Nat) cs,css[j]?=some cs->((1<=cs.length/\cs.length<=8)/\∀ b ∈ cs,0<=b/\b < 26)/\cs[p]?=some ((turn + (j:Int)) % 26)) ⟨[],_,_,rfl,rfl,fun j cs z=>by simp at z⟩ ?_ ?_)
   ·rintro i e hi ⟨css,o1,o2,rfl,hz,hzl⟩;have hin:i < n.toNat:=hi;subst hy;have hbl:bs.length<=8:=by omega
    try rw [Zl] at a1
    try rw [Zl] at hp0
    trivial;obtain ⟨aj,rfl⟩:=Zi a0;have haj:aj < bs.length:=by omega
    refine ⟨by decide,aj,by unfold ixN; simp; omega,?_⟩;have hm:0<=(turn + (i:Int)) % 26/\(turn + (i:Int)) % 26 < 26:=⟨Int.emod_nonneg _ (by decide),Int.emod_lt_of_pos _ (by decide)⟩;obtain ⟨mm,hmm⟩:∃ mm,mm=(turn + (i:Int)) % 26:=⟨_,rfl⟩;rw [<- hmm] at hm ⊢;have es:(bs.map PyData.int).set aj (.int mm)=(bs.set aj mm).map .int:=by rw [List.map_set]
    rw [es];have hb2:∀ b ∈ bs.set aj mm,0<=b/\b < 26:=fun b hb'=>by
     rcases List.mem_or_eq_of_mem_set hb' with z | z
     ·exact hb b z
     ·rw [z]; exact hm
    have hl2:(bs.set aj mm).length=bs.length:=List.length_set ..;have hg2:(bs.set aj mm)[aj]?=some mm:=by rw [List.getElem?_set,if_pos rfl,if_pos haj]
    have hset:∃ cs2:List Int,cs2=bs.set aj mm:=⟨_,rfl⟩;obtain ⟨cs2,e2⟩:=hset;rw [<- e2] at hb2 hl2 hg2 ⊢;refine ite2 (fun hw=>?_) (fun hw=>?_);case' refine_1 =>
     have hw1:way=1:=hw;have hb0:(0:Int) < (bs.length:Int):=by omega
     have h0:0<=(i:Int) % (bs.length:Int):=Int.emod_nonneg _ (by omega);have h1:(i:Int) % (bs.length:Int) < (bs.length:Int):=Int.emod_lt_of_pos _ hb0;have h4:(cutD (cs2.map PyData.int) none (some ((i:Int) % (bs.length:Int)))).length<=8:=by
      unfold cutD; rw [List.length_take,List.length_drop,Zl]; omega
     refine ⟨by decide,hb0,by omega,by omega,?_⟩;obtain ⟨r,hr⟩:=Zi h0;rw [hr] at h1 ⊢;rw [A6x (f:=PyData.int) (xs:=cs2) (n:=r) (by omega)];have el:PyData.int mm :: (cs2.take r).map PyData.int=(mm :: cs2.take r).map .int:=rfl;rw [el];have hls:((1<=(mm :: cs2.take r).length/\(mm :: cs2.take r).length<=8)/\∀ b ∈ mm :: cs2.take r,0<=b/\b < 26)/\(mm :: cs2.take r)[p]?=some mm:=by
      refine ⟨⟨⟨by simp,by rw [List.length_cons,List.length_take]; omega⟩,fun b hb'=>?_⟩,by rw [<- hp,if_pos hw1]; rfl⟩;rcases List.mem_cons.mp hb' with z | z
      ·rw [z]; exact hm
      ·exact hb2 b (List.mem_of_mem_take z)
     revert hls;generalize (mm :: cs2.take r)=ls;intro hls
    case' refine_2 =>
     have hw1:¬ way=1:=hw;refine ⟨by first | omega | (rw [Zl]; omega),?_⟩;have hls:((1<=cs2.length/\cs2.length<=8)/\∀ b ∈ cs2,0<=b/\b < 26)/\cs2[p]?=some mm:=⟨⟨⟨by omega,by omega⟩,hb2⟩,by rw [<- hp,if_neg hw1]; exact hg2⟩;revert hls;generalize cs2=ls;intro hls
    all_goals
     refine K0 (f:=PyData.int) (xs:=ls) (fun i e cs=>∃ o:Option SV,e=[o]/\cs=(ls.take i).map fun c=>sgn (97 + c.toNat)) ⟨_,rfl,rfl⟩ ?_ ?_
     ·rintro i2 b e cs hx ⟨o,rfl,rfl⟩;obtain ⟨b0,b1⟩:=hls.1.2 b (Zm hx);trivial;refine ⟨(show ltr.length<=1000 by rw [C2g]; decide),?_⟩;refine getL b0 b1 ?_;trivial;refine ⟨_,rfl,?_⟩;rw [List.take_add_one,hx,Zc]; rfl
     ·rintro e cs ⟨o,rfl,rfl⟩;rw [List.take_length];have ec:(ls.map fun c=>sgn (97 + c.toNat))=(ls.map fun c=>97 + c.toNat).map sgn:=by rw [List.map_map]; rfl
      trivial;rw [ec];refine ⟨_,A85 _,by rw [B7k,Zl]; omega,?_⟩;have e0:(Str.ofString "").join ((ls.map fun c=>97 + c.toNat).map fun c=>(⟨#[c]⟩:Str))=mkN ls:=by unfold mkN; rw [List.map_map]; rfl
      rw [e0];refine ⟨by omega,css++[ls],_,_,by rw [Zc,Zc]; rfl,by rw [Ze,List.length_singleton]; omega,fun j cs hj=>?_⟩;rw [List.getElem?_append] at hj;split at hj
      ·exact hzl j cs hj
      ·have ej:j=css.length:=by
        have:=(Zs hj).1;rw [List.length_singleton] at this; omega
       subst ej;rw [Nat.sub_self] at hj;cases hj;rw [hz,<- hmm]; exact hls
   ·rintro e ⟨css,o1,o2,rfl,hz,hzl⟩;have hznd:(css.map mkN).Nodup:=B58 (p:=p) (t:=turn) (by omega) fun j cs h=>(hzl j cs h).2;have hzok:∀ z ∈ css.map mkN,NmOk z:=fun z hz'=>by
     obtain ⟨cs,hc,rfl⟩:=List.mem_map.mp hz';obtain ⟨j,hj⟩:=List.mem_iff_getElem?.mp hc;have:=(hzl j cs hj).1;exact C5y this.1.1 this.1.2 this.2
    trivial;refine ⟨⟨by omega,by omega⟩,by rw [J7]; omega,?_⟩;refine R5 (fun i e cs=>∃ (o:Option SV) (ws:List Str),e=[some (.bor A0i),some (.d (.int turn)),o]/\ws.length=i/\((∀ z ∈ ws,NmOk z)/\∀ (j:Nat) z,ws[j]?=some z->wordsZ[((turn + (j:Int)) % 10).toNat]?=some z)/\cs=ws.map .str) ⟨_,[],rfl,rfl,⟨(fun _ z=>nomatch z),fun j z h=>by simp at h⟩,rfl⟩ ?_ ?_
    ·rintro i e cs hi ⟨o,ws,rfl,hw1,⟨hwl,hwz⟩,rfl⟩;trivial;obtain ⟨z,gz,ez,hzw⟩:=B42 (m:=(turn + (i:Int)) % 10) (Int.emod_nonneg _ (by decide)) (Int.emod_lt_of_pos _ (by decide));refine ⟨by decide,D1 ez ?_⟩;trivial;refine ⟨_,ws++[z],rfl,by rw [Ze,List.length_singleton]; omega,⟨(fun y hy=>by rcases Za hy with q | q; exact hwl y q; rw [Zn q]; exact hzw),fun j y hj=>?_⟩,by rw [Zc]; rfl⟩;rw [List.getElem?_append] at hj;split at hj
     ·exact hwz j y hj
     ·have ej:j=ws.length:=by
       have:=(Zs hj).1;rw [List.length_singleton] at this; omega
      subst ej;rw [Nat.sub_self] at hj;cases hj;rw [hw1]; exact gz
    ·rintro e cs ⟨o,ws,rfl,hw1,⟨hwl,hwz⟩,rfl⟩;trivial;by_cases hw:way=0
     ·rw [if_pos hw];exact D1 rfl (k ws hw1 hwl (B41 (by omega) hwz))
     ·rw [if_neg hw];exact D1 rfl (k (css.map mkN) (by rw [Zl]; exact hz) hzok hznd)
def A9q:Pu.PSp:=fun as Q=>∃ n:Int,as=[.st,.d (.int n)]/\0<=n/\n<=40/\∀ os:List Int,os.length=n.toNat->(∀ o ∈ os,0<=o/\o < n)->os.Nodup->Q (.own (os.map .int))
theorem X5 (T:Txt K mg D):FnOk P w K mg base CX0 2 D.a_c4 D.d_c4 ["_law_state","_law_many"] (Pu.spOf K [.st,.dat] A9q):=by
 refine T.B.F_c4.ok sc_c4 (Zz rfl) (fun cdv A outer s H vs Q E hr h=>?_);refine ⟨_,(QSs.out (A3 (qst 2 sc_c4 (D2 (A4k rfl) (by rfl) T.z_list (by rfl) (A0 (B5g (by rfl) T.z_range (A0 (qpv 1) A1)) A1)))
   (A3 (qst 3 sc_c4 (C3 A1))
   (A3 (K2 Zf (A9 (G8 (K:=K) rfl hr.units) (qpv 2) (C3 A1) (B4 _))
    (A4 (C1 (F4 (K:=K) rfl Z1 Z2 Z3 C8 (qpv 3) (A0 (F4 (K:=K) rfl Z1 PySem.F.slot_list_pop PySem.F.type_list_pop B59 (qpv 2) (A0 (qcK (C2 (K:=K) T) hr.mo (C9 T) (A0 (qpv 0) (A0 (qln K T.z_len (qpv 2)) A1))) A1)) A1)))))
   (A4 (A6 (qpv 3))))))),?_⟩
 haveI:=T.c2_KINDS
 haveI:=T.c2_HOLD_KINDS
 refine Pu.D6 h ?_;rintro as Qp ⟨n,rfl,n0,n1,k⟩;trivial;refine ⟨n,rfl,n0,by omega,?_⟩;trivial;have e0:rngD 0 n.toNat=((List.range n.toNat).map (fun i:Nat=>(i:Int))).map PyData.int:=by
  unfold rngD; rw [List.map_map]; exact List.map_congr_left fun i _=>by show PyData.int (0 + (i:Int))=PyData.int (i:Int); rw [Int.zero_add]
 rw [e0];refine ⟨fun m e=>∃ ls os:List Int,e=[some .st,some (.d (.int n)),some (.own (ls.map .int)),some (.own (os.map .int))]/\m=ls.length/\ls.length + os.length=n.toNat/\(∀ o ∈ ls,0<=o/\o < n)/\(∀ o ∈ os,0<=o/\o < n)/\(ls++os).Nodup,⟨_,_,[],rfl,rfl,by simp,?_,(fun _ z=>nomatch z),by rw [List.append_nil]; exact List.Pairwise.map _ (fun a b h=>by show (a:Int)≠b; omega) List.nodup_range⟩,?_⟩
 ·intro o ho;obtain ⟨i,hi,rfl⟩:=List.mem_map.mp ho;have:=List.mem_range.mp hi;omega
 rintro m e ⟨ls,os,rfl,rfl,hl,h1,h2,nd⟩;trivial;refine ⟨V7 ls,B4a ls,?_⟩;rw [B6m];refine ite2 (fun hn=>?_) (fun hn=>?_)
 ·have hpos:0 < ls.length:=by cases ls with | nil=>cases hn | cons a r=>exact Nat.succ_pos _
  refine ⟨by decide,?_⟩;trivial;refine ⟨(ls.length:Int),by simp,by omega,Q3 (B:=40) (by omega) (by omega) (by decide),fun d d0 d1=>?_⟩;trivial;have hd:d.toNat < ls.length:=by omega
  refine ⟨d.toNat,.int ls[d.toNat],by rw [Int.toNat_of_nonneg d0],by rw [Zh,Zg hd]; rfl,by first | omega | (rw [Zl]; omega),by first | omega | (rw [Zl]; omega),?_⟩;have hel:=B33 ls hd;refine ⟨_,?_,ls.eraseIdx d.toNat,os++[ls[d.toNat]],by rw [B2n,Zc]; rfl,rfl,by rw [Ze,List.length_singleton]; omega,(fun o ho=>h1 o (List.mem_of_mem_eraseIdx ho)),(fun o ho=>?_),C2e hd nd⟩
  ·omega
  ·rcases Za ho with z | z
   ·exact h2 o z
   ·rw [Zn z]; exact h1 _ (List.getElem_mem hd)
 ·have:ls=[]:=by cases ls with | nil=>rfl | cons a r=>exact absurd rfl hn
  subst this;exact k os (by simpa using hl) h2 (by simpa using nd)
def C0y:Pu.PSp:=fun as Q=>as=[.st,.d (.bool false)]/\∀ q:Rat,On LL (2 ^ 42) q->Q (.d (dq q))
theorem A1e (T:Txt K mg D):FnOk P w K mg base CX0 3 D.a_d3 D.d_d3 ["_law_state","_law_plain"] (Pu.spOf K [.st,.dat] C0y):=by
 refine T.B.F_d3.ok sc_d3 (Zz rfl) (fun cdv A outer s H vs Q E hr h=>?_);refine ⟨_,(QSs.out (A3 (qst 2 sc_d3 (qcK (K9 (K:=K) T) hr.mo (M6 T) (A0 (qpv 0) (A0 (qpv 1) (A0 A2 A1)))))
   (A3 (C0 (A9 (D9 (K:=K) rfl hr.units) (qcK (C2 (K:=K) T) hr.mo (C9 T) (A0 (qpv 0) (A0 A2 A1))) A2 (B4 _))
    (A4 (A6 (qcK (X7 (K:=K) T) hr.mo (A1t T) (A0 (B8 (A0 A2 (A0 A2 A1))) (A0 (qpv 2) A1)))))
    A8)
   (A4 (A6 (qpv 2)))))),?_⟩
 haveI:=T.c2_KINDS
 haveI:=T.c2_HOLD_KINDS
 refine Pu.D6 h ?_;rintro as Qp ⟨rfl,k⟩;trivial;refine ⟨_,_,rfl,.inl rfl,fun q1 _ _ s1 _=>?_⟩;trivial;refine ⟨4,rfl,by decide,sm4 4,fun d d0 d4=>?_⟩;trivial;refine ite2 (fun h=>?_) (fun h=>?_)
 ·refine ⟨0,q1,rfl,smq0,⟨s1.1.mono (by decide),s1.2.mono (by decide)⟩,?_⟩;exact k _ ((On.zero.sub L4 (P4 s1)).mono (Nat.le_of_ble_eq_true rfl))
 ·exact k _ ((P4 s1).p2 (by decide))
def A9p:Pu.PSp:=fun as Q=>∃ n:Int,as=[.st,.d (.int n),.d (.bool false)]/\1<=n/\n<=10/\∀ ws,ws.length<=40->WV n ws->Q (.own (ws.map wD))
theorem B1f (T:Txt K mg D):FnOk P w K mg base CX0 4 D.a_c6 D.d_c6 ["_law_state","_law_many","_law_plain"] (Pu.spOf K [.st,.dat,.dat] A9p):=by
 refine T.B.F_c6.ok sc_c6 (Zz rfl) (fun cdv A outer s H vs Q E hr h=>?_);refine ⟨_,(QSs.out (A3 (qst 3 sc_c6 (qcK (X5 (K:=K) T) hr.mo (A1r T) (A0 (qpv 0) (A0 (qpv 1) A1))))
   (A3 (qst 4 sc_c6 (B2 F7 A2 (qcK (C2 (K:=K) T) hr.mo (C9 T) (A0 (qpv 0) (A0 A2 A1)))))
   (A3 (qst 5 sc_c6 (C3 A1))
   (A3 (G0 Zf rfl (I0 rfl T.z_range (A0 (qpv 1) A1)) (qgn 6 sc_c6)
    (A4 (G0 Zf rfl (I0 rfl T.z_range (A0 (qpv 6) A1)) (qgn 7 sc_c6)
     (A3 (C0 (A9 (D9 (K:=K) rfl hr.units) (qcK (C2 (K:=K) T) hr.mo (C9 T) (A0 (qpv 0) (A0 (qpv 4) A1))) A2 (B4 _))
      (A4 (C1 (F4 (K:=K) rfl Z1 Z2 Z3 C8 (qpv 5) (A0 (B8 (A0 (qix K (qpv 3) (qpv 7)) (A0 (qix K (qpv 3) (qpv 6)) (A0 (qcK (A1e (K:=K) T) hr.mo (A63 T) (A0 (qpv 0) (A0 (qpv 2) A1))) A1)))) A1))))
      A8)
     (A4 (C0 (A9 (D9 (K:=K) rfl hr.units) (qcK (C2 (K:=K) T) hr.mo (C9 T) (A0 (qpv 0) (A0 A2 A1))) A2 (B4 _))
      (A3 (qst 8 sc_c6 (qcK (O9 (K:=K) T) hr.mo (T9 T) (A0 (qcK (K9 (K:=K) T) hr.mo (M6 T) (A0 (qpv 0) (A0 (qpv 2) (A0 A2 A1)))) (A0 (B8 (A0 (B2 F1 A2 (qpv 1)) (A0 A2 A1))) A1))))
      (A4 (C1 (F4 (K:=K) rfl Z1 Z2 Z3 C8 (qpv 5) (A0 (B8 (A0 (qix K (qpv 3) (qpv 6)) (A0 (qix K (qpv 3) (qpv 7)) (A0 (qcK (X7 (K:=K) T) hr.mo (A1t T) (A0 (B8 (A0 A2 (A0 A2 A1))) (A0 (qpv 8) A1))) A1)))) A1)))))
      A8))))))
   (A4 (A6 (K3 (N1 (K:=K) rfl) (qpv 5) L7 (L6 A2))))))))),?_⟩
 haveI:=T.c2_KINDS
 haveI:=T.c2_HOLD_KINDS
 refine Pu.D6 h ?_;rintro as Qp ⟨n,rfl,n0,n1,k⟩;trivial;refine ⟨n,rfl,by omega,by omega,fun os ho hos nd=>?_⟩;trivial;refine ⟨3,rfl,by decide,sm4 3,fun d d0 d3=>?_⟩;trivial;refine ⟨⟨by omega,by omega⟩,T6 (fun i e=>∃ (ws:LW) (o1 o2 o3:Option SV),e=[some .st,some (.d (.int n)),some (.d (.bool false)),some (.own (os.map .int)),some (.d (.int (2 + d))),some (.own (ws.map wD)),o1,o2,o3]/\ws.length<=100 * i/\WV n ws) ⟨[],_,_,_,rfl,by simp,(fun _ z=>nomatch z),fun _ z=>nomatch z⟩ ?_ ?_⟩
 ·rintro i e hi ⟨ws,o1,o2,o3,rfl,hw,wk⟩;trivial;refine ⟨⟨by omega,by omega⟩,T6 (fun j e=>∃ (ws:LW) (o2 o3:Option SV),e=[some .st,some (.d (.int n)),some (.d (.bool false)),some (.own (os.map .int)),some (.d (.int (2 + d))),some (.own (ws.map wD)),some (.d (.int i)),o2,o3]/\ws.length<=100 * i + 2 * j/\WV n ws) ⟨ws,_,_,rfl,by omega,wk⟩ ?_ ?_⟩
  ·rintro j e hj ⟨ws,o2,o3,rfl,hw,wk⟩;have hji:j < i:=by simpa using hj
   obtain ⟨oj,hoj,gj,ej⟩:=B06 hos (j:=j) (by omega);obtain ⟨oi,hoi,gi,ei⟩:=B06 hos (j:=i) (by omega);have hne:=C7r nd hji gi gj;trivial;refine ⟨2 + d,rfl,by omega,Q3 (B:=10) (by omega) (by omega) (by decide),fun g g0 g1=>?_⟩;trivial;refine ite2 (fun h=>?_) (fun h=>?_);case' refine_1 =>
    refine D1 ej ?_;trivial;refine D1 ei ?_;trivial;refine ⟨rfl,fun q sq=>?_⟩;trivial;refine ⟨by omega,12,rfl,by decide,sm4 12,fun f f0 f1=>?_⟩;trivial;have hw':(ws++[(oj,oi,q)]).length<=100 * i + 2 * j + 1:=by rw [Ze,List.length_singleton]; omega
    have wk':WV n (ws++[(oj,oi,q)]):=wk.snoc hne ⟨hoj,hoi,sq.p2 (by decide)⟩;rw [show ws.map wD++[PyData.tuple [.int oj,.int oi,dq q]]=(ws++[(oj,oi,q)]).map wD from by rw [Zc]; rfl];revert hw' wk';generalize ws++[(oj,oi,q)]=ws';intro hw' wk'
   case' refine_2 =>
    refine ⟨12,rfl,by decide,sm4 12,fun f f0 f1=>?_⟩;trivial;have hw':ws.length<=100 * i + 2 * j + 1:=by omega
    have wk':WV n ws:=wk;revert hw' wk';generalize ws=ws';intro hw' wk'
   all_goals
    refine ite2 (fun hf=>?_) (fun hf=>?_)
    ·refine ⟨_,_,rfl,.inr rfl,fun q1 _ _ s1 _=>?_⟩;trivial;rw [B9w];have s4:Sm 6 (4 * n):=Q3 (B:=40) (by omega) (by omega) (by decide);have s5:=A04 s4;refine ⟨⟨Q3 (B:=4) (by omega) (by omega) (by decide),Q3 (B:=40) (by omega) (by omega) (by decide)⟩,q1,_,rfl,⟨s1.1.mono (by decide),s1.2.mono (by decide)⟩,⟨s5.1.mono (by decide),s5.2.mono (by decide)⟩,?_⟩;have s6:=s1.add s5;trivial;refine D1 ei ?_;trivial;refine D1 ej ?_;trivial;refine ⟨0,_,rfl,smq0,⟨s6.1.mono (by decide),s6.2.mono (by decide)⟩,?_⟩;trivial;refine ⟨by omega,ws'++[(oi,oj,0 - (q1 + ((4 * n:Int):Rat)))],_,_,by rw [Zc]; rfl,by rw [Ze,List.length_singleton]; omega,wk'.snoc (Ne.symm hne) ⟨hoi,hoj,(On.zero.sub L4 ((P4 s1).add L4 (C5c (k:=40) L4 (by omega)))).mono (Nat.le_of_ble_eq_true rfl)⟩⟩
    ·exact ⟨ws',_,_,rfl,by omega,wk'⟩
  ·rintro e ⟨ws,o2,o3,rfl,hw,wk⟩;exact ⟨ws,_,_,_,rfl,by simp at hw; omega,wk⟩
 ·rintro e ⟨ws,o1,o2,o3,rfl,hw,wk⟩;trivial;have e1:cutD (ws.map wD) none (some 40)=(ws.take 40).map wD:=by
   unfold cutD;rw [HT.sIx_none,show (some (40:Int))=some ((40:Nat):Int) from rfl,HT.sIx_nat,List.drop_zero,Zl,Nat.sub_zero,List.map_take];by_cases h:40<=ws.length
   ·rw [Nat.min_eq_left h]
   ·rw [Nat.min_eq_right (by omega),List.take_of_length_le (by rw [Zl]; exact Zv _),List.take_of_length_le (by rw [Zl]; omega)]
  rw [e1];exact k _ (by rw [List.length_take]; omega) ⟨fun w hw=>wk.1 w (List.mem_of_mem_take hw),fun w hw=>wk.2 w (List.mem_of_mem_take hw)⟩
def A9t:Pu.PSp:=fun as Q=>∃ (n:Int) (late:Rat),as=[.st,.d (.int n),.d (.bool false),.d (dq late)]/\1<=n/\n<=10/\On LL (2 ^ 49) late/\∀ hs,hs.length<=4->HOk n hs->Q (.own (hs.map hD))
theorem B1j (T:Txt K mg D):FnOk P w K mg base CX0 4 D.a_c0 D.d_c0 ["_law_state","_law_many","_law_plain","_law_late"] (Pu.spOf K [.st,.dat,.dat,.dat] A9t):=by
 refine T.B.F_c0.ok sc_c0 (Zz rfl) (fun cdv A outer s H vs Q E hr h=>?_);refine ⟨_,(QSs.out (A3 (qst 4 sc_c0 (C3 A1))
   (A3 (G0 Zf rfl (I0 rfl T.z_range (A0 (qix K (C3 (A0 A2 (A0 A2 (A0 A2 (A0 A2 (A0 A2 A1)))))) (qcK (C2 (K:=K) T) hr.mo (C9 T) (A0 (qpv 0) (A0 A2 A1)))) A1)) (qgn 5 sc_c0)
    (A3 (qst 6 sc_c0 (qix K (C3 (A0 B7 (A0 B7 (A0 B7 (A0 B7 A1))))) (qcK (C2 (K:=K) T) hr.mo (C9 T) (A0 (qpv 0) (A0 A2 A1)))))
    (A3 (qst 7 sc_c0 (qcK (A1e (K:=K) T) hr.mo (A63 T) (A0 (qpv 0) (A0 (qpv 2) A1))))
    (A3 (C0 (QW.pt (W3 (A9 (G8 (K:=K) rfl hr.units) (qpv 6) B7 (B4 _)) (Q6 (A9 A2m (qcK (C2 (K:=K) T) hr.mo (C9 T) (A0 (qpv 0) (A0 A2 A1))) A2 (B4 _)))))
     (A4 (qst 7 sc_c0 (qcK (O9 (K:=K) T) hr.mo (T9 T) (A0 (qpv 7) (A0 (qpv 3) A1)))))
     A8)
    (A4 (C1 (F4 (K:=K) rfl Z1 Z2 Z3 C8 (qpv 4) (A0 (B8 (A0 (qpv 6) (A0 (qcK (C2 (K:=K) T) hr.mo (C9 T) (A0 (qpv 0) (A0 (qpv 1) A1))) (A0 (qpv 7) A1)))) A1))))))))
   (A4 (A6 (qpv 4)))))),?_⟩
 haveI:=T.c2_KINDS
 haveI:=T.c2_HOLD_KINDS
 refine Pu.D6 h ?_;rintro as Qp ⟨n,late,rfl,n0,n1,sl,k⟩;trivial;refine ⟨5,rfl,by decide,sm4 5,fun d d0 d5=>?_⟩;trivial;obtain ⟨z,hz,ez⟩:=B6b (xs:=[0,0,1,2,4]) d0 d5;have hbz:0<=z/\z<=4:=by simp at hz; omega
 refine D1 ez ?_;trivial;refine ⟨⟨by omega,by omega⟩,T6 (fun i e=>∃ (hs:LH) (o1 o2 o3:Option SV),e=[some .st,some (.d (.int n)),some (.d (.bool false)),some (.d (dq late)),some (.own (hs.map hD)),o1,o2,o3]/\hs.length=i/\HOk n hs) ⟨[],_,_,_,rfl,rfl,fun _ z=>nomatch z⟩ ?_ ?_⟩
 ·rintro i e hi ⟨hs,o1,o2,o3,rfl,hw,wk⟩;trivial;refine ⟨4,rfl,by decide,sm4 4,fun g g0 g4=>?_⟩;trivial;obtain ⟨kd,hk,ek⟩:=C7w g0 g4;refine D1 ek ?_;trivial;refine ⟨rfl,fun q sq=>?_⟩;trivial;refine ⟨hk.lay,C54,?_⟩;have sn:Sm 4000 n:=Q3 (B:=10) (by omega) (by omega) (by decide);have s1:On LL (2 ^ 55) q:=sq.p2 (by decide);have s2:On LL (2 ^ 55) (q + late):=(sq.p2 (b:=49) (by decide)).add2 L4 sl (by decide);refine ite2 (fun he=>?_) (fun he=>?_)
  ·refine ⟨4,rfl,by decide,sm4 4,fun f f0 f4=>?_⟩;trivial;refine ite2 (fun hf=>?_) (fun hf=>?_)
   ·refine ⟨q,late,rfl,onL sq (by decide),onL sl (by decide),?_⟩;trivial;refine ⟨n,rfl,by omega,sn,fun w w0 w1=>?_⟩;trivial;exact ⟨by omega,hs++[(kd,w,q + late)],_,_,_,by rw [Zc]; rfl,by rw [Ze,List.length_singleton]; omega,wk.snoc ⟨hk,⟨w0,w1⟩,s2⟩⟩
   ·refine ⟨n,rfl,by omega,sn,fun w w0 w1=>?_⟩;trivial;exact ⟨by omega,hs++[(kd,w,q)],_,_,_,by rw [Zc]; rfl,by rw [Ze,List.length_singleton]; omega,wk.snoc ⟨hk,⟨w0,w1⟩,s1⟩⟩
  ·refine ⟨n,rfl,by omega,sn,fun w w0 w1=>?_⟩;trivial;exact ⟨by omega,hs++[(kd,w,q)],_,_,_,by rw [Zc]; rfl,by rw [Ze,List.length_singleton]; omega,wk.snoc ⟨hk,⟨w0,w1⟩,s1⟩⟩
 ·rintro e ⟨hs,o1,o2,o3,rfl,hw,wk⟩;trivial;exact k hs (by omega) wk
def A7p:Pu.PSp:=fun as Q=>∃ (xs:List Wk),as=[.st,.bor (xs.map kD)]/\1<=xs.length/\xs.length<=10/\(∀ x ∈ xs,Kd x.2.1)/\∀ gs:List (List Int),gs.length<=4->(∀ g ∈ gs,GrOk xs g)->gs.flatten.Nodup->Q (.own (gs.map gD))
theorem A7w (T:Txt K mg D):FnOk P w K mg base CX0 3 D.a_b4 D.d_b4 ["_law_state","_law_works"] (Pu.spOf K [.st,.vw] A7p):=by
 refine T.B.F_b4.ok sc_b4 (Zz rfl) (fun cdv A outer s H vs Q E hr h=>?_);refine ⟨_,(QSs.out (A3 (G7 (i:=2) rfl sc_b4.nd rfl rfl (B9 ["_law_works","_law_at"] [some 1,none]) (E6 (K:=K) rfl (qcK (X5 (K:=K) T) hr.mo (A1r T) (A0 (qpv 0) (A0 (qln K T.z_len (qpv 1)) A1)))) (fun _ _ _=>(qgc 1 ["_law_works","_law_at"])) (fun _ _ _=>(Q7 (A9 (D9 (K:=K) rfl hr.units) (qix K (qix K (qix K (qpv 0) (qpv 1)) A2) A2) B7 (B4 _)))) (fun _ _ _=>(qpv 1)) rfl)
   (A3 (qst 3 sc_b4 (C3 A1))
   (A3 (K2 Zf (QW.pt (W3 (A9 A2m (qln K T.z_len (qpv 2)) A2 (B4 _)) (Q6 (A9 A1c (qln K T.z_len (qpv 3)) A2 (B4 _)))))
    (A3 (O2 (i:=4) sc_b4.nd rfl (Or.inr rfl) (qln K T.z_len (qix K (qix K (qix K (qpv 1) (qix K (qpv 2) A2)) A2) A2)))
    (A3 (O2 (i:=5) sc_b4.nd rfl (Or.inr rfl) (K3 (N1 (K:=K) rfl) (F2 rfl (B9 ["_law_size","_law_works","_law_at"] [some 4,some 1,none]) (E6 (K:=K) rfl (qpv 2)) (fun _ _ _=>(qgc 2 ["_law_size","_law_works","_law_at"])) (fun _ _ _=>(Q7 (A9 (D9 (K:=K) rfl hr.units) (qln K T.z_len (qix K (qix K (qix K (qpv 1) (qpv 2)) A2) A2)) (qpv 0) (B4 _)))) (fun _ _ _=>(qpv 2))) L7 (L6 (B2 F7 A2 (qcK (C2 (K:=K) T) hr.mo (C9 T) (A0 (qpv 0) (A0 A2 A1)))))))
    (A3 (G7 (i:=2) rfl sc_b4.nd rfl rfl (B9 ["_law_alike_here","_law_at"] [some 5,none]) (E6 (K:=K) rfl (K3 (N1 (K:=K) rfl) (qpv 2) (L6 A2) L7)) (fun _ _ _=>(qgc 1 ["_law_alike_here","_law_at"])) (fun _ _ _=>(Q7 (A9 (M2 (K:=K) rfl hr.units) (qpv 1) (qpv 0) (by with_unfolding_all rfl)))) (fun _ _ _=>(qpv 1)) rfl)
    (A4 (C0 (QW.pt (W3 (A9 A2m (qln K T.z_len (qpv 5)) A2 (B4 _)) (Q6 (A9 (D9 (K:=K) rfl hr.units) (qcK (C2 (K:=K) T) hr.mo (C9 T) (A0 (qpv 0) (A0 A2 A1))) A2 (B4 _)))))
     (A4 (C1 (F4 (K:=K) rfl Z1 Z2 Z3 C8 (qpv 3) (A0 (qpv 5) A1))))
     A8))))))
   (A4 (A6 (qpv 3))))))),?_⟩
 haveI:=T.c2_KINDS
 haveI:=T.c2_HOLD_KINDS
 refine Pu.D6 h ?_;rintro as Qp ⟨xs,rfl,x0,x1,hk,k⟩;trivial;refine ⟨(xs.length:Int),by simp,by omega,by omega,fun os ho hos ond=>?_⟩;trivial;refine ⟨by omega,⟨fun i e ys=>∃ (o:Option SV) (ls:List Int),e=[some (.bor (xs.map kD)),o]/\ys=ls.map .int/\(ls.length<=i/\ls.Sublist (os.take i))/\∀ o ∈ ls,(0<=o/\o < (xs.length:Int))/\(wat xs o).2.1="steps",⟨_,[],rfl,rfl,⟨by simp,List.nil_sublist _⟩,fun _ z=>nomatch z⟩,?_,?_⟩⟩
 ·rintro i x e ys hx ⟨o,ls,rfl,rfl,⟨hl,hsu⟩,hr⟩;rw [Zh] at hx;obtain ⟨b,hb,rfl⟩:=Zo hx;obtain ⟨b0,b1⟩:=hos b (Zm hb);have hy:=A8f b0 b1;trivial;refine D1 (A4r b0 b1) ?_;trivial;refine ⟨(hk _ hy).lay,A2s,?_⟩;refine ite2 (fun h=>⟨_,ls++[b],rfl,by rw [Zc]; rfl,⟨by rw [Ze,List.length_singleton]; omega,A02 hsu hb⟩,fun z hz=>?_⟩) (fun h=>⟨_,ls,rfl,rfl,⟨by omega,A03 hsu⟩,hr⟩);rcases Za hz with q | q
  ·exact hr z q
  ·rw [Zn q]; rw [N5,decide_eq_true_eq] at h; exact ⟨⟨b0,b1⟩,h⟩
 ·rintro e ys ⟨o,ls,rfl,rfl,⟨hl,hsu⟩,hr⟩;rw [Zl] at hl hsu;rw [List.take_length] at hsu;trivial;refine ⟨fun m e=>∃ (ls:List Int) (gs:List (List Int)) (o1 o2:Option SV),e=[some .st,some (.bor (xs.map kD)),some (.own (ls.map .int)),some (.own (gs.map gD)),o1,o2]/\m=ls.length/\ls.length<=10/\(gs.length<=4/\(∀ g ∈ gs,GrOk xs g)/\(ls++gs.flatten).Nodup)/\∀ o ∈ ls,(0<=o/\o < (xs.length:Int))/\(wat xs o).2.1="steps",⟨_,ls,[],_,_,rfl,rfl,by omega,⟨by simp,(fun _ z=>nomatch z),by rw [List.flatten_nil,List.append_nil]; exact ond.sublist hsu⟩,hr⟩,?_⟩;rintro m e ⟨ls,gs,o1,o2,rfl,rfl,hl,⟨hg,gk,nd⟩,hr⟩;trivial;have gnd:=(List.nodup_append.mp nd).2.1;refine ite2 (fun h1=>ite2 (fun h2=>?_) (fun _=>k gs hg gk gnd)) (fun _=>k gs hg gk gnd);obtain ⟨a,r,rfl⟩:∃ a r,ls=a :: r:=by
   cases ls with
   | nil=>simp at h1
   | cons a r=>exact ⟨a,r,rfl⟩
  have ey':=A4r (hr a (Zy ..)).1.1 (hr a (Zy ..)).1.2;obtain ⟨y,hy⟩:∃ y,y=wat xs a:=⟨_,rfl⟩;rw [<- hy] at ey';have e0:L2.atI ((a :: r).map PyData.int) ((0:Nat):Int)=some (.int a):=F6 rfl;refine D1 e0 ?_;trivial;refine D1 ey' ?_;trivial;rw [List.length_cons] at hl;refine ⟨by omega,⟨fun i e ys=>∃ (o:Option SV) (ts:List Int),e=[some (.d (.int (y.2.2.length:Int))),some (.bor (xs.map kD)),o]/\ys=ts.map .int/\(ts.length<=i/\ts.Sublist ((a :: r).take i))/\∀ b ∈ ts,b ∈ a :: r/\(wat xs b).2.2.length=y.2.2.length,⟨_,[],rfl,rfl,⟨by simp,List.nil_sublist _⟩,fun _ z=>nomatch z⟩,?_,?_⟩⟩
  ·rintro i x e ys hx ⟨o,ts,rfl,rfl,⟨ht,hts⟩,htm⟩;have hx':((a :: r).map PyData.int)[i]?=some x:=hx;rw [Zh] at hx';obtain ⟨b,hb,rfl⟩:=Zo hx';obtain ⟨⟨b0,b1⟩,b2⟩:=hr b (Zm hb);trivial;refine D1 (A4r b0 b1) ?_;trivial;refine ite2 (fun h=>⟨_,ts++[b],rfl,by rw [Zc]; rfl,⟨by rw [Ze,List.length_singleton]; omega,A02 hts hb⟩,fun z hz=>?_⟩) (fun h=>⟨_,ts,rfl,rfl,⟨by omega,A03 hts⟩,htm⟩);rcases Za hz with q | q
   ·exact htm z q
   ·rw [Zn q]; exact ⟨Zm hb,by omega⟩
  ·rintro e ys ⟨o,ts,rfl,rfl,⟨ht,hts⟩,htm⟩;have hts:ts.Sublist (a :: r):=hts.trans (List.take_sublist _ _);have ht':ts.length<=10:=by
    have h:=ht;rw [List.length_cons,Zl] at h;omega
   trivial;refine ⟨2,rfl,by decide,sm4 2,fun d d0 d2=>?_⟩;trivial;rw [show cutD (PyData.int a :: r.map PyData.int) (some 1) none=r.map PyData.int from B4f (f:=PyData.int) (xs:=a :: r)];rw [B9z (f:=PyData.int) (xs:=ts) (n:=2 + d) (by omega)];obtain ⟨al,eal⟩:∃ al,al=ts.take (2 + d).toNat:=⟨_,rfl⟩;have hsa:al.Sublist ts:=by rw [eal]; exact List.take_sublist _ _
   have hsub:∀ w ∈ al,w ∈ ts:=fun w hw=>hsa.subset hw;have hal:=hsa.length_le;rw [<- eal];refine ⟨by rw [Zl]; omega,⟨fun i e ys=>∃ (o:Option SV) (us:List Int),e=[some (.bor (al.map .int)),o]/\ys=us.map .int/\(us.length<=i/\us.Sublist (r.take i)/\∀ o ∈ us,o ∉ al)/\∀ o ∈ us,(0<=o/\o < (xs.length:Int))/\(wat xs o).2.1="steps",⟨_,[],rfl,rfl,⟨by simp,List.nil_sublist _,fun _ z=>nomatch z⟩,fun _ z=>nomatch z⟩,?_,?_⟩⟩
   ·rintro i x e ys hx ⟨o,us,rfl,rfl,⟨hu,hus,hud⟩,hur⟩;rw [Zh] at hx;obtain ⟨b,hb,rfl⟩:=Zo hx;have hbr:=hr b (Zr _ (Zm hb));trivial;refine ⟨V7 al,?_⟩;refine ite2 (fun h=>⟨_,us++[b],rfl,by rw [Zc]; rfl,⟨by rw [Ze,List.length_singleton]; omega,A02 hus hb,fun z hz=>?_⟩,fun z hz=>?_⟩) (fun h=>⟨_,us,rfl,rfl,⟨by omega,A03 hus,hud⟩,hur⟩)
    ·rcases Za hz with q | q
     ·exact hud z q
     ·rw [Zn q]; exact B68 h
    ·rcases Za hz with q | q
     ·exact hur z q
     ·rw [Zn q]; exact hbr
   ·rintro e ys ⟨o,us,rfl,rfl,⟨hu,hus,hud⟩,hur⟩;have hus:us.Sublist (a :: r):=(hus.trans (List.take_sublist _ _)).trans (List.sublist_cons_self _ _);rw [Zl] at hu;trivial;have fin:∀ gs':List (List Int),gs'.length<=4->(∀ g ∈ gs',GrOk xs g)->(us++gs'.flatten).Nodup->∃ m',m' < r.length + 1/\∃ (ls:List Int) (gs_1:List (List Int)) (o1 o2:Option SV),[some SV.st,some (SV.bor (List.map kD xs)),some (SV.own (List.map PyData.int us)),some (SV.own (gs'.map gD)),some (SV.d (PyData.int y.2.2.length)),some (SV.own (List.map PyData.int al))]=[some SV.st,some (SV.bor (List.map kD xs)),some (SV.own (List.map PyData.int ls)),some (SV.own (gs_1.map gD)),o1,o2]/\m'=ls.length/\ls.length<=10/\(gs_1.length<=4/\(∀ g ∈ gs_1,GrOk xs g)/\(ls++gs_1.flatten).Nodup)/\∀ o ∈ ls,(0<=o/\o < (xs.length:Int))/\(wat xs o).2.1="steps":=fun gs' h h' h''=>⟨_,by omega,us,gs',_,_,rfl,rfl,by omega,⟨h,h',h''⟩,hur⟩;refine ite2 (fun h3=>?_) (fun h3=>fin gs hg gk (B2l nd hus));refine ⟨2,rfl,by decide,sm4 2,fun f f0 f2=>?_⟩;trivial;refine ite2 (fun h4=>?_) (fun h4=>fin gs hg gk (B2l nd hus));have gal:GrOk xs al:=⟨by omega,by omega,fun w hw=>(hr w (htm w (hsub w hw)).1).1,fun w hw=>(hr w (htm w (hsub w hw)).1).2,fun w hw v hv=>by rw [(htm w (hsub w hw)).2,(htm v (hsub v hv)).2]⟩;refine ⟨by omega,_,by omega,us,gs++[al],_,_,by rw [Zc]; rfl,rfl,by omega,⟨by rw [Ze,List.length_singleton]; omega,(fun g hg'=>?_),by rw [List.flatten_append,List.flatten_singleton]; exact C5t nd hus (hsa.trans hts) hud⟩,hur⟩;rcases Za hg' with q | q
    ·exact gk g q
    ·rw [Zn q]; exact gal
def C0x:Pu.PSp:=fun as Q=>∃ (ns:List Int) (at_:Int) (kz:List Str) (mw mc:Int),as=[.bor (ns.map .int),.d (.int at_),.d (.int mw),.d (.int mc),.d (.list (kz.map .str)),.d (.bool false)]/\0<=at_/\at_<=50/\1<=kz.length/\kz.length<=3/\(∀ z ∈ kz,Kd z)/\(1<=mw/\mw<=10)/\(1<=mc/\mc<=5)/\∀ n xs ws hs gs,NetV n xs ws hs gs->n<=mw->hs.length<=4->(∀ x ∈ xs,x.2.1 ∈ kz/\x.2.2.length<=mc.toNat)->Q (.d (netD xs ws hs (gs.map gD)))
theorem C16 (T:Txt K mg D):FnOk P w K mg base CX0 5 D.a_d5 D.d_d5 ["_law_script","_law_at","_law_most","_law_corners","_law_kinds","_law_plain"] (Pu.spOf K [.vw,.dat,.dat,.dat,.dat,.dat] C0x):=by
 refine T.B.F_d5.ok sc_d5 (Zz rfl) (fun cdv A outer s H vs Q E hr h=>?_);refine ⟨_,(QSs.out (A3 (qst 6 sc_d5 (qcK (O6 (K:=K) T) hr.mo (R8 T) (A0 (qpv 0) (A0 (qpv 1) A1))))
   (A3 (qst 7 sc_d5 (B2 F7 A2 (qcK (C2 (K:=K) T) hr.mo (C9 T) (A0 (qpv 6) (A0 (qpv 2) A1)))))
   (A3 (qst 8 sc_d5 (qcK (B1i (K:=K) T) hr.mo (B64 T) (A0 (qpv 6) (A0 (qpv 7) A1))))
   (A3 (qst 6 sc_d5 (qcK (O6 (K:=K) T) hr.mo (R8 T) (A0 (qpv 0) (A0 (B2 F7 (qpv 1) A2) A1))))
   (A3 (qst 9 sc_d5 (C3 A1))
   (A3 (qst 10 sc_d5 (B8 (A0 A2 (A0 A2 A1))))
   (A3 (G0 Zf rfl (E6 (K:=K) rfl (qpv 8)) (qgn 11 sc_d5)
    (A3 (qst 12 sc_d5 (qcK (X6 (K:=K) T) hr.mo (A1s T) (A0 (qpv 6) (A0 (qix K (qpv 4) (qcK (C2 (K:=K) T) hr.mo (C9 T) (A0 (qpv 6) (A0 (qln K T.z_len (qpv 4)) A1)))) (A0 (qpv 3) (A0 (qpv 5) A1))))))
    (A3 (qst 10 sc_d5 (qcK (O9 (K:=K) T) hr.mo (T9 T) (A0 (qpv 10) (A0 (qix K (qix K (qix K (qpv 12) A2) A2) A2) A1))))
    (A4 (C1 (F4 (K:=K) rfl Z1 Z2 Z3 C8 (qpv 9) (A0 (B8 (A0 (qpv 11) (A0 (qpv 12) A1))) A1)))))))
   (A3 (qst 6 sc_d5 (qcK (O6 (K:=K) T) hr.mo (R8 T) (A0 (qpv 0) (A0 (B2 F7 (qpv 1) A2) A1))))
   (A3 (qst 13 sc_d5 (qcK (B1f (K:=K) T) hr.mo (B62 T) (A0 (qpv 6) (A0 (qpv 7) (A0 (qpv 5) A1)))))
   (A3 (qst 6 sc_d5 (qcK (O6 (K:=K) T) hr.mo (R8 T) (A0 (qpv 0) (A0 (B2 F7 (qpv 1) A2) A1))))
   (A3 (qst 14 sc_d5 (qcK (B1j (K:=K) T) hr.mo (B65 T) (A0 (qpv 6) (A0 (qpv 7) (A0 (qpv 5) (A0 (qpv 10) A1))))))
   (A4 (A6 (B8 (A0 (qpv 9) (A0 (qpv 13) (A0 (qpv 14) (A0 (qcK (A7w (K:=K) T) hr.mo (B4x T) (A0 (qpv 6) (A0 (qpv 9) A1))) A1))))))))))))))))))),?_⟩
 haveI:=T.c2_KINDS
 haveI:=T.c2_HOLD_KINDS
 refine Pu.D6 h ?_;rintro as Qp ⟨ns,at_,kz,mw,mc,rfl,a0,a1,k0,k1,hkz,⟨w0,w1⟩,⟨c0,c1⟩,k⟩;trivial;refine ⟨ns,at_,rfl,by omega,by omega,?_⟩;trivial;refine ⟨mw,rfl,by omega,Q3 (B:=10) (by omega) (by omega) (by decide),fun d d0 d6=>?_⟩;trivial;refine ⟨1 + d,rfl,by omega,by omega,fun zs hz hzl znd=>?_⟩;trivial;refine ⟨ns,at_ + 1,rfl,by omega,by omega,?_⟩;trivial;refine Y3 (f:=PyData.str) (xs:=zs) (fun i e=>∃ (xs:List Wk) (late:Rat) (o1 o2:Option SV),e=[some (SV.bor (List.map PyData.int ns)),some (SV.d (PyData.int at_)),some (SV.d (PyData.int mw)),some (SV.d (PyData.int mc)),some (SV.d (PyData.list (List.map PyData.str kz))),some (SV.d (PyData.bool false)),some SV.st,some (SV.d (PyData.int (1 + d))),some (SV.d (PyData.list (List.map PyData.str zs))),some (SV.own (xs.map kD)),some (SV.d (dq late)),o1,o2,none,none]/\xs.length=i/\On LL (i * 2 ^ 45) late/\(∀ x ∈ xs,(Kd x.2.1/\OfG x.2.1 x.2.2 100 54 244 130/\OnC x.2.2)/\x.2.1 ∈ kz/\x.2.2.length<=mc.toNat/\(PyData.str x.1).canLay0=true)/\xs.map (·.1)=zs.take i) ⟨[],0,_,_,rfl,rfl,On.zero.mono (Nat.zero_le _),(fun _ z=>nomatch z),rfl⟩ ?_ ?_
 ·rintro i z e hzi ⟨xs,late,o1,o2,rfl,hx,sl,hxs,hnm⟩;have hi:i < zs.length:=(Zs hzi).1;trivial;refine ⟨(kz.length:Int),by simp,by omega,Q3 (B:=3) (by omega) (by omega) (by decide),fun g g0 g1=>?_⟩;trivial;obtain ⟨gj,rfl⟩:=Zi g0;have hgj:gj < kz.length:=by omega
  have eg:L2.atI (kz.map PyData.str) (gj:Int)=some (.str kz[gj]):=F6 (by rw [Zh,Zg hgj]; rfl);refine D1 eg ?_;trivial;refine ⟨kz[gj],mc,rfl,by omega,by omega,hkz _ (List.getElem_mem hgj),fun cs og oc ol=>?_⟩;have ok:=og.ok;trivial;unfold offD;trivial;obtain ⟨c,hc,ec⟩:∃ c,c ∈ cs/\L2.atI (cs.map dcn) ((0:Nat):Int)=some (dcn c):=by
   have h0:0 < cs.length:=ok.ne;exact ⟨cs[0],List.getElem_mem h0,F6 (by rw [Zh,Zg h0]; rfl)⟩
  have sc:=(oc c hc).1;have i10:i * 2 ^ 45<=2 ^ 49:=Zx (Zu _ (show i<=10 by omega)) (Nat.le_of_ble_eq_true rfl);refine D1 ec ?_;trivial;refine ⟨late,c.1,rfl,onL (sl.mono i10) (by decide),onL sc (by decide),?_⟩;trivial;refine ⟨by omega,xs++[(z,kz[gj],cs)],_,_,_,by rw [Zc]; rfl,by rw [Ze,List.length_singleton]; omega,(sl.add L4 sc).mono (by rw [Nat.add_mul,Nat.one_mul]; exact Zv _),(fun x hx'=>?_),by rw [Zc,hnm,List.take_succ,hzi]; rfl⟩;rcases Za hx' with q | q
  ·exact hxs x q
  ·rw [Zn q]; exact ⟨⟨hkz _ (List.getElem_mem hgj),og,oc⟩,List.getElem_mem hgj,ol,(hzl z (Zm hzi)).lay⟩
 ·rintro e ⟨xs,late,o1,o2,rfl,hx,sl,hxs,hnm⟩;trivial;refine ⟨ns,at_ + 2,rfl,by omega,by omega,?_⟩;trivial;refine ⟨1 + d,rfl,by omega,by omega,fun ws hw wk=>?_⟩;trivial;refine ⟨ns,at_ + 3,rfl,by omega,by omega,?_⟩;trivial;refine ⟨1 + d,late,rfl,by omega,by omega,sl.mono (Zx (Zu _ (show _<=10 by omega)) (Nat.le_of_ble_eq_true rfl)),fun hs hh hhk=>?_⟩;trivial;refine ⟨xs,rfl,by omega,by omega,fun x hx'=>(hxs x hx').1.1,fun gs gl gk gnd=>?_⟩;trivial;have hnm2:xs.map (·.1)=zs:=by rw [hnm]; exact List.take_of_length_le (by simp)
  exact k (1 + d) xs ws hs gs ⟨⟨by omega,by omega,by omega,(fun x hx'=>(hxs x hx').1),hw,wk.1,by omega,hhk,gl,gk,(fun x hx'=>(hxs x hx').2.2.2)⟩,(fun x hx'=>hzl _ (by rw [<- hnm2]; exact List.mem_map_of_mem hx')),(by rw [hnm2]; exact znd),wk.2,gnd⟩ (by omega) hh (fun x hx'=>⟨(hxs x hx').2.1,(hxs x hx').2.2.1⟩)
theorem M4 (T:Txt K mg D):∀ n:Nat,FnOk P w K mg base CX0 (n + 1) D.a_bc D.d_bc ["_law_found","_law_due"] (Pu.spOf K [.dat,.dat] (Pu.A5d n)):=by
 have step:∀ (n:Nat) (psI:Pu.PSp),FnOk P w K mg base CX0 n D.a_bc D.d_bc ["_law_found","_law_due"] (Pu.spOf K [.dat,.dat] psI)->(∀ xs,(okA n (.list xs)\/okA n (.tuple xs))->xs.length < 1000/\∀ x ∈ xs,∀ Q:SV->Prop,Q (.d (.bool true))->psI [.d x,.d x] Q) ->
   FnOk P w K mg base CX0 (n + 1) D.a_bc D.d_bc ["_law_found","_law_due"] (Pu.spOf K [.dat,.dat] (Pu.A5d n)):=by
  intro n psI IH hI;refine T.B.F_bc.ok sc_bc (Zz rfl) (fun cdv A outer s H vs Q E hr h=>?_);refine ⟨_,(QSs.out (A3 (C0 (B5 (B0 (A0u (K:=K) rfl) (by rfl) T.z_isinstance (by rfl) (A0 (qpv 1) (A0 (B8 (A0 (C7 (v:=.ty "list") rfl T.z_list (by rfl) rfl) (A0 (C7 (v:=.ty "tuple") rfl T.z_tuple (by rfl) rfl) A1))) A1))))
    (A3 (C0 (QW.pt (F8 (B6 (B5 (B0 (A0u (K:=K) rfl) (by rfl) T.z_isinstance (by rfl) (A0 (qpv 0) (A0 (B8 (A0 (C7 (v:=.ty "list") rfl T.z_list (by rfl) rfl) (A0 (C7 (v:=.ty "tuple") rfl T.z_tuple (by rfl) rfl) A1))) A1))))) (F3 (A9 (G8 (K:=K) rfl hr.units) (B0 (C6 (K:=K) rfl) (by rfl) T.z_isinstance (by rfl) (A0 (qpv 0) (A0 (C7 (v:=.ty "list") rfl T.z_list (by rfl) rfl) A1))) (B0 (C6 (K:=K) rfl) (by rfl) T.z_isinstance (by rfl) (A0 (qpv 1) (A0 (C7 (v:=.ty "list") rfl T.z_list (by rfl) rfl) A1))) (B4 _)))))
     (A4 (A6 D3))
     A8)
    (A4 (A6 (G1 (D5 (D9 (K:=K) rfl hr.units) (qln K T.z_len (qpv 0)) (qln K T.z_len (qpv 1)) (B4 _)) (G3 (B0 (M5 (K:=K) rfl) (by rfl) T.z_all (by rfl) (A0 (F2 rfl (B9 ["_law_one","_law_other"] [none,none]) (C04 (K:=K) rfl rfl T.z_zip (A0 (qpv 0) (A0 (qpv 1) A1))) (fun _ _ _=>(D8 (K:=K) (n:=2) rfl rfl (A7 (qgc 0 ["_law_one","_law_other"]) (A7 (qgc 1 ["_law_one","_law_other"]) D7)) rfl rfl)) (fun _ _ _=>D4) (fun _ _ _=>(qcK IH hr.mo (N7 T) (A0 (qpv 0) (A0 (qpv 1) A1))))) A1)))))))
    A8)
   (A3 (C0 (B5 (B0 (C6 (K:=K) rfl) (by rfl) T.z_isinstance (by rfl) (A0 (qpv 1) (A0 (C7 (v:=.ty "str") rfl T.z_str (by rfl) rfl) A1))))
    (A4 (A6 (G1 (B0 (C6 (K:=K) rfl) (by rfl) T.z_isinstance (by rfl) (A0 (qpv 0) (A0 (C7 (v:=.ty "str") rfl T.z_str (by rfl) rfl) A1))) (G3 (D5 (D9 (K:=K) rfl hr.units) (qpv 0) (qpv 1) (B4 _))))))
    A8)
   (A3 (C0 (A9 A38 (qpv 1) A3w (B4 _))
    (A4 (A6 (D5 A38 (qpv 0) A3w (B4 _))))
    A8)
   (A3 (C0 (B5 (B0 (C6 (K:=K) rfl) (by rfl) T.z_isinstance (by rfl) (A0 (qpv 1) (A0 (C7 (v:=.ty "bool") rfl T.z_bool (by rfl) rfl) A1))))
    (A4 (A6 (G1 (B0 (C6 (K:=K) rfl) (by rfl) T.z_isinstance (by rfl) (A0 (qpv 0) (A0 (C7 (v:=.ty "bool") rfl T.z_bool (by rfl) rfl) A1))) (G3 (D5 (D9 (K:=K) rfl hr.units) (qpv 0) (qpv 1) (B4 _))))))
    A8)
   (A4 (A6 (G1 (B0 (C6 (K:=K) rfl) (by rfl) T.z_isinstance (by rfl) (A0 (qpv 0) (A0 (C7 (v:=.ty "int") rfl T.z_int (by rfl) rfl) A1))) (G1 (A3v (B0 (C6 (K:=K) rfl) (by rfl) T.z_isinstance (by rfl) (A0 (qpv 0) (A0 (C7 (v:=.ty "bool") rfl T.z_bool (by rfl) rfl) A1)))) (G3 (D5 (D9 (K:=K) rfl hr.units) (qpv 0) (qpv 1) (B4 _)))))))))))),?_⟩
  refine Pu.D6 h ?_;rintro as Qp ⟨x,rfl,ox,k⟩;cases x with
  | none =>
   trivial;exact k
  | bool b =>
   trivial;exact k
  | int i =>
   trivial;exact k
  | str t =>
   have oy:(PyData.str t).canLay0=true:=by cases n <;> exact ox
   trivial;exact ⟨oy,oy,k⟩
  | dict kvs=>unfold okA at ox; exact ox.elim
  | list xs =>
   obtain ⟨hl,hx⟩:=hI xs (.inl ox);trivial;refine ⟨by rw [U9]; omega,⟨fun i e ys=>∃ o1 o2:Option SV,e=[o1,o2]/\ys=List.replicate i (.bool true),⟨none,none,rfl,rfl⟩,?_,?_⟩⟩
   ·rintro i x e ys hxi ⟨o1,o2,rfl,rfl⟩;obtain ⟨a,ha,rfl⟩:=A1v hxi;trivial;refine hx a (Zm ha) _ ?_;trivial;exact ⟨_,_,rfl,(List.replicate_succ' ..).symm⟩
   ·rintro e ys ⟨o1,o2,rfl,rfl⟩;trivial;exact ⟨_,A6z _,by rw [A67]; exact k⟩
  | tuple xs =>
   obtain ⟨hl,hx⟩:=hI xs (.inr ox);trivial;refine ⟨by rw [U9]; omega,⟨fun i e ys=>∃ o1 o2:Option SV,e=[o1,o2]/\ys=List.replicate i (.bool true),⟨none,none,rfl,rfl⟩,?_,?_⟩⟩
   ·rintro i x e ys hxi ⟨o1,o2,rfl,rfl⟩;obtain ⟨a,ha,rfl⟩:=A1v hxi;trivial;refine hx a (Zm ha) _ ?_;trivial;exact ⟨_,_,rfl,(List.replicate_succ' ..).symm⟩
   ·rintro e ys ⟨o1,o2,rfl,rfl⟩;trivial;exact ⟨_,A6z _,by rw [A67]; exact k⟩
 intro n;induction n with
 | zero=>exact step 0 _ (B6l rfl) fun xs h=>by rcases h with h | h <;> (unfold okA at h; exact h.elim)
 | succ n ih =>
  refine step (n + 1) _ ih fun xs h=>?_;have h':xs.length < 1000/\∀ x ∈ xs,okA n x:=by rcases h with h | h <;> (unfold okA at h; exact h)
  exact ⟨h'.1,fun x hx Q q=>⟨x,rfl,h'.2 x hx,q⟩⟩
def U5:Pu.PSp:=fun as Q=>∃ x n,as=[.d x,.d (.int n)]/\Q (.d (.bool (isNb n x)))
theorem G6 (T:Txt K mg D):FnOk P w K mg base CX0 2 D.a_a2 D.d_a2 ["thing","many"] (Pu.spOf K [.dat,.dat] U5):=by
 refine T.B.F_a2.ok sc_a2 (Zz rfl) (fun cdv A outer s H vs Q E hr h=>?_);refine ⟨_,(QSs.out (A4 (A6 (G1 (qcK (S7 (K:=K) T) hr.mo (Y9 T) (A0 (qpv 0) A1)) (G3 (A2b A37 A1c A2 (qpv 0) (qpv 1))))))),?_⟩
 haveI:=T.c2_KINDS
 haveI:=T.c2_HOLD_KINDS
 refine Pu.D6 h ?_;rintro as Qp ⟨x,n,rfl,k⟩;trivial;refine ⟨x,rfl,?_⟩;trivial;cases x with
 | int i =>
  have e:isW (.int i)=true:=rfl;trivial;rw [if_pos e];have k:Qp (.d (.bool (decide (0<=i) && decide (i < n)))):=k;by_cases h:0<=i
  ·rw [if_pos h]; rw [Zk h,Bool.true_and] at k; exact k
  ·rw [if_neg h]; rw [Zd h,Bool.false_and] at k; exact k
 | none=>exact k
 | bool b=>exact k
 | str z=>exact k
 | list xs=>exact k
 | tuple xs=>exact k
 | dict xs=>exact k
def A9k:Pu.PSp:=fun as Q=>∃ (x:Wk) (xs:List Wk),as=[.d (kD x),.d (.list (xs.map kD))]/\xs.length<=10/\NmOk x.1/\(∀ y ∈ xs,NmOk y.1)/\Kd x.2.1/\OfG x.2.1 x.2.2 100 54 244 130/\x.1 ∉ xs.map (·.1)/\Q (.d (.bool true))
theorem B1b (T:Txt K mg D):FnOk P w K mg base CX0 7 D.a_cc D.d_cc ["thing","ahead"] (Pu.spOf K [.dat,.dat] A9k):=by
 refine T.B.F_cc.ok sc_cc (Zz rfl) (fun cdv A outer s H vs Q E hr h=>?_);refine ⟨_,(QSs.out (A3 (C0 (QW.pt (F8 (B6 (B5 (qcK (G2 (K:=K) T) hr.mo (G9 T) (A0 (qpv 0) (A0 A2 A1))))) (F8 (B6 (B5 (qcK (B1d (K:=K) T) hr.mo (B60 T) (A0 (qix K (qpv 0) A2) A1)))) (F3 (B6 (B5 (qcK (A7t (K:=K) T) hr.mo (B4t T) (A0 (qix K (qpv 0) A2) A1))))))))
    (A4 (A6 D3))
    A8)
   (A4 (A6 (D5 (M2 (K:=K) rfl hr.units) (qix K (qpv 0) A2) (F2 rfl (B9 ["work"] [none]) (E6 (K:=K) rfl (qpv 1)) (fun _ _ _=>(qgc 0 ["work"])) (fun _ _ _=>D4) (fun _ _ _=>(qix K (qpv 0) A2))) (by with_unfolding_all rfl)))))),?_⟩
 haveI:=T.c2_KINDS
 haveI:=T.c2_HOLD_KINDS
 refine Pu.D6 h ?_;rintro as Qp ⟨x,xs,rfl,h10,nk,nks,hk,og,nin,k⟩;unfold kD;trivial;refine ⟨_,2,rfl,?_⟩;trivial;rw [if_neg (A6g (n:=2) rfl)];refine ⟨_,rfl,(fun z e=>by cases e; have:=nk.all.1; omega),?_⟩;rw [show isN (.str x.1)=true from nk];trivial;refine ⟨_,rfl,C12 hk og.ok (by decide) (by decide) (by decide) (by decide),?_⟩;rw [C2a hk og];trivial;refine ⟨by omega,K0 (fun i e ys=>∃ o:Option SV,e=[o]/\ys=((xs.take i).map fun x=>.str x.1)) ⟨_,rfl,rfl⟩ ?_ ?_⟩
 ·rintro i y e ys hy ⟨o,rfl,rfl⟩;trivial;refine ⟨_,rfl,?_⟩;rw [List.take_add_one,hy,Zc]; rfl
 ·rintro e ys ⟨o,rfl,rfl⟩;rw [List.take_length];trivial;refine ⟨A1i fun x hx=>(nks x hx).lay,nk.lay,?_⟩;rw [A66 (f:=fun x:Wk=>x.1),Zd nin]; exact k
def A9l:Pu.PSp:=fun as Q=>∃ (n:Int) (w:Int × Int × Rat),as=[.d (wD w),.d (.int n)]/\(0<=w.1/\w.1 < n)/\(0<=w.2.1/\w.2.1 < n)/\w.1≠w.2.1/\Q (.d (.bool true))
theorem B1c (T:Txt K mg D):FnOk P w K mg base CX0 3 D.a_ca D.d_ca ["thing","many"] (Pu.spOf K [.dat,.dat] A9l):=by
 refine T.B.F_ca.ok sc_ca (Zz rfl) (fun cdv A outer s H vs Q E hr h=>?_);refine ⟨_,(QSs.out (A3 (C0 (B6 (B5 (qcK (G2 (K:=K) T) hr.mo (G9 T) (A0 (qpv 0) (A0 A2 A1)))))
    (A4 (A6 D3))
    A8)
   (A3 (O3 (qpv 0) (D8 (K:=K) (n:=3) rfl rfl (A7 (qgn 2 sc_ca) (A7 (qgn 3 sc_ca) (A7 (qgn 4 sc_ca) D7))) rfl rfl))
   (A3 (C0 (QW.pt (F8 (B6 (B5 (qcK (G6 (K:=K) T) hr.mo (J6 T) (A0 (qpv 2) (A0 (qpv 1) A1))))) (F3 (B6 (B5 (qcK (G6 (K:=K) T) hr.mo (J6 T) (A0 (qpv 3) (A0 (qpv 1) A1))))))))
    (A4 (A6 D3))
    A8)
   (A4 (A6 (G1 (D5 (G8 (K:=K) rfl hr.units) (qpv 2) (qpv 3) (B4 _)) (G3 (qcK (S8 (K:=K) T) hr.mo (Z0 T) (A0 (qpv 4) A1)))))))))),?_⟩
 haveI:=T.c2_KINDS
 haveI:=T.c2_HOLD_KINDS
 refine Pu.D6 h ?_;rintro as Qp ⟨n,w,rfl,h1,h2,ne,k⟩;unfold wD;trivial;refine ⟨_,3,rfl,?_⟩;trivial;rw [if_neg (A6g (n:=3) rfl)];refine ⟨_,n,rfl,?_⟩;rw [A6l h1];trivial;refine ⟨_,n,rfl,?_⟩;rw [A6l h2];trivial;rw [if_neg ne];refine ⟨_,rfl,?_⟩;rw [B9m];trivial;exact k
def A9n:Pu.PSp:=fun as Q=>∃ (n:Int) (h:Str × Int × Rat),as=[.d (hD h),.d (.int n)]/\Hk h.1/\(0<=h.2.1/\h.2.1 < n)/\Q (.d (.bool true))
theorem B1e (T:Txt K mg D):FnOk P w K mg base CX0 3 D.a_c7 D.d_c7 ["thing","many"] (Pu.spOf K [.dat,.dat] A9n):=by
 refine T.B.F_c7.ok sc_c7 (Zz rfl) (fun cdv A outer s H vs Q E hr h=>?_);refine ⟨_,(QSs.out (A3 (C0 (B6 (B5 (qcK (G2 (K:=K) T) hr.mo (G9 T) (A0 (qpv 0) (A0 A2 A1)))))
    (A4 (A6 D3))
    A8)
   (A3 (O3 (qpv 0) (D8 (K:=K) (n:=3) rfl rfl (A7 (qgn 2 sc_c7) (A7 (qgn 3 sc_c7) (A7 (qgn 4 sc_c7) D7))) rfl rfl))
   (A3 (C0 (QW.pt (F8 (B6 (B5 (B0 (C6 (K:=K) rfl) (by rfl) T.z_isinstance (by rfl) (A0 (qpv 2) (A0 (C7 (v:=.ty "str") rfl T.z_str (by rfl) rfl) A1))))) (F3 (A9 (M2 (K:=K) rfl hr.units) (qpv 2) (K7 (v:=.ref D.k_HOLD_KINDS) rfl T.c_HOLD_KINDS rfl) (by with_unfolding_all rfl)))))
    (A4 (A6 D3))
    A8)
   (A4 (A6 (G1 (qcK (G6 (K:=K) T) hr.mo (J6 T) (A0 (qpv 3) (A0 (qpv 1) A1))) (G3 (qcK (S8 (K:=K) T) hr.mo (Z0 T) (A0 (qpv 4) A1)))))))))),?_⟩
 haveI:=T.c2_KINDS
 haveI:=T.c2_HOLD_KINDS
 refine Pu.D6 h ?_;rintro as Qp ⟨n,h,rfl,h1,h2,k⟩;unfold hD;trivial;refine ⟨_,3,rfl,?_⟩;trivial;rw [if_neg (A6g (n:=3) rfl)];refine ⟨by decide +kernel,h1.lay,?_⟩;have e:([PyData.str (Str.ofString "from"),PyData.str (Str.ofString "till"),PyData.str (Str.ofString "by")].any fun z=>z.eqv (PyData.str h.fst))=true:=by
  rcases h1 with e | e | e <;> rw [e] <;> decide +kernel
 rw [if_neg (by rw [e]; decide)];refine ⟨_,n,rfl,?_⟩;rw [A6l h2];trivial;refine ⟨_,rfl,?_⟩;rw [B9m];trivial;exact k
def A7m:Pu.PSp:=fun as Q=>∃ (xs:List Wk) (g:List Int) (gs:List (List Int)),as=[.d (gD g),.d (.list (xs.map kD)),.d (.list (gs.map gD))]/\xs.length<=10/\gs.length<=4/\(∀ g ∈ gs,GrOk xs g)/\GrOk xs g/\(gs.flatten++g).Nodup/\Q (.d (.bool true))
theorem A7u (T:Txt K mg D):FnOk P w K mg base CX0 3 D.a_b7 D.d_b7 ["thing","works","ahead"] (Pu.spOf K [.dat,.dat,.dat] A7m):=by
 refine T.B.F_b7.ok sc_b7 (Zz rfl) (fun cdv A outer s H vs Q E hr h=>?_);refine ⟨_,(QSs.out (A3 (C0 (QW.pt (F8 (B6 (B5 (B0 (C6 (K:=K) rfl) (by rfl) T.z_isinstance (by rfl) (A0 (qpv 0) (A0 (C7 (v:=.ty "list") rfl T.z_list (by rfl) rfl) A1))))) (F3 (A9 A1c (qln K T.z_len (qpv 0)) A2 (B4 _)))))
    (A4 (A6 D3))
    A8)
   (A3 (A2a (i:=3) rfl sc_b7.nd rfl rfl (B9 ["group","number"] [none,none]) (E6 (K:=K) rfl (qpv 2)) (fun _ _ _=>(qgc 0 ["group","number"])) (fun _ _ _=>D4) (fun _ _ _=>(E6 (K:=K) rfl (qpv 0))) (fun _ _ _=>(qgc 1 ["group","number"])) (fun _ _ _=>D4) (fun _ _ _=>(qpv 1)) rfl)
   (A3 (G0 Zf rfl (E6 (K:=K) rfl (qpv 0)) (qgn 4 sc_b7)
    (A3 (C0 (QW.pt (F8 (B6 (B5 (qcK (G6 (K:=K) T) hr.mo (J6 T) (A0 (qpv 4) (A0 (qln K T.z_len (qpv 1)) A1))))) (F3 (A9 (C13 (K:=K) rfl hr.units) (qpv 4) (qpv 3) (by with_unfolding_all rfl)))))
     (A4 (A6 D3))
     A8)
    (A4 (C1 (F4 (K:=K) rfl Z1 Z2 Z3 C8 (qpv 3) (A0 (qpv 4) A1))))))
   (A3 (O2 (i:=5) sc_b7.nd rfl (Or.inr rfl) (F2 rfl (B9 ["works","number"] [some 1,none]) (E6 (K:=K) rfl (qpv 0)) (fun _ _ _=>(qgc 1 ["works","number"])) (fun _ _ _=>D4) (fun _ _ _=>(qix K (qix K (qpv 0) (qpv 1)) A2))))
   (A4 (A6 (B0 (M5 (K:=K) rfl) (by rfl) T.z_all (by rfl) (A0 (F2 rfl (B9 ["bound","kind","corners"] [some 5,none,none]) (E6 (K:=K) rfl (qpv 5)) (fun _ _ _=>(D8 (K:=K) (n:=2) rfl rfl (A7 (qgc 1 ["bound","kind","corners"]) (A7 (qgc 2 ["bound","kind","corners"]) D7)) rfl rfl)) (fun _ _ _=>D4) (fun _ _ _=>(G1 (D5 (D9 (K:=K) rfl hr.units) (qpv 1) B7 (B4 _)) (G3 (D5 (D9 (K:=K) rfl hr.units) (qln K T.z_len (qpv 2)) (qln K T.z_len (qix K (qix K (qpv 0) A2) A2)) (B4 _)))))) A1))))))))),?_⟩
 haveI:=T.c2_KINDS
 haveI:=T.c2_HOLD_KINDS
 refine Pu.D6 h ?_;rintro as Qp ⟨xs,g,gs,rfl,h10,g4,hgs,hg,nd,k⟩;unfold gD;trivial;have l2:=hg.l2;have l9:=hg.l9;have fl:∀ i,((gs.take i).flatten).length<=40:=fun i=>by
  have:∀ hs:List (List Int),(∀ h ∈ hs,h.length<=10)->hs.flatten.length<=10 * hs.length:=fun hs hh=>by
   induction hs with
   | nil=>simp
   | cons h r ih =>
    rw [List.flatten_cons,Ze,List.length_cons];have:=hh h Zy;have:=ih fun x hx=>hh x (Zr _ hx);omega
  have h1:=this (gs.take i) fun h hh=>(hgs h (List.mem_of_mem_take hh)).l9;rw [List.length_take] at h1;omega
 rw [if_neg (by omega)];refine C2r (fun i e ys=>∃ o1 o2:Option SV,e=[o1,o2]/\ys=((gs.take i).flatten).map .int) ⟨_,_,rfl,rfl⟩ ?_ ?_
 ·rintro i x e ys hx ⟨o1,o2,rfl,rfl⟩;rw [Zh] at hx;obtain ⟨h,hh,rfl⟩:=Zo hx;have f1:=fl i;refine ⟨by rw [Zl]; omega,?_⟩;trivial;refine C2s (fun j e ws=>∃ o1 o2:Option SV,e=[o1,o2]/\ws=((gs.take i).flatten++h.take j).map .int) ⟨_,_,rfl,by simp⟩ ?_ ?_
  ·rintro j u e ws hu ⟨o1,o2,rfl,rfl⟩;rw [Zh] at hu;obtain ⟨b,hb,rfl⟩:=Zo hu;have h9:=(hgs h (Zm hh)).l9;refine ⟨by rw [Zl,Ze,List.length_take]; omega,?_⟩;trivial;refine ⟨_,_,rfl,?_⟩;rw [List.take_add_one,hb,Option.toList_some,<- List.append_assoc,Zc (l:=_++_)]; rfl
  ·rintro e ws ⟨o1,o2,rfl,rfl⟩;refine ⟨_,_,rfl,?_⟩;rw [Zl,List.take_length,List.take_add_one,hh,Option.toList_some,List.flatten_append,List.flatten_singleton]
 ·rintro e ys ⟨o1,o2,rfl,rfl⟩;simp only [List.length_map,List.take_length];have f1:=fl gs.length;rw [List.take_length] at f1;refine ⟨by omega,?_⟩;trivial;refine Y3 (f:=PyData.int) (xs:=g) (fun i e=>∃ o:Option SV,e=[some (SV.d (PyData.list (List.map PyData.int g))),some (SV.d (PyData.list (List.map kD xs))),some (SV.d (PyData.list (List.map (fun g=>PyData.list (List.map PyData.int g)) gs))),some (SV.own ((gs.flatten++g.take i).map .int)),o,none]) ⟨_,by rw [List.take_zero,List.append_nil]⟩ ?_ ?_
  ·rintro i b e hb ⟨o,rfl⟩;have hm:=Zm hb;have hi:=(Zs hb).1;have hbi:=hg.ix b hm;trivial;refine ⟨_,_,rfl,?_⟩;rw [A6l hbi];trivial;have nin:b ∉ gs.flatten++g.take i:=fun hin=>by
    have e1:gs.flatten++g=(gs.flatten++g.take i)++b :: g.drop (i + 1):=by
     conv=>lhs; rw [<- List.take_append_drop i g]
     rw [List.drop_eq_getElem_cons hi,(Zs hb).2,List.append_assoc]
    rw [e1] at nd;exact (List.nodup_append.mp nd).2.2 _ hin _ Zy rfl
   have hany:((List.map PyData.int (gs.flatten++List.take i g)).any fun z=>z.eqv (PyData.int b))=false:=by
    rw [List.any_eq_false];intro z hz e;obtain ⟨c,hc,rfl⟩:=List.mem_map.mp hz;have e2:c=b:=by have:decide (c=b)=true:=e; simpa using this
    exact nin (e2 ▸ hc)
   have f1:=fl gs.length;rw [List.take_length] at f1;refine ⟨V7 _,?_⟩;rw [if_neg (by rw [hany]; decide)];exact ⟨by rw [Ze,List.length_take]; omega,_,by rw [List.take_add_one,hb,Option.toList_some,<- List.append_assoc,Zc (l:=_++_)]; rfl⟩
  ·rintro e ⟨o,rfl⟩;trivial;refine ⟨by omega,K0 (f:=PyData.int) (xs:=g) (fun i e ys=>∃ o:Option SV,e=[some (SV.d (PyData.list (List.map kD xs))),o]/\ys=((g.take i).map fun b=>offD (wat xs b).2.1 (wat xs b).2.2)) ⟨_,rfl,rfl⟩ ?_ ?_⟩
   ·rintro i b e ys hb ⟨o,rfl,rfl⟩;have hbi:=hg.ix b (Zm hb);trivial;refine D1 (A4r hbi.1 hbi.2) ?_;trivial;refine ⟨_,rfl,?_⟩;rw [List.take_add_one,hb,Zc]; rfl
   ·rintro e ys ⟨o,rfl,rfl⟩;rw [List.take_length];trivial;obtain ⟨a,r,ea⟩:∃ a r,g=a :: r:=by
     cases g with
     | nil=>simp at l2
     | cons a r=>exact ⟨a,r,rfl⟩
    have h0:L2.atI (g.map fun b=>offD (wat xs b).2.1 (wat xs b).2.2) ((0:Nat):Int)=some (offD (wat xs a).2.1 (wat xs a).2.2):=by rw [ea]; exact F6 rfl
    refine ⟨by omega,K0 (f:=fun b=>offD (wat xs b).2.1 (wat xs b).2.2) (xs:=g) (fun i e ys=>∃ o1 o2:Option SV,e=[some (SV.d (PyData.list (List.map (fun b=>offD (wat xs b).2.1 (wat xs b).2.2) g))),o1,o2]/\ys=((g.take i).map fun _=>.bool true)) ⟨_,_,rfl,rfl⟩ ?_ ?_⟩
    ·rintro i b e ys hb ⟨o1,o2,rfl,rfl⟩;have hm:=Zm hb;have hst:=hg.st b hm;have heq:=hg.eq b hm a (by rw [ea]; exact Zy);unfold offD at h0 ⊢;trivial;rw [hst];refine ⟨A2s,A2s,?_⟩;rw [B9u,if_pos rfl];refine D1 h0 ?_;trivial;refine ⟨_,_,rfl,?_⟩;rw [heq,Zk rfl,List.take_add_one,hb,Zc]; rfl
    ·rintro e ys ⟨o1,o2,rfl,rfl⟩;rw [List.take_length];trivial;refine ⟨_,T8 (fun _=>true) g,?_⟩;rw [show ((g.map fun _=>true).all id)=true from by simp];exact k
def W5:Pu.PSp:=fun as Q=>∃ (p:Str) (xs:LP) (a b:Int),as=[.d (.str p),.d (.list xs),.d (.int a),.d (.int b)]/\a<=(xs.length:Int)/\(xs.length:Int)<=b/\Q (.d .none)
theorem J3 (T:Txt K mg D):FnOk P w K mg base CX0 1 D.a_a6 D.d_a6 ["part","thing","least","most"] (Pu.spOf K [.dat,.dat,.dat,.dat] W5):=by
 refine T.B.F_a6.ok sc_a6 (Zz rfl) (fun cdv A outer s H vs Q E hr h=>?_);refine ⟨_,(QSs.out (A4 (C0 (QW.pt (F8 (B6 (B5 (B0 (C6 (K:=K) rfl) (by rfl) T.z_isinstance (by rfl) (A0 (qpv 1) (A0 (C7 (v:=.ty "list") rfl T.z_list (by rfl) rfl) A1))))) (F3 (B6 (W4 A37 A37 (qpv 2) (qln K T.z_len (qpv 1)) (qpv 3))))))
    (A4 L3)
    A8))),?_⟩
 haveI:=T.c2_KINDS
 haveI:=T.c2_HOLD_KINDS
 refine Pu.D6 h ?_;rintro as Qp ⟨p,xs,a,b,rfl,h1,h2,k⟩;trivial;rw [if_pos h1,if_pos h2]; exact k
def Z8:Pu.PSp:=fun as Q=>∃ (n:Int) (xs:List Wk) (ws:LW) (hs:LH) (gs:List (List Int)),as=[.d (.list (xs.map kD))]/\NetV n xs ws hs gs/\Q (.d .none)
theorem A0b (T:Txt K mg D):FnOk P w K mg base CX0 8 D.a_a9 D.d_a9 ["works"] (Pu.spOf K [.dat] Z8):=by
 refine T.B.F_a9.ok sc_a9 (Zz rfl) (fun cdv A outer s H vs Q E hr h=>?_);refine ⟨_,(QSs.out (A3 (C1 (qcK (J3 (K:=K) T) hr.mo (K1 T) (A0 B7 (A0 (qpv 0) (A0 A2 (A0 (K7 (v:=.int 10) rfl T.ci_MOST_WORKS.choose_spec ⟨_,rfl⟩) A1))))))
   (A4 (G0 Zf rfl (Q8 (K:=K) rfl rfl T.z_enumerate (A0 (qpv 0) A1)) (D8 (K:=K) (n:=2) rfl rfl (A7 (qgn 1 sc_a9) (A7 (qgn 2 sc_a9) D7)) rfl rfl)
    (A4 (C0 (B6 (B5 (qcK (B1b (K:=K) T) hr.mo (B6y T) (A0 (qpv 2) (A0 (K3 (N1 (K:=K) rfl) (qpv 0) L7 (L6 (qpv 1))) A1)))))
     (A4 L3)
     A8)))))),?_⟩
 haveI:=T.c2_KINDS
 haveI:=T.c2_HOLD_KINDS
 refine Pu.D6 h ?_;rintro as Qp ⟨n,xs,ws,hs,gs,rfl,nv,k⟩;have ln:=nv.ln;have n0:=nv.n0;have n1:=nv.n1;trivial;refine ⟨_,_,1,10,rfl,by rw [Zl]; omega,by rw [Zl]; omega,?_⟩;trivial;refine T5 (fun i e=>∃ o1 o2:Option SV,e=[some (.d (.list (xs.map kD))),o1,o2]) ⟨_,_,rfl⟩ ?_ ?_
 ·rintro i x e hx ⟨o1,o2,rfl⟩;obtain ⟨y,hy,rfl⟩:=R4 hx;rw [Zh] at hy;obtain ⟨q,hq,rfl⟩:=Zo hy;have hi:=(Zs hq).1;have hm:=Zm hq;obtain ⟨o1',o2',_⟩:=nv.of q hm;trivial;rw [A6x (f:=kD) (xs:=xs) (n:=i) (by omega)];refine ⟨q,xs.take i,rfl,by rw [List.length_take]; omega,nv.nok q hm,(fun y hy=>nv.nok y (List.mem_of_mem_take hy)),o1',o2',?_,?_⟩
  ·have nd:=nv.nnd;intro hin;have e1:xs.map (·.1)=(xs.take i).map (·.1)++q.1 :: (xs.drop (i + 1)).map (·.1):=by
    conv=>lhs; rw [<- List.take_append_drop i xs]
    rw [Zc,List.drop_eq_getElem_cons hi,(Zs hq).2]; rfl
   rw [e1] at nd;exact (List.nodup_append.mp nd).2.2 _ hin _ Zy rfl
  trivial;exact ⟨_,_,rfl⟩
 ·rintro e ⟨o1,o2,rfl⟩;trivial;exact k
def Z9:Pu.PSp:=fun as Q=>∃ (n:Int) (xs:List Wk) (ws:LW) (hs:LH) (gs:List (List Int)),as=[.d (.list (ws.map wD)),.d (.int n)]/\NetV n xs ws hs gs/\Q (.d .none)
theorem A0c (T:Txt K mg D):FnOk P w K mg base CX0 4 D.a_a8 D.d_a8 ["waits","many"] (Pu.spOf K [.dat,.dat] Z9):=by
 refine T.B.F_a8.ok sc_a8 (Zz rfl) (fun cdv A outer s H vs Q E hr h=>?_);refine ⟨_,(QSs.out (A3 (C1 (qcK (J3 (K:=K) T) hr.mo (K1 T) (A0 B7 (A0 (qpv 0) (A0 A2 (A0 (K7 (v:=.int 40) rfl T.ci_MOST_WAITS.choose_spec ⟨_,rfl⟩) A1))))))
   (A4 (G0 Zf rfl (Q8 (K:=K) rfl rfl T.z_enumerate (A0 (qpv 0) A1)) (D8 (K:=K) (n:=2) rfl rfl (A7 (qgn 2 sc_a8) (A7 (qgn 3 sc_a8) D7)) rfl rfl)
    (A4 (C0 (B6 (B5 (qcK (B1c (K:=K) T) hr.mo (B6z T) (A0 (qpv 3) (A0 (qpv 1) A1)))))
     (A4 L3)
     A8)))))),?_⟩
 haveI:=T.c2_KINDS
 haveI:=T.c2_HOLD_KINDS
 refine Pu.D6 h ?_;rintro as Qp ⟨n,xs,ws,hs,gs,rfl,nv,k⟩;have wl:=nv.wl;trivial;refine ⟨_,_,0,40,rfl,by omega,by rw [Zl]; omega,?_⟩;trivial;refine T5 (fun i e=>∃ o1 o2:Option SV,e=[some (.d (.list (ws.map wD))),some (.d (.int n)),o1,o2]) ⟨_,_,rfl⟩ ?_ ?_
 ·rintro i x e hx ⟨o1,o2,rfl⟩;obtain ⟨y,hy,rfl⟩:=R4 hx;rw [Zh] at hy;obtain ⟨q,hq,rfl⟩:=Zo hy;have hm:=Zm hq;trivial;refine ⟨n,q,rfl,(nv.wk q hm).1,(nv.wk q hm).2.1,nv.wne q hm,?_⟩;trivial;exact ⟨_,_,rfl⟩
 ·rintro e ⟨o1,o2,rfl⟩;trivial;exact k
def A0a:Pu.PSp:=fun as Q=>∃ (n:Int) (xs:List Wk) (ws:LW) (hs:LH) (gs:List (List Int)),as=[.d (.list (hs.map hD)),.d (.int n)]/\NetV n xs ws hs gs/\Q (.d .none)
theorem A0d (T:Txt K mg D):FnOk P w K mg base CX0 4 D.a_a7 D.d_a7 ["holds","many"] (Pu.spOf K [.dat,.dat] A0a):=by
 refine T.B.F_a7.ok sc_a7 (Zz rfl) (fun cdv A outer s H vs Q E hr h=>?_);refine ⟨_,(QSs.out (A3 (C1 (qcK (J3 (K:=K) T) hr.mo (K1 T) (A0 B7 (A0 (qpv 0) (A0 A2 (A0 (K7 (v:=.int 40) rfl T.ci_MOST_HOLDS.choose_spec ⟨_,rfl⟩) A1))))))
   (A4 (G0 Zf rfl (Q8 (K:=K) rfl rfl T.z_enumerate (A0 (qpv 0) A1)) (D8 (K:=K) (n:=2) rfl rfl (A7 (qgn 2 sc_a7) (A7 (qgn 3 sc_a7) D7)) rfl rfl)
    (A4 (C0 (B6 (B5 (qcK (B1e (K:=K) T) hr.mo (B61 T) (A0 (qpv 3) (A0 (qpv 1) A1)))))
     (A4 L3)
     A8)))))),?_⟩
 haveI:=T.c2_KINDS
 haveI:=T.c2_HOLD_KINDS
 refine Pu.D6 h ?_;rintro as Qp ⟨n,xs,ws,hs,gs,rfl,nv,k⟩;have hl:=nv.hl;trivial;refine ⟨_,_,0,40,rfl,by omega,by rw [Zl]; omega,?_⟩;trivial;refine T5 (fun i e=>∃ o1 o2:Option SV,e=[some (.d (.list (hs.map hD))),some (.d (.int n)),o1,o2]) ⟨_,_,rfl⟩ ?_ ?_
 ·rintro i x e hx ⟨o1,o2,rfl⟩;obtain ⟨y,hy,rfl⟩:=R4 hx;rw [Zh] at hy;obtain ⟨q,hq,rfl⟩:=Zo hy;have hm:=Zm hq;trivial;refine ⟨n,q,rfl,(nv.hk q hm).1,(nv.hk q hm).2.1,?_⟩;trivial;exact ⟨_,_,rfl⟩
 ·rintro e ⟨o1,o2,rfl⟩;trivial;exact k
def W6:Pu.PSp:=fun as Q=>∃ (n:Int) (xs:List Wk) (ws:LW) (hs:LH) (gs:List (List Int)),as=[.d (.list (gs.map gD)),.d (.list (xs.map kD))]/\NetV n xs ws hs gs/\Q (.d .none)
theorem X4 (T:Txt K mg D):FnOk P w K mg base CX0 4 D.a_a5 D.d_a5 ["groups","works"] (Pu.spOf K [.dat,.dat] W6):=by
 refine T.B.F_a5.ok sc_a5 (Zz rfl) (fun cdv A outer s H vs Q E hr h=>?_);refine ⟨_,(QSs.out (A3 (C1 (qcK (J3 (K:=K) T) hr.mo (K1 T) (A0 B7 (A0 (qpv 0) (A0 A2 (A0 (K7 (v:=.int 4) rfl T.ci_MOST_GROUPS.choose_spec ⟨_,rfl⟩) A1))))))
   (A4 (G0 Zf rfl (Q8 (K:=K) rfl rfl T.z_enumerate (A0 (qpv 0) A1)) (D8 (K:=K) (n:=2) rfl rfl (A7 (qgn 2 sc_a5) (A7 (qgn 3 sc_a5) D7)) rfl rfl)
    (A4 (C0 (B6 (B5 (qcK (A7u (K:=K) T) hr.mo (B4u T) (A0 (qpv 3) (A0 (qpv 1) (A0 (K3 (N1 (K:=K) rfl) (qpv 0) L7 (L6 (qpv 2))) A1))))))
     (A4 L3)
     A8)))))),?_⟩
 haveI:=T.c2_KINDS
 haveI:=T.c2_HOLD_KINDS
 refine Pu.D6 h ?_;rintro as Qp ⟨n,xs,ws,hs,gs,rfl,nv,k⟩;have gl:=nv.gl;have ln:=nv.ln;have n1:=nv.n1;trivial;refine ⟨_,_,0,4,rfl,by omega,by rw [Zl]; omega,?_⟩;trivial;refine T5 (fun i e=>∃ o1 o2:Option SV,e=[some (.d (.list (gs.map gD))),some (.d (.list (xs.map kD))),o1,o2]) ⟨_,_,rfl⟩ ?_ ?_
 ·rintro i x e hx ⟨o1,o2,rfl⟩;obtain ⟨y,hy,rfl⟩:=R4 hx;rw [Zh] at hy;obtain ⟨q,hq,rfl⟩:=Zo hy;have hm:=Zm hq;have hi:=(Zs hq).1;trivial;rw [A6x (f:=gD) (xs:=gs) (n:=i) (by omega)];refine ⟨xs,q,gs.take i,rfl,by omega,by rw [List.length_take]; omega,(fun g hg=>nv.gk g (List.mem_of_mem_take hg)),nv.gk q hm,?_,?_⟩
  ·have nd:=nv.gnd;have e1:gs=gs.take (i + 1)++gs.drop (i + 1):=(List.take_append_drop _ _).symm;rw [e1,List.flatten_append] at nd;have:=(List.nodup_append.mp nd).1;rw [List.take_add_one,hq,Option.toList_some,List.flatten_append,List.flatten_singleton] at this;exact this
  trivial;exact ⟨_,_,rfl⟩
 ·rintro e ⟨o1,o2,rfl⟩;trivial;exact k
def A2d:Pu.PSp:=fun as Q=>∃ (n:Int) (xs:List Wk) (ws:LW) (hs:LH) (gs:List (List Int)),as=[.d (netD xs ws hs (gs.map gD))]/\NetV n xs ws hs gs/\Q (.d .none)
theorem A2n (T:Txt K mg D):FnOk P w K mg base CX0 9 D.a_af D.d_af ["thing"] (Pu.spOf K [.dat] A2d):=by
 refine T.B.F_af.ok sc_af (Zz rfl) (fun cdv A outer s H vs Q E hr h=>?_);refine ⟨_,(QSs.out (A3 (C0 (B6 (B5 (qcK (G2 (K:=K) T) hr.mo (G9 T) (A0 (qpv 0) (A0 A2 A1)))))
    (A4 L3)
    A8)
   (A3 (O3 (qpv 0) (D8 (K:=K) (n:=4) rfl rfl (A7 (qgn 1 sc_af) (A7 (qgn 2 sc_af) (A7 (qgn 3 sc_af) (A7 (qgn 4 sc_af) D7)))) rfl rfl))
   (A3 (C1 (qcK (A0b (K:=K) T) hr.mo (A1o T) (A0 (qpv 1) A1)))
   (A3 (C1 (qcK (A0c (K:=K) T) hr.mo (A1p T) (A0 (qpv 2) (A0 (qln K T.z_len (qpv 1)) A1))))
   (A3 (C1 (qcK (A0d (K:=K) T) hr.mo (A1q T) (A0 (qpv 3) (A0 (qln K T.z_len (qpv 1)) A1))))
   (A4 (C1 (qcK (X4 (K:=K) T) hr.mo (A0g T) (A0 (qpv 4) (A0 (qpv 1) A1))))))))))),?_⟩
 haveI:=T.c2_KINDS
 haveI:=T.c2_HOLD_KINDS
 refine Pu.D6 h ?_;rintro as Qp ⟨n,xs,ws,hs,gs,rfl,nv,k⟩;have ln:=nv.ln;unfold netD;trivial;refine ⟨_,4,rfl,?_⟩;trivial;rw [if_neg (A6g (n:=4) rfl)];trivial;refine ⟨n,xs,ws,hs,gs,rfl,nv,?_⟩;trivial;refine ⟨n,xs,ws,hs,gs,by rw [ln],nv,?_⟩;trivial;refine ⟨n,xs,ws,hs,gs,by rw [ln],nv,?_⟩;trivial;refine ⟨n,xs,ws,hs,gs,rfl,nv,?_⟩;trivial;exact k
def A06:Pu.PSp:=fun as Q=>∃ (xs:List Wk) (ws:LW) (hs:LH) (gs:LP),as=[.d (netD xs ws hs gs)]/\xs.length<=10/\(∀ x ∈ xs,Kd x.2.1)/\Q (.d (.bool (stB xs)))
theorem R1 (T:Txt K mg D):FnOk P w K mg base CX0 1 D.a_ad D.d_ad ["net"] (Pu.spOf K [.dat] A06):=by
 refine T.B.F_ad.ok sc_ad (Zz rfl) (fun cdv A outer s H vs Q E hr h=>?_);refine ⟨_,(QSs.out (A4 (A6 (B0 (M5 (K:=K) rfl) (by rfl) T.z_all (by rfl) (A0 (F2 rfl (B9 ["name","offer"] [none,none]) (E6 (K:=K) rfl (qix K (qpv 0) A2)) (fun _ _ _=>(D8 (K:=K) (n:=2) rfl rfl (A7 (qgc 0 ["name","offer"]) (A7 (qgc 1 ["name","offer"]) D7)) rfl rfl)) (fun _ _ _=>D4) (fun _ _ _=>(D5 (D9 (K:=K) rfl hr.units) (qix K (qpv 1) A2) B7 (B4 _)))) A1))))),?_⟩
 haveI:=T.c2_KINDS
 haveI:=T.c2_HOLD_KINDS
 refine Pu.D6 h ?_;rintro as Qp ⟨xs,ws,hs,gs,rfl,h10,hk,k⟩;unfold netD;trivial;refine ⟨by omega,K0 (f:=kD) (xs:=xs) (fun i e ys=>∃ o1 o2:Option SV,e=[o1,o2]/\ys=((xs.take i).map fun x=>.bool (decide (x.2.1=("straight":Str))))) ⟨_,_,rfl,rfl⟩ ?_ ?_⟩
 ·rintro i y e ys hy ⟨o1,o2,rfl,rfl⟩;have hm:=hk y (Zm hy);unfold kD offD;trivial;refine ⟨hm.lay,U2,_,_,rfl,?_⟩;rw [List.take_add_one,hy,Zc,N5]; rfl
 ·rintro e ys ⟨o1,o2,rfl,rfl⟩;rw [List.take_length];trivial;refine ⟨_,T8 _ xs,?_⟩;rw [List.all_map]; exact k
def Z6:Pu.PSp:=fun as Q=>∃ (t0:OT) (xs:List Wk) (ws:LW) (hs:LH) (gs:LP),as=[.bt t0]/\NetTr xs ws hs gs t0/\(1<=xs.length/\xs.length<=10)/\(∀ x ∈ xs,OfOk x.2.2 161 85 810 674)/\∀ t ys,SmO xs ys->NetTr ys ws hs [] t->Q (.tr t)
theorem J9 (T:Txt K mg D):FnOk P w K mg base CX0 6 D.a_ab D.d_ab ["net"] (Pu.spOf K [.bt] Z6):=by
 refine T.B.F_ab.ok sc_ab (Zz rfl) (fun cdv A outer s H vs Q E hr h=>?_);refine ⟨_,(QSs.out (A3 (B5e (i:=1) (j:=2) (k:=3) rfl sc_ab.nd rfl rfl rfl (by decide) (by decide) (by decide) rfl rfl rfl (A0 (qPth (qix K (qpv 0) A2)) (A0 (qPth (qix K (qpv 0) A2)) (A0 (qPth (qix K (qpv 0) A2)) A1))) rfl rfl)
   (A4 (A6 (A3x (B8 (A0 (qCmT (F2 rfl (B9 ["name","offer"] [none,none]) (E6 (K:=K) rfl (qBt (qpv 1))) (fun _ _ _=>(D8 (K:=K) (n:=2) rfl rfl (A7 (qgc 0 ["name","offer"]) (A7 (qgc 1 ["name","offer"]) D7)) rfl rfl)) (fun _ _ _=>D4) (fun _ _ _=>(A3x (B8 (A0 (qpv 0) (A0 (qcK (X3 (K:=K) T) hr.mo (A0w T) (A0 (qpv 1) A1)) A1))))))) (A0 (D2 (G4 (K:=K) rfl) (by rfl) T.z_list (by rfl) (A0 (qpv 2) A1)) (A0 (D2 (G4 (K:=K) rfl) (by rfl) T.z_list (by rfl) (A0 (qpv 3) A1)) (A0 (C7f (C3 A1)) A1)))))))))),?_⟩
 haveI:=T.c2_KINDS
 haveI:=T.c2_HOLD_KINDS
 refine Pu.D6 h ?_;rintro as Qp ⟨t0,xs,ws,hs,gs,rfl,nt,⟨n1,n10⟩,ok,k⟩;obtain ⟨p,a1,a2,a3,a4,ts,rfl,hw⟩:=nt;trivial;refine ⟨_,rfl,_,rfl,_,rfl,?_⟩;rw [C0b hw n1,N9,N9];trivial;refine ⟨ts,A1h ts,by rw [hw.1]; omega,?_⟩;refine ⟨fun i e us=>∃ (o1 o2:Option SV) (ys:List Wk),e=[o1,o2]/\SmO (xs.take i) ys/\wTs ys us,⟨_,_,[],rfl,⟨by simp,fun i x y h=>by simp at h⟩,rfl,fun i x t h=>by simp at h⟩,?_,?_⟩
 ·rintro i t e us ht ⟨o1,o2,ys,rfl,hs',hu⟩;have hi:i < xs.length:=by have:=(Zs ht).1; have:=hw.1; omega
  obtain ⟨pt,q,r,rfl⟩:=hw.2 i _ t (Zg hi) ht;refine ⟨_,rfl,rfl,?_⟩;trivial;refine ⟨_,xs[i].2.1,xs[i].2.2,rfl,.inr ⟨q,r,rfl⟩,ok _ (List.getElem_mem hi),fun a b out hh hr=>?_⟩;trivial;intro _ _;refine ⟨by show 2<=1000; decide,fun c _=>⟨_,_,ys++[(xs[i].1,Str.ofString "straight",out)],rfl,⟨?_,?_⟩,hu.snoc ⟨c,a,b,rfl⟩⟩⟩
  ·rw [Ze,hs'.1,List.length_take,List.length_take,List.length_singleton]; omega
  ·have e1:xs.take (i + 1)=xs.take i++[xs[i]]:=by rw [List.take_add_one,Zg hi]; rfl
   have e2:(xs.take i).length=i:=by rw [List.length_take]; omega
   intro j x y hx hy;rw [e1,List.getElem?_append,e2] at hx;rw [List.getElem?_append,hs'.1,e2] at hy;split at hx
   ·rename_i hj; rw [if_pos hj] at hy; exact hs'.2 j x y hx hy
   ·rename_i hj;rw [if_neg hj] at hy;have e3:j - i=0:=by
     have:=(Zs hx).1;rw [List.length_singleton] at this; omega
    rw [e3] at hx hy;cases hx; cases hy;exact ⟨rfl,rfl,hh,hr⟩
 ·rintro e us ⟨o1,o2,ys,rfl,hs',hu⟩;rw [hw.1,List.take_length] at hs';trivial;intro a1 a2 a3;refine ⟨by show 0<=1000; decide,fun a4 _ _ _ _ _=>⟨by show 4<=1000; decide,fun a5 _=>k _ ys hs' ⟨_,_,_,_,_,_,rfl,hu⟩⟩⟩
def B5m:Pu.PSp:=fun as Q=>∃ (xs:List Wk) (ws:LW) (hs:LH) (gs:List (List Int)),as=[.d (netD xs ws hs (gs.map gD))]/\xs.length<=1000/\gs.length<=1000/\∀ t,NetTr xs ws hs (gs.map gD) t->Q (.tr t)
theorem V6 (T:Txt K mg D):FnOk P w K mg base CX0 1 D.a_ce D.d_ce ["_law_net_here"] (Pu.spOf K [.dat] B5m):=by
 refine T.B.F_ce.ok sc_ce (Zz rfl) (fun cdv A outer s H vs Q E hr h=>?_);refine ⟨_,(QSs.out (A3 (qSt (G7 (i:=1) rfl sc_ce.nd rfl rfl (B9 ["_law_name","_law_offer_here"] [none,none]) (E6 (K:=K) rfl (qix K (qpv 0) A2)) (fun _ _ _=>(D8 (K:=K) (n:=2) rfl rfl (A7 (qgc 0 ["_law_name","_law_offer_here"]) (A7 (qgc 1 ["_law_name","_law_offer_here"]) D7)) rfl rfl)) (fun _ _ _=>D4) (fun _ _ _=>(A3x (B8 (A0 (qpv 0) (A0 (A3x (B8 (A0 (qix K (qpv 1) A2) (A0 (D2 (G4 (K:=K) rfl) (by rfl) T.z_list (by rfl) (A0 (qix K (qpv 1) A2) A1)) A1)))) A1))))) rfl))
   (A4 (A6 (A3x (B8 (A0 (qpv 1) (A0 (D2 (G4 (K:=K) rfl) (by rfl) T.z_list (by rfl) (A0 (qix K (qpv 0) A2) A1)) (A0 (D2 (G4 (K:=K) rfl) (by rfl) T.z_list (by rfl) (A0 (qix K (qpv 0) A2) A1)) (A0 (F2 rfl (B9 ["_law_group"] [none]) (E6 (K:=K) rfl (qix K (qpv 0) A2)) (fun _ _ _=>(qgc 0 ["_law_group"])) (fun _ _ _=>D4) (fun _ _ _=>(D2 (G4 (K:=K) rfl) (by rfl) T.z_list (by rfl) (A0 (qpv 0) A1)))) A1)))))))))),?_⟩
 haveI:=T.c2_KINDS
 haveI:=T.c2_HOLD_KINDS
 refine Pu.D6 h ?_;rintro as Qp ⟨xs,ws,hs,gs,rfl,hl,hgl,k⟩;unfold netD;trivial;refine ⟨by omega,?_⟩;refine ⟨fun i e ts=>∃ o1 o2:Option SV,e=[o1,o2]/\wTs (xs.take i) ts,⟨_,_,rfl,rfl,fun i x t h=>by simp at h⟩,?_,?_⟩
 ·rintro i x e ts hx ⟨o1,o2,rfl,hw⟩;rw [Zh] at hx;obtain ⟨y,hy,rfl⟩:=Zo hx;unfold kD offD;trivial;intro a _ _;refine ⟨by show 2<=1000; decide,fun b _ _ _=>⟨by show 2<=1000; decide,fun c _=>⟨_,_,rfl,?_⟩⟩⟩;rw [List.take_add_one,hy];exact hw.snoc ⟨c,b,a,rfl⟩
 ·rintro e ts ⟨o1,o2,rfl,hw⟩;rw [Zl,List.take_length] at hw;trivial;intro a1 a2 a3;refine ⟨by omega,K0 (f:=gD) (xs:=gs) (fun i e ys=>∃ o:Option SV,e=[o]/\ys=((gs.take i).map gD)) ⟨_,rfl,rfl⟩ ?_ ?_⟩
  ·rintro i y e ys hy ⟨o,rfl,rfl⟩;rw [show gD y=PyData.list (y.map .int) from rfl];trivial;refine ⟨_,rfl,?_⟩;rw [List.take_succ,hy,Zc]; rfl
  rintro e ys ⟨o,rfl,rfl⟩;rw [List.take_length];trivial;intro a4 _ _ _ _;refine ⟨by show 4<=1000; decide,fun a5 _=>k _ ⟨_,_,_,_,_,_,rfl,hw⟩⟩
def A33:Pu.PSp:=fun as Q=>∃ (n:Int) (xs:List Wk) (ws:LW) (hs:LH) (gs:List (List Int)),as=[.st,.d (netD xs ws hs (gs.map gD))]/\NetV n xs ws hs gs/\∀ xs' ws' hs',NetV 10 xs' ws' hs' gs->Q (.d (netD xs' ws' hs' (gs.map gD)))
theorem A4b (T:Txt K mg D):FnOk P w K mg base CX0 4 D.a_b0 D.d_b0 ["_law_state","_law_net_here"] (Pu.spOf K [.st,.dat] A33):=by
 refine T.B.F_b0.ok sc_b0 (Zz rfl) (fun cdv A outer s H vs Q E hr h=>?_);refine ⟨_,(QSs.out (A3 (O3 (qUn (qcK (V6 (K:=K) T) hr.mo (A1u T) (A0 (qpv 1) A1))) (D8 (K:=K) (n:=4) rfl rfl (A7 (qgn 2 sc_b0) (A7 (qgn 3 sc_b0) (A7 (qgn 4 sc_b0) (A7 (qgn 5 sc_b0) D7)))) rfl rfl))
   (A3 (O2 (i:=6) sc_b0.nd rfl (Or.inr rfl) (F2 rfl (B9 ["_law_name","_law_offer_here"] [none,none]) (E6 (K:=K) rfl (qBt (qpv 2))) (fun _ _ _=>(D8 (K:=K) (n:=2) rfl rfl (A7 (qgc 0 ["_law_name","_law_offer_here"]) (A7 (qgc 1 ["_law_name","_law_offer_here"]) D7)) rfl rfl)) (fun _ _ _=>D4) (fun _ _ _=>(qpv 0))))
   (A3 (K2 Zf (A9 A1c (qln K T.z_len (qBt (qpv 2))) A2 (B4 _))
    (A3 (qst 7 sc_b0 (qix K (F2 rfl (B9 ["_law_taken","_law_letter"] [some 6,none]) (E6 (K:=K) rfl (D2 (A4j rfl) (by rfl) T.z_list (by rfl) (A0 B7 A1))) (fun _ _ _=>(qgc 1 ["_law_taken","_law_letter"])) (fun _ _ _=>(Q7 (A9 (M2 (K:=K) rfl hr.units) (B2 B09 (qpv 1) A2) (qpv 0) (by with_unfolding_all rfl)))) (fun _ _ _=>(B2 B09 (qpv 1) A2))) A2))
    (A3 (C1 (F4 (K:=K) rfl Z1 Z2 Z3 C8 (qpv 6) (A0 (qpv 7) A1)))
    (A4 (C1 (F4 (K:=K) rfl Z1 Z2 Z3 C8 (qTv (qpv 2)) (A0 (B8 (A0 (qpv 7) (A0 (qcK (X6 (K:=K) T) hr.mo (A1s T) (A0 (qpv 0) (A0 B7 (A0 A2 (A0 D3 A1))))) A1))) A1)))))))
   (A3 (K2 Zf (A9 A1c (qln K T.z_len (qpv 3)) A2 (B4 _))
    (A3 (qst 8 sc_b0 (qcK (C2 (K:=K) T) hr.mo (C9 T) (A0 (qpv 0) (A0 A2 A1))))
    (A4 (C1 (F4 (K:=K) rfl Z1 Z2 Z3 C8 (qpv 3) (A0 (B8 (A0 (qpv 8) (A0 (B2 M3 (B2 F7 (B2 F7 (qpv 8) A2) (qcK (C2 (K:=K) T) hr.mo (C9 T) (A0 (qpv 0) (A0 A2 A1)))) A2) (A0 (qcK (A1e (K:=K) T) hr.mo (A63 T) (A0 (qpv 0) (A0 D3 A1))) A1)))) A1))))))
   (A3 (K2 Zf (A9 A1c (qln K T.z_len (qpv 4)) A2 (B4 _))
    (A4 (C1 (F4 (K:=K) rfl Z1 Z2 Z3 C8 (qpv 4) (A0 (B8 (A0 (qix K (C3 (A0 B7 (A0 B7 (A0 B7 A1)))) (qcK (C2 (K:=K) T) hr.mo (C9 T) (A0 (qpv 0) (A0 A2 A1)))) (A0 (qcK (C2 (K:=K) T) hr.mo (C9 T) (A0 (qpv 0) (A0 A2 A1))) (A0 (qcK (A1e (K:=K) T) hr.mo (A63 T) (A0 (qpv 0) (A0 D3 A1))) A1)))) A1)))))
   (A4 (A6 (B8 (A0 (qFz (qpv 2)) (A0 (qpv 3) (A0 (qpv 4) (A0 (qpv 5) A1))))))))))))),?_⟩
 haveI:=T.c2_KINDS
 haveI:=T.c2_HOLD_KINDS
 refine Pu.D6 h ?_;rintro as Qp ⟨n,xs,ws,hs,gs,rfl,nv,k⟩;have ln:=nv.ln;have n0:=nv.n0;have n1:=nv.n1;have gl:=nv.gl;trivial;refine ⟨xs,ws,hs,gs,rfl,by omega,by omega,fun t ht=>?_⟩;obtain ⟨p,a1,a2,a3,a4,ts,rfl,hw⟩:=ht;trivial;refine C7a (us:=[.nd true a1 (kids ts),.nd true a2 (B1 (ws.map wD)),.nd true a3 (B1 (hs.map hD)),.nd true a4 (B1 (gs.map gD))]) rfl rfl ?_;rw [V1,V1,V1,V1,B5b,A84 hw (by omega),W0,W0,W0];refine hd fun R hR=>?_;trivial;refine ⟨ts,A1h ts,by rw [hw.1]; omega,?_⟩;refine ⟨fun i e ys=>∃ o1 o2:Option SV,e=[o1,o2]/\ys=((xs.take i).map fun x=>.str x.1),⟨_,_,rfl,rfl⟩,?_,?_⟩
 ·rintro i t e ys ht ⟨o1,o2,rfl,rfl⟩;have hi:i < xs.length:=by have:=(Zs ht).1; have:=hw.1; omega
  obtain ⟨pt,q,r,rfl⟩:=hw.2 i _ t (Zg hi) ht;refine ⟨_,rfl,rfl,?_⟩;trivial;refine ⟨_,_,rfl,?_⟩;rw [List.take_add_one,Zg hi,Zc]; rfl
 rintro e ys ⟨o1,o2,rfl,rfl⟩;rw [hw.1,List.take_length];subst hR;refine B43 (fun m e=>∃ (ys:List Wk) (ts':List OT) (o7 o8:Option SV),e=[some SV.st,some (SV.d (netD xs ws hs (List.map gD gs))),some (SV.tr (OT.nd true a1 (kids ts'))),some (SV.own (List.map wD ws)),some (SV.own (List.map hD hs)),some (SV.own (List.map gD gs)),some (SV.own (List.map (fun x=>PyData.str x.1) (xs++ys))),o7,o8]/\m=10 - (xs++ys).length/\(xs++ys).length<=10/\ts'.length=(xs++ys).length/\(kids ts').dat=(xs++ys).map kD/\(∀ x ∈ xs++ys,(Kd x.2.1/\OfG x.2.1 x.2.2 100 54 244 130/\OnC x.2.2)/\NmOk x.1)/\((xs++ys).map (·.1)).Nodup) ⟨_,[],ts,_,_,by rw [List.append_nil]; rfl,rfl,by rw [List.append_nil]; omega,by rw [List.append_nil]; exact hw.1,by rw [List.append_nil]; exact hw.dat,by rw [List.append_nil]; exact fun x hx=>⟨nv.of x hx,nv.nok x hx⟩,by rw [List.append_nil]; exact nv.nnd⟩ ?_;rintro m e ⟨ys,ts',o7,o8,rfl,rfl,hle,htl,hdat,hok,hnd⟩;trivial;refine ⟨ts',A1h ts',?_⟩;refine ite2 (fun hlt=>?_) (fun hge=>?_)
 ·refine ⟨_,rfl,by show 16<=1000; decide,by show 16 < 1000000; decide,?_⟩;refine K0 (f:=fun c=>PyData.str ⟨#[c]⟩) (xs:=sixteen) (fun i e zs=>∃ o:Option SV,e=[some (SV.bor (List.map (fun x=>PyData.str x.1) (xs++ys))),o]/\zs=(((sixteen.take i).filter fun c=>!decide (tri c ∈ (xs++ys).map (·.1))).map fun c=>PyData.str (tri c))) ⟨_,rfl,rfl⟩ ?_ ?_
  ·rintro i c e zs hc ⟨o,rfl,rfl⟩;have hcm:=Zm hc;trivial;have hN:∀ x ∈ xs++ys,(PyData.str x.1).canLay0=true:=fun x hx=>(hok x hx).2.lay;have hs16:(⟨#[c]⟩:Str).length<=100:=by show 1<=100; decide
   refine ⟨by decide,hs16,A1i hN,(B7c hcm).lay,?_⟩;rw [A66 (f:=fun x:Wk=>x.1)];by_cases hin:tri c ∈ (xs++ys).map (·.1)
   ·rw [Zk (show Txt.mul ⟨#[c]⟩ 3 ∈ _ from hin),if_neg (by decide)];refine ⟨_,rfl,?_⟩;rw [List.take_add_one,hc,Option.toList_some,List.filter_append,List.filter_cons_of_neg (by rw [Zk hin]; decide),List.filter_nil,List.append_nil]
   ·rw [Zd (show ¬ Txt.mul ⟨#[c]⟩ 3 ∈ _ from hin),if_pos rfl];refine ⟨by decide,hs16,_,rfl,?_⟩;rw [List.take_add_one,hc,Option.toList_some,List.filter_append,List.filter_cons_of_pos (by rw [Zd hin]; rfl),List.filter_nil,Zc (f:=fun c=>PyData.str (tri c))]; rfl
  ·rintro e zs ⟨o,rfl,rfl⟩;rw [List.take_length];trivial;obtain ⟨c,r,hcr⟩:=B95 (zs:=(xs++ys).map (·.1)) (by rw [Zl]; omega);have hcf:c ∈ sixteen.filter (fun c=>!decide (tri c ∈ (xs++ys).map (·.1))):=by rw [hcr]; exact Zy
   obtain ⟨hcm,hcn⟩:=List.mem_filter.mp hcf;have hcn:tri c ∉ (xs++ys).map (·.1):=by simpa using hcn
   rw [hcr];trivial;refine ⟨by omega,B9n ?_⟩;refine ⟨_,_,rfl,by decide,by decide,.inr rfl,fun cs og oc hl1=>?_⟩;trivial;have hlen:(xs++(ys++[(tri c,Str.ofString "steps",cs)])).length=(xs++ys).length + 1:=by simp; omega
   have eas:xs++(ys++[(tri c,Str.ofString "steps",cs)])=(xs++ys)++[(tri c,Str.ofString "steps",cs)]:=(List.append_assoc ..).symm;refine B9n ⟨by omega,_,?_,ys++[(tri c,Str.ofString "steps",cs)],ts'++[OT.leaf (PyData.tuple [PyData.str (tri c),offD (Str.ofString "steps") cs])],_,_,by rw [eas,Zc (l:=xs++ys)]; rfl,rfl,by omega,by rw [Ze,htl,hlen]; rfl,by rw [R3,hdat,eas,Zc (l:=xs++ys)]; rfl,fun x hx=>?_,?_⟩
   ·omega
   ·rw [eas] at hx;rcases Za hx with z | z
    ·exact hok x z
    ·rw [Zn z]; exact ⟨⟨.inr rfl,og,oc⟩,B7c hcm⟩
   ·rw [eas,Zc (l:=xs++ys)];refine List.nodup_append.mpr ⟨hnd,List.pairwise_singleton _ _,fun x hx y hy e=>?_⟩;rw [e,Zn hy] at hx;exact hcn hx
 ·refine ⟨fun m e=>∃ (ws':LW) (o7 o8:Option SV),e=[some SV.st,some (SV.d (netD xs ws hs (List.map gD gs))),some (SV.tr (OT.nd true a1 (kids ts'))),some (SV.own (List.map wD ws')),some (SV.own (List.map hD hs)),some (SV.own (List.map gD gs)),some (SV.own (List.map (fun x=>PyData.str x.1) (xs++ys))),o7,o8]/\m=40 - ws'.length/\ws'.length<=40/\WV 10 ws',⟨_,ws,_,_,rfl,rfl,nv.wl,(fun w hw=>?_),nv.wne⟩,?_⟩
  ·obtain ⟨h1,h2,h3⟩:=nv.wk w hw;exact ⟨by omega,by omega,h3⟩
  rintro m e ⟨ws',o7,o8,rfl,rfl,hwl,hwv⟩;trivial;refine ite2 (fun hlt=>?_) (fun hge2=>?_)
  ·refine ⟨10,rfl,by decide,sm4 10,fun d d0 d1=>?_⟩;trivial;refine ⟨9,rfl,by decide,sm4 9,fun f f0 f1=>?_⟩;trivial;refine ⟨by decide,rfl,fun q sq=>?_⟩;trivial;refine ⟨by omega,_,?_,ws'++[(d,(d + 1 + f) % 10,q)],_,_,by rw [Zc (f:=wD)]; rfl,rfl,by rw [Ze,List.length_singleton]; omega,hwv.snoc (by show d≠(d + 1 + f) % 10; omega) ⟨⟨d0,d1⟩,⟨by show 0<=(d + 1 + f) % 10; omega,by show (d + 1 + f) % 10 < 10; omega⟩,sq.p2 (by decide)⟩⟩;rw [Ze,List.length_singleton]; omega
  ·refine ⟨fun m e=>∃ (hs':LH) (o7 o8:Option SV),e=[some SV.st,some (SV.d (netD xs ws hs (List.map gD gs))),some (SV.tr (OT.nd true a1 (kids ts'))),some (SV.own (List.map wD ws')),some (SV.own (List.map hD hs')),some (SV.own (List.map gD gs)),some (SV.own (List.map (fun x=>PyData.str x.1) (xs++ys))),o7,o8]/\m=40 - hs'.length/\hs'.length<=40/\HOk 10 hs',⟨_,hs,_,_,rfl,rfl,nv.hl,fun h hh=>?_⟩,?_⟩
   ·obtain ⟨h1,h2,h3⟩:=nv.hk h hh;exact ⟨h1,by omega,h3⟩
   rintro m e ⟨hs',o7,o8,rfl,rfl,hhl,hhk⟩;trivial;refine ite2 (fun hlt=>?_) (fun hge3=>?_)
   ·refine ⟨3,rfl,by decide,sm4 3,fun d d0 d1=>?_⟩;trivial;obtain ⟨kd,hkd,ekd⟩:∃ kd:Str,Hk kd/\L2.atI [PyData.str (Str.ofString "from"),.str (Str.ofString "till"),.str (Str.ofString "by")] d=some (.str kd):=by
     have hg:d=0\/d=1\/d=2:=by omega
     rcases hg with rfl | rfl | rfl
     ·exact ⟨_,.inl rfl,rfl⟩
     ·exact ⟨_,.inr (.inl rfl),rfl⟩
     ·exact ⟨_,.inr (.inr rfl),rfl⟩
    refine D1 ekd ?_;trivial;refine ⟨10,rfl,by decide,sm4 10,fun f f0 f1=>?_⟩;trivial;refine ⟨rfl,fun q sq=>?_⟩;trivial;refine ⟨by omega,_,?_,hs'++[(kd,f,q)],_,_,by rw [Zc (f:=hD)]; rfl,rfl,by rw [Ze,List.length_singleton]; omega,hhk.snoc ⟨hkd,⟨f0,f1⟩,sq.p2 (by decide)⟩⟩;rw [Ze,List.length_singleton]; omega
   ·have hd0:(OT.nd true a1 (kids ts')).dat=[.list ((xs++ys).map kD)]:=by show [PyData.list (kids ts').dat]=_; rw [hdat]
    refine ⟨_,hd0,?_⟩;refine k (xs++ys) ws' hs' ⟨⟨by omega,by decide,by decide,(fun x hx=>(hok x hx).1),hwl,hwv.1,hhl,hhk,nv.gl,(fun g hg=>(nv.gk g hg).app),fun x hx=>(hok x hx).2.lay⟩,(fun x hx=>(hok x hx).2),hnd,hwv.2,nv.gnd⟩
def A7o:Pu.PSp:=fun as Q=>∃ (n:Int) (xs:List Wk) (ws:LW) (hs:LH) (gs:List (List Int)),as=[.st,.d (netD xs ws hs (gs.map gD))]/\NetV n xs ws hs gs/\∀ xs' gs',NetV n xs' ws hs gs'->Q (.d (netD xs' ws hs (gs'.map gD)))
theorem A7v (T:Txt K mg D):FnOk P w K mg base CX0 4 D.a_b5 D.d_b5 ["_law_state","_law_net_here"] (Pu.spOf K [.st,.dat] A7o):=by
 refine T.B.F_b5.ok sc_b5 (Zz rfl) (fun cdv A outer s H vs Q E hr h=>?_);refine ⟨_,(QSs.out (A3 (G7 (i:=2) rfl sc_b5.nd rfl rfl (B9 ["_law_state","_law_name","_law_offer_here"] [some 0,none,none]) (E6 (K:=K) rfl (qix K (qpv 1) A2)) (fun _ _ _=>(D8 (K:=K) (n:=2) rfl rfl (A7 (qgc 1 ["_law_state","_law_name","_law_offer_here"]) (A7 (qgc 2 ["_law_state","_law_name","_law_offer_here"]) D7)) rfl rfl)) (fun _ _ _=>D4) (fun _ _ _=>(B8 (A0 (qpv 1) (A0 (qcK (X6 (K:=K) T) hr.mo (A1s T) (A0 (qpv 0) (A0 B7 (A0 A2 (A0 D3 A1))))) A1)))) rfl)
   (A3 (G7 (i:=3) rfl sc_b5.nd rfl rfl (B9 ["_law_at"] [none]) (A7g rfl T.z_range (A0 A2 (A0 (B2 A0q (qln K T.z_len (qpv 2)) A2) (A0 A2 A1)))) (fun _ _ _=>(qgc 0 ["_law_at"])) (fun _ _ _=>D4) (fun _ _ _=>(C3 (A0 (B2 F7 (qpv 0) A2) (A0 (qpv 0) A1)))) rfl)
   (A3 (C0 (QW.pt (W3 (A9 A2m (qln K T.z_len (qpv 2)) A2 (B4 _)) (Q6 (A9 (D9 (K:=K) rfl hr.units) (qcK (C2 (K:=K) T) hr.mo (C9 T) (A0 (qpv 0) (A0 A2 A1))) A2 (B4 _)))))
    (A4 (qst 3 sc_b5 (C3 (A0 (qcK (X5 (K:=K) T) hr.mo (A1r T) (A0 (qpv 0) (A0 (qln K T.z_len (qpv 2)) A1))) A1))))
    A8)
   (A4 (A6 (B8 (A0 (qpv 2) (A0 (D2 (G4 (K:=K) rfl) (by rfl) T.z_list (by rfl) (A0 (qix K (qpv 1) A2) A1)) (A0 (D2 (G4 (K:=K) rfl) (by rfl) T.z_list (by rfl) (A0 (qix K (qpv 1) A2) A1)) (A0 (K3 (N1 (K:=K) rfl) (qpv 3) L7 (L6 A2)) A1))))))))))),?_⟩
 haveI:=T.c2_KINDS
 haveI:=T.c2_HOLD_KINDS
 refine Pu.D6 h ?_;rintro as Qp ⟨n,xs,ws,hs,gs,rfl,nv,k⟩;have ln:=nv.ln;have n0:=nv.n0;have n1:=nv.n1;have gl:=nv.gl;unfold netD;refine hd fun R hR=>?_;trivial;refine ⟨by omega,K0 (f:=kD) (xs:=xs) (fun i e ys=>∃ (o1 o2:Option SV) (xs':List Wk),e=[some .st,o1,o2]/\ys=xs'.map kD/\xs'.length=i/\∀ (j:Nat) x y,xs[j]?=some x->xs'[j]?=some y->y.1=x.1/\y.2.1=Str.ofString "steps"/\OfG y.2.1 y.2.2 100 54 244 130/\OnC y.2.2/\y.2.2.length=1) ⟨_,_,[],rfl,rfl,rfl,fun j x y h g=>by simp at g⟩ ?_ ?_⟩
 ·rintro i y e ys hy ⟨o1,o2,xs',rfl,rfl,hl,hx⟩;unfold kD;trivial;refine ⟨_,_,rfl,by decide,by decide,.inr rfl,fun cs og oc hl1=>?_⟩;have h1:=og.ok.ne;trivial;refine ⟨_,_,xs'++[(y.1,Str.ofString "steps",cs)],rfl,by rw [Zc]; rfl,by rw [Ze,List.length_singleton,hl],fun j x z hx' hz=>?_⟩;rw [List.getElem?_append] at hz;split at hz
  ·exact hx j x z hx' hz
  ·have e3:j=xs'.length:=by
    have:=(Zs hz).1;rw [List.length_singleton] at this; omega
   subst e3;rw [Nat.sub_self] at hz;cases hz;rw [hl,hy] at hx';cases hx';exact ⟨rfl,rfl,og,oc,by have:cs.length<=(1:Int).toNat:=hl1; have:(1:Int).toNat=1:=rfl; show cs.length=1; omega⟩
 ·rintro e ys ⟨o1,o2,xs',rfl,rfl,hl,hx⟩;subst hR;trivial;refine ⟨⟨by decide,by omega,by decide⟩,?_,?_⟩
  ·rw [Q2]; unfold stepN; split <;> omega
  refine ⟨fun i e ys=>∃ o:Option SV,e=[o]/\ys=((List.range i).map fun j:Nat=>gD [2 * (j:Int) + 1,2 * (j:Int)]),⟨_,rfl,rfl⟩,?_,?_⟩
  ·rintro i z e ys hz ⟨o,rfl,rfl⟩;obtain ⟨hi,rfl⟩:=B46 hz;trivial;refine ⟨_,rfl,?_⟩;rw [List.range_succ,Zc,List.map_singleton];congr 2
   show PyData.list [PyData.int ((i:Int) * 2 + 1),PyData.int ((i:Int) * 2)]=PyData.list [PyData.int (2 * (i:Int) + 1),PyData.int (2 * (i:Int))];rw [show (i:Int) * 2=2 * (i:Int) by omega]
  ·rintro e ys ⟨o,rfl,rfl⟩;rw [Q2];have hall:∀ y ∈ xs',∃ x ∈ xs,y.1=x.1/\y.2.1=Str.ofString "steps"/\OfG y.2.1 y.2.2 100 54 244 130/\OnC y.2.2/\y.2.2.length=1:=fun y hy=>by
    obtain ⟨i,hi⟩:=List.mem_iff_getElem?.mp hy;have hil:=(Zs hi).1;have hl2:xs'.length=xs.length:=by simpa using hl
    exact ⟨_,List.getElem_mem (by omega),hx i _ y (Zg (by omega)) hi⟩
   have hl2:xs'.length=xs.length:=by simpa using hl
   have hw:∀ w,0<=w->w < (xs'.length:Int)->(wat xs' w).2.1="steps"/\(wat xs' w).2.2.length=1:=fun w h0 h1=>by
    obtain ⟨x,_,_,q2,_,_,q5⟩:=hall _ (A8f h0 h1);exact ⟨q2,q5⟩
   have hN:∀ gs':List (List Int),gs'.length<=4->(∀ g ∈ gs',GrOk xs' g)->gs'.flatten.Nodup->NetV n xs' ws hs gs':=fun gs' g4 gk gnd=>by
    refine ⟨⟨by omega,n0,n1,fun y hy=>?_,nv.wl,nv.wk,nv.hl,nv.hk,g4,gk,fun y hy=>?_⟩,fun y hy=>?_,?_,nv.wne,gnd⟩
    ·obtain ⟨x,hx,q1,q2,q3,q4,q5⟩:=hall y hy;exact ⟨.inr q2,q3,q4⟩
    ·obtain ⟨x,hx,q1,q2,q3,q4,q5⟩:=hall y hy;rw [q1]; exact nv.nm x hx
    ·obtain ⟨x,hx,q1,q2,q3,q4,q5⟩:=hall y hy;rw [q1]; exact nv.nok x hx
    ·have:xs'.map (·.1)=xs.map (·.1):=by
      refine List.ext_getElem? fun i=>?_;rw [Zh,Zh];by_cases hi:i < xs.length
      ·rw [Zg hi,Zg (by omega:i < xs'.length)];exact congrArg some (hx i _ _ (Zg hi) (Zg (by omega:i < xs'.length))).1
      ·rw [List.getElem?_eq_none (by omega),List.getElem?_eq_none (by omega)]
     rw [this]; exact nv.nnd
   obtain ⟨m,hm⟩:∃ m,m=stepN 0 ((xs'.length:Int) - 1) 2:=⟨_,rfl⟩;have hmj:∀ j:Nat,j < m->2 * (j:Int) + 1 < (xs'.length:Int):=fun j hj=>by
    rw [hm] at hj;unfold stepN at hj;split at hj <;> omega
   rw [<- hm];have eP:((List.range m).map fun j:Nat=>gD [2 * (j:Int) + 1,2 * (j:Int)])=((List.range m).map fun j:Nat=>[2 * (j:Int) + 1,2 * (j:Int)]).map gD:=by rw [List.map_map]; rfl
   rw [eP];have gP:∀ g ∈ (List.range m).map fun j:Nat=>[2 * (j:Int) + 1,2 * (j:Int)],GrOk xs' g:=fun g hg=>by
    obtain ⟨j,hj,rfl⟩:=List.mem_map.mp hg;have:=hmj j (List.mem_range.mp hj);have hr:∀ w ∈ [2 * (j:Int) + 1,2 * (j:Int)],0<=w/\w < (xs'.length:Int):=fun w hw=>by
     rcases List.mem_cons.mp hw with z | z
     ·omega
     ·have:=Zn z; omega
    exact ⟨by show 2<=2; decide,by show 2<=10; decide,hr,fun w hw'=>(hw w (hr w hw').1 (hr w hw').2).1,fun w hw' v hv=>by rw [(hw w (hr w hw').1 (hr w hw').2).2,(hw v (hr v hv).1 (hr v hv).2).2]⟩
   have nP:((List.range m).map fun j:Nat=>[2 * (j:Int) + 1,2 * (j:Int)]).flatten.Nodup:=by
    clear hmj eP gP hm;induction m with
    | zero=>simp
    | succ m ih =>
     rw [List.range_succ,Zc,List.flatten_append];refine List.nodup_append.mpr ⟨ih,by simp; omega,fun x hx y hy e=>?_⟩;obtain ⟨l,hl,hxl⟩:=List.mem_flatten.mp hx;obtain ⟨j,hj,rfl⟩:=List.mem_map.mp hl;have hj':=List.mem_range.mp hj;simp at hxl hy;omega
   obtain ⟨gP2,hgP2⟩:∃ g2,g2=(List.range m).map fun j:Nat=>[2 * (j:Int) + 1,2 * (j:Int)]:=⟨_,rfl⟩;rw [<- hgP2] at gP nP ⊢;have fin:∀ gs':List (List Int),(∀ g ∈ gs',GrOk xs' g)->gs'.flatten.Nodup->Qp (.d (.tuple [.list (xs'.map kD),.list (ws.map wD),.list (hs.map hD),.list (cutD (gs'.map gD) none (some 4))])):=fun gs' h1 h2=>by
    rw [B9z (f:=gD) (xs:=gs') (n:=4) (by decide)];have e4:(4:Int).toNat=4:=rfl;rw [e4];refine k xs' (gs'.take 4) (hN _ (by rw [List.length_take]; omega) (fun g hg=>h1 g (List.mem_of_mem_take hg)) ?_);have:gs'=gs'.take 4++gs'.drop 4:=(List.take_append_drop _ _).symm;rw [this,List.flatten_append] at h2;exact (List.nodup_append.mp h2).1
   trivial;refine ite2 (fun h1=>?_) (fun _=>fin gP2 gP nP);refine ⟨2,rfl,by decide,sm4 2,fun d d0 d1=>?_⟩;trivial;refine ite2 (fun h2=>?_) (fun _=>fin gP2 gP nP);refine ⟨(xs'.length:Int),by simp,by omega,by omega,fun os ho hos ond=>?_⟩;trivial;have:=fin [os] (fun g hg=>by
    rw [Zn hg];exact ⟨by omega,by omega,hos,fun w hw'=>(hw w (hos w hw').1 (hos w hw').2).1,fun w hw' v hv=>by rw [(hw w (hos w hw').1 (hos w hw').2).2,(hw v (hos v hv).1 (hos v hv).2).2]⟩) (by simpa using ond)
   exact this
def B5l:Pu.PSp:=fun as Q=>∃ (n:Int) (xs:List Wk) (ws:LW) (hs:LH) (gs:List (List Int)),as=[.d (netD xs ws hs (gs.map gD))]/\NetV n xs ws hs gs/\Q (.d (.bool true))
theorem A5x (T:Txt K mg D):FnOk P w K mg base CX0 10 D.a_cf D.d_cf ["_law_net_here"] (Pu.spOf K [.dat] B5l):=by
 refine T.B.F_cf.ok sc_cf (Zz rfl) (fun cdv A outer s H vs Q E hr h=>?_);refine ⟨_,(QSs.out (A4 (B5d rfl (A4 (A6 (D5 A38 (qcK (A2n (K:=K) T) hr.mo (A4m T) (A0 (qpv 0) A1)) A3w (B4 _))))))),?_⟩
 haveI:=T.c2_KINDS
 haveI:=T.c2_HOLD_KINDS
 refine Pu.D6 h ?_;rintro as Qp ⟨n,xs,ws,hs,gs,rfl,nv,k⟩;trivial;refine ⟨n,xs,ws,hs,gs,rfl,nv,?_⟩;trivial;exact k
def A7n:Pu.PSp:=fun as Q=>∃ (n:Int) (xs ys:List Wk) (ws:LW) (hs:LH) (gs:List (List Int)),as=[.d (netD xs ws hs (gs.map gD)),.d (netD ys ws hs [])]/\NetV n xs ws hs gs/\SmO xs ys/\Q (.d (.bool true))
theorem A0r (T:Txt K mg D):FnOk P w K mg base CX0 11 D.a_b6 D.d_b6 ["_law_net_here","_law_told"] (Pu.spOf K [.dat,.dat] A7n):=by
 refine T.B.F_b6.ok sc_b6 (Zz rfl) (fun cdv A outer s H vs Q E hr h=>?_);refine ⟨_,(QSs.out (A3 (C0 (QW.pt (F8 (B6 (B5 (B0 (C6 (K:=K) rfl) (by rfl) T.z_isinstance (by rfl) (A0 (qpv 1) (A0 (C7 (v:=.ty "tuple") rfl T.z_tuple (by rfl) rfl) A1))))) (F8 (A9 (G8 (K:=K) rfl hr.units) (qln K T.z_len (qpv 1)) A2 (B4 _)) (F3 (B6 (B5 (B0 (C6 (K:=K) rfl) (by rfl) T.z_isinstance (by rfl) (A0 (qix K (qpv 1) A2) (A0 (C7 (v:=.ty "list") rfl T.z_list (by rfl) rfl) A1)))))))))
    (A4 (A6 D3))
    A8)
   (A3 (C0 (QW.pt (F8 (B6 (B5 (A0m (qcK (M4 (K:=K) T 7) hr.mo (N7 T) (A0 (qSf (K3 (C0f (K:=K) rfl) (qpv 1) (L6 A2) L7)) (A0 (B8 (A0 (qix K (qpv 0) A2) (A0 (qix K (qpv 0) A2) (A0 (C3 A1) A1)))) A1)))))) (F3 (A9 (G8 (K:=K) rfl hr.units) (qln K T.z_len (qix K (qpv 1) A2)) (qln K T.z_len (qix K (qpv 0) A2)) (B4 _)))))
    (A4 (A6 D3))
    A8)
   (A3 (G0 Zf rfl (B5f (K:=K) rfl rfl T.z_zip (A0 (qix K (qpv 1) A2) (A0 (qix K (qpv 0) A2) A1))) (D8 (K:=K) (n:=2) rfl rfl (A7 (qgn 2 sc_b6) (A7 (qgn 3 sc_b6) D7)) rfl rfl)
    (A3 (C0 (QW.pt (F8 (B6 (B5 (B0 (C6 (K:=K) rfl) (by rfl) T.z_isinstance (by rfl) (A0 (qpv 2) (A0 (C7 (v:=.ty "tuple") rfl T.z_tuple (by rfl) rfl) A1))))) (F8 (A9 (G8 (K:=K) rfl hr.units) (qln K T.z_len (qpv 2)) A2 (B4 _)) (F8 (A9 (G8 (K:=K) rfl hr.units) (qix K (qpv 2) A2) (qix K (qpv 3) A2) (B4 _)) (F3 (A9 (G8 (K:=K) rfl hr.units) (qix K (qix K (qpv 2) A2) A2) B7 (B4 _)))))))
     (A4 (A6 D3))
     A8)
    (A3 (C0 (QW.pt (F8 (A9 (G8 (K:=K) rfl hr.units) (qix K (qix K (qix K (qpv 2) A2) A2) A2) (qix K (qix K (qix K (qpv 3) A2) A2) A2) (B4 _)) (F3 (A9 (G8 (K:=K) rfl hr.units) (qix K (qix K (qix K (qpv 2) A2) A2) (U1 U0 A2)) (qix K (qix K (qix K (qpv 3) A2) A2) (U1 U0 A2)) (B4 _)))))
     (A4 (A6 D3))
     A8)
    (A4 (C0 (B6 (B5 (A0m (qcK (M4 (K:=K) T 7) hr.mo (N7 T) (A0 (qix K (qpv 2) A2) (A0 (qcK (X3 (K:=K) T) hr.mo (A0w T) (A0 (A3x (B8 (A0 (qix K (qix K (qpv 3) A2) A2) (A0 (D2 (G4 (K:=K) rfl) (by rfl) T.z_list (by rfl) (A0 (qix K (qix K (qpv 3) A2) A2) A1)) A1)))) A1)) A1))))))
     (A4 (A6 D3))
     A8)))))
   (A4 (A6 (G1 (qcK (A5x (K:=K) T) hr.mo (B4w T) (A0 (qpv 1) A1)) (G3 (D5 C48 (A2c (qcK (R1 (K:=K) T) hr.mo (U3 T) (A0 (qpv 1) A1))) D3 (B4 _)))))))))),?_⟩
 haveI:=T.c2_KINDS
 haveI:=T.c2_HOLD_KINDS
 refine Pu.D6 h ?_;rintro as Qp ⟨n,xs,ys,ws,hs,gs,rfl,nv,sm,k⟩;have n1:=nv.n1;have ln:=nv.ln;have n0:=nv.n0;have wl:=nv.wl;have hl:=nv.hl;have sml:=sm.1;unfold netD;trivial;rw [if_pos (by decide:((4:Nat):Int)=4)];refine ⟨_,1,rfl,rfl,⟨by decide,by show 1<=4; decide⟩,?_⟩;trivial;refine ⟨_,rfl,X9 (by show 3 < 1000; decide) (D0 (A4d (by rw [Zl]; omega) (A0z fun x hx=>?_)) (D0 (A4d (by rw [Zl]; omega) (A0z fun x hx=>?_)) (D0 (A4d (by decide) N8) N8))),?_⟩
 ·exact X9 (by show 3 < 1000; decide) (D0 True.intro (D0 True.intro (D0 (A2p _ _) N8)))
 ·exact X9 (by show 3 < 1000; decide) (D0 (nv.hk x hx).1.lay (D0 True.intro (D0 (A2p _ _) N8)))
 trivial;refine ⟨_,rfl,?_⟩;rw [if_neg (by decide),if_pos (by omega)];refine T5 (fun i e=>∃ o1 o2:Option SV,e=[some (.d (.tuple [.list (xs.map kD),.list (ws.map wD),.list (hs.map hD),.list (gs.map gD)])),some (.d (.tuple [.list (ys.map kD),.list (ws.map wD),.list (hs.map hD),.list []])),o1,o2]) ⟨_,_,rfl⟩ ?_ ?_
 ·rintro i z e hz ⟨o1,o2,rfl⟩;obtain ⟨y',x',hy',hx',rfl⟩:=A4q hz;rw [Zh] at hy' hx';obtain ⟨y,hy,rfl⟩:=Zo hy';obtain ⟨x,hx,rfl⟩:=Zo hx';obtain ⟨s1,s2,s3,s4⟩:=sm.2 i x y hx hy;have hxm:=Zm hx;obtain ⟨ok1,ok2,ok3⟩:=nv.of x hxm;rw [show kD x=PyData.tuple [.str x.1,offD x.2.1 x.2.2] from rfl,show kD y=PyData.tuple [.str y.1,offD y.2.1 y.2.2] from rfl,s1,s2];unfold offD;simp only [V4,A3y,A9g,A7h,List.set_cons_succ,List.set_cons_zero,List.length_cons,List.length_nil,Nat.zero_add,Nat.reduceAdd,true_and];refine hd fun R hR=>?_;trivial;rw [if_pos (by decide:((2:Nat):Int)=2)];refine ⟨(nv.nok x hxm).lay,(nv.nok x hxm).lay,U2,U2,?_⟩;subst hR;refine hd fun R hR=>?_;trivial;have nx:=ok2.ok.ne;have lx:=ok2.ok.le;have ny:=(s3.ok ok2.ok).ne;have ly:=(s3.ok ok2.ok).le;have x0:=C6k nx;have xl:=C5z nx;have y0:y.2.2[0]?=some (fstC x.2.2):=by rw [s3.hd]; exact x0
  have yl:y.2.2[y.2.2.length - 1]?=some (lstC x.2.2):=by rw [s3.lst]; exact xl
  refine L8 (n:=0) y0 ?_;trivial;refine L8 (n:=0) x0 ?_;trivial;refine Q9 (xs:=y.2.2) yl (by omega) ?_;trivial;refine Q9 (xs:=x.2.2) xl (by omega) ?_;trivial;subst hR;trivial;intro a _ _;refine ⟨by show 2<=1000; decide,fun b _=>?_⟩;refine ⟨_,x.2.1,x.2.2,rfl,.inr ⟨b,a,rfl⟩,ok2.ok.up (by decide) (by decide) (by decide) (by decide),fun a' b' out hh hr=>?_⟩;have eo:out=y.2.2:=by
   have:=congrArg List.reverse (hr.trans s4.symm)
   rwa [List.reverse_reverse,List.reverse_reverse] at this
  subst eo;refine ⟨offD (Str.ofString "straight") y.2.2,?_,?_⟩
  ·show [PyData.tuple ([PyData.str (Str.ofString "straight")]++([PyData.list (B1 (y.2.2.map dcn)).dat]++[]))]=_;rw [J1]; rfl
  refine ⟨_,rfl,X9 (by show 2 < 1000; decide) (D0 U2 (D0 (B1l (by omega) _) N8)),?_⟩;trivial;exact ⟨true,rfl,by rw [if_neg (by decide)]; exact ⟨_,_,rfl⟩⟩
 ·rintro e ⟨o1,o2,rfl⟩;trivial;have hlen:∀ x ∈ xs,1<=x.2.2.length:=fun x hx=>(nv.of x hx).2.1.ok.ne;have ofy:∀ y ∈ ys,∃ x ∈ xs,y.1=x.1/\y.2.1=Str.ofString "straight"/\Hull x.2.2 y.2.2:=fun y hy=>by
   obtain ⟨i,hi⟩:=List.mem_iff_getElem?.mp hy;have hil:=(Zs hi).1;have hx:xs[i]?=some xs[i]:=Zg (by omega);obtain ⟨q1,q2,q3,_⟩:=sm.2 i _ y hx hi;exact ⟨_,List.getElem_mem _,q1,q2,q3⟩
  have nv2:NetV n ys ws hs []:=by
   refine ⟨⟨by omega,n0,n1,fun y hy=>?_,nv.wl,nv.wk,nv.hl,nv.hk,by simp,(fun _ z=>nomatch z),fun y hy=>?_⟩,fun y hy=>?_,?_,nv.wne,by simp⟩
   ·obtain ⟨x,hx,q1,q2,q3⟩:=ofy y hy;obtain ⟨_,og,oc⟩:=nv.of x hx;exact ⟨.inl q2,⟨q3.ok og.ok,fun c hc=>og.nn c (q3.sub.subset hc),A88 og.up q3.sub,fun _=>q3.cv⟩,fun c hc=>oc c (q3.sub.subset hc)⟩
   ·obtain ⟨x,hx,q1,q2,q3⟩:=ofy y hy;rw [q1]; exact nv.nm x hx
   ·obtain ⟨x,hx,q1,q2,q3⟩:=ofy y hy;rw [q1]; exact nv.nok x hx
   ·have:ys.map (·.1)=xs.map (·.1):=by
     refine List.ext_getElem? fun i=>?_;rw [Zh,Zh];by_cases hi:i < xs.length
     ·rw [Zg hi,Zg (by omega:i < ys.length)];exact congrArg some (sm.2 i _ _ (Zg hi) (Zg (by omega:i < ys.length))).1
     ·rw [List.getElem?_eq_none (by omega),List.getElem?_eq_none (by omega)]
    rw [this]; exact nv.nnd
  refine ⟨n,ys,ws,hs,[],rfl,nv2,?_⟩;trivial;refine ⟨ys,ws,hs,[],rfl,by omega,(fun y hy=>(nv2.of y hy).1),?_⟩;have es:stB ys=true:=by
   unfold stB;rw [List.all_eq_true];intro y hy;obtain ⟨x,hx,q1,q2,q3⟩:=ofy y hy;exact Zk q2
  rw [es];exact ⟨true,rfl,k⟩
def A9u:Pu.PSp:=fun as Q=>∃ (n:Int) (xs:List Wk) (ws:LW) (hs:LH) (gs:List (List Int)),as=[.d (netD xs ws hs (gs.map gD))]/\NetV n xs ws hs gs/\Q (.d (.bool true))
theorem B1k (T:Txt K mg D):FnOk P w K mg base CX0 9 D.a_bd D.d_bd ["_law_net_here"] (Pu.spOf K [.dat] A9u):=by
 refine T.B.F_bd.ok sc_bd (Zz rfl) (fun cdv A outer s H vs Q E hr h=>?_);refine ⟨_,(QSs.out (A3 (C0 (A9 A1c (qln K T.z_len (qix K (qpv 0) A2)) A2 (B4 _))
    (A4 (A6 D3))
    A8)
   (A3 (qst 1 sc_bd (B8 (A0 (C3 (A0 (qix K (qix K (qpv 0) A2) A2) (A0 (B8 (A0 (qix K (qix K (qix K (qpv 0) A2) A2) A2) (A0 (qix K (qix K (qix K (qpv 0) A2) A2) A2) A1))) A1))) (A0 (C3 A1) (A0 (C3 A1) (A0 (C3 A1) A1))))))
   (A3 (qst 2 sc_bd (qcK (J9 (K:=K) T) hr.mo (K8 T) (A0 (qcK (V6 (K:=K) T) hr.mo (A1u T) (A0 (qpv 1) A1)) A1)))
   (A3 (qst 3 sc_bd (qcK (J9 (K:=K) T) hr.mo (K8 T) (A0 (qcK (V6 (K:=K) T) hr.mo (A1u T) (A0 (qpv 1) A1)) A1)))
   (A3 (C1 (V3 (K:=K) rfl Z1 PySem.F.slot_list_clear PySem.F.type_list_clear A1f (qPo (qix K (qPo (qix K (qPo (qix K (qPo (qix K (qpv 2) A2)) A2)) A2)) A2))))
   (A4 (A6 (A0m (qcK (M4 (K:=K) T 7) hr.mo (N7 T) (A0 (qPo (qix K (qPo (qix K (qpv 2) A2)) A2)) (A0 (qPo (qix K (qPo (qix K (qpv 3) A2)) A2)) A1)))))))))))),?_⟩
 haveI:=T.c2_KINDS
 haveI:=T.c2_HOLD_KINDS
 refine Pu.D6 h ?_;rintro as Qp ⟨n,xs,ws,hs,gs,rfl,nv,k⟩;have ln:=nv.ln;have n0:=nv.n0;have n1:=nv.n1;unfold netD;trivial;refine ite2 (fun h=>k) (fun h=>?_);obtain ⟨x,y,r,rfl⟩:∃ x y r,xs=x :: y :: r:=by
  cases xs with
  | nil=>simp at h
  | cons x r=>cases r with
   | nil=>simp at h
   | cons y r=>exact ⟨x,y,r,rfl⟩
 have e0:L2.atI ((x :: y :: r).map kD) ((0:Nat):Int)=some (kD x):=F6 rfl;have e1:L2.atI ((x :: y :: r).map kD) ((1:Nat):Int)=some (kD y):=F6 rfl;refine D1 e0 ?_;trivial;rw [show kD y=PyData.tuple [.str y.1,offD y.2.1 y.2.2] from rfl,show kD x=PyData.tuple [.str x.1,offD x.2.1 x.2.2] from rfl];trivial;have okx:=(nv.of x Zy).2.1.ok.up (a':=161) (b':=85) (c':=810) (d':=674) (by decide) (by decide) (by decide) (by decide);have two:∀ z ∈ [x,(y.1,x.2.1,x.2.2)],OfOk z.2.2 161 85 810 674:=fun z hz=>by
  rcases List.mem_cons.mp hz with e | e
  ·rw [e]; exact okx
  ·rw [Zn e]; exact okx
 refine ⟨[x,(y.1,x.2.1,x.2.2)],[],[],[],rfl,by show 2<=1000; decide,by show 0<=1000; decide,fun t ht=>?_⟩;trivial;refine ⟨t,_,_,_,_,rfl,ht,⟨by show 1<=2; decide,by show 2<=10; decide⟩,two,fun t2 ys sm nt2=>?_⟩;trivial;refine ⟨[x,(y.1,x.2.1,x.2.2)],[],[],[],rfl,by show 2<=1000; decide,by show 0<=1000; decide,fun t ht=>?_⟩;trivial;refine ⟨t,_,_,_,_,rfl,ht,⟨by show 1<=2; decide,by show 2<=10; decide⟩,two,fun t3 zs sm3 nt3=>?_⟩;have eyz:=sm.uniq sm3;subst eyz;obtain ⟨p2,b1,b2,b3,b4,us,rfl,hu⟩:=nt2;obtain ⟨p3,c1,c2,c3,c4,us3,rfl,hu3⟩:=nt3;obtain ⟨y0,y1,rfl⟩:∃ y0 y1,ys=[y0,y1]:=by
  have:=sm.1;match ys,this with
  | [y0,y1],_=>exact ⟨y0,y1,rfl⟩
 obtain ⟨u0,u1,rfl⟩:∃ y0 y1,us=[y0,y1]:=by
  have:=hu.1;match us,this with
  | [y0,y1],_=>exact ⟨y0,y1,rfl⟩
 obtain ⟨v0,v1,rfl⟩:∃ y0 y1,us3=[y0,y1]:=by
  have:=hu3.1;match us3,this with
  | [y0,y1],_=>exact ⟨y0,y1,rfl⟩
 obtain ⟨q1,q2,q3,rfl⟩:=hu.2 0 y0 u0 rfl rfl;have d1:=(hu.2 1 y1 u1 rfl rfl).dat;have d2:=(hu3.2 1 y1 v1 rfl rfl).dat;trivial;refine ⟨_,_,_,_,_,rfl,rfl,rfl,_,_,_,_,_,rfl,rfl,rfl,_,_,_,_,_,rfl,rfl,rfl,_,_,_,_,_,rfl,rfl,rfl,?_⟩;rw [Y0];trivial;refine ⟨_,rfl,_,rfl,_,d1,_,rfl,_,rfl,_,d2,?_⟩;obtain ⟨s1,s2,s3,s4⟩:=sm.2 1 _ y1 rfl rfl;have hl5:=(s3.ok okx).le;refine ⟨_,rfl,X9 (by show 2 < 1000; decide) (D0 ?_ (D0 (X9 (by show 2 < 1000; decide) (D0 ?_ (D0 (B1l (by omega) _) N8))) N8)),?_⟩
 ·rw [s1]; exact nv.nm y (by simp)
 ·rw [s2]; exact U2
 ·trivial;exact ⟨true,rfl,k⟩
def W8:Pu.PSp:=fun as Q=>∃ (xs:List Wk) (ws:LW) (hs:LH) (gs:LP),as=[.d (netD xs ws hs gs)]/\xs.length<=10/\(∀ x ∈ xs,Kd x.2.1)/\Q (.d (.bool (stB xs)))
theorem X8 (T:Txt K mg D):FnOk P w K mg base CX0 1 D.a_a3 D.d_a3 ["_law_net_here"] (Pu.spOf K [.dat] W8):=by
 refine T.B.F_a3.ok sc_a3 (Zz rfl) (fun cdv A outer s H vs Q E hr h=>?_);refine ⟨_,(QSs.out (A4 (A6 (D5 (D9 (K:=K) rfl hr.units) (F2 rfl (B9 ["_law_name","_law_offer_here"] [none,none]) (E6 (K:=K) rfl (qix K (qpv 0) A2)) (fun _ _ _=>(D8 (K:=K) (n:=2) rfl rfl (A7 (qgc 0 ["_law_name","_law_offer_here"]) (A7 (qgc 1 ["_law_name","_law_offer_here"]) D7)) rfl rfl)) (fun _ _ _=>(Q7 (A9 (G8 (K:=K) rfl hr.units) (qix K (qpv 1) A2) B7 (B4 _)))) (fun _ _ _=>(qpv 1))) (C3 A1) (B4 _))))),?_⟩
 haveI:=T.c2_KINDS
 haveI:=T.c2_HOLD_KINDS
 refine Pu.D6 h ?_;rintro as Qp ⟨xs,ws,hs,gs,rfl,h10,hk,k⟩;unfold netD;trivial;refine ⟨by omega,K0 (f:=kD) (xs:=xs) (fun i e ys=>∃ o1 o2:Option SV,e=[o1,o2]/\ys=(((xs.take i).filter fun x=>!decide (x.2.1=("straight":Str))).map fun x=>offD x.2.1 x.2.2)) ⟨_,_,rfl,rfl⟩ ?_ ?_⟩
 ·rintro i y e ys hy ⟨o1,o2,rfl,rfl⟩;have hm:=hk y (Zm hy);unfold kD offD;trivial;refine ⟨hm.lay,U2,?_⟩;rw [N5];by_cases h:y.2.1=("straight":Str)
  ·rw [Zk h,if_neg (by decide)];refine ⟨_,_,rfl,?_⟩;rw [List.take_add_one,hy,Option.toList_some,List.filter_append,Zc];simp [h]
  ·rw [Zd h,if_pos rfl];refine ⟨_,_,rfl,?_⟩;rw [List.take_add_one,hy,Option.toList_some,List.filter_append,Zc];simp [h]
 ·rintro e ys ⟨o1,o2,rfl,rfl⟩;rw [List.take_length];trivial;refine ⟨A56 fun x hx=>hk x (List.mem_filter.mp hx).1,?_,?_⟩
  ·have:=A6t (xs:=xs.filter fun x=>!decide (x.2.1=("straight":Str)));show PyData.depthAll _ + 1<=60;omega
  ·have e1:(PyData.list ((xs.filter fun x=>!decide (x.2.1=("straight":Str))).map fun x=>offD x.2.1 x.2.2)).eqv (.list [])=stB xs:=by
    have e2:∀ l:LP,(PyData.list l).eqv (.list [])=l.isEmpty:=fun l=>by cases l <;> rfl
    rw [e2,Bool.eq_iff_iff];unfold stB;rw [List.isEmpty_iff,List.map_eq_nil_iff,List.filter_eq_nil_iff,List.all_eq_true];constructor
    ·intro h x hx; have:=h x hx; simpa using this
    ·intro h x hx; have:=h x hx; simpa using this
   rw [e1]; exact k
def A2f:Pu.PSp:=fun as Q=>∃ (n:Int) (xs:List Wk) (ws:LW) (hs:LH) (gs:List (List Int)),as=[.d (netD xs ws hs (gs.map gD))]/\NetV n xs ws hs gs/\Q (.d (.bool true))
theorem A2o (T:Txt K mg D):FnOk P w K mg base CX0 12 D.a_be D.d_be ["_law_net_here"] (Pu.spOf K [.dat] A2f):=by
 refine T.B.F_be.ok sc_be (Zz rfl) (fun cdv A outer s H vs Q E hr h=>?_);refine ⟨_,(QSs.out (A3 (qst 1 sc_be (qcK (V6 (K:=K) T) hr.mo (A1u T) (A0 (qpv 0) A1)))
   (A3 (C0 (QW.pt (F8 (B6 (B5 (A2c (qcK (A5x (K:=K) T) hr.mo (B4w T) (A0 (qpv 1) A1))))) (F3 (B6 (B5 (A0m (qcK (M4 (K:=K) T 7) hr.mo (N7 T) (A0 (qpv 1) (A0 (qpv 0) A1)))))))))
    (A4 (A6 D3))
    A8)
   (A3 (qst 2 sc_be (A2c (qcK (R1 (K:=K) T) hr.mo (U3 T) (A0 (qpv 1) A1))))
   (A3 (C0 (QW.pt (F8 (B6 (B5 (B0 (C6 (K:=K) rfl) (by rfl) T.z_isinstance (by rfl) (A0 (qpv 2) (A0 (C7 (v:=.ty "bool") rfl T.z_bool (by rfl) rfl) A1))))) (F3 (A9 (G8 (K:=K) rfl hr.units) (qpv 2) (qcK (X8 (K:=K) T) hr.mo (A0h T) (A0 (qpv 0) A1)) (B4 _)))))
    (A4 (A6 D3))
    A8)
   (A3 (qst 3 sc_be (qcK (J9 (K:=K) T) hr.mo (K8 T) (A0 (qpv 1) A1)))
   (A3 (C0 (QW.pt (F8 (B6 (B5 (A2c (qcK (A0r (K:=K) T) hr.mo (A3k T) (A0 (qpv 0) (A0 (qpv 3) A1)))))) (F3 (B6 (B5 (A0m (qcK (M4 (K:=K) T 7) hr.mo (N7 T) (A0 (qpv 1) (A0 (qpv 0) A1)))))))))
    (A4 (A6 D3))
    A8)
   (A3 (qCk (C1 (V3 (K:=K) rfl Z1 PySem.F.slot_list_clear PySem.F.type_list_clear A1f (qPo (qix K (qpv 3) A2)))))
   (A3 (qAk (C1 (F4 (K:=K) rfl Z1 Z2 Z3 C8 (qPo (qix K (qpv 3) A2)) (A0 (B8 (A0 A2 (A0 A2 A1))) A1))))
   (A3 (qAk (C1 (F4 (K:=K) rfl Z1 Z2 Z3 C8 (qPo (qix K (qpv 3) A2)) (A0 A2 A1))))
   (A3 (qAk (C1 (F4 (K:=K) rfl Z1 Z2 Z3 C8 (qPo (qix K (qpv 3) A2)) (A0 (C3 (A0 A2 A1)) A1))))
   (A3 (C0 (B6 (B5 (A0m (qcK (M4 (K:=K) T 7) hr.mo (N7 T) (A0 (qpv 1) (A0 (qpv 0) A1))))))
    (A4 (A6 D3))
    A8)
   (A3 (qst 4 sc_be (qcK (J9 (K:=K) T) hr.mo (K8 T) (A0 (qpv 1) A1)))
   (A3 (C1 (V3 (K:=K) rfl Z1 PySem.F.slot_list_clear PySem.F.type_list_clear A1f (qPo (qix K (qPo (qix K (qPo (qix K (qPo (qix K (qpv 1) A2)) A2)) A2)) A2))))
   (A4 (A6 (G1 (A2c (qcK (A0r (K:=K) T) hr.mo (A3k T) (A0 (qpv 0) (A0 (qpv 4) A1)))) (G3 (qcK (B1k (K:=K) T) hr.mo (B66 T) (A0 (qpv 0) A1)))))))))))))))))))),?_⟩
 haveI:=T.c2_KINDS
 haveI:=T.c2_HOLD_KINDS
 refine Pu.D6 h ?_;rintro as Qp ⟨n,xs,ws,hs,gs,rfl,nv,k⟩;have ln:=nv.ln;have n0:=nv.n0;have n1:=nv.n1;have gl:=nv.gl;have oks:∀ x ∈ xs,OfOk x.2.2 161 85 810 674:=fun x hx=>(nv.of x hx).2.1.ok.up (by decide) (by decide) (by decide) (by decide);trivial;refine ⟨xs,ws,hs,gs,rfl,by omega,by omega,fun t ht=>?_⟩;have hd1:=ht.dat;trivial;refine ⟨_,hd1,n,xs,ws,hs,gs,rfl,nv,true,rfl,?_⟩;rw [if_neg (by decide)];refine ⟨_,hd1,_,rfl,A4c nv.toNetG,?_⟩;trivial;refine ⟨_,rfl,?_⟩;rw [if_neg (by decide)];refine ⟨_,hd1,xs,ws,hs,_,rfl,by omega,(fun x hx=>(nv.of x hx).1),_,rfl,xs,ws,hs,_,rfl,by omega,(fun x hx=>(nv.of x hx).1),?_⟩;trivial;refine ⟨t,xs,ws,hs,_,rfl,ht,⟨by omega,by omega⟩,oks,fun t2 ys sm nt2=>?_⟩;have hd2:=nt2.dat;trivial;refine ⟨_,hd2,n,xs,ys,ws,hs,gs,rfl,nv,sm,true,rfl,?_⟩;rw [if_neg (by decide)];refine ⟨_,hd1,_,rfl,A4c nv.toNetG,?_⟩;obtain ⟨p2,b1,b2,b3,b4,us,rfl,hu⟩:=nt2;trivial;refine ⟨_,rfl,?_⟩;rw [if_neg (by decide)];refine ⟨_,_,_,_,_,rfl,rfl,rfl,?_⟩;rw [B3s];trivial;refine ⟨_,_,_,_,_,rfl,rfl,rfl,?_⟩;rw [Y0];refine ⟨by rw [Zl]; have:=nv.wl; omega,_,_,_,_,_,rfl,rfl,rfl,?_⟩;rw [Y0];refine ⟨by rw [Zl]; have:=nv.hl; omega,_,_,_,_,_,rfl,rfl,rfl,?_⟩;rw [show OT.nd true b4 (B1 ([]:LP))=OT.nd true b4 (B1 []) from rfl,Y0];refine ⟨by show 0 < 1000000; decide,?_⟩;trivial;refine ⟨_,hd1,_,rfl,A4c nv.toNetG,?_⟩;trivial;refine ⟨true,rfl,?_⟩;rw [if_neg (by decide)];refine ⟨t,xs,ws,hs,_,rfl,ht,⟨by omega,by omega⟩,oks,fun t3 zs sm3 nt3=>?_⟩;have hd3:=nt3.dat;obtain ⟨p,a1,a2,a3,a4,ts,rfl,hw⟩:=ht;obtain ⟨v0,vr,rfl⟩:∃ v0 vr,ts=v0 :: vr:=by
  have:=hw.1;cases ts with
  | nil=>rw [List.length_nil] at this; omega
  | cons a r=>exact ⟨a,r,rfl⟩
 obtain ⟨q1,q2,q3,rfl⟩:=hw.2 0 _ v0 (Zg (by omega)) rfl;trivial;refine ⟨_,_,_,_,_,rfl,rfl,rfl,_,_,_,0,_,rfl,ix0,rfl,_,_,_,_,_,rfl,rfl,rfl,_,_,_,_,_,rfl,rfl,rfl,?_⟩;rw [Y0];trivial;refine ⟨_,hd3,n,xs,zs,ws,hs,gs,rfl,nv,sm3,true,rfl,?_⟩;rw [if_pos rfl];refine ⟨n,xs,ws,hs,gs,rfl,nv,?_⟩;trivial;exact k
theorem C5d (T:Txt K mg D):FnOk P w K mg base CX0 13 D.a_d7 D.d_d7 ["_law_script"] (C0c K):=by
 refine FnOk.imp (sp:=Pu.spOf K [.vw] Pu.pLaw) ?_ Pu.C55;refine T.F_d7.ok sc_d7 (Zz rfl) (fun cdv A outer s H vs Q E hr h=>?_);refine ⟨_,(QSs.out (A3 (G0 Zf rfl (I0 rfl T.z_range (A0 (B0 (B4m rfl) (by rfl) T.z_max (by rfl) (A0 A2 (A0 (B0 (B4k rfl) (by rfl) T.z_min (by rfl) (A0 (qln K T.z_len (qpv 0)) (A0 A2 A1))) A1))) A1)) (qgn 1 sc_d7)
    (A3 (qst 2 sc_d7 (qcK (O6 (K:=K) T) hr.mo (R8 T) (A0 (qpv 0) (A0 (B2 F7 (qpv 1) A2) A1))))
    (A3 (qst 3 sc_d7 (qix K (C3 (A0 (C3 (A0 B7 A1)) (A0 (C3 (A0 B7 A1)) (A0 (C3 (A0 B7 (A0 B7 A1))) A1)))) (qcK (C2 (K:=K) T) hr.mo (C9 T) (A0 (qpv 2) (A0 A2 A1)))))
    (A3 (qst 4 sc_d7 (qcK (C16 (K:=K) T) hr.mo (C6x T) (A0 (qpv 0) (A0 (qpv 1) (A0 (qix K (C3 (A0 A2 (A0 A2 A1))) (D2 Y7 (by rfl) T.z_int (by rfl) (A0 (D5 (D9 (K:=K) rfl hr.units) (qpv 1) A2 (B4 _)) A1))) (A0 (qix K (C3 (A0 A2 (A0 A2 A1))) (D2 Y7 (by rfl) T.z_int (by rfl) (A0 (D5 (D9 (K:=K) rfl hr.units) (qpv 1) A2 (B4 _)) A1))) (A0 (qpv 3) (A0 D3 A1))))))))
    (A3 (C0 (B6 (B5 (qcK (A2o (K:=K) T) hr.mo (A64 T) (A0 (qpv 4) A1))))
     (A4 (A6 D3))
     A8)
    (A4 (C0 (A9 (D9 (K:=K) rfl hr.units) (qpv 1) A2 (B4 _))
     (A4 (G0 Zf rfl (E6 (K:=K) rfl (C3 (A0 (qcK (A4b (K:=K) T) hr.mo (A78 T) (A0 (qpv 2) (A0 (qpv 4) A1))) (A0 (qcK (A7v (K:=K) T) hr.mo (B4v T) (A0 (qpv 2) (A0 (qpv 4) A1))) A1)))) (qgn 5 sc_d7)
      (A4 (C0 (B6 (B5 (qcK (A2o (K:=K) T) hr.mo (A64 T) (A0 (qpv 5) A1))))
       (A4 (A6 D3))
       A8))))
     A8)))))))
   (A4 (A6 D3)))),?_⟩
 haveI:=T.c2_KINDS
 haveI:=T.c2_HOLD_KINDS
 refine Pu.D6 h ?_;rintro as Qp ⟨ns,rfl,hl,k⟩;trivial;refine ⟨⟨by omega,by omega⟩,T6 (fun i e=>∃ o1 o2 o3 o4 o5:Option SV,e=[some (.bor (ns.map .int)),o1,o2,o3,o4,o5]) ⟨_,_,_,_,_,rfl⟩ ?_ ?_⟩
 ·rintro i e hi ⟨o1,o2,o3,o4,o5,rfl⟩;simp only [A7h,List.set_cons_succ,List.set_cons_zero];obtain ⟨a,ha⟩:∃ a:Int,a=0 + (i:Int):=⟨_,rfl⟩;have a0:0<=a:=by omega
  have a1:a<=16:=by omega
  rw [<- ha];clear ha;refine hd fun R hR=>?_;trivial;refine ⟨ns,_,rfl,by omega,by omega,?_⟩;trivial;subst hR;refine hd fun R hR=>?_;trivial;refine ⟨3,rfl,by decide,sm4 3,fun g g0 g3=>?_⟩;trivial;obtain ⟨kz,⟨kz1,kz3,hkz⟩,ek⟩:=C7u g0 g3;refine D1 ek ?_;trivial;subst hR;refine hd fun R hR=>?_;nofun
  refine D1 (A8m 3 10) ?_;nofun
  refine D1 (A8m 3 5) ?_;nofun
  refine ⟨ns,a,kz,_,_,rfl,a0,by omega,kz1,kz3,hkz,by split <;> omega,by split <;> omega,fun n xs ws hs gs nv hn hh4 _=>?_⟩
  nofun
  subst hR;refine hd fun R hR=>?_;nofun
  refine ⟨n,xs,ws,hs,gs,rfl,nv,?_⟩;nofun
  subst hR;nofun
  refine ite2 (fun hz=>?_) (fun hz=>⟨_,_,_,_,_,rfl⟩);refine ⟨n,xs,ws,hs,gs,rfl,nv,fun xs1 ws1 hs1 nv1=>?_⟩;nofun
  refine ⟨n,xs,ws,hs,gs,rfl,nv,fun xs2 gs2 nv2=>?_⟩;nofun
  refine T5 (fun i e=>∃ o5:Option SV,e=[some (SV.bor (List.map PyData.int ns)),some (SV.d (PyData.int a)),some SV.st,some (SV.d (PyData.list (List.map PyData.str kz))),some (SV.d (netD xs ws hs (List.map gD gs))),o5]) ⟨_,rfl⟩ ?_ ?_
  ·rintro j x e hx ⟨o5,rfl⟩;have go:∀ (n':Int) xs' ws' hs' gs',NetV n' xs' ws' hs' gs'->x=netD xs' ws' hs' (gs'.map gD)->A7h 5 x [some (SV.bor (List.map PyData.int ns)),some (SV.d (PyData.int a)),some SV.st,some (SV.d (PyData.list (List.map PyData.str kz))),some (SV.d (netD xs ws hs (List.map gD gs))),o5] fun e2=>pIf (pNot (A93 (pdat (C1z A2f (A5t (pdat (pVar 5)) B5v))))) (pRet (pC (PyData.bool false))) B5w { nx:=fun e=>∃ o5:Option SV,e=[some (SV.bor (List.map PyData.int ns)),some (SV.d (PyData.int a)),some SV.st,some (SV.d (PyData.list (List.map PyData.str kz))),some (SV.d (netD xs ws hs (List.map gD gs))),o5],rt:=fun s x=>Qp s,bk:=fun e=>∃ o1 o2 o3 o4 o5:Option SV,e=[some (SV.bor (List.map PyData.int ns)),o1,o2,o3,o4,o5],ct:=fun e=>∃ o5:Option SV,e=[some (SV.bor (List.map PyData.int ns)),some (SV.d (PyData.int a)),some SV.st,some (SV.d (PyData.list (List.map PyData.str kz))),some (SV.d (netD xs ws hs (List.map gD gs))),o5] } e2:=fun n' xs' ws' hs' gs' h e=>by
    subst e;nofun
    refine ⟨n',xs',ws',hs',gs',rfl,h,?_⟩;nofun
    exact ⟨_,rfl⟩
   match j,hx with
   | 0,hx=>exact go _ _ _ _ _ nv1 (Zj hx).symm
   | 1,hx=>exact go _ _ _ _ _ nv2 (Zj hx).symm
   | j + 2,hx=>cases (show none=some x from hx)
  ·rintro e ⟨o5,rfl⟩;exact ⟨_,_,_,_,_,rfl⟩
 ·rintro e ⟨o1,o2,o3,o4,o5,rfl⟩;trivial;exact k
end
theorem all_mk {l:PySem.W.OpenLaw} {w:World} {K:PySem.W.Frag} {h:Heap} {mg:Str->Option Value} {fa:Addr} (X:K.In h) (G:h.Ns mainGlobals mg) (hfa:mg "law"=some (.ref fa)) {a_ba a_ae a_ac a_b9 a_c9 a_d6 a_d2 a_bb a_cd a_c8 a_a4 a_b1 a_aa a_a0 a_a1 a_b8 a_b2 a_a2 a_cc a_ca a_c7 a_b7 a_a6 a_a9 a_a8 a_a7 a_a5 a_af a_ad a_ab a_bf a_d1 a_d4 a_d0 a_c1 a_c5 a_b3 a_c3 a_c2 a_c4 a_d3 a_c6 a_c0 a_b4 a_d5 a_bc a_ce a_b0 a_b5 a_cf a_b6 a_bd a_be a_a3 k_NOUGHT k_KINDS k_HOLD_KINDS:Addr} {d_ba d_ae d_ac d_b9 d_c9 d_d6 d_d2 d_bb d_cd d_c8 d_a4 d_b1 d_aa d_a0 d_a1 d_b8 d_b2 d_a2 d_cc d_ca d_c7 d_b7 d_a6 d_a9 d_a8 d_a7 d_a5 d_af d_ad d_ab d_bf d_d1 d_d4 d_d0 d_c1 d_c5 d_b3 d_c3 d_c2 d_c4 d_d3 d_c6 d_c0 d_b4 d_d5 d_bc d_ce d_b0 d_b5 d_cf d_b6 d_bd d_be d_a3:FuncData} (B:TxB K a_ba a_ae a_ac a_b9 a_c9 a_d6 a_d2 a_bb a_cd a_c8 a_a4 a_b1 a_aa a_a0 a_a1 a_b8 a_b2 a_a2 a_cc a_ca a_c7 a_b7 a_a6 a_a9 a_a8 a_a7 a_a5 a_af a_ad a_ab a_bf a_d1 a_d4 a_d0 a_c1 a_c5 a_b3 a_c3 a_c2 a_c4 a_d3 a_c6 a_c0 a_b4 a_d5 a_bc a_ce a_b0 a_b5 a_cf a_b6 a_bd a_be a_a3 k_NOUGHT k_KINDS k_HOLD_KINDS d_ba d_ae d_ac d_b9 d_c9 d_d6 d_d2 d_bb d_cd d_c8 d_a4 d_b1 d_aa d_a0 d_a1 d_b8 d_b2 d_a2 d_cc d_ca d_c7 d_b7 d_a6 d_a9 d_a8 d_a7 d_a5 d_af d_ad d_ab d_bf d_d1 d_d4 d_d0 d_c1 d_c5 d_b3 d_c3 d_c2 d_c4 d_d3 d_c6 d_c0 d_b4 d_d5 d_bc d_ce d_b0 d_b5 d_cf d_b6 d_bd d_be d_a3)
  {od_law an_law:Option Addr} {sl_law:Array (Option Value)} {oc_law kV_law dc_law pm_law cd_law ct_law:Value} {a_d7:Addr}
  {od_NOUGHT:Option Addr} {its_NOUGHT:Array Value} {n_NOUGHT:Nat} {sl_NOUGHT:Array (Option Value)} {t0_NOUGHT t1_NOUGHT:Tok}
  {od_KINDS:Option Addr} {its_KINDS:Array Value} {n_KINDS:Nat} {sl_KINDS:Array (Option Value)} {t0_KINDS t1_KINDS:Tok}
  {od_HOLD_KINDS:Option Addr} {its_HOLD_KINDS:Array Value} {n_HOLD_KINDS:Nat} {sl_HOLD_KINDS:Array (Option Value)} {t0_HOLD_KINDS t1_HOLD_KINDS t2_HOLD_KINDS:Tok}
  {t_LONGEST_NAME:Tok}
  {t_MOST_CORNERS:Tok}
  {t_MOST_WORKS:Tok}
  {t_MOST_WAITS:Tok}
  {t_MOST_HOLDS:Tok}
  {t_MOST_GROUPS:Tok}
  (g_d7:PySem.W.nsIn K mainGlobals "law"=some (some (.ref a_d7)))
  (l_law:K.lookup a_d7=some ⟨oc_law,od_law,.func (PySem.W.fnOf "law" "law" (K6 s_d7) (J5 s_d7) (A5 s_d7) .none kV_law dc_law pm_law an_law cd_law ct_law),sl_law⟩)
  (c_law:PySem.W.codeIn K cd_law "law"=true)
  (k_law:PySem.W.keepIn K (.ref a_d7)=true)
  (lq_NOUGHT:K.lookup k_NOUGHT=some ⟨.type "tuple",od_NOUGHT,.seq its_NOUGHT n_NOUGHT,sl_NOUGHT⟩)
  (vq_NOUGHT:its_NOUGHT=#[Value.int 0 t0_NOUGHT,Value.int 1 t1_NOUGHT])
  (lq_KINDS:K.lookup k_KINDS=some ⟨.type "tuple",od_KINDS,.seq its_KINDS n_KINDS,sl_KINDS⟩)
  (vq_KINDS:its_KINDS=#[Value.str "straight" t0_KINDS,Value.str "steps" t1_KINDS])
  (lq_HOLD_KINDS:K.lookup k_HOLD_KINDS=some ⟨.type "tuple",od_HOLD_KINDS,.seq its_HOLD_KINDS n_HOLD_KINDS,sl_HOLD_KINDS⟩)
  (vq_HOLD_KINDS:its_HOLD_KINDS=#[Value.str "from" t0_HOLD_KINDS,Value.str "till" t1_HOLD_KINDS,Value.str "by" t2_HOLD_KINDS])
  (gi_LONGEST_NAME:PySem.W.nsIn K mainGlobals "LONGEST_NAME"=some (some (.int 8 t_LONGEST_NAME)))
  (gi_MOST_CORNERS:PySem.W.nsIn K mainGlobals "MOST_CORNERS"=some (some (.int 5 t_MOST_CORNERS)))
  (gi_MOST_WORKS:PySem.W.nsIn K mainGlobals "MOST_WORKS"=some (some (.int 10 t_MOST_WORKS)))
  (gi_MOST_WAITS:PySem.W.nsIn K mainGlobals "MOST_WAITS"=some (some (.int 40 t_MOST_WAITS)))
  (gi_MOST_HOLDS:PySem.W.nsIn K mainGlobals "MOST_HOLDS"=some (some (.int 40 t_MOST_HOLDS)))
  (gi_MOST_GROUPS:PySem.W.nsIn K mainGlobals "MOST_GROUPS"=some (some (.int 4 t_MOST_GROUPS)))
  : ∃ fd:FuncData,(∀ (s:Shared) (v:Value),BindsTo s fd ⟨[v],[]⟩ [("_law_script",v)])/\∀ base:Heap,K.In base->base.Ns mainGlobals mg->FnOk l.prog w K mg base CX0 13 fa fd ["_law_script"] (sp_law K):=by
 have e:=hfa.symm.trans (Zq X G g_d7);cases e;have T:Txt K mg ⟨a_ba,d_ba,a_ae,d_ae,a_ac,d_ac,a_b9,d_b9,a_c9,d_c9,a_d6,d_d6,a_d2,d_d2,a_bb,d_bb,a_cd,d_cd,a_c8,d_c8,a_a4,d_a4,a_b1,d_b1,a_aa,d_aa,a_a0,d_a0,a_a1,d_a1,a_b8,d_b8,a_b2,d_b2,a_a2,d_a2,a_cc,d_cc,a_ca,d_ca,a_c7,d_c7,a_b7,d_b7,a_a6,d_a6,a_a9,d_a9,a_a8,d_a8,a_a7,d_a7,a_a5,d_a5,a_af,d_af,a_ad,d_ad,a_ab,d_ab,a_bf,d_bf,a_d1,d_d1,a_d4,d_d4,a_d0,d_d0,a_c1,d_c1,a_c5,d_c5,a_b3,d_b3,a_c3,d_c3,a_c2,d_c2,a_c4,d_c4,a_d3,d_d3,a_c6,d_c6,a_c0,d_c0,a_b4,d_b4,a_d5,d_d5,a_bc,d_bc,a_ce,d_ce,a_b0,d_b0,a_b5,d_b5,a_cf,d_cf,a_b6,d_b6,a_bd,d_bd,a_be,d_be,a_a3,d_a3,fa,PySem.W.fnOf "law" "law" (K6 s_d7) (J5 s_d7) (A5 s_d7) .none kV_law dc_law pm_law an_law cd_law ct_law,k_NOUGHT,k_KINDS,k_HOLD_KINDS⟩:=⟨B,Zq X G B.g_ba,Zq X G B.g_ae,Zq X G B.g_ac,Zq X G B.g_b9,Zq X G B.g_c9,Zq X G B.g_d6,Zq X G B.g_d2,Zq X G B.g_bb,Zq X G B.g_cd,Zq X G B.g_c8,Zq X G B.g_a4,Zq X G B.g_b1,Zq X G B.g_aa,Zq X G B.g_a0,Zq X G B.g_a1,Zq X G B.g_b8,Zq X G B.g_b2,Zq X G B.g_a2,Zq X G B.g_cc,Zq X G B.g_ca,Zq X G B.g_c7,Zq X G B.g_b7,Zq X G B.g_a6,Zq X G B.g_a9,Zq X G B.g_a8,Zq X G B.g_a7,Zq X G B.g_a5,Zq X G B.g_af,Zq X G B.g_ad,Zq X G B.g_ab,Zq X G B.g_bf,Zq X G B.g_d1,Zq X G B.g_d4,Zq X G B.g_d0,Zq X G B.g_c1,Zq X G B.g_c5,Zq X G B.g_b3,Zq X G B.g_c3,Zq X G B.g_c2,Zq X G B.g_c4,Zq X G B.g_d3,Zq X G B.g_c6,Zq X G B.g_c0,Zq X G B.g_b4,Zq X G B.g_d5,Zq X G B.g_bc,Zq X G B.g_ce,Zq X G B.g_b0,Zq X G B.g_b5,Zq X G B.g_cf,Zq X G B.g_b6,Zq X G B.g_bd,Zq X G B.g_be,Zq X G B.g_a3,B9r (st:=s_d7) l_law c_law k_law,Zq X G g_d7,Zq X G B.gc_NOUGHT,Zq X G B.gc_KINDS,Zq X G B.gc_HOLD_KINDS,PySem.W.mg_none_of X G B.z_abs,PySem.W.mg_none_of X G B.z_all,PySem.W.mg_none_of X G B.z_bool,PySem.W.mg_none_of X G B.z_enumerate,PySem.W.mg_none_of X G B.z_int,PySem.W.mg_none_of X G B.z_isinstance,PySem.W.mg_none_of X G B.z_len,PySem.W.mg_none_of X G B.z_list,PySem.W.mg_none_of X G B.z_max,PySem.W.mg_none_of X G B.z_min,PySem.W.mg_none_of X G B.z_range,PySem.W.mg_none_of X G B.z_str,PySem.W.mg_none_of X G B.z_tuple,PySem.W.mg_none_of X G B.z_zip,⟨fun H=>.tup ⟨.inr ⟨_,its_NOUGHT,n_NOUGHT,lq_NOUGHT,rfl,rfl,by rw [vq_NOUGHT]; show 2<=sizeLine; decide,by rw [vq_NOUGHT]; exact .cons ⟨_,rfl⟩ (.cons ⟨_,rfl⟩ .nil)⟩,.inr L2.C5s⟩ (.cons (.int _) (.cons (.int _) .nil))⟩,⟨fun H=>.tup ⟨.inr ⟨_,its_KINDS,n_KINDS,lq_KINDS,rfl,rfl,by rw [vq_KINDS]; show 2<=sizeLine; decide,by rw [vq_KINDS]; exact .cons ⟨_,rfl⟩ (.cons ⟨_,rfl⟩ .nil)⟩,.inr L2.C5r⟩ (.cons (.str _) (.cons (.str _) .nil))⟩,⟨fun H=>.tup ⟨.inr ⟨_,its_HOLD_KINDS,n_HOLD_KINDS,lq_HOLD_KINDS,rfl,rfl,by rw [vq_HOLD_KINDS]; show 3<=sizeLine; decide,by rw [vq_HOLD_KINDS]; exact .cons ⟨_,rfl⟩ (.cons ⟨_,rfl⟩ (.cons ⟨_,rfl⟩ .nil))⟩,.inr L2.nsi3⟩ (.cons (.str _) (.cons (.str _) (.cons (.str _) .nil)))⟩,⟨_,Zq X G gi_LONGEST_NAME⟩,⟨_,Zq X G gi_MOST_CORNERS⟩,⟨_,Zq X G gi_MOST_WORKS⟩,⟨_,Zq X G gi_MOST_WAITS⟩,⟨_,Zq X G gi_MOST_HOLDS⟩,⟨_,Zq X G gi_MOST_GROUPS⟩⟩;exact ⟨_,fun s v=>.of_eq rfl,fun base _ _=>C5d T⟩
theorem walk {l:PySem.W.OpenLaw} {q:Program} {loose:List Str} {XP:(Str->Option Value)->Heap->Prop} {YP:World->Heap->Prop} {d:DefRec} {K:Params->PySem.W.Frag} (hn:l.most=some 63) (hdf:d.params.defaults=[])
  (hY:∀ (w:World) (h:Heap),YP w h->(K w.params).In h)
  (F:∀ (w:World) (mg:Str->Option Value) (fa:Addr) (h:Heap),(K w.params).In h->h.Ns mainGlobals mg->mg d.name=some (.ref fa) ->
   ∃ fd:FuncData,(∀ (s:Shared) (u:Value),BindsTo s fd ⟨[u],[]⟩ [("_law_script",u)])/\∀ base:Heap,(K w.params).In base->base.Ns mainGlobals mg->FnOk l.prog w (K w.params) mg base CX0 13 fa fd ["_law_script"] (sp_law (K w.params))) :
  PySem.W.WalkO q loose XP YP l.row.toRowW d [] (fun f vs=>PySem.call f vs) :=
 L2.B93 (n:=63) (k:=13) (x:="_law_script") (CX:=fun _=>CX0) (sp:=fun w=>sp_law (K w.params)) hn (by decide) hdf ⟨rfl,rfl,by decide,by decide⟩ hY F (fun _ _ a ns hl _ hS=>⟨a,ns,rfl,hS,hl,fun _=>rfl⟩) fun _ _ _ _ _ z=>z
end Prf
open PySem PySem.W PyProof.Rows
set_option maxRecDepth 100000 in
set_option maxHeartbeats 0 in
theorem PySem.Challenge.cw_hurryprice_k10_nets_let_by_holds : PySem.Challenge.rw_hurryprice_k10_nets_let_by.Holds := by
 refine holds_law Prf.said fun ws=>?_;refine holds_open (q:=Prf.qq) (loose:=[]) (Xt:=Prf.xt) (XP:=XL Prf.qq []) (Yf:=Prf.hh.obs)
  (Ya:=Prf.hh.val) (YP:=Prf.hh.says) (N:=5040) Prf.left Prf.hh.of Prf.hh.keeps
  (fun s e=>xl_of s (Bool.and_eq_true_iff.mp e).1) XL.keeps
  (by rfl) (by rfl) (by rfl) (fun s e=>recFacts_of (Bool.and_eq_true_iff.mp e).2)
  (by rfl) ws (by decide +kernel)
  ⟨rfl,rfl,rfl,rfl,rfl,by decide +kernel⟩ ?hw ?hc
 case hw=>w_witness2
 refine Prf.walk (l:=PySem.Challenge.rw_hurryprice_k10_nets_let_by) (K:=Prf.kk) rfl rfl (fun w h Y=>PySem.W.kIn_of Y) ?F;case F =>
  intro w mg fa h KX G hmg
  k_fill
  refine' Prf.all_mk KX G hmg ⟨?g_ba,?F_ba,?g_ae,?F_ae,?g_ac,?F_ac,?g_b9,?F_b9,?g_c9,?F_c9,?g_d6,?F_d6,?g_d2,?F_d2,?g_bb,?F_bb,?g_cd,?F_cd,?g_c8,?F_c8,?g_a4,?F_a4,?g_b1,?F_b1,?g_aa,?F_aa,?g_a0,?F_a0,?g_a1,?F_a1,?g_b8,?F_b8,?g_b2,?F_b2,?g_a2,?F_a2,?g_cc,?F_cc,?g_ca,?F_ca,?g_c7,?F_c7,?g_b7,?F_b7,?g_a6,?F_a6,?g_a9,?F_a9,?g_a8,?F_a8,?g_a7,?F_a7,?g_a5,?F_a5,?g_af,?F_af,?g_ad,?F_ad,?g_ab,?F_ab,?g_bf,?F_bf,?g_d1,?F_d1,?g_d4,?F_d4,?g_d0,?F_d0,?g_c1,?F_c1,?g_c5,?F_c5,?g_b3,?F_b3,?g_c3,?F_c3,?g_c2,?F_c2,?g_c4,?F_c4,?g_d3,?F_d3,?g_c6,?F_c6,?g_c0,?F_c0,?g_b4,?F_b4,?g_d5,?F_d5,?g_bc,?F_bc,?g_ce,?F_ce,?g_b0,?F_b0,?g_b5,?F_b5,?g_cf,?F_cf,?g_b6,?F_b6,?g_bd,?F_bd,?g_be,?F_be,?g_a3,?F_a3,?gc_NOUGHT,?gc_KINDS,?gc_HOLD_KINDS,?z_abs,?z_all,?z_bool,?z_enumerate,?z_int,?z_isinstance,?z_len,?z_list,?z_max,?z_min,?z_range,?z_str,?z_tuple,?z_zip⟩ ?g_d7 ?l_law ?c_law ?k_law ?lq_NOUGHT ?vq_NOUGHT ?lq_KINDS ?vq_KINDS ?lq_HOLD_KINDS ?vq_HOLD_KINDS ?gi_LONGEST_NAME ?gi_MOST_CORNERS ?gi_MOST_WORKS ?gi_MOST_WAITS ?gi_MOST_HOLDS ?gi_MOST_GROUPS
  (case g_ba | F_ba | g_ae | F_ae | g_ac | F_ac | g_b9 | F_b9 | g_c9 | F_c9 | g_d6 | F_d6 | g_d2 | F_d2 | g_bb | F_bb | g_cd | F_cd | g_c8 | F_c8 | g_a4 | F_a4 | g_b1 | F_b1 | g_aa | F_aa | g_a0 | F_a0 | g_a1 | F_a1 | g_b8 | F_b8 | g_b2 | F_b2 | g_a2 | F_a2 | g_cc | F_cc | g_ca | F_ca | g_c7 | F_c7 | g_b7 | F_b7 | g_a6 | F_a6 | g_a9 | F_a9 | g_a8 | F_a8 | g_a7 | F_a7 | g_a5 | F_a5 | g_af | F_af | g_ad | F_ad | g_ab | F_ab | g_bf | F_bf | g_d1 | F_d1 | g_d4 | F_d4 | g_d0 | F_d0 | g_c1 | F_c1 | g_c5 | F_c5 | g_b3 | F_b3 | g_c3 | F_c3 | g_c2 | F_c2 | g_c4 | F_c4 | g_d3 | F_d3 | g_c6 | F_c6 | g_c0 | F_c0 | g_b4 | F_b4 | g_d5 | F_d5 | g_bc | F_bc | g_ce | F_ce | g_b0 | F_b0 | g_b5 | F_b5 | g_cf | F_cf | g_b6 | F_b6 | g_bd | F_bd | g_be | F_be | g_a3 | F_a3=>first | (apply L2.B9r <;> k_is) | k_is)
  (case gc_NOUGHT=>k_is)
  (case gc_KINDS=>k_is)
  (case gc_HOLD_KINDS=>k_is)
  (case z_abs=>k_is)
  (case z_all=>k_is)
  (case z_bool=>k_is)
  (case z_enumerate=>k_is)
  (case z_int=>k_is)
  (case z_isinstance=>k_is)
  (case z_len=>k_is)
  (case z_list=>k_is)
  (case z_max=>k_is)
  (case z_min=>k_is)
  (case z_range=>k_is)
  (case z_str=>k_is)
  (case z_tuple=>k_is)
  (case z_zip=>k_is)
  (case g_d7=>k_is)
  (case l_law=>k_is)
  (case c_law=>k_is)
  (case k_law=>k_is)
  (case lq_NOUGHT=>k_is)
  (case vq_NOUGHT=>exact rfl)
  (case lq_KINDS=>k_is)
  (case vq_KINDS=>exact rfl)
  (case lq_HOLD_KINDS=>k_is)
  (case vq_HOLD_KINDS=>exact rfl)
  (case gi_LONGEST_NAME=>k_is)
  (case gi_MOST_CORNERS=>k_is)
  (case gi_MOST_WORKS=>k_is)
  (case gi_MOST_WAITS=>k_is)
  (case gi_MOST_HOLDS=>k_is)
  (case gi_MOST_GROUPS=>k_is)