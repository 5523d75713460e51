
import PyProof.Rows.All
import Wide.All
import OpenK.AllK
import Wide.FinOn
import Lean
import PyProof.EqAt
import PyProof.EqKinds
import PyProof.TupleCall
import PySem.Challenge.RW_hurryprice_k85_stair_texts_refused
set_option Elab.async false
set_option linter.all false
set_option maxRecDepth 100000
set_option maxHeartbeats 4000000
set_option compiler.extract_closed false
theorem Zm {α:Type u} {l:List α} {i:Nat} {a:α} (h:l[i]?=some a):a ∈ l:=List.mem_of_getElem? h
theorem Zg {α:Type u} {l:List α} {i:Nat} (h:i < l.length):l[i]?=some l[i]:=List.getElem?_eq_getElem h
theorem Zs {α:Type u} {l:List α} {i:Nat} {a:α} (h:l[i]?=some a):∃ h:i < l.length,l[i]=a:=List.getElem?_eq_some_iff.mp h
theorem Za {α:Type u} {a:α} {s t:List α} (h:a ∈ s++t):a ∈ s\/a ∈ t:=List.mem_append.mp h
theorem Zi {a:Int} (h:0<=a):∃ n:Nat,a=(n:Int):=Int.eq_ofNat_of_zero_le h
theorem Zo {α:Type u} {β:Type v} {f:α->β} {x:Option α} {b:β} (h:x.map f=some b):∃ a,x=some a/\f a=b:=Option.map_eq_some_iff.mp h
theorem Zn {α:Type u} {a b:α} (h:a ∈ [b]):a=b:=List.mem_singleton.mp h
theorem Zr {α:Type u} {a:α} {l:List α} (y:α) (h:a ∈ l):a ∈ y :: l:=List.mem_cons_of_mem y h
theorem Zu {m n:Nat} (k:Nat) (h:m<=n):m * k<=n * k:=Nat.mul_le_mul_right k h
theorem Zt {α:Type u} {a:α} {as:List α} (bs:List α) (h:a ∈ as):a ∈ as++bs:=List.mem_append_left bs h
theorem Zw {α:Type u} {b:α} (as:List α) {bs:List α} (h:b ∈ bs):b ∈ as++bs:=List.mem_append_right as h
theorem Zj {α:Type u} {a b:α} (h:some a=some b):a=b:=Option.some.inj h
theorem Zp {n m k:Nat} (h:n > 0) (g:m<=k):n ^ m<=n ^ k:=Nat.pow_le_pow_right h g
theorem Zv (n:Nat):n<=n:=Nat.le_refl n
theorem Zx {n m k:Nat} (a:n<=m) (b:m<=k):n<=k:=Nat.le_trans a b
theorem Zy {α:Type u} {a:α} {l:List α}:a ∈ a :: l:=List.mem_cons_self
theorem Zd {p:Prop} [Decidable p] (h:¬p):decide p=false:=decide_eq_false h
theorem Zk {p:Prop} [Decidable p] (h:p):decide p=true:=decide_eq_true h
def Zq:=@PySem.W.mg_of
def Z1:=@PySem.F.plainAttrs_list
def Z2:=@PySem.F.slot_list_append
def Z3:=@PySem.F.type_list_append
theorem Zl {α:Type u} {β:Type v} {as:List α} {f:α->β}:(as.map f).length=as.length:=List.length_map f
theorem Zh {α:Type u} {β:Type v} {f:α->β} {l:List α} {i:Nat}:(l.map f)[i]?=l[i]?.map f:=List.getElem?_map ..
theorem Zc {α:Type u} {β:Type v} {f:α->β} {l k:List α}:(l++k).map f=l.map f++k.map f:=List.map_append ..
theorem Ze {α:Type u} {as bs:List α}:(as++bs).length=as.length + bs.length:=List.length_append ..
abbrev LR:=List (Rat × Rat)
abbrev LP:=List PySem.PyData
namespace L2
open PySem PySem.Spec PyProof.Rows
def J0 (s:Stmt):Arguments:=match s with
 | .FunctionDef _ a _ _ _ _ _ _ _ _=>a
 | _=>{ posonlyargs:=[],args:=[],vararg:=none,kwonlyargs:=[],kw_defaults:=[],kwarg:=none,defaults:=[] }
def F2 (s:Stmt):List Stmt:=match s with
 | .FunctionDef _ _ b _ _ _ _ _ _ _=>b
 | _=>[]
def A7 (s:Stmt):Scope:=match s with
 | .FunctionDef _ _ _ _ _ _ sc _ _ _=>sc
 | _=>{ kind:=.function,names:=[],isGenerator:=false,isCoroutine:=false }
def C9p:Stmt->Nat->Stmt
 | .ClassDef _ _ _ body _ _ _ _ _ _ _,n=>body.getD n (.Pass ⟨0,0,0,0⟩)
 | s,_=>s
open PySem.W
def T4 (tb:String->Option Builtin) (p:Program) (w:World) (m:Nat) (ann:Option Value):Nat->SharedT->Thread->Option SharedT
 | 0,_,_=>none
 | n + 1,s,t=>match through t with
  | true=>some s
  | false=>match stepOk m ann t with
   | false=>none
   | true=>match stepT (denote tb) p w s t with
    | some x=>T4 tb p w m ann n x.1 x.2
    | none=>none
theorem Z9 {tb:String->Option Builtin} {p:Program} {w:World} {m:Nat} {ann:Option Value}:∀ (n:Nat) (s r:SharedT) (t:Thread),T4 tb p w m ann n s t=some r->topRun tb p w m ann n s.abs t=some r.abs
 | 0,_,_,_,h=>by cases h
 | n + 1,s,r,t,h=>by
  unfold T4 at h;unfold topRun;cases a:through t with
  | true=>rw [a] at h; cases h; rfl
  | false =>
   rw [a] at h;cases b:stepOk m ann t with
   | false=>rw [b] at h; cases h
   | true =>
    rw [b] at h;cases c:stepT (denote tb) p w s t with
    | none=>rw [c] at h; cases h
    | some x =>
     rw [c] at h;rw [stepT_spec (s':=x.1) (t':=x.2) c];exact Z9 n x.1 r x.2 h
def mkT (os:List Obj):Nat->Nat->Nat->BT
 | 0,_,_=>.nil
 | k + 1,a,b=>match os[b]? with
  | some o=>.node o (mkT os k (2 * a) (a + b)) (mkT os k (2 * a) (2 * a + b))
  | none=>.nil
noncomputable def A81 (w:World) (os:OsState):Shared:=⟨boot_heap w.params,Array.mk [],boot_drawn,boot_toks,os⟩
noncomputable def B78 (w:World) (os:OsState):SharedT:=⟨mkT (boot_heap w.params).objs.toList 12 1 0,(boot_heap w.params).objs.size,(boot_heap w.params).life,Array.mk [],boot_drawn,boot_toks,os⟩
theorem B77 (w:World) (os:OsState):(B78 w os).abs=A81 w os:=by kernel_rfl
theorem C4x (w:World) (os:OsState):((A81 w os).heap.isNs mainGlobals && (A81 w os).gens.size == 0)=true:=by kernel_rfl
theorem D1a {p q:Program} {loose:List Str} {Xt:Shared->Bool} {α:Type} {Yf:Shared->α} {Ya:World->α} {N:Nat} (ho:opening p=plainProg p.main.scope.names) (hN:Nat.ble 600 N=true) (hf:∀ s,fenceModules? p s=some s)
  (run:∀ (w:World) (os:OsState),(T4 treeTable p w (boot_heap w.params).objs.size ((boot_heap w.params).nsMap mainGlobals "__annotations__") N (B78 w os) (topStub p)).map
   (fun x=>(staticsOk (importedModules p.main.body) (boot_heap w.params) x.abs.heap && namesBound p x.abs.heap && gensDone x.abs && laidKept (boot_heap w.params) x.abs.heap,openSeen q loose (importedModules p.main.body) Xt true x.abs,Yf x.abs))=some (true,openGood q loose,Ya w)) :
  LeftO p q loose Xt Yf Ya N:=fun w=>by
 obtain ⟨⟨h,gs,d,k,os⟩,e,z⟩:=Zo (boot_open ho hN hf w);obtain ⟨rfl,rfl,rfl,rfl⟩:h=boot_heap w.params/\gs=Array.mk []/\d=boot_drawn/\k=boot_toks:=by simpa using z
 obtain ⟨x,r,v⟩:=Zo (run w os);have r:=Z9 _ _ _ _ r;rw [B77] at r;obtain ⟨v1,v2⟩:=Prod.mk.inj v;obtain ⟨v2,v3⟩:=Prod.mk.inj v2;show ((fencedOpening treeTable p w N).bind (topFrom treeTable p w N)).map _=_;rw [e];show (topFrom treeTable p w N (A81 w os)).map _=_;have t:topFrom treeTable p w N (A81 w os)=some x.abs:=by
  unfold topFrom;rw [C4x];show (topRun treeTable p w (boot_heap w.params).objs.size ((boot_heap w.params).nsMap mainGlobals "__annotations__") N (A81 w os) (topStub p)).bind _=_;rw [r];show (match staticsOk (importedModules p.main.body) (boot_heap w.params) x.abs.heap && namesBound p x.abs.heap && gensDone x.abs && laidKept (boot_heap w.params) x.abs.heap with | true=>some x.abs | false=>none)=_;rw [v1]
 rw [t];show some (openSeen q loose (importedModules p.main.body) Xt true x.abs,Yf x.abs)=_;rw [v2,v3]
noncomputable abbrev ranT (p:Program) (N:Nat) (w:World) (os:OsState):Option SharedT:=T4 treeTable p w (boot_heap w.params).objs.size ((boot_heap w.params).nsMap mainGlobals "__annotations__") N (B78 w os) (topStub p)
theorem C8y {p q:Program} {loose:List Str} {Xt:Shared->Bool} {α:Type} {Yf:Shared->α} {Ya:World->α} {N:Nat} (ho:opening p=plainProg p.main.scope.names) (hN:Nat.ble 600 N=true) (hf:∀ s,fenceModules? p s=some s)
  (a:∀ (w:World) (os:OsState),(ranT p N w os).map (fun x=>staticsOk (importedModules p.main.body) (boot_heap w.params) x.abs.heap && namesBound p x.abs.heap && gensDone x.abs && laidKept (boot_heap w.params) x.abs.heap)=some true)
  (b:∀ (w:World) (os:OsState),(ranT p N w os).map (fun x=>openSeen q loose (importedModules p.main.body) Xt true x.abs)=some (openGood q loose))
  (c:∀ (w:World) (os:OsState),(ranT p N w os).map (fun x=>Yf x.abs)=some (Ya w)):LeftO p q loose Xt Yf Ya N :=
 D1a ho hN hf fun w os=>by
  obtain ⟨x,r,e⟩:=Zo (a w os);have r':T4 treeTable p w (boot_heap w.params).objs.size ((boot_heap w.params).nsMap mainGlobals "__annotations__") N (B78 w os) (topStub p)=some x:=r;have f:openSeen q loose (importedModules p.main.body) Xt true x.abs=openGood q loose:=by have z:=b w os; rw [r] at z; exact Zj z
  have g:Yf x.abs=Ya w:=by have z:=c w os; rw [r] at z; exact Zj z
  rw [r'];show some (_,_,_)=_;rw [e,f,g]
theorem C8x {p q:Program} {loose:List Str} {Xt:Shared->Bool} {α:Type} {Yf:Shared->α} {Ya:World->α} {N:Nat} (ho:opening p=plainProg p.main.scope.names) (hN:Nat.ble 600 N=true) (hf:∀ s,fenceModules? p s=some s)
  (a:∀ (w:World) (os:OsState),(ranT p N w os).map (fun x=>staticsOk (importedModules p.main.body) (boot_heap w.params) x.abs.heap && namesBound p x.abs.heap && gensDone x.abs && laidKept (boot_heap w.params) x.abs.heap)=some true)
  (b:∀ (w:World) (os:OsState),(ranT p N w os).map (fun x=>seen ((recsOf q).map (·.name)) (ownsOf q) [] { heap:=x.abs.heap,drawn:=x.abs.drawn,toks:=x.abs.toks,os:=x.abs.os })=some (expectedOf q))
  (b1:∀ (w:World) (os:OsState),(ranT p N w os).map (fun x=>x.abs.heap.bltView)=some bltViewBooted)
  (k1:∀ (w:World) (os:OsState),(ranT p N w os).map (fun x=>x.abs.heap.keysOk (looseW q loose) ((recsOf q).map (·.name)) ((litsOf q).map (·.1)) ((clssOf q (looseW q loose)).map (·.name)))=some true)
  (k2:∀ (w:World) (os:OsState),(ranT p N w os).map (fun x=>x.abs.heap.accountedOkI (importedModules p.main.body) && x.abs.heap.isNs mainGlobals && x.abs.heap.isNs builtinsNs && tablesOk q x.abs.heap && Xt x.abs && x.abs.gens.size == 0)=some true)
  (b3:∀ (w:World) (os:OsState),(ranT p N w os).map (fun x=>(tabsOk q x.abs,pinSeenD q (drecsOf q) x.abs))=some (true,pinGoodD (drecsOf q)))
  (b5:∀ (w:World) (os:OsState),(ranT p N w os).map (fun x=>(plainSeenE q (looseW q loose) x.abs,plainSeenD q loose x.abs))=some (plainGoodE q (looseW q loose),plainGoodD q loose))
  (b4:∀ (w:World) (os:OsState),(ranT p N w os).map (fun x=>(wideSeen q x.abs,clsSeenW q loose x.abs))=some (wideGood q,clsGoodW q loose))
  (c:∀ (w:World) (os:OsState),(ranT p N w os).map (fun x=>Yf x.abs)=some (Ya w)):LeftO p q loose Xt Yf Ya N :=
 C8y ho hN hf a (fun w os=>by
  obtain ⟨x,r,e⟩:=Zo (b w os);have z1:=b1 w os;have z2:=k1 w os;have z3:=k2 w os;have z4:=b3 w os;have z6:=b4 w os;have z7:=b5 w os;rw [r] at z1 z2 z3 z4 z6 z7 ⊢;have z1:x.abs.heap.bltView=bltViewBooted:=Zj z1;have z2:x.abs.heap.keysOk (looseW q loose) ((recsOf q).map (·.name)) ((litsOf q).map (·.1)) ((clssOf q (looseW q loose)).map (·.name))=true:=Zj z2;have z3:(x.abs.heap.accountedOkI (importedModules p.main.body) && x.abs.heap.isNs mainGlobals && x.abs.heap.isNs builtinsNs && tablesOk q x.abs.heap && Xt x.abs && x.abs.gens.size == 0)=true:=Zj z3;obtain ⟨y1,y2⟩:=Prod.mk.inj (Zj z4);obtain ⟨y3,y4⟩:=Prod.mk.inj (Zj z7);obtain ⟨y5,y6⟩:=Prod.mk.inj (Zj z6);show some (seen ((recsOf q).map (·.name)) (ownsOf q) [] { heap:=x.abs.heap,drawn:=x.abs.drawn,toks:=x.abs.toks,os:=x.abs.os },x.abs.heap.bltView,(x.abs.heap.keysOk (looseW q loose) ((recsOf q).map (·.name)) ((litsOf q).map (·.1)) ((clssOf q (looseW q loose)).map (·.name)) && x.abs.heap.accountedOkI (importedModules p.main.body) && x.abs.heap.isNs mainGlobals && x.abs.heap.isNs builtinsNs && tablesOk q x.abs.heap && Xt x.abs && x.abs.gens.size == 0),tabsOk q x.abs,pinSeenD q (drecsOf q) x.abs,plainSeenE q (looseW q loose) x.abs,plainSeenD q loose x.abs,wideSeen q x.abs,clsSeenW q loose x.abs)=some (expectedOf q,bltViewBooted,true,true,pinGoodD (drecsOf q),plainGoodE q (looseW q loose),plainGoodD q loose,wideGood q,clsGoodW q loose);rw [z1,z2,Bool.true_and,z3,y1,y2,y3,y4,y5,y6];exact congrArg (fun z=>some (z,_)) e) c
end L2
namespace Prf
open PySem L2
def top (i:Nat):Stmt:=PySem.Challenge.pw_hurryprice_k85_stair_texts_refused.main.body.getD i (.Pass ⟨0,0,0,0⟩)
abbrev s_a1:Stmt:=top 6
abbrev s_b6:Stmt:=top 9
abbrev s_a2:Stmt:=top 15
abbrev s_b0:Stmt:=top 16
abbrev s_ae:Stmt:=top 17
abbrev s_a9:Stmt:=top 23
abbrev s_b8:Stmt:=top 24
abbrev s_a6:Stmt:=top 25
abbrev s_b7:Stmt:=top 26
abbrev s_ad:Stmt:=top 27
abbrev s_b5:Stmt:=top 29
abbrev s_aa:Stmt:=top 30
abbrev s_af:Stmt:=top 31
abbrev s_a7:Stmt:=top 32
abbrev s_b1:Stmt:=top 34
abbrev s_bc:Stmt:=top 35
abbrev s_bd:Stmt:=top 36
abbrev s_bb:Stmt:=top 37
abbrev s_ab:Stmt:=top 38
abbrev s_a3:Stmt:=top 39
abbrev s_b3:Stmt:=top 40
abbrev s_a0:Stmt:=top 41
abbrev s_b9:Stmt:=top 42
abbrev s_b4:Stmt:=top 43
abbrev s_a4:Stmt:=top 44
abbrev s_ba:Stmt:=top 45
abbrev s_be:Stmt:=top 46
abbrev s_a5:Stmt:=top 47
abbrev s_a8:Stmt:=top 48
abbrev s_ac:Stmt:=top 49
abbrev s_bf:Stmt:=top 50
abbrev s_b2:Stmt:=top 51
abbrev s_c0:Stmt:=top 52
abbrev s_NoTextinit:Stmt:=C9p (top 3) 0
abbrev cO (n:Str) (a:Tok) (m:Str) (b c:Tok) (l p f:Int) (x y z u v:Value) (g k:Int) (d:Tok):Obj:=⟨.type "code",none,.fields #[.str n a,.str m b,.str "/claim/cut.py" c,.int l 0,.int p 0,.int 0 0,.int 0 0,.int f 0,x,.bool true,.int 181 0,y,.none,z,u,v,.int g 0,.int k 0,.str "/claim/cut.py" d],#[]⟩
abbrev fO (n:Str) (s:Stmt) (m:Str) (t:Tok) (c:Addr):Obj:=⟨.type "function",none,.func (PySem.W.fnOf n n (J0 s) (F2 s) (A7 s) .none .none .none (.str m t) none (.ref c) .none),#[]⟩
abbrev nE (P:Params) (x:Str) (t:Tok) (v:Value):DictEntry:=⟨PyData.keyHash P x,.str x t,v⟩
abbrev s_NoPaperinit:Stmt:=C9p (top 2) 0
noncomputable def kk:Params->PySem.W.Frag:=fun P =>
 (nat_lit 1,⟨(.type "dict"),none,(.dict #[nE P "builtins" 162 (.ref 4),nE P "__main__" 163 (.ref 5)] 2),#[]⟩) ::
 (nat_lit 3,⟨(.type "dict"),none,(.dict #[nE P "__name__" 165 (.str "law_hurryprice_k85_stair_texts_refused" 443),nE P "__doc__" 166 .none,nE P "__package__" 167 .none,nE P "__loader__" 168 (.builtin "__main__.__loader__#opaque"),nE P "__spec__" 169 .none,nE P "__annotations__" 170 (.ref 6),nE P "__builtins__" 171 (.ref 4),nE P "__file__" 173 (.str "/claim/cut.py" 172),nE P "__cached__" 174 .none,nE P "HurryError" 206 (.ref 24),nE P "NoPaper" 231 (.ref 44),nE P "NoText" 256 (.ref 63),nE P "NoRow" 272 (.ref 75),nE P "common_part" 282 (.ref 84),nE P "NOUGHT" 287 (.ref 85),nE P "is_less" 295 (.ref 92),nE P "FIGURES" 299 (.str "0123456789" 298),nE P "MOST_FIGURES" 301 (.int 60 300),nE P "CHUNK" 303 (.int 1000000000000000000 302),nE P "CHUNK_FIGURES" 305 (.int 18 304),nE P "shown_whole" 316 (.ref 99),nE P "whole_in" 322 (.ref 104),nE P "ratio_in" 334 (.ref 111),nE P "ARC_WORDS" 339 (.ref 112),nE P "MOST_STEPS" 343 (.int 10 342),nE P "MOST_ARCS" 345 (.int 100 344),nE P "MOST_NUMBER" 347 (.int 99 346),nE P "number_in" 355 (.ref 119),nE P "step_in" 367 (.ref 126),nE P "carried_in" 377 (.ref 133),nE P "plan_in" 383 (.ref 138),nE P "paper_in" 389 (.ref 143),nE P "bend_in" 406 (.ref 150),nE P "read_none" 417 (.ref 157),nE P "row_told" 430 (.ref 164),nE P "read_stair" 442 (.ref 171),nE P "_law_begun" 453 (.ref 178),nE P "_law_take" 464 (.ref 185),nE P "_law_low" 474 (.ref 192),nE P "_law_same" 484 (.ref 199),nE P "_law_number" 491 (.ref 206),nE P "_law_fraction" 501 (.ref 213),nE P "_law_paper" 513 (.ref 220),nE P "_law_paper_text" 519 (.ref 225),nE P "_law_plan" 530 (.ref 232),nE P "_law_stair" 544 (.ref 239),nE P "_law_plan_text" 550 (.ref 244),nE P "_law_rows" 563 (.ref 251),nE P "_law_odd" 569 (.ref 256),nE P "_law_wrong_row" 579 (.ref 263),nE P "_law_strange" 589 (.ref 270),nE P "_law_spoilt" 601 (.ref 277),nE P "_law_row" 610 (.ref 284),nE P "_law_kinds" 619 (.ref 291),nE P "law" 632 (.ref 298)] 55),#[]⟩) ::
 (nat_lit 23,⟨(.type "dict"),none,(.dict #[nE P "__module__" 196 (.str "hurryprice.errors" 187),nE P "__firstlineno__" 200 (.int 2 199),nE P "__static_attributes__" 201 (.ref 22),nE P "__weakref__" 203 (.ref 25),nE P "__doc__" 204 .none] 3),#[]⟩) ::
 (nat_lit 24,⟨(.type "type"),none,(.cls ⟨"HurryError",[(.type "ValueError")],[(.ref 24),(.type "ValueError"),(.type "Exception"),(.type "BaseException"),(.type "object")],23,"HurryError",true,[],[(.ref 44),(.ref 63),(.ref 75)],false,none,false⟩),#[(some (.ref 15)),none,(some (.str "HurryError" 189)),(some (.str "HurryError" 197)),(some (.builtin "ValueError.__new__")),(some (.bool true))]⟩) ::
 (nat_lit 40,cO "__init__" 219 "NoPaper.__init__" 220 221 6 2 3 (.ref 35) (.ref 36) (.ref 37) (.ref 38) (.ref 39) 224 6 225) ::
 (nat_lit 41,⟨(.type "function"),none,(.func (PySem.W.fnOf "__init__" "NoPaper.__init__" (J0 s_NoPaperinit) (F2 s_NoPaperinit) (A7 s_NoPaperinit) .none .none .none (.str "hurryprice.errors" 187) none (.ref 40) .none)),#[]⟩) ::
 (nat_lit 43,⟨(.type "dict"),none,(.dict #[nE P "__module__" 214 (.str "hurryprice.errors" 187),nE P "__firstlineno__" 218 (.int 4 217),nE P "__init__" 226 (.ref 41),nE P "__static_attributes__" 228 (.ref 42),nE P "__doc__" 229 .none] 2),#[]⟩) ::
 (nat_lit 44,⟨(.type "type"),none,(.cls ⟨"NoPaper",[(.ref 24)],[(.ref 44),(.ref 24),(.type "ValueError"),(.type "Exception"),(.type "BaseException"),(.type "object")],43,"NoPaper",true,[],[],false,none,false⟩),#[(some (.ref 28)),none,(some (.str "NoPaper" 207)),(some (.str "NoPaper" 215)),(some (.builtin "ValueError.__new__")),(some (.bool true))]⟩) ::
 (nat_lit 59,cO "__init__" 244 "NoText.__init__" 245 246 10 2 3 (.ref 54) (.ref 55) (.ref 56) (.ref 57) (.ref 58) 249 10 250) ::
 (nat_lit 60,⟨(.type "function"),none,(.func (PySem.W.fnOf "__init__" "NoText.__init__" (J0 s_NoTextinit) (F2 s_NoTextinit) (A7 s_NoTextinit) .none .none .none (.str "hurryprice.errors" 187) none (.ref 59) .none)),#[]⟩) ::
 (nat_lit 62,⟨(.type "dict"),none,(.dict #[nE P "__module__" 239 (.str "hurryprice.errors" 187),nE P "__firstlineno__" 243 (.int 8 242),nE P "__init__" 251 (.ref 60),nE P "__static_attributes__" 253 (.ref 61),nE P "__doc__" 254 .none] 2),#[]⟩) ::
 (nat_lit 63,⟨(.type "type"),none,(.cls ⟨"NoText",[(.ref 24)],[(.ref 63),(.ref 24),(.type "ValueError"),(.type "Exception"),(.type "BaseException"),(.type "object")],62,"NoText",true,[],[],false,none,false⟩),#[(some (.ref 47)),none,(some (.str "NoText" 232)),(some (.str "NoText" 240)),(some (.builtin "ValueError.__new__")),(some (.bool true))]⟩) ::
 (nat_lit 74,⟨(.type "dict"),none,(.dict #[nE P "__module__" 264 (.str "hurryprice.errors" 187),nE P "__firstlineno__" 268 (.int 12 267),nE P "__static_attributes__" 269 (.ref 73),nE P "__doc__" 270 .none] 2),#[]⟩) ::
 (nat_lit 75,⟨(.type "type"),none,(.cls ⟨"NoRow",[(.ref 24)],[(.ref 75),(.ref 24),(.type "ValueError"),(.type "Exception"),(.type "BaseException"),(.type "object")],74,"NoRow",true,[],[],false,none,false⟩),#[(some (.ref 66)),none,(some (.str "NoRow" 257)),(some (.str "NoRow" 265)),(some (.builtin "ValueError.__new__")),(some (.bool true))]⟩) ::
 (nat_lit 83,cO "common_part" 275 "common_part" 276 277 15 2 3 (.ref 78) (.ref 79) (.ref 80) (.ref 81) (.ref 82) 280 15 281) ::
 (nat_lit 84,fO "common_part" s_a1 "hurryprice.names" 273 83) ::
 (nat_lit 85,⟨(.type "tuple"),none,(.seq #[(.int 0 285),(.int 1 286)] 0),#[]⟩) ::
 (nat_lit 91,cO "is_less" 288 "is_less" 289 290 22 2 3 (.ref 86) (.ref 87) (.ref 88) (.ref 89) (.ref 90) 293 22 294) ::
 (nat_lit 92,fO "is_less" s_b6 "hurryprice.ratios" 283 91) ::
 (nat_lit 98,cO "shown_whole" 306 "shown_whole" 307 308 29 1 3 (.ref 93) (.ref 94) (.ref 95) (.ref 96) (.ref 97) 314 29 315) ::
 (nat_lit 99,fO "shown_whole" s_a2 "hurryprice.nettexts" 296 98) ::
 (nat_lit 103,cO "whole_in" 317 "whole_in" 318 319 38 1 3 (.ref 100) (.ref 101) .none .none (.ref 102) 320 38 321) ::
 (nat_lit 104,fO "whole_in" s_b0 "hurryprice.nettexts" 296 103) ::
 (nat_lit 110,cO "ratio_in" 323 "ratio_in" 324 325 44 1 3 (.ref 105) (.ref 106) (.ref 107) (.ref 108) (.ref 109) 332 44 333) ::
 (nat_lit 111,fO "ratio_in" s_ae "hurryprice.nettexts" 296 110) ::
 (nat_lit 112,⟨(.type "tuple"),none,(.seq #[(.str "start" 335),(.str "end" 336),(.str "wait" 337),(.str "hold" 338)] 0),#[]⟩) ::
 (nat_lit 118,cO "number_in" 348 "number_in" 349 350 58 1 3 (.ref 113) (.ref 114) (.ref 115) (.ref 116) (.ref 117) 353 58 354) ::
 (nat_lit 119,fO "number_in" s_a9 "hurryprice.papertexts" 340 118) ::
 (nat_lit 125,cO "step_in" 356 "step_in" 357 358 61 1 3 (.ref 120) (.ref 121) (.ref 122) (.ref 123) (.ref 124) 365 61 366) ::
 (nat_lit 126,fO "step_in" s_b8 "hurryprice.papertexts" 340 125) ::
 (nat_lit 132,cO "carried_in" 368 "carried_in" 369 370 67 1 3 (.ref 127) (.ref 128) (.ref 129) (.ref 130) (.ref 131) 375 67 376) ::
 (nat_lit 133,fO "carried_in" s_a6 "hurryprice.papertexts" 340 132) ::
 (nat_lit 137,cO "plan_in" 378 "plan_in" 379 380 75 1 3 (.ref 134) (.ref 135) .none .none (.ref 136) 381 75 382) ::
 (nat_lit 138,fO "plan_in" s_b7 "hurryprice.papertexts" 340 137) ::
 (nat_lit 142,cO "paper_in" 384 "paper_in" 385 386 78 1 3 (.ref 139) (.ref 140) .none .none (.ref 141) 387 78 388) ::
 (nat_lit 143,fO "paper_in" s_ad "hurryprice.papertexts" 340 142) ::
 (nat_lit 149,cO "bend_in" 392 "bend_in" 393 394 84 1 3 (.ref 144) (.ref 145) (.ref 146) (.ref 147) (.ref 148) 404 84 405) ::
 (nat_lit 150,fO "bend_in" s_b5 "hurryprice.stairtexts" 390 149) ::
 (nat_lit 156,cO "read_none" 407 "read_none" 408 409 89 1 3 (.ref 151) (.ref 152) (.ref 153) (.ref 154) (.ref 155) 415 89 416) ::
 (nat_lit 157,fO "read_none" s_aa "hurryprice.stairtexts" 390 156) ::
 (nat_lit 163,cO "row_told" 418 "row_told" 419 420 97 3 3 (.ref 158) (.ref 159) (.ref 160) (.ref 161) (.ref 162) 428 97 429) ::
 (nat_lit 164,fO "row_told" s_af "hurryprice.stairtexts" 390 163) ::
 (nat_lit 170,cO "read_stair" 431 "read_stair" 432 433 106 1 3 (.ref 165) (.ref 166) (.ref 167) (.ref 168) (.ref 169) 440 106 441) ::
 (nat_lit 171,fO "read_stair" s_a7 "hurryprice.stairtexts" 390 170) ::
 (nat_lit 177,cO "_law_begun" 445 "_law_begun" 446 447 122 2 3 (.ref 172) (.ref 173) (.ref 174) (.ref 175) (.ref 176) 451 122 452) ::
 (nat_lit 178,fO "_law_begun" s_b1 "law_hurryprice_k85_stair_texts_refused" 443 177) ::
 (nat_lit 184,cO "_law_take" 454 "_law_take" 455 456 127 2 3 (.ref 179) (.ref 180) (.ref 181) (.ref 182) (.ref 183) 462 127 463) ::
 (nat_lit 185,fO "_law_take" s_bc "law_hurryprice_k85_stair_texts_refused" 443 184) ::
 (nat_lit 191,cO "_law_low" 465 "_law_low" 466 467 138 2 3 (.ref 186) (.ref 187) (.ref 188) (.ref 189) (.ref 190) 472 138 473) ::
 (nat_lit 192,fO "_law_low" s_bd "law_hurryprice_k85_stair_texts_refused" 443 191) ::
 (nat_lit 198,cO "_law_same" 475 "_law_same" 476 477 144 2 3 (.ref 193) (.ref 194) (.ref 195) (.ref 196) (.ref 197) 482 144 483) ::
 (nat_lit 199,fO "_law_same" s_bb "law_hurryprice_k85_stair_texts_refused" 443 198) ::
 (nat_lit 205,cO "_law_number" 485 "_law_number" 486 487 161 1 3 (.ref 200) (.ref 201) (.ref 202) (.ref 203) (.ref 204) 489 161 490) ::
 (nat_lit 206,fO "_law_number" s_ab "law_hurryprice_k85_stair_texts_refused" 443 205) ::
 (nat_lit 212,cO "_law_fraction" 492 "_law_fraction" 493 494 165 2 3 (.ref 207) (.ref 208) (.ref 209) (.ref 210) (.ref 211) 499 165 500) ::
 (nat_lit 213,fO "_law_fraction" s_a3 "law_hurryprice_k85_stair_texts_refused" 443 212) ::
 (nat_lit 219,cO "_law_paper" 502 "_law_paper" 503 504 171 2 3 (.ref 214) (.ref 215) (.ref 216) (.ref 217) (.ref 218) 511 171 512) ::
 (nat_lit 220,fO "_law_paper" s_b3 "law_hurryprice_k85_stair_texts_refused" 443 219) ::
 (nat_lit 224,cO "_law_paper_text" 514 "_law_paper_text" 515 516 178 1 3 (.ref 221) (.ref 222) .none .none (.ref 223) 517 178 518) ::
 (nat_lit 225,fO "_law_paper_text" s_a0 "law_hurryprice_k85_stair_texts_refused" 443 224) ::
 (nat_lit 231,cO "_law_plan" 520 "_law_plan" 521 522 182 2 3 (.ref 226) (.ref 227) (.ref 228) (.ref 229) (.ref 230) 528 182 529) ::
 (nat_lit 232,fO "_law_plan" s_b9 "law_hurryprice_k85_stair_texts_refused" 443 231) ::
 (nat_lit 238,cO "_law_stair" 531 "_law_stair" 532 533 190 1 3 (.ref 233) (.ref 234) (.ref 235) (.ref 236) (.ref 237) 542 190 543) ::
 (nat_lit 239,fO "_law_stair" s_b4 "law_hurryprice_k85_stair_texts_refused" 443 238) ::
 (nat_lit 243,cO "_law_plan_text" 545 "_law_plan_text" 546 547 207 1 3 (.ref 240) (.ref 241) .none .none (.ref 242) 548 207 549) ::
 (nat_lit 244,fO "_law_plan_text" s_a4 "law_hurryprice_k85_stair_texts_refused" 443 243) ::
 (nat_lit 250,cO "_law_rows" 551 "_law_rows" 552 553 209 1 3 (.ref 245) (.ref 246) (.ref 247) (.ref 248) (.ref 249) 561 209 562) ::
 (nat_lit 251,fO "_law_rows" s_ba "law_hurryprice_k85_stair_texts_refused" 443 250) ::
 (nat_lit 255,cO "_law_odd" 564 "_law_odd" 565 566 220 1 3 (.ref 252) (.ref 253) .none .none (.ref 254) 567 220 568) ::
 (nat_lit 256,fO "_law_odd" s_be "law_hurryprice_k85_stair_texts_refused" 443 255) ::
 (nat_lit 262,cO "_law_wrong_row" 570 "_law_wrong_row" 571 572 229 3 3 (.ref 257) (.ref 258) (.ref 259) (.ref 260) (.ref 261) 577 229 578) ::
 (nat_lit 263,fO "_law_wrong_row" s_a5 "law_hurryprice_k85_stair_texts_refused" 443 262) ::
 (nat_lit 269,cO "_law_strange" 580 "_law_strange" 581 582 238 2 3 (.ref 264) (.ref 265) (.ref 266) (.ref 267) (.ref 268) 587 238 588) ::
 (nat_lit 270,fO "_law_strange" s_a8 "law_hurryprice_k85_stair_texts_refused" 443 269) ::
 (nat_lit 276,cO "_law_spoilt" 590 "_law_spoilt" 591 592 242 2 3 (.ref 271) (.ref 272) (.ref 273) (.ref 274) (.ref 275) 599 242 600) ::
 (nat_lit 277,fO "_law_spoilt" s_ac "law_hurryprice_k85_stair_texts_refused" 443 276) ::
 (nat_lit 283,cO "_law_row" 602 "_law_row" 603 604 264 1 3 (.ref 278) (.ref 279) (.ref 280) (.ref 281) (.ref 282) 608 264 609) ::
 (nat_lit 284,fO "_law_row" s_bf "law_hurryprice_k85_stair_texts_refused" 443 283) ::
 (nat_lit 290,cO "_law_kinds" 611 "_law_kinds" 612 613 271 1 3 (.ref 285) (.ref 286) (.ref 287) (.ref 288) (.ref 289) 617 271 618) ::
 (nat_lit 291,fO "_law_kinds" s_b2 "law_hurryprice_k85_stair_texts_refused" 443 290) ::
 (nat_lit 297,cO "law" 620 "law" 621 622 278 1 3 (.ref 292) (.ref 293) (.ref 294) (.ref 295) (.ref 296) 630 278 631) ::
 (nat_lit 298,fO "law" s_c0 "law_hurryprice_k85_stair_texts_refused" 443 297) :: []
noncomputable def qq:Program:=PySem.W.view PySem.Challenge.pw_hurryprice_k85_stair_texts_refused [1,2,3,4,6,8,9,11,12,13,14,15,16,17,18,20,21,22,23,24,25,26,27,29,30,31,32,34,35,36,37,38,39,40,41,42,43,44,45,46,47,48,49,50,51,52]
noncomputable def aa:List Nat:=[1,3,23,24,40,41,43,44,59,60,62,63,74,75,83,84,85,91,92,98,99,103,104,110,111,112,118,119,125,126,132,133,137,138,142,143,149,150,156,157,163,164,170,171,177,178,184,185,191,192,198,199,205,206,212,213,219,220,224,225,231,232,238,239,243,244,250,251,255,256,262,263,269,270,276,277,283,284,290,291,297,298]
theorem D1i:∀ P:Params,aa=(kk P).map (·.1):=fun P=>by kernel_rfl
noncomputable abbrev hh:PySem.W.Hook:=PySem.W.kHook kk aa D1i
noncomputable abbrev xt (s:Shared):Bool:=PySem.W.xlAt qq [] s && PySem.W.recOk (PySem.W.RowW.records PySem.Challenge.rw_hurryprice_k85_stair_texts_refused.row.toRowW) s
theorem run1 (w:World) (os:OsState):(L2.ranT PySem.Challenge.pw_hurryprice_k85_stair_texts_refused 4288 w os).map (fun x=>PySem.W.staticsOk (importedModules PySem.Challenge.pw_hurryprice_k85_stair_texts_refused.main.body) (PySem.W.boot_heap w.params) x.abs.heap && PySem.W.namesBound PySem.Challenge.pw_hurryprice_k85_stair_texts_refused x.abs.heap && PySem.W.gensDone x.abs && PySem.W.laidKept (PySem.W.boot_heap w.params) x.abs.heap)=some true:=by kernel_rfl
open PySem.W PySem.Spec PyProof.Rows
theorem run2 (w:World) (os:OsState):(L2.ranT PySem.Challenge.pw_hurryprice_k85_stair_texts_refused 4288 w os).map (fun x=>seen ((recsOf qq).map (·.name)) (ownsOf qq) [] { heap:=x.abs.heap,drawn:=x.abs.drawn,toks:=x.abs.toks,os:=x.abs.os })=some (expectedOf qq):=by kernel_rfl
theorem run4 (w:World) (os:OsState):(L2.ranT PySem.Challenge.pw_hurryprice_k85_stair_texts_refused 4288 w os).map (fun x=>x.abs.heap.bltView)=some bltViewBooted:=by kernel_rfl
theorem run5 (w:World) (os:OsState):(L2.ranT PySem.Challenge.pw_hurryprice_k85_stair_texts_refused 4288 w os).map (fun x=>x.abs.heap.keysOk (looseW qq []) ((recsOf qq).map (·.name)) ((litsOf qq).map (·.1)) ((clssOf qq (looseW qq [])).map (·.name)))=some true:=by kernel_rfl
theorem run6 (w:World) (os:OsState):(L2.ranT PySem.Challenge.pw_hurryprice_k85_stair_texts_refused 4288 w os).map (fun x=>x.abs.heap.accountedOkI (importedModules PySem.Challenge.pw_hurryprice_k85_stair_texts_refused.main.body) && x.abs.heap.isNs mainGlobals && x.abs.heap.isNs builtinsNs && tablesOk qq x.abs.heap && xt x.abs && x.abs.gens.size == 0)=some true:=by kernel_rfl
theorem run7 (w:World) (os:OsState):(L2.ranT PySem.Challenge.pw_hurryprice_k85_stair_texts_refused 4288 w os).map (fun x=>(tabsOk qq x.abs,pinSeenD qq (drecsOf qq) x.abs))=some (true,pinGoodD (drecsOf qq)):=by kernel_rfl
theorem run9 (w:World) (os:OsState):(L2.ranT PySem.Challenge.pw_hurryprice_k85_stair_texts_refused 4288 w os).map (fun x=>(plainSeenE qq (looseW qq []) x.abs,plainSeenD qq [] x.abs))=some (plainGoodE qq (looseW qq []),plainGoodD qq []):=by kernel_rfl
theorem run8 (w:World) (os:OsState):(L2.ranT PySem.Challenge.pw_hurryprice_k85_stair_texts_refused 4288 w os).map (fun x=>(wideSeen qq x.abs,clsSeenW qq [] x.abs))=some (wideGood qq,clsGoodW qq []):=by kernel_rfl
theorem run3 (w:World) (os:OsState):(L2.ranT PySem.Challenge.pw_hurryprice_k85_stair_texts_refused 4288 w os).map (fun x=>hh.obs x.abs)=some (hh.val w):=by kernel_rfl
theorem left:PySem.W.LeftO PySem.Challenge.pw_hurryprice_k85_stair_texts_refused qq [] xt hh.obs hh.val 4288:=L2.C8x (by kernel_rfl) (by decide) (fun s=>by kernel_rfl) run1 run2 run4 run5 run6 run7 run9 run8 run3
theorem said:PySem.Challenge.rw_hurryprice_k85_stair_texts_refused.wellSaid=true:=by
 unfold PySem.W.OpenLaw.wellSaid
 repeat' with_reducible refine Bool.and_eq_true_iff.mpr ⟨?_,?_⟩
 all_goals decide +kernel
end Prf
namespace L2
open PySem PySem.Spec PyProof.Rows
abbrev Key:=Sum Int Str
def A8x:Key->Value->Bool
 | .inl k,v=>Value.isInt k v
 | .inr x,v=>Value.isStrOf x v
def keyH (w:World):Key->Int
 | .inl k=>hashInt k
 | .inr x=>hashStr w x
theorem E9:∀ {k:Key} {v:Value},A8x k v=true->(∃ i t,k=Sum.inl i/\v=Value.int i t)\/(∃ x t,k=Sum.inr x/\v=Value.str x t)
 | .inl i,v,h=>by
  obtain ⟨t,e⟩:=Value.isInt_shape (k:=i) (v:=v) h;exact .inl ⟨i,t,rfl,e⟩
 | .inr x,v,h=>by
  obtain ⟨t,e⟩:=Value.isStrOf_shape (x:=x) (v:=v) h;exact .inr ⟨x,t,rfl,e⟩
theorem B4s (i:Int) (t:Tok):A8x (.inl i) (.int i t)=true:=by simp [A8x,Value.isInt]
theorem B4r (x:Str) (t:Tok):A8x (.inr x) (.str x t)=true:=by simp [A8x,Value.isStrOf]
theorem C85 (a b:Int):decide ((Sum.inl a:Key)=Sum.inl b)=(a == b):=by
 by_cases e:a=b
 ·subst e; simp
 ·have h:¬ (Sum.inl a:Key)=Sum.inl b:=fun q=>e (Sum.inl.inj q);rw [Zd h];exact (beq_eq_false_iff_ne.mpr e).symm
theorem C82 (a b:Str):decide ((Sum.inr a:Key)=Sum.inr b)=decide (a=b):=by
 by_cases e:a=b
 ·subst e; simp
 ·have h:¬ (Sum.inr a:Key)=Sum.inr b:=fun q=>e (Sum.inr.inj q);rw [Zd h,Zd e]
theorem C84 (a:Int) (b:Str):decide ((Sum.inl a:Key)=Sum.inr b)=false:=Zd (fun q=>nomatch q)
theorem C83 (a:Str) (b:Int):decide ((Sum.inr a:Key)=Sum.inl b)=false:=Zd (fun q=>nomatch q)
def I0 (prog:Program) (w:World):PySem.KeyKind prog w Key where
 is:=A8x
 hash:=keyH w
 inj:=fun v a b ha hb=>by
  rcases E9 ha with ⟨i,t,rfl,rfl⟩ | ⟨x,t,rfl,rfl⟩
  ·rcases E9 hb with ⟨j,u,rfl,e⟩ | ⟨y,u,rfl,e⟩
   ·injection e with e1 _; rw [e1]
   ·exact nomatch e
  ·rcases E9 hb with ⟨j,u,rfl,e⟩ | ⟨y,u,rfl,e⟩
   ·exact nomatch e
   ·injection e with e1 _; rw [e1]
 byValue:=fun k v h=>by
  rcases E9 h with ⟨i,t,rfl,rfl⟩ | ⟨x,t,rfl,rfl⟩ <;> rfl
 pyHash:=fun hv h=>by
  rcases E9 hv with ⟨i,t,rfl,rfl⟩ | ⟨x,t,rfl,rfl⟩
  ·exact wpAny_pyHash_int h
  ·exact wpAny_pyHash_str h
 eqBool:=fun hu hv h=>by
  rcases E9 hu with ⟨i,t,rfl,rfl⟩ | ⟨x,t,rfl,rfl⟩
  ·rcases E9 hv with ⟨j,u,rfl,rfl⟩ | ⟨y,u,rfl,rfl⟩
   ·rw [C85] at h; exact wpAny_eqBool_int h
   ·rw [C84] at h; exact SeqAt.EqAt.int_str i t y u _ _ _ _ h
  ·rcases E9 hv with ⟨j,u,rfl,rfl⟩ | ⟨y,u,rfl,rfl⟩
   ·rw [C83] at h; exact SeqAt.EqAt.str_int x t j u _ _ _ _ h
   ·rw [C82] at h; exact wpAny_eqBool_str h
 «strs»:=fun k x t v h=>by
  rcases E9 h with ⟨i,u,rfl,e⟩ | ⟨y,u,rfl,e⟩
  ·exact nomatch e
  ·injection e with e1 _
   subst e1;cases v <;> rfl
theorem A4z (prog:Program) (w:World) (i:Int) (t:Tok):(I0 prog w).is (.inl i) (.int i t)=true:=B4s i t
theorem A4y (prog:Program) (w:World) (x:Str) (t:Tok):(I0 prog w).is (.inr x) (.str x t)=true:=B4r x t
end L2
namespace L2
open PySem PySem.Spec PyProof.Rows
inductive V where
 | non | bl (b:Bool) | int (i:Int) | str (x:Str) | byt (b:Array UInt8) | flt (b:UInt64) | ref (a:Addr) | ty (n:String)
 deriving DecidableEq
def RelV:V->Value->Prop
 | .non,u=>u=Value.none
 | .bl b,u=>u=Value.bool b
 | .int i,u=>∃ t,u=Value.int i t
 | .str x,u=>∃ t,u=Value.str x t
 | .byt b,u=>∃ t,u=Value.bytes b t
 | .flt b,u=>∃ t,u=Value.float b t
 | .ref a,u=>u=Value.ref a
 | .ty n,u=>u=Value.type n
abbrev Vals:List V->List Value->Prop:=Paired RelV
theorem Vals.length {xs:List V} {us:List Value} (r:Vals xs us):xs.length=us.length:=Paired.length r
theorem Vals.get:∀ {xs:List V} {us:List Value} {i:Nat} {x:V},Vals xs us->xs[i]?=some x->∃ u,us[i]?=some u/\RelV x u
 | _,_,_,_,.nil,e=>by simp at e
 | _,_,0,_,.cons r _,e=>by simp at e; subst e; exact ⟨_,rfl,r⟩
 | _,_,i + 1,x,.cons _ t,e=>by
  obtain ⟨u,h1,h2⟩:=Vals.get (i:=i) (x:=x) t (by simpa using e);exact ⟨u,by simpa using h1,h2⟩
theorem Vals.set {x:V} {u:Value} (r:RelV x u):∀ {xs:List V} {us:List Value} (i:Nat),Vals xs us->Vals (xs.set i x) (us.set i u)
 | _,_,_,.nil=>.nil
 | _,_,0,.cons _ t=>.cons r t
 | _,_,i + 1,.cons q t=>.cons q (Vals.set r i t)
theorem Vals.append:∀ {xs ys:List V} {us ws:List Value},Vals xs us->Vals ys ws->Vals (xs++ys) (us++ws)
 | _,_,_,_,.nil,s=>s
 | _,_,_,_,.cons r t,s=>.cons r (Vals.append t s)
theorem Vals.take:∀ {xs:List V} {us:List Value} (n:Nat),Vals xs us->Vals (xs.take n) (us.take n)
 | _,_,0,_=>.nil
 | _,_,_ + 1,.nil=>.nil
 | _,_,n + 1,.cons r t=>.cons r (Vals.take n t)
theorem Vals.drop:∀ {xs:List V} {us:List Value} (n:Nat),Vals xs us->Vals (xs.drop n) (us.drop n)
 | _,_,0,r=>r
 | _,_,_ + 1,.nil=>.nil
 | _,_,n + 1,.cons _ t=>Vals.drop n t
theorem Vals.none_of:∀ {xs:List V} {us:List Value} {i:Nat},Vals xs us->xs[i]?=none->us[i]?=none:=fun {xs us i} r e=>by
 have h1:=r.length;have h2:xs.length<=i:=List.getElem?_eq_none_iff.mp e;exact List.getElem?_eq_none_iff.mpr (by omega)
def RelO:Option V->Option Value->Prop
 | some v,some u=>RelV v u
 | none,none=>True
 | _,_=>False
def KV {κ:Type}:List (κ × V)->List (κ × Value)->Prop:=Paired fun (p:κ × V) (q:κ × Value)=>p.1=q.1/\RelV p.2 q.2
def kV:Key->V
 | .inl i=>.int i
 | .inr x=>.str x
inductive HO where
  | lst (xs:List V)
  | tup (xs:List V)
  | dK (kvs:List (Key × V)) | dT (kvs:List (List Key × V))
  | set (S:Int->Bool) (n:Nat)
  | ins (C dx:Addr) (fs:List (Str × V))
  | own (x:Addr)
  | xd (fs:List (Str × V))
  | met (f x:Addr)
  | rng (lo hi:Int)
  | frz (o:Obj) (u:HO)
  | tbl (ps:Array Value)
  | ext (φ:Heap->Prop)
abbrev Hp:=Addr->Option HO
def upd (H:Hp) (a:Addr) (o:HO):Hp:=fun b=>if b=a then some o else H b
theorem B5 {H:Hp} {a:Addr} {o:HO}:upd H a o a=some o:=by unfold upd; rw [if_pos rfl]
theorem B4 {H:Hp} {a b:Addr} {o:HO} (h:b≠a):upd H a o b=H b:=by unfold upd; rw [if_neg h]
theorem C1x {H:Hp} {a:Addr} {o u:HO}:upd (upd H a o) a u=upd H a u:=by
 funext b; unfold upd; split <;> rfl
theorem C7 {H:Hp} {a b:Addr} {o:HO} (h:H a=some o) (h':H b=none):a≠b:=by
 intro e; subst e; rw [h] at h'; cases h'
section
variable (P:Program) (w:World)
def ObjOk (H:Hp) (h:Heap) (a:Addr):HO->Prop
 | .lst xs=>xs.length<=sizeLine/\∃ (its:List Value) (n:Nat),Vals xs its/\h.get? a=some { cls:=.type "list",data:=.seq its.toArray n }
 | .tup xs=>xs.length<=sizeLine/\∃ its:List Value,Vals xs its/\IsTup h a its.toArray
 | .dK kvs=>kvs.length<=sizeLine/\(a == sysModules)=false/\∃ vs,KV kvs vs/\h.DictOf (I0 P w) a vs
 | .dT kvs=>kvs.length<=sizeLine/\(a == sysModules)=false/\∃ xs:List (List Key × Addr × Value),
   Paired (fun (p:List Key × V) (q:List Key × Addr × Value)=>p.1=q.1/\H q.2.1=some (.tup (p.1.map kV))/\RelV p.2 q.2.2) kvs xs /\
   ∃ o es ep,h.get? a=some o/\o.ExactDict/\o.data=.dict es ep/\es.toList=xs.map (entryOfKey (tupleKind (I0 P w)))/\(xs.map (·.1)).Nodup
 | .set S n=>h.SetOf (intKind P w) a S n
 | .ins C dx fs=>H dx=some (.own a)/\fs.length<=1000/\dx≠a/\h.get? a=some (PySem.W.instObj C dx) /\
   ∃ mA,h.Ns1 dx mA/\(∀ f,RelO (fs.lookup f) (mA f))/\PySem.Within mA (fs.map (·.1))
 | .own _=>∃ o,h.get? a=some o
 | .xd fs=>∃ mA,h.Ns1 a mA/\∀ f,RelO (fs.lookup f) (mA f)
 | .rng lo hi=>∃ t u v,h.get? a=some { cls:=.type "range",data:=.fields #[.int lo t,.int hi u,.int 1 v] }
 | .frz o u=>h.get? a=some o/\ObjOk H h a u
 | .tbl ps=>h.get? a=some { cls:=.none,data:=.fields ps }
 | .met f x=>h.get? a=some (PySem.W.methodObj (.ref f) (.ref x))
 | .ext φ=>φ h/\(∃ o,h.get? a=some o)/\∀ h1 h2:Heap,φ h1->(∀ o,h1.get? a=some o->h2.get? a=some o)->φ h2
def HOk (H:Hp) (h:Heap):Prop:=∀ a o,H a=some o->ObjOk P w H h a o
end
section
variable {P:Program} {w:World} {H H':Hp} {h h':Heap} {a:Addr} {o:HO}
theorem ObjOk.lt (x:ObjOk P w H h a o):a < h.objs.size:=by
 cases o with
 | lst xs=>obtain ⟨_,_,_,_,e⟩:=x; exact Heap.lt_size e
 | tup xs=>obtain ⟨_,_,_,p⟩:=x; exact p.lt
 | dK kvs=>obtain ⟨_,_,_,_,o,_,_,e,_⟩:=x; exact Heap.lt_size e
 | dT kvs=>obtain ⟨_,_,_,_,o,_,_,e,_⟩:=x; exact Heap.lt_size e
 | set S n=>obtain ⟨o,_,_,_,e,_⟩:=x; exact Heap.lt_size e
 | ins C dx fs=>obtain ⟨_,_,_,e,_⟩:=x; exact Heap.lt_size e
 | own y=>obtain ⟨_,e⟩:=x; exact Heap.lt_size e
 | xd fs=>obtain ⟨_,⟨_,_,_,e,_⟩,_⟩:=x; exact Heap.lt_size e
 | rng lo hi=>obtain ⟨_,_,_,e⟩:=x; exact Heap.lt_size e
 | frz ob u=>obtain ⟨e,_⟩:=x; exact Heap.lt_size e
 | tbl ps=>exact Heap.lt_size (show h.get? a=some _ from x)
 | met f y=>exact Heap.lt_size (show h.get? a=some _ from x)
 | ext φ=>obtain ⟨_,⟨_,e⟩,_⟩:=x; exact Heap.lt_size e
theorem Paired.mapP {α β:Type} {F G:α->β->Prop}:∀ {l₁:List α} {l₂:List β},Paired F l₁ l₂->(∀ a b,F a b->G a b)->Paired G l₁ l₂
 | _,_,.nil,_=>.nil
 | _,_,.cons r t,f=>.cons (f _ _ r) (Paired.mapP t f)
theorem ObjOk.stay (x:ObjOk P w H h a o) (k:∀ b u,(b=a\/H b=some (.own a))->h.get? b=some u->h'.get? b=some u)
  (ho:∀ b,H b=some (.own a)->H' b=some (.own a)) (ht:∀ b xs,H b=some (.tup xs)->H' b=some (.tup xs)):ObjOk P w H' h' a o:=by
 induction o with
 | lst xs=>obtain ⟨z,its,n,r,e⟩:=x; exact ⟨z,its,n,r,k _ _ (.inl rfl) e⟩
 | tup xs=>obtain ⟨z,its,r,ob,e,c⟩:=x; exact ⟨z,its,r,ob,k _ _ (.inl rfl) e,c⟩
 | dK kvs=>obtain ⟨z,y,vs,r,ob,es,ep,e,c⟩:=x; exact ⟨z,y,vs,r,ob,es,ep,k _ _ (.inl rfl) e,c⟩
 | dT kvs =>
  obtain ⟨z,y,xs,r,ob,es,ep,e,c⟩:=x;exact ⟨z,y,xs,Paired.mapP r fun p q z=>⟨z.1,ht _ _ z.2.1,z.2.2⟩,ob,es,ep,k _ _ (.inl rfl) e,c⟩
 | set S n=>obtain ⟨ob,es,ep,t,e,c⟩:=x; exact ⟨ob,es,ep,t,k _ _ (.inl rfl) e,c⟩
 | ins C dx fs =>
  obtain ⟨d,z,ne,e,mA,⟨od,es,ep,e2,c⟩,r⟩:=x;exact ⟨ho _ d,z,ne,k _ _ (.inl rfl) e,mA,⟨od,es,ep,k _ _ (.inr d) e2,c⟩,r⟩
 | own y=>obtain ⟨ob,e⟩:=x; exact ⟨ob,k _ _ (.inl rfl) e⟩
 | xd fs=>obtain ⟨mA,⟨od,es,ep,e,c⟩,r⟩:=x; exact ⟨mA,⟨od,es,ep,k _ _ (.inl rfl) e,c⟩,r⟩
 | rng lo hi=>obtain ⟨t,u,v,e⟩:=x; exact ⟨t,u,v,k _ _ (.inl rfl) e⟩
 | frz ob u ih=>obtain ⟨e,q⟩:=x; exact ⟨k _ _ (.inl rfl) e,ih q⟩
 | tbl ps =>
  have e:h.get? a=some { cls:=.none,data:=.fields ps }:=x;show h'.get? a=some { cls:=.none,data:=.fields ps };exact k a _ (.inl rfl) e
 | met f y =>
  have e:h.get? a=some (PySem.W.methodObj (.ref f) (.ref y)):=x;show h'.get? a=some (PySem.W.methodObj (.ref f) (.ref y));exact k a _ (.inl rfl) e
 | ext φ=>obtain ⟨p,⟨o,e⟩,st⟩:=x; exact ⟨st _ _ p fun o q=>k _ _ (.inl rfl) q,⟨o,k _ _ (.inl rfl) e⟩,st⟩
theorem HOk.lt (x:HOk P w H h) (e:H a=some o):a < h.objs.size:=(x a o e).lt
theorem HOk.fresh (x:HOk P w H h) (e:h.objs.size<=a):H a=none:=by
 cases q:H a with
 | none=>rfl
 | some u=>exact absurd (Nat.lt_of_lt_of_le (x.lt q) e) (Nat.lt_irrefl _)
theorem HOk.kept (x:HOk P w H h) (k:∀ b u,h.get? b=some u->h'.get? b=some u):HOk P w H h':=fun a o e =>
 (x a o e).stay (fun b u _ q=>k b u q) (fun _ q=>q) fun _ _ q=>q
theorem HOk.laid (x:HOk P w H h) (k:∀ b u,h.get? b=some u->h'.get? b=some u) (hp:h.objs.size<=a) (new:ObjOk P w (upd H a o) h' a o):HOk P w (upd H a o) h':=fun b u e=>by
 have hn:=x.fresh hp;by_cases hb:b=a
 ·subst hb; rw [B5] at e; cases e; exact new
 ·rw [B4 hb] at e;exact (x b u e).stay (fun c v _ q=>k c v q) (fun c q=>by rw [B4 (C7 q hn)]; exact q) fun c xs q=>by rw [B4 (C7 q hn)]; exact q
end
def Rd (H:Hp) (a:Addr) (u:HO):Prop:=H a=some u\/∃ o,H a=some (.frz o u)
theorem Rd.ok {P:Program} {w:World} {H:Hp} {h:Heap} {a:Addr} {u:HO} (r:Rd H a u) (x:HOk P w H h):ObjOk P w H h a u:=by
 rcases r with r | ⟨o,r⟩
 ·exact x a u r
 ·obtain ⟨_,q⟩:=x a _ r;exact q
def Mut:Option HO->Prop
 | some (.lst _)=>True
 | some (.dK _)=>True
 | some (.dT _)=>True
 | some (.set _ _)=>True
 | some (.ins _ _ _)=>True
 | some (.ext _)=>True
 | _=>False
section
variable {P:Program} {w:World} {H:Hp} {h h':Heap} {x e:Addr} {o':HO}
theorem HOk.write (ok:HOk P w H h) (mu:Mut (H x)) (he:e=x\/H e=some (.own x)) (k:∀ b u,b≠e->h.get? b=some u->h'.get? b=some u) (heo:∃ u,h'.get? e=some u)
  (new:ObjOk P w (upd H x o') h' x o'):HOk P w (upd H x o') h':=fun b u q=>by
 have nown:∀ c y,H c=some (.own y)->c≠x:=fun c y r z=>by subst z; rw [r] at mu; exact mu
 have ntup:∀ c xs,H c=some (.tup xs)->c≠x:=fun c xs r z=>by subst z; rw [r] at mu; exact mu
 by_cases hb:b=x
 ·subst hb; rw [B5] at q; cases q; exact new
 ·rw [B4 hb] at q;by_cases hbe:b=e
  ·have q':H b=some (.own x):=by
    rcases he with z | z
    ·exact absurd (hbe.trans z) hb
    ·rw [hbe]; exact z
   rw [q] at q'; cases q';obtain ⟨v,hv⟩:=heo;exact ⟨v,by rw [hbe]; exact hv⟩
  ·refine (ok b u q).stay (fun c v hc r=>k c v ?_ r) (fun c r=>by rw [B4 (nown c b r)]; exact r) fun c xs r=>by rw [B4 (ntup c xs r)]; exact r
   rcases hc with rfl | hc
   ·exact hbe
   ·rintro rfl;rcases he with z | z
    ·exact nown c b hc z
    ·rw [hc] at z; cases z; exact hb rfl
end
structure Un (fs ex:List Addr) (H H':Hp) (h h':Heap):Prop where
 keep:∀ b o,h.get? b=some o->H b=none->b ∉ fs->b ∉ ex->h'.get? b=some o
 slot:∀ b o,h.get? b=some o->H b=none->b ∈ fs->b ∉ ex->∃ sl,h'.get? b=some { o with slots:=sl }
 free:∀ b o,h.get? b=some o->H b=none->b ∉ ex->H' b=none
 there:∀ b o,h.get? b=some o->b ∉ ex->∃ o',h'.get? b=some o'
 tups:∀ b xs,H b=some (.tup xs)->H' b=some (.tup xs)
 frzs:∀ b o u,H b=some (.frz o u)->H' b=some (.frz o u)
 tbls:∀ b ps,H b=some (.tbl ps)->∃ more,H' b=some (.tbl (ps++more))
section
variable {fs fs' ex ex':List Addr} {H H1 H2:Hp} {h h1 h2 h':Heap} {a x e:Addr} {o:HO}
theorem Un.any (u:Un fs ex H H1 h h1) {b:Addr} {ob:Obj} (q:h.get? b=some ob) (n:H b=none) (hx:b ∉ ex):∃ sl,h1.get? b=some { ob with slots:=sl }:=by
 by_cases hb:b ∈ fs
 ·exact u.slot b ob q n hb hx
 ·exact ⟨ob.slots,u.keep b ob q n hb hx⟩
theorem Un.kept (k:∀ b u,h.get? b=some u->h'.get? b=some u):Un fs ex H H h h' :=
 ⟨fun b ob q _ _ _=>k b ob q,fun b ob q _ _ _=>⟨ob.slots,k b ob q⟩,fun _ _ _ n _=>n,fun b ob q _=>⟨ob,k b ob q⟩,fun _ _ q=>q,fun _ _ _ q=>q,fun _ ps q=>⟨#[],by rw [q]; simp⟩⟩
theorem Un.refl:Un fs ex H H h h:=Un.kept fun _ _ q=>q
theorem Un.laid (k:∀ b u,h.get? b=some u->h'.get? b=some u) (hp:h.objs.size<=a) (hn:H a=none):Un fs ex H (upd H a o) h h' where
 keep:=fun b u q _ _ _=>k b u q
 slot:=fun b u q _ _ _=>⟨u.slots,k b u q⟩
 free:=fun b u q n _=>by rw [B4 (Nat.ne_of_lt (Nat.lt_of_lt_of_le (Heap.lt_size q) hp))]; exact n
 there:=fun b u q _=>⟨u,k b u q⟩
 tups:=fun b xs q=>by rw [B4 (C7 q hn)]; exact q
 frzs:=fun b u xs q=>by rw [B4 (C7 q hn)]; exact q
 tbls:=fun b ps q=>⟨#[],by rw [B4 (C7 q hn),q]; simp⟩
theorem Un.write (mu:Mut (H x)) (he:e=x\/H e=some (.own x)) (k:∀ b u,b≠e->h.get? b=some u->h'.get? b=some u) (heo:∃ u,h'.get? e=some u):Un fs ex H (upd H x o) h h':=by
 have hx:∀ b,H b=none->b≠x:=fun b n z=>by subst z; rw [n] at mu; exact mu
 have hb:∀ b,H b=none->b≠e:=fun b n z=>by
  subst z;rcases he with r | r
  ·exact hx b n r
  ·rw [n] at r; cases r
 have hm:∀ b u,H b=some u->¬ Mut (some u)->b≠x:=fun b u q nm z=>by subst z; rw [q] at mu; exact nm mu
 refine ⟨fun b u q n _ _=>k b u (hb b n) q,fun b u q n _ _=>⟨u.slots,k b u (hb b n) q⟩,fun b u q n _=>by rw [B4 (hx b n)]; exact n,fun b u q _=>?_,
  fun b xs q=>by rw [B4 (hm b _ q fun z=>z)]; exact q,fun b u xs q=>by rw [B4 (hm b _ q fun z=>z)]; exact q,fun b ps q=>⟨#[],by rw [B4 (hm b _ q fun z=>z),q]; simp⟩⟩
 by_cases hbe:b=e
 ·subst hbe; exact heo
 ·exact ⟨u,k b u hbe q⟩
end
def trk (h:Heap) (H:Hp):List Addr:=(List.range h.objs.size).filter fun a=>(H a).isSome
def hidT (h:Heap) (H:Hp):Heap:=PySem.W.hideAll h (trk h H)
theorem B4x (h:Heap) (H:Hp):(hidT h H).objs.size=h.objs.size:=PySem.W.hideAll_size _ _
theorem B7x {h:Heap} {H:Hp} {b:Addr} {o:Obj} (e:h.get? b=some o) (n:H b=none):(hidT h H).get? b=some o :=
 PySem.W.hideAll_get _ e fun hm=>by
  have q:(H b).isSome=true:=(List.mem_filter.mp hm).2;rw [n] at q; simp at q
theorem C37 {h:Heap} {H:Hp} {b:Addr} {o:Obj} (e:(hidT h H).get? b=some o):h.get? b=some o/\H b=none:=by
 have e':h.get? b=some o:=PySem.W.of_hideAll (trk h H) e;refine ⟨e',?_⟩;cases q:H b with
 | none=>rfl
 | some x =>
  have hm:b ∈ trk h H:=List.mem_filter.mpr ⟨List.mem_range.mpr (Heap.lt_size e'),by simp [q]⟩;have z:(hidT h H).get? b=none:=PySem.W.hideAll_none (trk h H) hm;rw [z] at e; cases e
def C45 (g h:Heap) (L:Addr):List (Addr × Obj):=(List.range h.objs.size).filterMap fun a=>if a=L\/(g.get? a).isSome=true then none else (h.get? a).map fun o=>(a,o)
def rest (g h:Heap) (L d:Addr):List (Addr × Obj):=(C45 g h L).filter fun p=>decide (p.1≠d)
end L2
namespace L2
open PySem PySem.Spec PyProof.Rows
structure Mod (K:PySem.W.Frag) (mg:Str->Option Value) (base:Heap):Prop where
 kin:K.In base
 glob:base.Ns mainGlobals mg
 blt:∃ mb,base.Ns builtinsNs mb/\∀ x:Str,x≠"__name__"->mb x=bootBuiltins x
 nolimit:base.NoLimit
structure Cx where
 prog:Program
 w:World
 K:PySem.W.Frag
 mg:Str->Option Value
 base:Heap
 A:Around
 N:List Str
 s₀:Shared
 H₀:Hp
 env:Env
 outer:List Env
 stack:List Env
 ex:List Addr
 fn:Str->Bool
 calm:Bool
 pn:List (Addr × Obj)
 xe:Value->Shared->Prop
def frs (l:List Env):List Addr:=l.filterMap (·.frame)
abbrev Cx.fs (X:Cx):List Addr:=frs X.outer
def Vis (sc:Scope) (x:Str):Prop:=sc.names.lookup x=some .local\/sc.names.lookup x=some .cell\/sc.names.lookup x=some .free
def Loc (sc:Scope) (x:Str):Prop:=sc.names.lookup x=some .local\/sc.names.lookup x=some .cell
def Look (env:Env) (h:Heap) (m:Str->Option Value) (x:Str) (u:Value):Prop :=
 (env.kindOf x=some .local/\m x=some u)\/((env.kindOf x=some .cell\/env.kindOf x=some .free)/\∃ c,env.cells.lookup x=some c/\h.IsCell c (some u))
structure Cx.Ok (X:Cx):Prop where
 mod:Mod X.K X.mg X.base
 kind:X.env.scope.kind=.function
 glob:X.env.globals=mainGlobals
 blt:X.env.builtins=builtinsNs
 above:X.s₀.heap.objs.size<=X.env.locals
 inj:∀ x y c,X.env.cells.lookup x=some c->X.env.cells.lookup y=some c->x=y
 has:∀ x,(X.env.kindOf x=some .cell\/X.env.kindOf x=some .free)->∃ c,X.env.cells.lookup x=some c
 cab:∀ x c,X.fn x=true->X.env.cells.lookup x=some c->X.s₀.heap.objs.size<=c
 hd:X.calm=true->X.A.handled=none
 frames:X.A.frames=some X.stack
 stk:X.stack=X.outer\/(X.stack=X.env :: X.outer/\X.env.frame=some X.env.locals)
 exf:∀ b ∈ X.ex,b≠X.env.locals/\∀ x c,X.env.cells.lookup x=some c->c≠b
 bs:∀ b o,X.base.get? b=some o->X.s₀.heap.get? b=some o/\X.H₀ b=none
 bsz:X.base.objs.size<=X.s₀.heap.objs.size
 noex:∀ b o,X.base.get? b=some o->b ∉ X.ex
 exfs:∀ b ∈ X.ex,b ∉ X.fs
 funs:X.s₀.heap.FunFrames X.base X.outer
 frf:∀ b ∈ X.fs,X.H₀ b=none
structure Inv (X:Cx) (pins:List (Addr × Obj)) (σ:List (Option V)) (H:Hp) (s:Shared):Prop where
 ok:X.Ok
 os:s.os=X.s₀.os
 bare:AllBare s.gens
 base:Un X.fs X.ex X.H₀ H X.s₀.heap s.heap
 loc:∃ m,s.heap.Ns X.env.locals m/\∀ (i:Nat) (x:Str) (v:V),X.N[i]?=some x->σ[i]?=some (some v)->Vis X.env.scope x->∃ u,RelV v u/\Look X.env s.heap m x u
 cell:∀ x c,X.env.cells.lookup x=some c->∃ v,s.heap.IsCell c v
 free:H X.env.locals=none
 freeC:∀ x c,X.env.cells.lookup x=some c->H c=none
 pin:∀ p ∈ X.pn++pins,s.heap.get? p.1=some p.2/\H p.1=none/\p.1≠X.env.locals/\p.1 ∉ X.fs/\∀ v,p.2.data≠.cell v
 hok:HOk X.prog X.w H s.heap
 len:σ.length=X.N.length
section
variable {X:Cx} {pins:List (Addr × Obj)} {σ:List (Option V)} {H H':Hp} {s:Shared} {h':Heap}
theorem Cx.Ok.nofr (ok:X.Ok) {b:Addr} {o:Obj} (e:X.base.get? b=some o):b ∉ X.fs:=fun hb=>by
 have:=(ok.funs.mem hb).1;rw [e] at this; cases this
theorem Inv.bs (I:Inv X pins σ H s):∀ b o,X.base.get? b=some o->s.heap.get? b=some o/\H b=none:=fun b o e =>
 ⟨I.base.keep b o (I.ok.bs b o e).1 (I.ok.bs b o e).2 (I.ok.nofr e) (I.ok.noex b o e),I.base.free b o (I.ok.bs b o e).1 (I.ok.bs b o e).2 (I.ok.noex b o e)⟩
theorem Inv.bk (I:Inv X pins σ H s):∀ b o,X.base.get? b=some o->s.heap.get? b=some o:=fun b o e=>(I.bs b o e).1
theorem Inv.mod (I:Inv X pins σ H s):Mod X.K X.mg X.base:=I.ok.mod
theorem Inv.kIn (I:Inv X pins σ H s):X.K.In s.heap:=I.ok.mod.kin.keeps I.bk
theorem Inv.lt (I:Inv X pins σ H s):X.env.locals < s.heap.objs.size:=let ⟨_,hn,_⟩:=I.loc; hn.lt
theorem Inv.sz (I:Inv X pins σ H s):X.s₀.heap.objs.size<=s.heap.objs.size:=Zx I.ok.above (Nat.le_of_lt I.lt)
theorem Inv.nofs (I:Inv X pins σ H s) {a:Addr} (h:s.heap.objs.size<=a):a ∉ X.fs:=fun hb=>by
 obtain ⟨_,o,ho,_⟩:=I.ok.funs.mem hb;exact absurd (Nat.lt_of_lt_of_le (Heap.lt_size ho) (Zx I.sz h)) (Nat.lt_irrefl _)
theorem Inv.cne (I:Inv X pins σ H s):∀ x c,X.env.cells.lookup x=some c->c≠X.env.locals:=fun x c e z=>by
 obtain ⟨v,o,ho,hd⟩:=I.cell x c e;obtain ⟨m,⟨o',es,ep,ho',hd',_⟩,_⟩:=I.loc;rw [z,ho'] at ho; cases ho; rw [hd'] at hd; cases hd
theorem Inv.funs (I:Inv X pins σ H s):s.heap.FunFrames X.base X.outer:=by
 have all:∀ (l:List Env),(∀ b ∈ frs l,b ∈ X.fs)->X.s₀.heap.FunFrames X.base l->s.heap.FunFrames X.base l:=by
  intro l;induction l with
  | nil=>intro _ _; trivial
  | cons env r ih =>
   intro hs hl;obtain ⟨hk,⟨L,o,hf,hn,ho,hd⟩,hr⟩:=hl;have hL:L ∈ X.fs:=hs L (by unfold frs; rw [List.filterMap_cons,hf]; exact Zy);obtain ⟨sl,e⟩:=I.base.slot L o ho (I.ok.frf L hL) hL fun z=>I.ok.exfs L z hL;exact ⟨hk,⟨L,_,hf,hn,e,hd⟩,ih (fun b hb=>hs b (by unfold frs; rw [List.filterMap_cons,hf]; exact Zr _ hb)) hr⟩
 exact all X.outer (fun _ hb=>hb) I.ok.funs
theorem Inv.stack (I:Inv X pins σ H s):s.heap.FunFrames X.base X.stack:=by
 rcases I.ok.stk with e | ⟨e,hf⟩
 ·rw [e]; exact I.funs
 ·rw [e];obtain ⟨m,hn,_⟩:=I.loc;refine .cons (by rw [I.ok.kind]; decide) hf hn ?_ I.funs;exact Heap.get?_none_of_le (Zx I.ok.bsz I.ok.above)
theorem Inv.stkSub (I:Inv X pins σ H s):∀ b ∈ frs X.stack,b ∈ X.env.locals :: X.fs:=fun b hb=>by
 rcases I.ok.stk with e | ⟨e,hf⟩
 ·rw [e] at hb; exact Zr _ hb
 ·rw [e] at hb;unfold frs at hb;rw [List.filterMap_cons,hf] at hb;exact hb
theorem Inv.stkFree (I:Inv X pins σ H s):∀ b ∈ frs X.stack,H b=none:=fun b hb=>by
 rcases List.mem_cons.mp (I.stkSub b hb) with e | hb
 ·rw [e]; exact I.free
 ·obtain ⟨_,o,ho,_⟩:=I.ok.funs.mem hb;exact I.base.free b o ho (I.ok.frf b hb) fun z=>I.ok.exfs b z hb
theorem Inv.step {g':Array GenState} {t':Nat} {d':Drawn} {ch:List Addr} (I:Inv X pins σ H s)
  (hch:∀ b ∈ ch,(b ∈ X.ex\/X.s₀.heap.objs.size<=b)/\b≠X.env.locals/\(∀ x c,X.env.cells.lookup x=some c->c≠b)/\∀ p ∈ X.pn++pins,p.1≠b)
  (keep:∀ b o,b≠X.env.locals->b ∉ X.fs->b ∉ ch->s.heap.get? b=some o->H b=none->h'.get? b=some o)
  (slot:∀ b o,b≠X.env.locals->b ∈ X.fs->b ∉ ch->s.heap.get? b=some o->H b=none->∃ sl,h'.get? b=some { o with slots:=sl }) (free:∀ b o,b ∉ ch->s.heap.get? b=some o->H b=none->H' b=none)
  (there:∀ b o,b ∉ ch->s.heap.get? b=some o->∃ o',h'.get? b=some o')
  (tups:∀ b xs,H b=some (.tup xs)->H' b=some (.tup xs)) (frzs:∀ b o u,H b=some (.frz o u)->H' b=some (.frz o u)) (tbls:∀ b ps,H b=some (.tbl ps)->∃ more,H' b=some (.tbl (ps++more)))
  (ns:∀ m,s.heap.Ns X.env.locals m->h'.Ns X.env.locals m) (hok:HOk X.prog X.w H' h') (hg:AllBare g') :
  Inv X pins σ H' { s with heap:=h',gens:=g',drawn:=d',toks:=t' }:=by
 have neL:∀ b o,X.s₀.heap.get? b=some o->b≠X.env.locals:=fun b o e=>Nat.ne_of_lt (Nat.lt_of_lt_of_le (Heap.lt_size e) I.ok.above);have neC:∀ b o,X.s₀.heap.get? b=some o->b ∉ X.ex->b ∉ ch:=fun b o e hx hb=>by
  rcases (hch b hb).1 with z | z
  ·exact hx z
  ·exact absurd (Nat.lt_of_lt_of_le (Heap.lt_size e) z) (Nat.lt_irrefl _)
 have cellK:∀ x c,X.env.cells.lookup x=some c->∀ v,s.heap.IsCell c v->h'.IsCell c v:=fun x c e v ⟨o,ho,hd⟩=>by
  have nch:c ∉ ch:=fun z=>(hch c z).2.2.1 x c e rfl;by_cases hc:c ∈ X.fs
  ·obtain ⟨sl,q⟩:=slot c o (I.cne x c e) hc nch ho (I.freeC x c e);exact ⟨_,q,hd⟩
  ·exact ⟨o,keep c o (I.cne x c e) hc nch ho (I.freeC x c e),hd⟩
 refine ⟨I.ok,I.os,hg,⟨fun b o e n hb hx=>?_,fun b o e n hb hx=>?_,fun b o e n hx=>?_,fun b o e hx=>?_,fun b xs e=>tups b xs (I.base.tups b xs e),fun b o xs e=>frzs b o xs (I.base.frzs b o xs e),fun b ps e=>?_⟩,?_,fun x c e=>?_,?_,fun x c e=>?_,fun p hp=>?_,hok,I.len⟩
 ·exact keep b o (neL b o e) hb (neC b o e hx) (I.base.keep b o e n hb hx) (I.base.free b o e n hx)
 ·obtain ⟨sl,e1⟩:=I.base.slot b o e n hb hx;obtain ⟨sl',e2⟩:=slot b _ (neL b o e) hb (neC b o e hx) e1 (I.base.free b o e n hx);exact ⟨sl',e2⟩
 ·obtain ⟨o',e1⟩:=I.base.there b o e hx;exact free b o' (neC b o e hx) e1 (I.base.free b o e n hx)
 ·obtain ⟨o',e1⟩:=I.base.there b o e hx;exact there b o' (neC b o e hx) e1
 ·obtain ⟨m1,e1⟩:=I.base.tbls b ps e;obtain ⟨m2,e2⟩:=tbls b _ e1;exact ⟨m1++m2,by rw [e2,Array.append_assoc]⟩
 ·obtain ⟨m,hn,hl⟩:=I.loc;refine ⟨m,ns m hn,fun i x v e1 e2 e3=>?_⟩;obtain ⟨u,r,l⟩:=hl i x v e1 e2 e3;refine ⟨u,r,?_⟩;rcases l with l | ⟨k,c,e,z⟩
  ·exact .inl l
  ·exact .inr ⟨k,c,e,cellK x c e _ z⟩
 ·obtain ⟨v,z⟩:=I.cell x c e;exact ⟨v,cellK x c e v z⟩
 ·obtain ⟨m,⟨o,_,_,ho,_⟩,_⟩:=I.loc;exact free _ o (fun z=>(hch _ z).2.1 rfl) ho I.free
 ·obtain ⟨v,o,ho,hd⟩:=I.cell x c e;exact free c o (fun z=>(hch c z).2.2.1 x c e rfl) ho (I.freeC x c e)
 ·obtain ⟨e,n,ne,nf,d⟩:=I.pin p hp;have nch:p.1 ∉ ch:=fun z=>(hch p.1 z).2.2.2 p hp rfl;exact ⟨keep p.1 p.2 ne nf nch e n,free p.1 p.2 nch e n,ne,nf,d⟩
theorem Inv.un {t':Nat} (I:Inv X pins σ H s) (u:Un X.fs [] H H' s.heap h') (hok:HOk X.prog X.w H' h'):Inv X pins σ H' { s with heap:=h',toks:=t' }:=by
 obtain ⟨m,⟨o,es,ep,ho,r⟩,_⟩:=id I.loc;obtain ⟨sl,hL⟩:=u.any ho I.free (by simp);exact I.step (g':=s.gens) (d':=s.drawn) (ch:=[]) (fun _ z=>nomatch z) (fun b o _ hb _ e n=>u.keep b o e n hb (by simp)) (fun b o _ hb _ e n=>u.slot b o e n hb (by simp)) (fun b o _ e n=>u.free b o e n (by simp)) (fun b o _ e=>u.there b o e (by simp)) u.tups u.frzs u.tbls (fun m' hm=>by
  obtain ⟨o',es',ep',ho',r'⟩:=hm;rw [ho] at ho'; cases ho';exact ⟨_,es',ep',hL,r'⟩) hok I.bare
theorem Inv.call {g':Array GenState} {t':Nat} {d':Drawn} {ch:List Addr} (I:Inv X pins σ H s) (u:Un (frs X.stack) ch H H' s.heap h') (hok:HOk X.prog X.w H' h') (hg:AllBare g')
  (hch:∀ b ∈ ch,(b ∈ X.ex\/X.s₀.heap.objs.size<=b)/\b≠X.env.locals/\(∀ x c,X.env.cells.lookup x=some c->c≠b)/\∀ p ∈ X.pn++pins,p.1≠b) :
  Inv X pins σ H' { s with heap:=h',gens:=g',drawn:=d',toks:=t' }:=by
 obtain ⟨m,⟨o,es,ep,ho,r⟩,_⟩:=id I.loc;obtain ⟨sl,hL⟩:=u.any ho I.free fun z=>(hch _ z).2.1 rfl;exact I.step (ch:=ch) hch (fun b o hL hb hc e n=>u.keep b o e n (fun z=>(List.mem_cons.mp (I.stkSub b z)).elim hL hb) hc) (fun b o _ _ hc e n=>u.any e n hc) (fun b o hc e n=>u.free b o e n hc) (fun b o hc e=>u.there b o e hc) u.tups u.frzs u.tbls (fun m' hm=>by
  obtain ⟨o',es',ep',ho',r'⟩:=hm;rw [ho] at ho'; cases ho';exact ⟨_,es',ep',hL,r'⟩) hok hg
theorem Inv.turned {t':Nat} {it:Addr} (I:Inv X pins σ H s) (k:∀ b o,b≠it->s.heap.get? b=some o->h'.get? b=some o) (hn:H it=none) (hL:it≠X.env.locals)
  (h1:it ∈ X.ex\/X.s₀.heap.objs.size<=it) (h2:∀ x c,X.env.cells.lookup x=some c->c≠it) (h3:∀ p ∈ X.pn++pins,p.1≠it):Inv X pins σ H { s with heap:=h',toks:=t' }:=by
 have nit:∀ b u,H b=some u->b≠it:=fun b u e z=>by rw [z,hn] at e; cases e
 refine I.step (g':=s.gens) (d':=s.drawn) (ch:=[it]) (fun b hb=>?_) (fun b o _ _ hc e _=>k b o (fun z=>hc (by simp [z])) e) (fun b o _ _ hc e _=>⟨o.slots,k b o (fun z=>hc (by simp [z])) e⟩) (fun _ _ _ _ n=>n)
  (fun b o hc e=>⟨o,k b o (fun z=>hc (by simp [z])) e⟩) (fun _ _ e=>e) (fun _ _ _ e=>e) (fun b ps e=>⟨#[],by rw [e]; simp⟩) (fun m hm=>?_) (fun b u e=>?_) I.bare
 ·have e:b=it:=by simpa using hb
  subst e;exact ⟨h1,hL,h2,h3⟩
 ·obtain ⟨o,es,ep,ho,r⟩:=hm;exact ⟨o,es,ep,k _ o (Ne.symm hL) ho,r⟩
 ·refine (I.hok b u e).stay (fun c v hc q=>k c v ?_ q) (fun _ q=>q) fun _ _ q=>q;rcases hc with z | z
  ·rw [z]; exact nit b u e
  ·exact nit c _ z
theorem Inv.tok (I:Inv X pins σ H s) (t:Nat):Inv X pins σ H { s with toks:=t }:=I.un (h':=s.heap) (t':=t) Un.refl I.hok
theorem Inv.kept {t':Nat} (I:Inv X pins σ H s) (k:∀ b u,s.heap.get? b=some u->h'.get? b=some u):Inv X pins σ H { s with heap:=h',toks:=t' }:=I.un (Un.kept k) (I.hok.kept k)
theorem Inv.laid {a:Addr} {o:HO} {t':Nat} (I:Inv X pins σ H s) (k:∀ b u,s.heap.get? b=some u->h'.get? b=some u) (hp:s.heap.objs.size<=a) (new:ObjOk X.prog X.w (upd H a o) h' a o) :
  Inv X pins σ (upd H a o) { s with heap:=h',toks:=t' }:=I.un (Un.laid k hp (I.hok.fresh hp)) (I.hok.laid k hp new)
theorem Inv.write {x e:Addr} {o:HO} {t':Nat} (I:Inv X pins σ H s) (mu:Mut (H x)) (he:e=x\/H e=some (.own x)) (k:∀ b u,b≠e->s.heap.get? b=some u->h'.get? b=some u) (heo:∃ u,h'.get? e=some u)
  (new:ObjOk X.prog X.w (upd H x o) h' x o):Inv X pins σ (upd H x o) { s with heap:=h',toks:=t' }:=I.un (Un.write mu he k heo) (I.hok.write mu he k heo new)
theorem Inv.pins_of {pins':List (Addr × Obj)} (I:Inv X pins σ H s) (h:∀ p ∈ pins',s.heap.get? p.1=some p.2/\H p.1=none/\p.1≠X.env.locals/\p.1 ∉ X.fs/\∀ v,p.2.data≠.cell v):Inv X pins' σ H s :=
 ⟨I.ok,I.os,I.bare,I.base,I.loc,I.cell,I.free,I.freeC,fun p hp=>(Za hp).elim (fun z=>I.pin p (Zt _ z)) (h p),I.hok,I.len⟩
theorem A1k {N:List Str} (hN:N.Nodup) {i j:Nat} {x:Str} (a:N[i]?=some x) (b:N[j]?=some x):i=j:=by
 obtain ⟨h1,e1⟩:=Zs a;obtain ⟨h2,e2⟩:=Zs b;exact (List.getElem_inj hN).mp (e1.trans e2.symm)
theorem A12 {M:Model} {A:Around} {E:Value->Shared->Prop} {i:Nat} {x:Str} {v:V} {u:Value} {Q:Unit->Shared->Prop} (I:Inv X pins σ H s) (hN:X.N.Nodup) (hi:X.N[i]?=some x) (hx:Loc X.env.scope x) (r:RelV v u)
  (h:∀ s',Inv X pins (σ.set i (some v)) H s'->(∃ a,Heap.SameBut a s.heap s'.heap/\(a=X.env.locals\/X.env.cells.lookup x=some a))->Q () s') (hf:X.fn x=true\/X.env.scope.names.lookup x=some .local:=by first | exact .inl rfl | exact .inr rfl | assumption):wpAny M A (storeName X.env x u) Q E s:=by
 obtain ⟨m,hn,hl⟩:=id I.loc;have hcls:(X.env.scope.kind == .class || (X.env.scope.kind == .module && X.env.locals != X.env.globals))=false:=by rw [I.ok.kind]; rfl
 have hiσ:i < σ.length:=by rw [I.len]; exact (Zs hi).1
 have cne:=I.cne;have tracked:∀ {a:Addr} {h':Heap},(∃ o,s.heap.get? a=some o/\H a=none)->Heap.SameBut a s.heap h'->HOk X.prog X.w H h':=fun {a h'} ha hs b ob e=>by
  obtain ⟨_,_,hfree⟩:=ha;refine (I.hok b ob e).stay (fun c w' hc q=>(hs.2 c ?_).trans q) (fun _ q=>q) fun _ _ q=>q;rintro rfl;rcases hc with rfl | hc
  ·rw [hfree] at e; cases e
  ·rw [hfree] at hc; cases hc
 rcases hx with hk | hk
 ·refine wpAny_storeName_local hk hn (fun h' hn' hs=>?_) hcls;obtain ⟨oL,_,_,hoL,_⟩:=id hn;refine h _ ⟨I.ok,I.os,I.bare,⟨fun b o e n hb hx=>?_,fun b o e n hb hx=>?_,I.base.free,fun b o e hx=>?_,I.base.tups,I.base.frzs,I.base.tbls⟩,⟨_,hn',fun j y v' e1 e2 e3=>?_⟩,fun y c e=>?_,I.free,I.freeC,fun p hp=>?_,tracked ⟨oL,hoL,I.free⟩ hs,by simpa using I.len⟩ ⟨_,hs,.inl rfl⟩
  ·exact (hs.2 b (Nat.ne_of_lt (Nat.lt_of_lt_of_le (Heap.lt_size e) I.ok.above))).trans (I.base.keep b o e n hb hx)
  ·obtain ⟨sl,e1⟩:=I.base.slot b o e n hb hx;exact ⟨sl,(hs.2 b (Nat.ne_of_lt (Nat.lt_of_lt_of_le (Heap.lt_size e) I.ok.above))).trans e1⟩
  ·obtain ⟨o',e1⟩:=I.base.there b o e hx;exact ⟨o',(hs.2 b (Nat.ne_of_lt (Nat.lt_of_lt_of_le (Heap.lt_size e) I.ok.above))).trans e1⟩
  ·by_cases hj:j=i
   ·subst hj;rw [hi] at e1; cases e1;rw [List.getElem?_set_self hiσ] at e2;cases e2;exact ⟨u,r,.inl ⟨hk,by simp⟩⟩
   ·rw [List.getElem?_set_ne (Ne.symm hj)] at e2;obtain ⟨u',r',q⟩:=hl j y v' e1 e2 e3;refine ⟨u',r',?_⟩;rcases q with ⟨k,e⟩ | ⟨k,c,e,z⟩
    ·refine .inl ⟨k,?_⟩;have:y≠x:=fun e=>hj (A1k hN e1 (e ▸ hi));simp [this,e]
    ·exact .inr ⟨k,c,e,z.sameBut hs (cne y c e)⟩
  ·obtain ⟨w',z⟩:=I.cell y c e;exact ⟨w',z.sameBut hs (cne y c e)⟩
  ·obtain ⟨e,n,ne,nf,d⟩:=I.pin p hp;exact ⟨(hs.2 p.1 ne).trans e,n,ne,nf,d⟩
 ·have hfn:X.fn x=true:=by
   rcases hf with z | z
   ·exact z
   ·rw [z] at hk; cases hk
  obtain ⟨c,hc⟩:=I.ok.has x (.inl hk);obtain ⟨w',z⟩:=I.cell x c hc;refine wpAny_storeName_cell I.ok.kind hk hc z (fun h' hc' hs=>?_);obtain ⟨oc,hoc,hocd⟩:=id z;refine h { s with heap:=h' } ⟨I.ok,I.os,I.bare,⟨fun b o e n hb hx=>?_,fun b o e n hb hx=>?_,I.base.free,fun b o e hx=>?_,I.base.tups,I.base.frzs,I.base.tbls⟩,⟨m,hn.sameBut hs (Ne.symm (cne x c hc)),fun j y v' e1 e2 e3=>?_⟩,fun y c' e=>?_,I.free,I.freeC,fun p hp=>?_,tracked ⟨oc,hoc,I.freeC x c hc⟩ hs,by simpa using I.len⟩ ⟨c,hs,.inr hc⟩
  ·exact (hs.2 b (Nat.ne_of_lt (Nat.lt_of_lt_of_le (Heap.lt_size e) (I.ok.cab x c hfn hc)))).trans (I.base.keep b o e n hb hx)
  ·obtain ⟨sl,e1⟩:=I.base.slot b o e n hb hx;exact ⟨sl,(hs.2 b (Nat.ne_of_lt (Nat.lt_of_lt_of_le (Heap.lt_size e) (I.ok.cab x c hfn hc)))).trans e1⟩
  ·obtain ⟨o',e1⟩:=I.base.there b o e hx;exact ⟨o',(hs.2 b (Nat.ne_of_lt (Nat.lt_of_lt_of_le (Heap.lt_size e) (I.ok.cab x c hfn hc)))).trans e1⟩
  ·by_cases hj:j=i
   ·subst hj;rw [hi] at e1; cases e1;rw [List.getElem?_set_self hiσ] at e2;cases e2;exact ⟨u,r,.inr ⟨.inl hk,c,hc,hc'⟩⟩
   ·rw [List.getElem?_set_ne (Ne.symm hj)] at e2;obtain ⟨u',r',q⟩:=hl j y v' e1 e2 e3;refine ⟨u',r',?_⟩;rcases q with q | ⟨k,c',e,z'⟩
    ·exact .inl q
    ·refine .inr ⟨k,c',e,z'.sameBut hs ?_⟩;rintro rfl;exact hj (A1k hN e1 (I.ok.inj _ _ _ e hc ▸ hi))
  ·by_cases hcc:c'=c
   ·subst hcc; exact ⟨_,hc'⟩
   ·obtain ⟨w2,z2⟩:=I.cell y c' e;exact ⟨w2,z2.sameBut hs hcc⟩
  ·obtain ⟨e,n,ne,nf,d⟩:=I.pin p hp;refine ⟨(hs.2 p.1 ?_).trans e,n,ne,nf,d⟩;intro q;rw [q,hoc] at e;have q':oc=p.2:=Zj e;exact d w' (by rw [<- q']; exact hocd)
theorem K9 {M:Model} {A:Around} {E:Value->Shared->Prop} {i:Nat} {x:Str} {v:V} {u:Value} {Q:Unit->Shared->Prop} (I:Inv X pins σ H s) (hN:X.N.Nodup) (hi:X.N[i]?=some x) (hx:Loc X.env.scope x) (r:RelV v u)
  (h:∀ s',Inv X pins (σ.set i (some v)) H s'->Q () s') (hf:X.fn x=true\/X.env.scope.names.lookup x=some .local:=by first | exact .inl rfl | exact .inr rfl | assumption):wpAny M A (storeName X.env x u) Q E s :=
 A12 I hN hi hx r (fun s' I' _=>h s' I') hf
theorem Inv.call' {s':Shared} {ch:List Addr} (I:Inv X pins σ H s) (ho:s'.os=s.os) (u:Un (frs X.stack) ch H H' s.heap s'.heap) (hok:HOk X.prog X.w H' s'.heap) (hg:AllBare s'.gens)
  (hch:∀ b ∈ ch,(b ∈ X.ex\/X.s₀.heap.objs.size<=b)/\b≠X.env.locals/\(∀ x c,X.env.cells.lookup x=some c->c≠b)/\∀ p ∈ X.pn++pins,p.1≠b):Inv X pins σ H' s':=by
 obtain ⟨h',g',d',t',o'⟩:=s';have e:o'=s.os:=ho;subst e;exact I.call (g':=g') (t':=t') (d':=d') u hok hg hch
end
abbrev XK:=Value->Option Addr->Hp->Prop
abbrev St:=List (Option V)
abbrev VK:=V->Hp->Prop
abbrev TE:=St->Hp->VK->Prop
abbrev TT:=St->Hp->(Bool->Hp->Prop)->Prop
abbrev TA:=St->Hp->(List V->Hp->Prop)->Prop
structure Ends where
 nx:St->Hp->Prop
 rt:VK
 bk:St->Hp->Prop:=fun _ _=>False
 ct:St->Hp->Prop:=fun _ _=>False
abbrev TS:=Ends->St->Hp->Prop
def EP (X:Cx) (pins:List (Addr × Obj)) (σ:St) (Q:VK) (u:Value) (s':Shared):Prop:=∃ v H',Inv X pins σ H' s'/\RelV v u/\Q v H'
def TP (X:Cx) (pins:List (Addr × Obj)) (σ:St) (Q:Bool->Hp->Prop) (b:Bool) (s':Shared):Prop:=∃ H',Inv X pins σ H' s'/\Q b H'
def AP (X:Cx) (pins:List (Addr × Obj)) (σ:St) (Q:List V->Hp->Prop) (us:List Value) (s':Shared):Prop:=∃ vs H',Inv X pins σ H' s'/\Vals vs us/\Q vs H'
def SP (X:Cx) (pins:List (Addr × Obj)) (D:Ends) (f:Flow) (s':Shared):Prop :=
 match f with
 | .next=>∃ σ' H',Inv X pins σ' H' s'/\D.nx σ' H'
 | .brk=>∃ σ' H',Inv X pins σ' H' s'/\D.bk σ' H'
 | .cont=>∃ σ' H',Inv X pins σ' H' s'/\D.ct σ' H'
 | .ret u=>∃ v σ' H',Inv X pins σ' H' s'/\RelV v u/\D.rt v H'
def PE (X:Cx) (e:Expr) (t:TE):Prop :=
 ∀ (pins:List (Addr × Obj)) (s:Shared) (σ:St) (H:Hp) (Q:VK),Inv X pins σ H s->t σ H Q->wpAny (model X.prog X.w) X.A (eval e X.env) (EP X pins σ Q) X.xe s
def PT (X:Cx) (e:Expr) (t:TT):Prop :=
 ∀ (pins:List (Addr × Obj)) (s:Shared) (σ:St) (H:Hp) (Q:Bool->Hp->Prop),Inv X pins σ H s->t σ H Q->wpAny (model X.prog X.w) X.A (isTrue e X.env (eval e X.env)) (TP X pins σ Q) X.xe s
def PW (X:Cx) (e:Expr) (t:TT):Prop :=
 ∀ (whole:Sem Value) (pins:List (Addr × Obj)) (s:Shared) (σ:St) (H:Hp) (Q:Bool->Hp->Prop),Inv X pins σ H s->t σ H Q->wpAny (model X.prog X.w) X.A (isTrue e X.env whole) (TP X pins σ Q) X.xe s
theorem PW.pt {X:Cx} {e:Expr} {t:TT} (h:PW X e t):PT X e t:=h _
def PA (X:Cx) (es:List Expr) (t:TA):Prop :=
 ∀ (pos:Pos) (pins:List (Addr × Obj)) (s:Shared) (σ:St) (H:Hp) (Q:List V->Hp->Prop),Inv X pins σ H s->t σ H Q->wpAny (model X.prog X.w) X.A (spliced (backTo pos (starEach es X.env))) (AP X pins σ Q) X.xe s
def PS (X:Cx) (st:Stmt) (t:TS):Prop :=
 ∀ (pins:List (Addr × Obj)) (s:Shared) (σ:St) (H:Hp) (D:Ends),Inv X pins σ H s->t D σ H->wpAny (model X.prog X.w) X.A (exec st X.env) (SP X pins D) X.xe s
def PSs (X:Cx) (st:List Stmt) (t:TS):Prop :=
 ∀ (pins:List (Addr × Obj)) (s:Shared) (σ:St) (H:Hp) (D:Ends),Inv X pins σ H s->t D σ H->wpAny (model X.prog X.w) X.A (execs st X.env) (SP X pins D) X.xe s
theorem thn {α:Type} {t:Sem α} {Q Q':α->Shared->Prop} {M:Model} {A:Around} {E:Value->Shared->Prop} {s:Shared} (h:wpAny M A t Q E s) (hQ:∀ a s,Q a s->Q' a s):wpAny M A t Q' E s:=wpAny_mono h hQ fun _ _ x=>x
end L2
namespace L2
open PySem PySem.Spec PyProof.Rows
section
variable {X:Cx}
theorem bin {a b:Expr} {ta tb:TE} (ha:PE X a ta) (hb:PE X b tb) {pins:List (Addr × Obj)} {s:Shared} {σ:St} {H:Hp} {R:V->V->Hp->Prop} (I:Inv X pins σ H s) (h:ta σ H fun x H1=>tb σ H1 fun y H2=>R x y H2)
  {α:Type} {Q:α->Shared->Prop} {f:Value->Value->Sem α}
  (hf:∀ v u s2 x y H2,Inv X pins σ H2 s2->RelV x v->RelV y u->R x y H2->wpAny (model X.prog X.w) X.A (f v u) Q X.xe s2) :
  wpAny (model X.prog X.w) X.A (eval a X.env) (fun v s₁=>wpAny (model X.prog X.w) X.A (eval b X.env) (fun u s₂=>wpAny (model X.prog X.w) X.A (f v u) Q X.xe s₂) X.xe s₁) X.xe s:=by
 refine thn (ha pins s σ H _ I h) fun v s1 ⟨x,H1,I1,r1,q1⟩=>?_;refine thn (hb pins s1 σ H1 _ I1 q1) fun u s2 ⟨y,H2,I2,r2,q2⟩=>?_;exact hf v u s2 x y H2 I2 r1 r2 q2
def tVar (i:Nat):TE:=fun σ H Q=>∃ v,σ[i]?=some (some v)/\Q v H
def tC (v:V):TE:=fun _ H Q=>Q v H
theorem A2p {i:Nat} {x:Str} {pos:Pos} (hN:X.N[i]?=some x) (hv:Vis X.env.scope x) (hd:(x == ("__debug__":Str))=false:=by decide) (hcd:(x == ("__classdict__":Str))=false:=by decide):PE X (.Name x pos) (tVar i):=by
 intro pins s σ H Q I h;obtain ⟨v,e,h⟩:=h;obtain ⟨m,hn,hl⟩:=I.loc;obtain ⟨u,r,l⟩:=hl i x v hN e hv;have fin:EP X pins σ Q u s:=⟨v,H,I,r,h⟩;rcases l with ⟨hk,hm⟩ | ⟨hk,c,hc,hcell⟩
 ·exact wpAny_Name (wpAny_loadName_local I.ok.kind hk hn hm fin) hd
 ·rcases hk with hk | hk
  ·exact wpAny_Name (wpAny_loadName_cell I.ok.kind hk hc hcell fin) hd
  ·exact wpAny_Name (wpAny_loadName_free I.ok.kind hk hc hcell fin hcd) hd
theorem C9 {i j pos}:PE X (.Constant (.int i) j pos) (tC (.int i)):=fun _ _ _ H _ I h=>wpAny_Constant_int ⟨.int i,H,I.tok _,⟨_,rfl⟩,h⟩
theorem D0w {b j pos}:PE X (.Constant (.bool b) j pos) (tC (.bl b)):=fun _ _ _ H _ I h=>Constant_bool ⟨.bl b,H,I,rfl,h⟩
theorem C6u {j pos}:PE X (.Constant .none j pos) (tC .non):=fun _ _ _ H _ I h=>Constant_none ⟨.non,H,I,rfl,h⟩
theorem C6s {x j pos}:PE X (.Constant (.str x) j pos) (tC (.str x)):=fun _ _ _ H _ I h=>Calls.Constant_str ⟨.str x,H,I.tok _,⟨_,rfl⟩,h⟩
def Gl (X:Cx) (x:Str):Prop:=X.env.kindOf x=some .globalImplicit
theorem U6 {E:Value->Shared->Prop} {pins:List (Addr × Obj)} {s:Shared} {σ:St} {H:Hp} {x:Str} {u:Value} {pos:Pos} {Q:Value->Shared->Prop} (I:Inv X pins σ H s) (hg:Gl X x) (hm:X.mg x=some u) (h:Q u s)
  (hd:(x == ("__debug__":Str))=false:=by decide):wpAny (model X.prog X.w) X.A (eval (.Name x pos) X.env) Q E s :=
 Calls.Name_function_global I.ok.kind hg (Calls.loadGlobal_global (by rw [I.ok.glob]; exact I.mod.glob.keeps I.bk) hm h) hd
theorem Y0 {E:Value->Shared->Prop} {pins:List (Addr × Obj)} {s:Shared} {σ:St} {H:Hp} {x:Str} {u:Value} {pos:Pos} {Q:Value->Shared->Prop} (I:Inv X pins σ H s) (hg:Gl X x) (hm:X.mg x=none) (hv:bootBuiltins x=some u) (h:Q u s)
  (hn:x≠"__name__":=by decide) (hd:(x == ("__debug__":Str))=false:=by decide):wpAny (model X.prog X.w) X.A (eval (.Name x pos) X.env) Q E s:=by
 obtain ⟨mb,h1,h2⟩:=I.mod.blt;exact Calls.Name_function_global I.ok.kind hg (Calls.loadGlobal_builtin (by rw [I.ok.glob]; exact I.mod.glob.keeps I.bk) hm (by rw [I.ok.blt]; exact h1.keeps I.bk) ((h2 x hn).trans hv) h) hd
theorem B0w {x:Str} {v:V} {u:Value} {pos:Pos} (hg:Gl X x) (hm:X.mg x=some u) (r:RelV v u) (hd:(x == ("__debug__":Str))=false:=by decide):PE X (.Name x pos) (tC v) :=
 fun _ _ _ H _ I h=>U6 I hg hm ⟨v,H,I,r,h⟩ hd
theorem B0x {x:Str} {v:V} {u:Value} {pos:Pos} (hg:Gl X x) (hm:X.mg x=none) (hv:bootBuiltins x=some u) (r:RelV v u) (hn:x≠"__name__":=by decide) (hd:(x == ("__debug__":Str))=false:=by decide):PE X (.Name x pos) (tC v) :=
 fun _ _ _ H _ I h=>Y0 I hg hm hv ⟨v,H,I,r,h⟩ hn hd
variable {a b:Expr} {ta tb:TE} {pos:Pos}
def PC (X:Cx) (op:CmpOp) (a b:Expr) (t:TE):Prop :=
 ∀ (pins:List (Addr × Obj)) (s:Shared) (σ:St) (H:Hp) (Q:VK),Inv X pins σ H s->t σ H Q ->
  wpAny (model X.prog X.w) X.A (eval a X.env) (fun v s₁=>wpAny (model X.prog X.w) X.A (eval b X.env) (fun u s₂=>wpAny (model X.prog X.w) X.A (compareOp op v u) (EP X pins σ Q) X.xe s₂) X.xe s₁) X.xe s
theorem B7m (b:Expr) {op:CmpOp} (h:op≠.In) (h2:op≠.NotIn):behindInMarks op b=false:=by
 have e1:(op == CmpOp.In)=false:=by cases op <;> first | rfl | exact absurd rfl h
 have e2:(op == CmpOp.NotIn)=false:=by cases op <;> first | rfl | exact absurd rfl h2
 cases b <;> simp [behindInMarks,e1,e2]
def tB (t:TE):TT:=fun σ H Q=>t σ H fun x H1=>∃ c,x=.bl c/\Q c H1
theorem D1k {op:CmpOp} {t:TE} (h:PC X op a b t) (h1:behindInMarks op b=false:=by first | exact B7m _ (by decide) (by decide) | rfl):PT X (.Compare a [op] [b] pos) (tB t):=by
 intro pins s σ H Q I hw;refine wpAny_isTrue_Compare1 (thn (h pins s σ H _ I hw) fun v s1 h1=>thn h1 fun u s2 h2=>thn h2 fun c s3 ⟨x,H1,I1,r1,q1⟩=>?_) h1;obtain ⟨d,rfl,q⟩:=q1;cases r1;exact wpAny_truthy_bool ⟨H1,I1,q⟩
theorem B9c {e:Expr} {t:TE} (h:PE X e t) (he:∀ whole,isTrue e X.env whole=(do let v <- whole; standAt e.pos; holding [v] (truthy v)):=by intro _; rfl):PT X e (tB t):=by
 intro pins s σ H Q I hw;refine isTrue_plain (thn (h pins s σ H _ I hw) fun v s1 ⟨x,H1,I1,r1,q1⟩=>?_) (he _);obtain ⟨d,rfl,q⟩:=q1;cases r1;exact wpAny_truthy_bool ⟨H1,I1,q⟩
variable {tA tB':TT} {rest:List Expr}
def tAnd (t u:TT):TT:=fun σ H Q=>t σ H fun c H1=>if c=true then u σ H1 Q else Q false H1
def tOr (t u:TT):TT:=fun σ H Q=>t σ H fun c H1=>if c=true then Q true H1 else u σ H1 Q
def tNot (t:TT):TT:=fun σ H Q=>t σ H fun c H1=>Q (!c) H1
theorem C2x (ha:PT X a tA):PW X (.BoolOp .And [a] pos) tA:=by
 intro wh pins s σ H Q I h;refine isTrue_and (thn (ha pins s σ H Q I h) fun c s1 e=>?_);cases c with
 | true=>exact isTrue_and_nil e
 | false=>exact e
theorem C6f (ha:PT X a tA):PW X (.BoolOp .Or [a] pos) tA:=by
 intro wh pins s σ H Q I h;refine isTrue_or (thn (ha pins s σ H Q I h) fun c s1 e=>?_);cases c with
 | false=>exact isTrue_or_nil e
 | true=>exact e
theorem C6g (ha:PT X a tA) (hb:PW X (.BoolOp .And (b :: rest) pos) tB'):PW X (.BoolOp .And (a :: b :: rest) pos) (tAnd tA tB'):=by
 intro wh pins s σ H Q I h;refine isTrue_and (thn (ha pins s σ H _ I h) fun c s1 ⟨H1,I1,q1⟩=>?_);cases c with
 | true=>exact hb wh pins s1 σ H1 Q I1 q1
 | false=>exact ⟨H1,I1,q1⟩
theorem D0r (ha:PT X a tA) (hb:PW X (.BoolOp .Or (b :: rest) pos) tB'):PW X (.BoolOp .Or (a :: b :: rest) pos) (tOr tA tB'):=by
 intro wh pins s σ H Q I h;refine isTrue_or (thn (ha pins s σ H _ I h) fun c s1 ⟨H1,I1,q1⟩=>?_);cases c with
 | true=>exact ⟨H1,I1,q1⟩
 | false=>exact hb wh pins s1 σ H1 Q I1 q1
theorem C6h (ha:PT X a tA):PT X (.UnaryOp .Not a pos) (tNot tA):=by
 intro pins s σ H Q I h;exact isTrue_not (ha pins s σ H (fun c H1=>Q (!c) H1) I h)
def C17 (ta tb:TE):TE:=fun σ H Q=>ta σ H fun x H1=>∃ c,x=.bl c/\if c=true then tb σ H1 Q else Q (.bl false) H1
def C13 (ta:TE):TE:=fun σ H Q=>ta σ H fun x H1=>∃ c,x=.bl c/\Q (.bl (!c)) H1
theorem B9e {op} {t:TE} (h:PE X a t):PE X (.BoolOp op [a] pos) t:=fun pins s σ H Q I hw=>BoolOp_one (h pins s σ H Q I hw)
theorem B9h (ha:PE X a ta) (hb:PE X (.BoolOp .And (b :: rest) pos) tb):PE X (.BoolOp .And (a :: b :: rest) pos) (C17 ta tb):=by
 intro pins s σ H Q I h;refine BoolOp_and (thn (ha pins s σ H _ I h) fun v s1 ⟨x,H1,I1,r1,q1⟩=>?_);obtain ⟨c,rfl,q1⟩:=q1;cases r1;refine wpAny_truthy_bool ?_;cases c with
 | true=>exact hb pins s1 σ H1 Q I1 q1
 | false=>exact ⟨.bl false,H1,I1,rfl,q1⟩
theorem B9f (ha:PE X a ta):PE X (.UnaryOp .Not a pos) (C13 ta):=by
 intro pins s σ H Q I h;refine UnaryOp_ (thn (ha pins s σ H _ I h) fun v s1 ⟨x,H1,I1,r1,q1⟩=>?_);obtain ⟨c,rfl,q1⟩:=q1;cases r1;exact not_of (wpAny_truthy_bool ⟨.bl (!c),H1,I1,rfl,q1⟩)
def tIf (t:TT) (ta tb:TE):TE:=fun σ H Q=>t σ H fun c H1=>if c=true then ta σ H1 Q else tb σ H1 Q
theorem A6b {c:Expr} (hc:PT X c tA) (ha:PE X a ta) (hb:PE X b tb):PE X (.IfExp c a b pos) (tIf tA ta tb):=by
 intro pins s σ H Q I h;refine wpAny_IfExp (thn (hc pins s σ H _ I h) fun d s1 ⟨H1,I1,q1⟩=>?_);cases d with
 | true=>exact ha pins s1 σ H1 Q I1 q1
 | false=>exact hb pins s1 σ H1 Q I1 q1
end
end L2
namespace L2
open PySem PySem.Spec PyProof.Rows
def SqL (K:PySem.W.Frag) (H:Hp) (a:Addr) (xs:List V):Prop :=
 Rd H a (.lst xs) \/
  ∃ (o:Obj) (its:Array Value) (n:Nat),K.lookup a=some o/\o.cls=.type "list"/\o.dict=none/\o.data=.seq its n/\its.size<=sizeLine/\Vals xs its.toList
def SqT (K:PySem.W.Frag) (H:Hp) (a:Addr) (xs:List V):Prop :=
 Rd H a (.tup xs) \/
  ∃ (o:Obj) (its:Array Value) (n:Nat),K.lookup a=some o/\o.cls=.type "tuple"/\o.data=.seq its n/\its.size<=sizeLine/\Vals xs its.toList
def absV:Value->Option V
 | .none=>some .non
 | .bool b=>some (.bl b)
 | .int i _=>some (.int i)
 | .str x _=>some (.str x)
 | .bytes b _=>some (.byt b)
 | .float b _=>some (.flt b)
 | .ref a=>some (.ref a)
 | .type n=>some (.ty n)
 | _=>none
theorem RelV.abs {x:V} {u:Value} (r:RelV x u):absV u=some x:=by
 cases x with
 | non=>cases r; rfl
 | bl _=>cases r; rfl
 | int _=>obtain ⟨t,rfl⟩:=r; rfl
 | str _=>obtain ⟨t,rfl⟩:=r; rfl
 | byt _=>obtain ⟨t,rfl⟩:=r; rfl
 | flt _=>obtain ⟨t,rfl⟩:=r; rfl
 | ref _=>cases r; rfl
 | ty _=>cases r; rfl
theorem RelV.inj {x y:V} {u:Value} (r:RelV x u) (q:RelV y u):x=y:=Zj (r.abs.symm.trans q.abs)
theorem Vals.inj:∀ {xs ys:List V} {us:List Value},Vals xs us->Vals ys us->xs=ys
 | _,_,_,.nil,.nil=>rfl
 | _,_,_,.cons r t,.cons r' t'=>by rw [r.inj r',Vals.inj t t']
section
variable {X:Cx} {pins:List (Addr × Obj)} {σ:St} {H:Hp} {s:Shared} {a:Addr} {xs ys:List V}
theorem SqL.of {K:PySem.W.Frag} (h:H a=some (.lst xs)):SqL K H a xs:=.inl (.inl h)
theorem SqT.of {K:PySem.W.Frag} (h:H a=some (.tup xs)):SqT K H a xs:=.inl (.inl h)
theorem Inv.list (I:Inv X pins σ H s) (h:SqL X.K H a xs):∃ its:List Value,Vals xs its/\PlainL s.heap a its.toArray/\xs.length<=sizeLine:=by
 rcases h with h | ⟨o,its,n,hk,hc,hd,hs,hz,r⟩
 ·obtain ⟨z,its,n,r,e⟩:=h.ok I.hok;exact ⟨its,r,⟨_,n,e,rfl,rfl,rfl⟩,z⟩
 ·refine ⟨its.toList,r,⟨o,n,I.kIn a o hk,hc,hd,by simpa using hs⟩,?_⟩;have e:=r.length;simp only [Array.length_toList] at e;omega
theorem Inv.tuple (I:Inv X pins σ H s) (h:SqT X.K H a xs):∃ its:List Value,Vals xs its/\IsTup s.heap a its.toArray/\xs.length<=sizeLine:=by
 rcases h with h | ⟨o,its,n,hk,hc,hs,hz,r⟩
 ·obtain ⟨z,its,r,p⟩:=h.ok I.hok;exact ⟨its,r,p,z⟩
 ·refine ⟨its.toList,r,⟨o,I.kIn a o hk,hc,n,by simpa using hs⟩,?_⟩;have e:=r.length;simp only [Array.length_toList] at e;omega
theorem Inv.list_inj (I:Inv X pins σ H s) (h:SqL X.K H a xs) (h':SqL X.K H a ys):xs=ys:=by
 obtain ⟨its,r,⟨o,n,e,_,_,d⟩,_⟩:=I.list h;obtain ⟨its',r',⟨o',n',e',_,_,d'⟩,_⟩:=I.list h';rw [e] at e'; cases e';rw [d] at d';injection d' with d1 _
 have:its=its':=by simpa using congrArg Array.toList d1
 subst this;exact r.inj r'
theorem Inv.tuple_inj (I:Inv X pins σ H s) (h:SqT X.K H a xs) (h':SqT X.K H a ys):xs=ys:=by
 obtain ⟨its,r,⟨o,e,_,n,d⟩,_⟩:=I.tuple h;obtain ⟨its',r',⟨o',e',_,n',d'⟩,_⟩:=I.tuple h';rw [e] at e'; cases e';rw [d] at d';injection d' with d1 _
 have:its=its':=by simpa using congrArg Array.toList d1
 subst this;exact r.inj r'
end
abbrev Cx.wish (X:Cx) (E:Value->Shared->Prop):Cx:={ X with xe:=E }
abbrev Cx.nox (X:Cx):Cx:=X.wish fun _ _=>False
theorem Cx.Ok.wish {X:Cx} (ok:X.Ok) (E:Value->Shared->Prop):(X.wish E).Ok :=
 ⟨ok.mod,ok.kind,ok.glob,ok.blt,ok.above,ok.inj,ok.has,ok.cab,ok.hd,ok.frames,ok.stk,ok.exf,ok.bs,ok.bsz,ok.noex,ok.exfs,ok.funs,ok.frf⟩
theorem Cx.Ok.unwish {X:Cx} {E:Value->Shared->Prop} (ok:(X.wish E).Ok):X.Ok :=
 ⟨ok.mod,ok.kind,ok.glob,ok.blt,ok.above,ok.inj,ok.has,ok.cab,ok.hd,ok.frames,ok.stk,ok.exf,ok.bs,ok.bsz,ok.noex,ok.exfs,ok.funs,ok.frf⟩
section
variable {X:Cx} {pins:List (Addr × Obj)} {σ:St} {H:Hp} {s:Shared} {E:Value->Shared->Prop}
theorem Inv.wish (I:Inv X pins σ H s) (E:Value->Shared->Prop):Inv (X.wish E) pins σ H s:=⟨I.ok.wish E,I.os,I.bare,I.base,I.loc,I.cell,I.free,I.freeC,I.pin,I.hok,I.len⟩
theorem Inv.unwish (I:Inv (X.wish E) pins σ H s):Inv X pins σ H s:=⟨I.ok.unwish,I.os,I.bare,I.base,I.loc,I.cell,I.free,I.freeC,I.pin,I.hok,I.len⟩
theorem SP.unwish {D:Ends} {f:Flow} {s':Shared} (h:SP (X.wish E) pins D f s'):SP X pins D f s':=by
 cases f with
 | next=>obtain ⟨σ',H',I,q⟩:=h; exact ⟨σ',H',I.unwish,q⟩
 | brk=>obtain ⟨σ',H',I,q⟩:=h; exact ⟨σ',H',I.unwish,q⟩
 | cont=>obtain ⟨σ',H',I,q⟩:=h; exact ⟨σ',H',I.unwish,q⟩
 | ret u=>obtain ⟨v,σ',H',I,r,q⟩:=h; exact ⟨v,σ',H',I.unwish,r,q⟩
theorem PE.nox {e:Expr} {t:TE} (h:PE X.nox e t):PE X e t:=fun pins s σ H Q I hw =>
 wpAny_mono (h pins s σ H Q (I.wish _) hw) (fun _ _ ⟨v,H',I',r,q⟩=>⟨v,H',I'.unwish,r,q⟩) fun _ _ z=>False.elim z
theorem PT.nox {e:Expr} {t:TT} (h:PT X.nox e t):PT X e t:=fun pins s σ H Q I hw =>
 wpAny_mono (h pins s σ H Q (I.wish _) hw) (fun _ _ ⟨H',I',q⟩=>⟨H',I'.unwish,q⟩) fun _ _ z=>False.elim z
theorem PSs.nox {st:List Stmt} {t:TS} (h:PSs X.nox st t):PSs X st t:=fun pins s σ H D I hw =>
 wpAny_mono (h pins s σ H D (I.wish _) hw) (fun _ _ q=>q.unwish) fun _ _ z=>False.elim z
end
section
variable {X:Cx} {st:Stmt} {rest:List Stmt} {t u:TS} {e:Expr} {te:TE} {pos:Pos}
def C14:TS:=fun D σ H=>D.nx σ H
def tSeq (t u:TS):TS:=fun D σ H=>t { D with nx:=u D } σ H
theorem A4l:PSs X [] C14:=fun _ _ σ H _ I h=>wpAny_execs_nil ⟨σ,H,I,h⟩
theorem J4 (h1:PS X st t) (h2:PSs X rest u):PSs X (st :: rest) (tSeq t u):=by
 intro pins s σ H D I h;refine wpAny_execs_cons (thn (h1 pins s σ H { D with nx:=u D } I h) fun f s1 q=>?_);cases f with
 | next =>
  obtain ⟨σ',H',I',q⟩:=q;exact h2 pins s1 σ' H' D I' q
 | ret v=>exact q
 | brk=>exact q
 | cont=>exact q
theorem T9 (h1:PS X st t):PSs X [st] t:=by
 intro pins s σ H D I h;refine wpAny_execs_cons (thn (h1 pins s σ H D I h) fun f s1 q=>?_);cases f with
 | next=>exact wpAny_execs_nil q
 | ret v=>exact q
 | brk=>exact q
 | cont=>exact q
theorem Inv.quiet {pins:List (Addr × Obj)} {σ:St} {H:Hp} {s:Shared} (I:Inv X pins σ H s):interactive X.env=false:=by simp [interactive,I.ok.kind]
def B56 (te:TE):TS:=fun D σ H=>te σ H fun _ H1=>D.nx σ H1
theorem C25 (he:PE X e te) (hs:swapsWith e none pos.line X.env=pure false:=by rfl):PS X (.Expr e pos) (B56 te):=by
 intro pins s σ H D I h;exact wpAny_Expr_any (thn (he pins s σ H _ I h) fun v s1 ⟨x,H1,I1,r1,q1⟩=>⟨σ,H1,I1,q1⟩) I.quiet hs
def tRet (te:TE):TS:=fun D σ H=>te σ H D.rt
theorem A2h (he:PE X e te):PS X (.Return (some e) pos) (tRet te):=by
 intro pins s σ H D I h;exact wpAny_Return_some (thn (he pins s σ H _ I h) fun v s1 ⟨x,H1,I1,r1,q1⟩=>⟨x,σ,H1,I1,r1,q1⟩)
def tIfS (c:TT) (t u:TS):TS:=fun D σ H=>c σ H fun b H1=>if b=true then t D σ H1 else u D σ H1
theorem C24 {c:Expr} {a b:List Stmt} {tc:TT} (hc:PT X c tc) (ha:PSs X a t) (hb:PSs X b u):PS X (.If c a b pos) (tIfS tc t u):=by
 intro pins s σ H D I h;refine wpAny_If (thn (hc pins s σ H _ I h) fun d s1 ⟨H1,I1,q1⟩=>?_);cases d with
 | true=>exact ha pins s1 σ H1 D I1 q1
 | false=>exact hb pins s1 σ H1 D I1 q1
def A5r:TS:=fun _ _ _=>False
theorem B6t:PS X st A5r:=fun _ _ _ _ _ _ h=>h.elim
end
abbrev TG:=V->St->Hp->(St->Hp->Prop)->Prop
abbrev TGs:=List V->St->Hp->(St->Hp->Prop)->Prop
def PG (X:Cx) (target:Expr) (t:TG):Prop :=
 ∀ (pins:List (Addr × Obj)) (s:Shared) (σ:St) (H:Hp) (v:V) (u:Value) (Q:St->Hp->Prop),Inv X pins σ H s->RelV v u->t v σ H Q ->
  wpAny (model X.prog X.w) X.A (assign target X.env u) (fun _ s'=>∃ σ' H',Inv X pins σ' H' s'/\Q σ' H') X.xe s
def PGs (X:Cx) (ts:List Expr) (t:TGs):Prop :=
 ∀ (pins:List (Addr × Obj)) (s:Shared) (σ:St) (H:Hp) (vs:List V) (us:List Value) (Q:St->Hp->Prop),Inv X pins σ H s->Vals vs us->t vs σ H Q ->
  wpAny (model X.prog X.w) X.A (assignInOrder ((assignEach ts X.env).map (·.2)) us) (fun _ s'=>∃ σ' H',Inv X pins σ' H' s'/\Q σ' H') X.xe s
abbrev TSet:=V->V->V->Hp->(Hp->Prop)->Prop
def PSet (X:Cx) (t:TSet):Prop :=
 ∀ (pins:List (Addr × Obj)) (s:Shared) (σ:St) (H:Hp) (o i v:V) (ov iv u:Value) (Q:Hp->Prop),Inv X pins σ H s->RelV o ov->RelV i iv->RelV v u->t o i v H Q ->
  wpAny (model X.prog X.w) X.A (setItem ov iv u) (fun _ s'=>∃ H',Inv X pins σ H' s'/\Q H') X.xe s
section
variable {X:Cx} {pos:Pos}
def Y5 (i:Nat):TG:=fun v σ H Q=>Q (σ.set i (some v)) H
theorem B0u {i:Nat} {x:Str} (hN:X.N.Nodup) (hi:X.N[i]?=some x) (hx:Loc X.env.scope x) (hf:X.fn x=true\/X.env.scope.names.lookup x=some .local:=by first | exact .inl rfl | exact .inr rfl | assumption):PG X (.Name x pos) (Y5 i):=by
 intro pins s σ H v u Q I r h;exact wpAny_assign_Name (K9 I hN hi hx r (fun s' I'=>⟨_,H,I',h⟩) hf)
def gNil:TGs:=fun vs σ H Q=>vs=[]/\Q σ H
def C4m (t:TG) (u:TGs):TGs:=fun vs σ H Q=>∃ v r,vs=v :: r/\t v σ H fun σ' H'=>u r σ' H' Q
theorem C3c:PGs X [] gNil:=by
 intro pins s σ H vs us Q I r h;obtain ⟨e,h⟩:=h;subst e;cases r;exact assignInOrder_nil ⟨σ,H,I,h⟩
theorem B63 {e:Expr} {es:List Expr} {t:TG} {u:TGs} (h1:PG X e t) (h2:PGs X es u)
  (hs:(assignEach (e :: es) X.env).map (·.2)=assign e X.env :: (assignEach es X.env).map (·.2):=by rfl):PGs X (e :: es) (C4m t u):=by
 intro pins s σ H vs us Q I r h;obtain ⟨v,vr,e1,h⟩:=h;subst e1;cases r with
 | cons r rr =>
  rw [hs];refine assignInOrder_cons (thn (h1 pins s σ H _ _ _ I r h) fun _ s1 ⟨σ1,H1,I1,q1⟩=>?_);exact h2 pins s1 σ1 H1 _ _ Q I1 rr q1
def gTup (K:PySem.W.Frag) (n:Nat) (t:TGs):TG:=fun v σ H Q=>∃ a xs,v=.ref a/\SqT K H a xs/\xs.length=n/\t xs σ H Q
theorem C6q {es:List Expr} {k:Nat} {t:TGs} {n:Nat} (hc:X.calm=true) (h:PGs X es t)
  (hn:(assignEach es X.env).length=n:=by rfl) (hst:(assignEach es X.env).findIdx? (·.1)=none:=by rfl):PG X (.Tuple es k pos) (gTup X.K n t):=by
 intro pins s σ H v u Q I r hw;obtain ⟨a,xs,e1,hq,hl,hw⟩:=hw;subst e1;cases r;obtain ⟨its,rv,ht,hz⟩:=I.tuple hq;refine assign_Tuple_tuple (I.ok.hd hc) ht (by simp [hn,<- hl,rv.length]) hst fun h' hx=>?_;have I1:Inv X pins σ H { s with heap:=h' }:=I.kept (t':=s.toks) fun b o e=>hx b o (Nat.ne_of_lt (Heap.lt_size e)) e;exact h pins _ σ H xs _ Q I1 (by simpa using rv) hw
def gSub (to ti:TE) (t:TSet):TG:=fun v σ H Q=>to σ H fun o H1=>ti σ H1 fun i H2=>t o i v H2 fun H3=>Q σ H3
theorem B0t {o i:Expr} {to ti:TE} {t:TSet} (ho:PE X o to) (hi:PE X i ti) (hs:PSet X t)
  (ha:∀ v,assign (.Subscript o i pos) X.env v=(do
   let ov <- holding [v] (eval o X.env)
   let iv <- holding [v,ov] (eval i X.env)
   standAt pos
   holding [v,ov,iv] (setItem ov iv v)
   release [v,ov,iv] []):=by intro _; rfl):PG X (.Subscript o i pos) (gSub to ti t):=by
 intro pins s σ H v u Q I r h;rw [ha];refine wpAny_bind (wpAny_holding (thn (ho pins s σ H _ I h) fun ov s1 ⟨x,H1,I1,r1,q1⟩=>?_));refine wpAny_bind (wpAny_holding (thn (hi pins s1 σ H1 _ I1 q1) fun iv s2 ⟨y,H2,I2,r2,q2⟩=>?_));refine wpAny_bind (wpAny_standAt (wpAny_bind (wpAny_holding (thn (hs pins s2 σ H2 x y v ov iv u _ I2 r1 r2 r q2) fun _ s3 ⟨H3,I3,q3⟩=>?_))));exact wpAny_release ⟨σ,H3,I3,q3⟩
def tAsg (te:TE) (g:TG):TS:=fun D σ H=>te σ H fun x H1=>g x σ H1 D.nx
theorem A59 {tg e:Expr} {te:TE} {g:TG} (he:PE X e te) (hg:PG X tg g) (hs:swapsWithSole [tg] e pos.line X.env=pure false:=by rfl) (hw:swappedStores [tg] e X.env=pure none:=by rfl)
  (h1:(assignEach [tg] X.env).map (·.2)=[assign tg X.env]:=by rfl):PS X (.Assign [tg] e pos) (tAsg te g):=by
 intro pins s σ H D I h;refine wpAny_Assign_stores (thn (he pins s σ H _ I h) fun v s1 ⟨x,H1,I1,r1,q1⟩=>?_) hs hw;rw [h1];exact thn (hg pins s1 σ H1 x v _ I1 r1 q1) fun _ s2 q=>q
theorem A0f {i:Nat} {x:Str} {e:Expr} {te:TE} {pos':Pos} (hN:X.N.Nodup) (hi:X.N[i]?=some x) (hx:Loc X.env.scope x) (he:PE X e te) (hs:swapsWith e (some (.Name x pos')) pos.line X.env=pure false:=by rfl) (hf:X.fn x=true\/X.env.scope.names.lookup x=some .local:=by first | exact .inl rfl | exact .inr rfl | assumption) :
  PS X (.Assign [.Name x pos'] e pos) (tAsg te (Y5 i)):=by
 intro pins s σ H D I h;refine wpAny_Assign_Name (thn (he pins s σ H _ I h) fun v s1 ⟨y,H1,I1,r1,q1⟩=>?_) hs;exact K9 I1 hN hi hx r1 (fun s2 I2=>⟨_,H1,I2,q1⟩) hf
def tPar (i j:Nat) (ta:TA):TS:=fun D σ H=>ta σ H fun vs H1=>∃ v w,vs=[v,w]/\D.nx ((σ.set i (some v)).set j (some w)) H1
theorem C6i {i j:Nat} {x y:Str} {a b:Expr} {ta:TA} {px py pt:Pos} {kt k2 pt2} (hc:X.calm=true) (hN:X.N.Nodup) (hi:X.N[i]?=some x) (hj:X.N[j]?=some y) (hij:i≠j)
  (hx:X.env.scope.names.lookup x=some .local) (hy:X.env.scope.names.lookup y=some .local) (ha:PA X [a,b] ta)
  (hw:swappedStores [.Tuple [.Name x px,.Name y py] kt pt] (.Tuple [a,b] k2 pt2) X.env=pure (some [x,y]))
  (hs:swapsWithSole [.Tuple [.Name x px,.Name y py] kt pt] (.Tuple [a,b] k2 pt2) pos.line X.env=pure false:=by rfl) :
  PS X (.Assign [.Tuple [.Name x px,.Name y py] kt pt] (.Tuple [a,b] k2 pt2) pos) (tPar i j ta):=by
 intro pins s σ H D I h;rw [exec_Assign_arm];refine wpAny_bind (wpAny_standAt ?_);rw [hs];refine wpAny_bind (wpAny_pure ?_);rw [if_neg (by decide)];refine wpAny_bind (Tuple_ (thn (ha _ pins s σ H _ I h) fun us s1 ⟨vs,H1,I1,r1,q1⟩=>?_));obtain ⟨v,w,e1,q1⟩:=q1;subst e1;obtain ⟨u1,u2,rfl,rv,rw'⟩:∃ u1 u2,us=[u1,u2]/\RelV v u1/\RelV w u2:=by
  cases r1 with
  | cons p q =>
   cases q with
   | cons p' q' =>
    cases q';exact ⟨_,_,rfl,p,p'⟩
 refine wpAny_newObj_type ?_ (by show 2<=sizeLine; decide);have I2:Inv X pins σ H1 { s1 with heap:=s1.heap.push { cls:=.type "tuple",data:=.seq [u1,u2].toArray } }:=I1.kept (t':=s1.toks) fun b o e=>Heap.get?_push_of_some _ e;rw [hw];refine wpAny_bind (wpAny_pure ?_);show wpAny (model X.prog X.w) X.A (do rule "assign.swapped-stores"; let items <- unpackItems (.ref s1.heap.objs.size) 2 none; assignInOrder [fun v=>bindName X.env y v,fun v=>bindName X.env x v] items.reverse; pure Flow.next) _ _ _;refine wpAny_bind (wpAny_rule (wpAny_bind (unpackItems_tuple (items:=#[u1,u2]) (I.ok.hd hc) (IsTup.new s1.heap _) fun h' hx'=>?_)));have I3:=I2.kept (h':=h') (t':=s1.toks) fun b o e=>hx' b o (Nat.ne_of_lt (Heap.lt_size e)) e;show wpAny _ _ (assignInOrder [fun v=>bindName X.env y v,fun v=>bindName X.env x v] [u2,u1] >>= fun _=>pure Flow.next) _ _ _;refine wpAny_bind (assignInOrder_cons (wpAny_bindName (K9 I3 hN hj (.inl hy) rw' (fun s2 I4=>?_) (.inr hy))));refine assignInOrder_cons (wpAny_bindName (K9 I4 hN hi (.inl hx) rv (fun s3 I5=>assignInOrder_nil (wpAny_pure ?_)) (.inr hx)));rw [List.set_comm _ _ (Ne.symm hij)] at I5;exact ⟨_,H1,I5,q1⟩
end
section
variable {X:Cx} {pos:Pos}
def A9l (c:TT) (tb:TS):TS:=fun D σ H=>∃ W:Nat->St->Hp->Prop,(∃ m,W m σ H)/\∀ m σ H,W m σ H ->
 c σ H fun b H1=>if b=true then ∃ N:St->Hp->Prop,(∀ σ' H',N σ' H'->∃ m',m' < m/\W m' σ' H')/\tb { D with nx:=N,ct:=N,bk:=D.nx } σ H1 else D.nx σ H1
theorem B6s {c:Expr} {body:List Stmt} {tc:TT} {tb:TS} (hp:PassesOwn (model X.prog X.w) X.A X.env X.xe) (hc:PT X c tc) (hb:PSs X body tb):PS X (.While c body [] pos) (A9l tc tb):=by
 intro pins s σ H D I h;obtain ⟨W,⟨m0,w0⟩,turn⟩:=h;refine wpAny_While (codeAny_whileLoop (fun n s'=>∃ σ' H',Inv X pins σ' H' s'/\W n σ' H') ?_ m0 ⟨σ,H,I,w0⟩);rintro n s1 ⟨σ1,H1,I1,w1⟩;refine wpAny_passesOwn hp (thn (hc pins s1 σ1 H1 _ I1 (turn n σ1 H1 w1)) fun b s2 ⟨H2,I2,q2⟩=>?_);cases b with
 | true =>
  obtain ⟨N,hN,q2⟩:=q2;rw [if_pos rfl];refine wpAny_passesOwn hp (thn (hb pins s2 σ1 H2 _ I2 q2) fun f s3 q3=>?_);cases f with
  | next =>
   obtain ⟨σ3,H3,I3,n3⟩:=q3;obtain ⟨m',hm,w3⟩:=hN σ3 H3 n3;exact ⟨m',hm,σ3,H3,I3,w3⟩
  | cont =>
   obtain ⟨σ3,H3,I3,n3⟩:=q3;obtain ⟨m',hm,w3⟩:=hN σ3 H3 n3;exact ⟨m',hm,σ3,H3,I3,w3⟩
  | brk=>exact q3
  | ret v=>exact q3
 | false =>
  rw [if_neg Bool.false_ne_true];exact wpAny_execs_nil ⟨σ1,H2,I2,q2⟩
end
structure It where
 go:Nat->Hp->Prop
 yld:Nat->Hp->V->Hp->Prop
 stop:Nat->Hp->Prop
def FpOk (X:Cx) (pins:List (Addr × Obj)) (H:Hp) (b:Addr):Prop :=
 H b=none/\b≠X.env.locals/\b ∉ X.fs/\(b ∈ X.ex\/X.s₀.heap.objs.size<=b)/\(∀ x c,X.env.cells.lookup x=some c->c≠b)/\∀ p ∈ X.pn++pins,p.1≠b
theorem Inv.fpOk {X:Cx} {pins:List (Addr × Obj)} {σ:St} {H H':Hp} {s:Shared} {b:Addr} (I:Inv X pins σ H s) (hb:s.heap.objs.size<=b) (hn:H' b=none):FpOk X pins H' b:=by
 refine ⟨hn,Nat.ne_of_gt (Nat.lt_of_lt_of_le I.lt hb),I.nofs hb,.inr (Zx I.sz hb),fun x c e z=>?_,fun p hp z=>?_⟩
 ·obtain ⟨v,q⟩:=I.cell x c e;exact absurd (Nat.lt_of_lt_of_le q.lt (by rw [z]; exact hb)) (Nat.lt_irrefl _)
 ·exact absurd (Nat.lt_of_lt_of_le (Heap.lt_size (I.pin p hp).1) (by rw [z]; exact hb)) (Nat.lt_irrefl _)
structure Turn (P:Program) (w:World) (K:PySem.W.Frag) (tg:Expr) (J:It) (fp:List Addr) (it:Addr) (tn:Nat->Heap->Prop):Prop where
  mem:it ∈ fp
  obj:∀ i h,tn i h->∀ b ∈ fp,∃ o,h.get? b=some o/\∀ v,o.data≠.cell v
  keep:∀ i h h',tn i h->(∀ b ∈ fp,∀ o,h.get? b=some o->h'.get? b=some o)->tn i h'
  item:∀ (X:Cx),X.prog=P->X.w=w->X.K=K->X.calm=true->∀ (i:Nat) (pins:List (Addr × Obj)) (s:Shared) (σ:St) (H:Hp) (E:Value->Shared->Prop),Inv X pins σ H s->(∀ b ∈ fp,FpOk X pins H b)->tn i s.heap->J.go i H ->
    wpAny (model P w) X.A (pyNext (.ref it)) (fun r s1=>∃ u,r=some u /\
      wpAny (model P w) X.A (letOwnedTupleGo tg (.ref it) u) (fun _ s2=>∃ x H',Inv X pins σ H' s2/\RelV x u/\J.yld i H x H'/\tn (i + 1) s2.heap/\∀ b ∈ fp,H' b=none) E s1) E s
  done:∀ (X:Cx),X.prog=P->X.w=w->X.K=K->X.calm=true->∀ (i:Nat) (pins:List (Addr × Obj)) (s:Shared) (σ:St) (H:Hp) (E:Value->Shared->Prop),Inv X pins σ H s->(∀ b ∈ fp,FpOk X pins H b)->tn i s.heap->J.stop i H ->
    wpAny (model P w) X.A (pyNext (.ref it)) (fun r s1=>r=none/\Inv X pins σ H s1) E s
  self:∀ (A:Around) (i:Nat) (s:Shared) (Q:Value->Shared->Prop) (E:Value->Shared->Prop),tn i s.heap->Q (.ref it) s->wpAny (model P w) A (pyIter (.ref it)) Q E s
abbrev TI:=St->Hp->(It->Hp->Prop)->Prop
def PIE (X:Cx) (pins:List (Addr × Obj)) (σ:St) (tg:Expr) (R:It->Hp->Prop) (itv:Value) (s2:Shared):Prop :=
 ∃ (it:Addr) (fp:List Addr) (tn:Nat->Heap->Prop) (J:It) (H':Hp),itv=.ref it/\Inv X pins σ H' s2/\Turn X.prog X.w X.K tg J fp it tn/\tn 0 s2.heap/\(∀ b ∈ fp,FpOk X pins H' b)/\R J H'
def PI (X:Cx) (tg iter:Expr) (wi:TI):Prop :=
 ∀ (pins:List (Addr × Obj)) (s:Shared) (σ:St) (H:Hp) (R:It->Hp->Prop),Inv X pins σ H s->wi σ H R ->
  wpAny (model X.prog X.w) X.A (eval iter X.env) (fun v s1=>wpAny (model X.prog X.w) X.A (pyIter v) (PIE X pins σ tg R) X.xe s1) X.xe s
theorem B40 {M:Model} {A:Around} {E:Value->Shared->Prop} {s:Shared} {tg:Expr} {it:Addr} {u:Value} {o:Obj} {n:String} {vs:Array Value} {Q:Unit->Shared->Prop} (ho:s.heap.get? it=some o) (hc:o.cls=.type n) (hd:o.data=.fields vs)
    (hn:["enumerate","zip","dict_itemiterator","dict_reverseitemiterator","odict_iterator","itertools.zip_longest","itertools.pairwise"].contains n=false) (hQ:Q () s):wpAny M A (letOwnedTupleGo tg (.ref it) u) Q E s:=by
  unfold letOwnedTupleGo;cases tg <;> first
    | exact wpAny_pure hQ
    | (cases u <;> first
        | exact wpAny_pure hQ
        | (refine wpAny_bind (wpAny_load ho ?_)
           rw [hc,hd];show wpAny M A (if (["enumerate","zip","dict_itemiterator","dict_reverseitemiterator","odict_iterator","itertools.zip_longest","itertools.pairwise"].contains n && vs[0]? == some (rawInt _))=true then _ else _) Q E s;rw [if_neg (by intro h; rw [hn,Bool.false_and] at h; cases h)];exact wpAny_pure hQ))
def Itl (K:PySem.W.Frag) (a:Addr):It :=
 ⟨fun i H=>∃ xs x,SqL K H a xs/\xs[i]?=some x,fun i H x H'=>H'=H/\∀ xs,SqL K H a xs->xs[i]?=some x,fun i H=>∃ xs,SqL K H a xs/\xs.length<=i⟩
def Itt (K:PySem.W.Frag) (a:Addr):It :=
 ⟨fun i H=>∃ xs x,SqT K H a xs/\xs[i]?=some x,fun i H x H'=>H'=H/\∀ xs,SqT K H a xs->xs[i]?=some x,fun i H=>∃ xs,SqT K H a xs/\xs.length<=i⟩
def Itr (lo:Int) (n:Nat):It:=⟨fun i _=>i < n,fun i H x H'=>H'=H/\x=.int (lo + i),fun i _=>n<=i⟩
theorem A9i {P:Program} {w:World} {K:PySem.W.Frag} {tg:Expr} (a it:Addr):Turn P w K tg (Itl K a) [it] it (fun i h=>h.IsListIter it a i) where
 mem:=by simp
 obj:=fun i h st b hb=>by
  have e:b=it:=by simpa using hb
  subst e;obtain ⟨o,e,c,d⟩:=st;exact ⟨o,e,fun v z=>by rw [d] at z; cases z⟩
 keep:=fun i h h' st k=>st.at fun o e=>k it (by simp) o e
 item:=by
  intro X hP hw hK hc i pins s σ H E I hf st hg;subst hP hw hK;obtain ⟨xs,x,hq,hx⟩:=hg;obtain ⟨its,rv,p,hz⟩:=I.list hq;obtain ⟨u,hu,ru⟩:=rv.get hx;obtain ⟨f0,f1,f2,f3,f4,f5⟩:=hf it (by simp);refine wpAny_pyNext_list_item st p.isList (x:=u) (by simpa using hu) fun h' st' sb=>?_;have I1:Inv X pins σ H { s with heap:=h' }:=I.turned (t':=s.toks) (fun b o hb e=>(sb.2 b hb).trans e) f0 f1 f3 f4 f5;obtain ⟨o,e,c,d⟩:=id st';exact ⟨u,rfl,B40 (s:={ s with heap:=h' }) e c d (by decide) ⟨x,H,I1,ru,⟨rfl,fun ys hy=>by rw [I.list_inj hy hq]; exact hx⟩,st',fun b hb=>(hf b hb).1⟩⟩
 done:=by
  intro X hP hw hK hc i pins s σ H E I hf st hg;subst hP hw hK;obtain ⟨xs,hq,hx⟩:=hg;obtain ⟨its,rv,p,hz⟩:=I.list hq;obtain ⟨f0,f1,f2,f3,f4,f5⟩:=hf it (by simp);have hl:=rv.length;exact wpAny_pyNext_list_end (I.ok.hd hc) st p.isList (by simp; omega) fun h' eb=>⟨rfl,I.turned (t':=s.toks) (fun b o hb e=>eb b o hb e) f0 f1 f3 f4 f5⟩
 self:=fun _ _ _ _ _ st h=>wpAny_pyIter_listiter st h
theorem A71 {P:Program} {w:World} {K:PySem.W.Frag} {tg:Expr} (a it:Addr):Turn P w K tg (Itt K a) [it] it (fun i h=>h.IsTupleIter it a i) where
 mem:=by simp
 obj:=fun i h st b hb=>by
  have e:b=it:=by simpa using hb
  subst e;obtain ⟨o,e,c,d⟩:=st;exact ⟨o,e,fun v z=>by rw [d] at z; cases z⟩
 keep:=fun i h h' st k=>st.at fun o e=>k it (by simp) o e
 item:=by
  intro X hP hw hK hc i pins s σ H E I hf st hg;subst hP hw hK;obtain ⟨xs,x,hq,hx⟩:=hg;obtain ⟨its,rv,p,hz⟩:=I.tuple hq;obtain ⟨u,hu,ru⟩:=rv.get hx;obtain ⟨f0,f1,f2,f3,f4,f5⟩:=hf it (by simp);refine wpAny_pyNext_tuple_item st (show s.heap.IsTuple a its.toArray from p) (x:=u) (by simpa using hu) fun h' st' sb=>?_;have I1:Inv X pins σ H { s with heap:=h' }:=I.turned (t':=s.toks) (fun b o hb e=>(sb.2 b hb).trans e) f0 f1 f3 f4 f5;obtain ⟨o,e,c,d⟩:=id st';exact ⟨u,rfl,B40 (s:={ s with heap:=h' }) e c d (by decide) ⟨x,H,I1,ru,⟨rfl,fun ys hy=>by rw [I.tuple_inj hy hq]; exact hx⟩,st',fun b hb=>(hf b hb).1⟩⟩
 done:=by
  intro X hP hw hK hc i pins s σ H E I hf st hg;subst hP hw hK;obtain ⟨xs,hq,hx⟩:=hg;obtain ⟨its,rv,p,hz⟩:=I.tuple hq;obtain ⟨f0,f1,f2,f3,f4,f5⟩:=hf it (by simp);have hl:=rv.length;exact wpAny_pyNext_tuple_end (I.ok.hd hc) st (show s.heap.IsTuple a its.toArray from p) (by simp; omega) fun h' eb=>⟨rfl,I.turned (t':=s.toks) (fun b o hb e=>eb b o hb e) f0 f1 f3 f4 f5⟩
 self:=fun _ _ _ _ _ st h=>wpAny_pyIter_tupleiter st h
theorem A72 {P:Program} {w:World} {K:PySem.W.Frag} {tg:Expr} (it:Addr) (lo:Int) (n:Nat):Turn P w K tg (Itr lo n) [it] it (fun i h=>IsRangeIter h it (lo + (i:Nat) * 1) ((n:Int) - (i:Nat)) 1) where
 mem:=by simp
 obj:=fun i h st b hb=>by
  have e:b=it:=by simpa using hb
  subst e;exact ⟨_,st,fun v z=>by
   have z':Data.fields _=Data.cell v:=z;cases z'⟩
 keep:=fun i h h' st k=>k it (by simp) _ st
 item:=by
  intro X hP hw hK hc i pins s σ H E I hf st hg;subst hP hw hK;obtain ⟨f0,f1,f2,f3,f4,f5⟩:=hf it (by simp);have W:=Walks.range (prog:=X.prog) (w:=X.w) (I.ok.hd hc) it lo 1 n;refine W.item i s _ _ hg st fun v h' tk hv st' kk=>?_;obtain ⟨t,rfl⟩:=hv;have I1:Inv X pins σ H { s with heap:=h',toks:=tk }:=I.turned (fun b o hb e=>kk b o (by simpa using hb) e) f0 f1 f3 f4 f5;refine ⟨_,rfl,B40 (s:={ s with heap:=h',toks:=tk }) (n:="range_iterator") st' rfl rfl (by decide) ⟨.int (lo + i),H,I1,⟨t,?_⟩,⟨rfl,rfl⟩,st',fun b hb=>(hf b hb).1⟩⟩;rw [Int.mul_one]
 done:=by
  intro X hP hw hK hc i pins s σ H E I hf st hg;subst hP hw hK;obtain ⟨f0,f1,f2,f3,f4,f5⟩:=hf it (by simp);exact wpAny_pyNext_range_end (I.ok.hd hc) st (by have:n<=i:=hg; omega) fun h' eb=>⟨rfl,I.turned (t':=s.toks) (fun b o hb e=>eb b o hb e) f0 f1 f3 f4 f5⟩
 self:=fun _ _ _ _ _ st h=>wpAny_pyIter_rangeiter st h
end L2
namespace L2
open PySem PySem.Spec PyProof.Rows
section
variable {X:Cx} {tg:Expr}
theorem A50 {pins:List (Addr × Obj)} {σ:St} {H:Hp} {s:Shared} {R:It->Hp->Prop} {E:Value->Shared->Prop} {lo hi:Int} {t u v:Tok} {tk:Nat} (I:Inv X pins σ H s) (h1:-(2 ^ 62)<=lo) (h2:lo < 2 ^ 62) (h3:-(2 ^ 62)<=hi) (h4:hi < 2 ^ 62)
  (q:R (Itr lo (hi - lo).toNat) H):wpAny (model X.prog X.w) X.A (pyIter (.ref s.heap.objs.size)) (PIE X pins σ tg R) E { s with heap:=s.heap.push { cls:=.type "range",data:=.fields #[.int lo t,.int hi u,.int 1 v] },toks:=tk }:=by
 refine wpAny_pyIter_range (IsRange.new ..) (small_one h1 h2 h3 h4) ?_;have I1:Inv X pins σ H { s with heap:=s.heap.push { cls:=.type "range",data:=.fields #[.int lo t,.int hi u,.int 1 v] },toks:=tk }:=I.kept fun b o e=>Heap.get?_push_of_some _ e;refine ⟨(s.heap.push { cls:=.type "range",data:=.fields #[.int lo t,.int hi u,.int 1 v] }).objs.size,[(s.heap.push { cls:=.type "range",data:=.fields #[.int lo t,.int hi u,.int 1 v] }).objs.size],_,_,H,rfl,
  I1.kept (t':=tk) fun b o e=>Heap.get?_push_of_some _ e,A72 _ lo (hi - lo).toNat,?_,fun b hb=>?_,q⟩
 ·have e1:lo + ((0:Nat):Int) * 1=lo:=by simp
  have e2:(((hi - lo).toNat:Nat):Int) - ((0:Nat):Int)=Builtin.Range.rangeSize lo hi 1:=by rw [rangeSize_one]; split <;> omega
  show IsRangeIter _ _ (lo + ((0:Nat):Int) * 1) ((((hi - lo).toNat:Nat):Int) - ((0:Nat):Int)) 1;rw [e1,e2];exact Heap.get?_push_size _ rfl
 ·have e:b=(s.heap.push { cls:=.type "range",data:=.fields #[.int lo t,.int hi u,.int 1 v] }).objs.size:=by simpa using hb
  subst e;exact I1.fpOk (Zv _) (I1.hok.fresh (Zv _))
def C4j (ta:TA):TI:=fun σ H R=>ta σ H fun vs H1=>∃ j:Int,vs=[.int j]/\-(2 ^ 62)<=j/\j < 2 ^ 62/\R (Itr 0 j.toNat) H1
def C4i (ta:TA):TI:=fun σ H R=>ta σ H fun vs H1=>∃ i j:Int,vs=[.int i,.int j]/\(-(2 ^ 62)<=i/\i < 2 ^ 62/\-(2 ^ 62)<=j/\j < 2 ^ 62)/\R (Itr i (j - i).toNat) H1
theorem A2o {a:Expr} {ta:TA} {p pos:Pos} (hg:Gl X "range") (hm:X.mg "range"=none) (ha:PA X [a] ta) (hs:starEach [a] X.env=[(false,eval a X.env)]:=by rfl):PI X tg (.Call (.Name "range" p) [a] [] pos) (C4j ta):=by
 intro pins s σ H R I h;refine Call_ (Y0 I hg hm boot_range (PyProof.Rows.callWith_type1 (thn (ha pos pins s σ H _ I h) fun us s1 ⟨vs,H1,I1,r1,q1⟩=>?_) hs rfl));obtain ⟨j,e,q1,q2,q⟩:=q1;subst e;cases r1 with
 | cons r rr =>
  cases rr;obtain ⟨t,rfl⟩:=r;exact call_range_1 (A50 I1 (by omega) (by omega) q1 q2 (by simpa using q))
theorem B0s {a b:Expr} {ta:TA} {p pos:Pos} (hg:Gl X "range") (hm:X.mg "range"=none) (ha:PA X [a,b] ta) (hs:starEach [a,b] X.env=[(false,eval a X.env),(false,eval b X.env)]:=by rfl) (hs2:starEach [b] X.env=[(false,eval b X.env)]:=by rfl) :
  PI X tg (.Call (.Name "range" p) [a,b] [] pos) (C4i ta):=by
 intro pins s σ H R I h;refine Call_ (Y0 I hg hm boot_range (PyProof.Rows.callWith_type1 (thn (ha pos pins s σ H _ I h) fun us s1 ⟨vs,H1,I1,r1,q1⟩=>?_) (by rw [hs,hs2]) (by rw [hs2]; rfl)));obtain ⟨i,j,e,⟨q1,q2,q3,q4⟩,q⟩:=q1;subst e;cases r1 with
 | cons r rr =>
  cases rr with
  | cons r' rr =>
   cases rr;obtain ⟨t,rfl⟩:=r;obtain ⟨t',rfl⟩:=r';exact call_range_2 (A50 I1 q1 q2 q3 q4 q)
def tFor (wi:TI) (g:TG) (tb:TS):TS:=fun D σ H=>wi σ H fun J H1=>∃ W:Nat->Nat->St->Hp->Prop,(∃ m,W 0 m σ H1)/\∀ i m σ H,W i m σ H ->
 (J.stop i H/\D.nx σ H)\/(J.go i H/\∃ N:St->Hp->Prop,(∀ σ' H',N σ' H'->∃ m',m' < m/\W (i + 1) m' σ' H')/\∀ x H',J.yld i H x H'->g x σ H' fun σ2 H2=>tb { D with nx:=N,ct:=N,bk:=D.nx } σ2 H2)
def A2n (fp:List Addr) (h:Heap):List (Addr × Obj):=fp.filterMap fun b=>(h.get? b).map fun o=>(b,o)
theorem Q1 {fp:List Addr} {h:Heap} {b:Addr} {o:Obj} (hb:b ∈ fp) (e:h.get? b=some o):(b,o) ∈ A2n fp h:=List.mem_filterMap.mpr ⟨b,hb,by rw [e]; rfl⟩
theorem B2p {fp:List Addr} {h:Heap} {p:Addr × Obj} (hp:p ∈ A2n fp h):p.1 ∈ fp/\h.get? p.1=some p.2:=by
 obtain ⟨b,hb,e⟩:=List.mem_filterMap.mp hp;cases q:h.get? b with
 | none=>rw [q] at e; cases e
 | some o =>
  rw [q] at e;have e':(b,o)=p:=Zj e;subst e';exact ⟨hb,q⟩
theorem Inv.pinned {pins:List (Addr × Obj)} {σ:St} {H:Hp} {s:Shared} {fp:List Addr} (I:Inv X pins σ H s) (hf:∀ b ∈ fp,FpOk X pins H b) (ho:∀ b ∈ fp,∃ o,s.heap.get? b=some o/\∀ v,o.data≠.cell v):Inv X (pins++A2n fp s.heap) σ H s :=
 I.pins_of fun p hp=>(Za hp).elim (fun z=>I.pin p (Zw _ z)) fun z=>by
  obtain ⟨hb,e⟩:=B2p z;obtain ⟨f0,f1,f2,_⟩:=hf p.1 hb;obtain ⟨o,e',d⟩:=ho p.1 hb;rw [e] at e'; cases e';exact ⟨e,f0,f1,f2,d⟩
theorem Inv.unpinned {pins pl:List (Addr × Obj)} {σ:St} {H:Hp} {s:Shared} (I:Inv X (pins++pl) σ H s):Inv X pins σ H s:=I.pins_of fun p hp=>I.pin p (Zw _ (Zt _ hp))
theorem B0j {iter:Expr} {body:List Stmt} {wi:TI} {g:TG} {tb:TS} {pos:Pos} (hp:PassesOwn (model X.prog X.w) X.A X.env X.xe) (hc:X.calm=true) (hi:PI X tg iter wi) (hg:PG X tg g) (hb:PSs X body tb)
  (hs:∀ x,foldedSetIterable iter X.env x=pure x:=by intro _; rfl):PS X (.For tg iter body [] pos) (tFor wi g tb):=by
 intro pins s σ H D I h;refine wpAny_For (thn (hi pins s σ H _ I h) fun v s1 h1=>thn h1 fun itv s2 h2=>?_) hs;obtain ⟨it,fp,tn,J,H2,e,I2,T,st2,f2,W,⟨m0,w0⟩,turn⟩:=h2;subst e;have stat:∀ {H':Hp},(∀ b ∈ fp,H' b=none)->∀ b ∈ fp,FpOk X pins H' b:=fun hn b hb=>⟨hn b hb,(f2 b hb).2⟩;refine codeAny_forLoop_any (fun n s'=>∃ i σ' H',Inv X pins σ' H' s'/\tn i s'.heap/\(∀ b ∈ fp,H' b=none)/\W i n σ' H') ?_ m0 ⟨0,σ,H2,I2,st2,fun b hb=>(f2 b hb).1,w0⟩;rintro n s3 ⟨i,σ3,H3,I3,st3,fr3,w3⟩;rcases turn i n σ3 H3 w3 with ⟨stop,qn⟩ | ⟨go,N,hN,step⟩
 ·refine wpAny_passesOwn hp (thn (T.done X rfl rfl rfl hc i pins s3 σ3 H3 X.xe I3 (stat fr3) st3 stop) fun r s4 ⟨hr,I4⟩=>?_);subst hr;exact wpAny_execs_nil ⟨σ3,H3,I4,qn⟩
 ·refine wpAny_passesOwn hp (thn (T.item X rfl rfl rfl hc i pins s3 σ3 H3 X.xe I3 (stat fr3) st3 go) fun r s4 ⟨u,hr,h4⟩=>?_);subst hr;refine wpAny_passesOwn hp (thn h4 fun _ s5 ⟨x,H5,I5,r5,y5,st5,fr5⟩=>?_);have I5':=I5.pinned (stat fr5) (T.obj _ _ st5);refine wpAny_passesOwn hp (thn (hg _ s5 σ3 H5 x u _ I5' r5 (step x H5 y5)) fun _ s6 ⟨σ6,H6,I6,q6⟩=>?_);refine wpAny_passesOwn hp (thn (hb _ s6 σ6 H6 _ I6 q6) fun f s7 q7=>?_);have again:∀ {σ7:St} {H7:Hp},Inv X (pins++A2n fp s5.heap) σ7 H7 s7->N σ7 H7->∃ m,m < n/\∃ i σ' H',Inv X pins σ' H' s7/\tn i s7.heap/\(∀ b ∈ fp,H' b=none)/\W i m σ' H':=fun {σ7 H7} I7 n7=>by
   obtain ⟨m',hm,w7⟩:=hN σ7 H7 n7;refine ⟨m',hm,i + 1,σ7,H7,I7.unpinned,T.keep _ _ _ st5 fun b hb o e=>(I7.pin (b,o) (Zw _ (Zw _ (Q1 hb e)))).1,fun b hb=>?_,w7⟩;obtain ⟨o,e,d⟩:=T.obj _ _ st5 b hb;exact (I7.pin (b,o) (Zw _ (Zw _ (Q1 hb e)))).2.1
  cases f with
  | next=>obtain ⟨σ7,H7,I7,n7⟩:=q7; exact again I7 n7
  | cont=>obtain ⟨σ7,H7,I7,n7⟩:=q7; exact again I7 n7
  | brk=>obtain ⟨σ7,H7,I7,q7⟩:=q7; exact ⟨σ7,H7,I7.unpinned,q7⟩
  | ret v=>obtain ⟨x7,σ7,H7,I7,r7,q7⟩:=q7; exact ⟨x7,σ7,H7,I7.unpinned,r7,q7⟩
end
theorem B43 {lo:Int} {n:Nat} {g:TG} {tb:TS} {D:Ends} {σ:St} {H:Hp} (Pv:Nat->St->Hp->Prop) (h0:Pv 0 σ H)
  (hs:∀ i σ H,i < n->Pv i σ H->g (.int (lo + i)) σ H fun σ2 H2=>tb { D with nx:=Pv (i + 1),ct:=Pv (i + 1),bk:=D.nx } σ2 H2) (hd:∀ σ H,Pv n σ H->D.nx σ H) :
  ∃ W:Nat->Nat->St->Hp->Prop,(∃ m,W 0 m σ H)/\∀ i m σ H,W i m σ H ->
   ((Itr lo n).stop i H/\D.nx σ H)\/((Itr lo n).go i H/\∃ N:St->Hp->Prop,(∀ σ' H',N σ' H'->∃ m',m' < m/\W (i + 1) m' σ' H')/\∀ x H',(Itr lo n).yld i H x H'->g x σ H' fun σ2 H2=>tb { D with nx:=N,ct:=N,bk:=D.nx } σ2 H2):=by
 refine ⟨fun i m σ H=>m=n - i/\i<=n/\Pv i σ H,⟨n,by simp,Nat.zero_le _,h0⟩,?_⟩;rintro i m σ H ⟨rfl,hi,p⟩;by_cases hlt:i < n
 ·refine .inr ⟨hlt,Pv (i + 1),fun σ' H' p'=>⟨n - (i + 1),by omega,rfl,hlt,p'⟩,fun x H' y=>?_⟩;obtain ⟨e,y⟩:=y;subst e y;exact hs i σ _ hlt p
 ·have e:i=n:=by omega
  subst e;exact .inl ⟨Zv _,hd σ H p⟩
end L2
namespace L2
open PySem PySem.Spec PyProof.Rows
abbrev R2:=V->V->Hp->VK->Prop
def OpR (X:Cx) (f:Value->Value->Sem Value) (r:R2):Prop :=
 ∀ (pins:List (Addr × Obj)) (s:Shared) (σ:St) (H:Hp) (x y:V) (v u:Value) (Q:VK),Inv X pins σ H s->RelV x v->RelV y u->r x y H Q ->
  wpAny (model X.prog X.w) X.A (f v u) (EP X pins σ Q) X.xe s
def UnR (X:Cx) (f:Value->Sem Value) (r:V->Hp->VK->Prop):Prop :=
 ∀ (pins:List (Addr × Obj)) (s:Shared) (σ:St) (H:Hp) (x:V) (v:Value) (Q:VK),Inv X pins σ H s->RelV x v->r x H Q ->
  wpAny (model X.prog X.w) X.A (f v) (EP X pins σ Q) X.xe s
def CallR (X:Cx) (f:Value) (r:List V->Hp->VK->Prop):Prop :=
 ∀ (pins:List (Addr × Obj)) (s:Shared) (σ:St) (H:Hp) (xs:List V) (us:List Value) (Q:VK),Inv X pins σ H s->Vals xs us->r xs H Q ->
  wpAny (model X.prog X.w) X.A (call f us) (EP X pins σ Q) X.xe s
def tOp (r:R2) (ta tb:TE):TE:=fun σ H Q=>ta σ H fun x H1=>tb σ H1 fun y H2=>r x y H2 Q
def tUn (r:V->Hp->VK->Prop) (ta:TE):TE:=fun σ H Q=>ta σ H fun x H1=>r x H1 Q
def rI (C:Int->Int->Prop) (g:Int->Int->V):R2:=fun x y H Q=>∃ i j,x=.int i/\y=.int j/\C i j/\Q (g i j) H
def rI0 (g:Int->Int->V):R2:=fun x y H Q=>∃ i j,x=.int i/\y=.int j/\Q (g i j) H
def rU (g:Int->V):V->Hp->VK->Prop:=fun x H Q=>∃ i,x=.int i/\Q (g i) H
section
variable {X:Cx} {a b c:Expr} {ta tb tc:TE} {pos:Pos}
theorem binT (ha:PE X a ta) (hb:PE X b tb) {pins:List (Addr × Obj)} {s:Shared} {σ:St} {H:Hp} {R:V->V->Hp->Prop} (I:Inv X pins σ H s)
  (h:ta σ H fun x H1=>tb σ H1 fun y H2=>R x y H2) {Q:Value->Shared->Prop} {f:Value->Value->Sem Value}
  (hf:∀ v u s2 x y H2,Inv X pins σ H2 s2->RelV x v->RelV y u->R x y H2->wpAny (model X.prog X.w) X.A (f v u) Q X.xe s2) :
  wpAny (model X.prog X.w) X.A (eval a X.env) (fun v s₁=>wpAny (model X.prog X.w) X.A (eval b X.env) (fun u s₂=>wpAny (model X.prog X.w) X.A (f v u) Q X.xe s₂) X.xe s₁) X.xe s:=by
 refine thn (ha pins s σ H _ I h) fun v s1 ⟨x,H1,I1,r1,q1⟩=>?_;refine thn (hb pins s1 σ H1 _ I1 q1) fun u s2 ⟨y,H2,I2,r2,q2⟩=>?_;exact hf v u s2 x y H2 I2 r1 r2 q2
theorem K6 {op:Operator} {r:R2} (ho:OpR X (binaryOp op) r) (ha:PE X a ta) (hb:PE X b tb):PE X (.BinOp a op b pos) (tOp r ta tb):=by
 intro pins s σ H Q I h;exact wpAny_BinOp (binT ha hb I h fun v u s2 x y H2 I2 rx ry q=>ho pins s2 σ H2 x y v u Q I2 rx ry q)
theorem D0u {op:UnaryOp} {r:V->Hp->VK->Prop} (ho:UnR X (unaryOp op) r) (ha:PE X a ta):PE X (.UnaryOp op a pos) (tUn r ta):=by
 intro pins s σ H Q I h;exact UnaryOp_ (thn (ha pins s σ H _ I h) fun v s1 ⟨x,H1,I1,r1,q1⟩=>ho pins s1 σ H1 x v Q I1 r1 q1)
theorem opI {f:Value->Value->Sem Value} {C:Int->Int->Prop} {g:Int->Int->Int}
  (rule:∀ (i j:Int) (t u:Tok) (s:Shared) (Q:Value->Shared->Prop) (E:Value->Shared->Prop),C i j->Q (.int (g i j) s.toks) { s with toks:=s.toks + 1 }->wpAny (model X.prog X.w) X.A (f (.int i t) (.int j u)) Q E s) :
  OpR X f (rI C fun i j=>.int (g i j)):=by
 intro pins s σ H x y v u Q I rx ry h;obtain ⟨i,j,rfl,rfl,hc,q⟩:=h;obtain ⟨t,rfl⟩:=rx;obtain ⟨t',rfl⟩:=ry;exact rule i j t t' s _ _ hc ⟨.int (g i j),H,I.tok _,⟨_,rfl⟩,q⟩
theorem opI0 {f:Value->Value->Sem Value} {g:Int->Int->Int}
  (rule:∀ (i j:Int) (t u:Tok) (s:Shared) (Q:Value->Shared->Prop) (E:Value->Shared->Prop),Q (.int (g i j) s.toks) { s with toks:=s.toks + 1 }->wpAny (model X.prog X.w) X.A (f (.int i t) (.int j u)) Q E s) :
  OpR X f (rI0 fun i j=>.int (g i j)):=by
 intro pins s σ H x y v u Q I rx ry h;obtain ⟨i,j,rfl,rfl,q⟩:=h;obtain ⟨t,rfl⟩:=rx;obtain ⟨t',rfl⟩:=ry;exact rule i j t t' s _ _ ⟨.int (g i j),H,I.tok _,⟨_,rfl⟩,q⟩
theorem opB0 {f:Value->Value->Sem Value} {g:Int->Int->Bool}
  (rule:∀ (i j:Int) (t u:Tok) (s:Shared) (Q:Value->Shared->Prop) (E:Value->Shared->Prop),Q (.bool (g i j)) s->wpAny (model X.prog X.w) X.A (f (.int i t) (.int j u)) Q E s) :
  OpR X f (rI0 fun i j=>.bl (g i j)):=by
 intro pins s σ H x y v u Q I rx ry h;obtain ⟨i,j,rfl,rfl,q⟩:=h;obtain ⟨t,rfl⟩:=rx;obtain ⟨t',rfl⟩:=ry;exact rule i j t t' s _ _ ⟨.bl (g i j),H,I,rfl,q⟩
def CPow (i j:Int):Prop:=0<=j/\j<=1000000/\i.natAbs < 2 ^ 64
theorem J2:OpR X (binaryOp .Add) (rI0 fun i j=>.int (i + j)):=opI0 fun _ _ _ _ _ _ _ q=>add_int q
theorem A0i:OpR X (binaryOp .Sub) (rI0 fun i j=>.int (i - j)):=opI0 fun _ _ _ _ _ _ _ q=>sub_int q
theorem J1:OpR X (binaryOp .Mod) (rI (fun _ j=>0 < j) fun i j=>.int (i % j)):=opI fun i j _ _ _ _ _ hc q=>by
 have h1:(0:Int) < j:=hc;exact mod_int' (by omega) (by rw [Int.fmod_eq_emod_of_nonneg i (by omega)]; exact q)
theorem A0j:OpR X (binaryOp .Pow) (rI CPow fun i j=>.int (i ^ j.toNat)):=opI fun _ _ _ _ _ _ _ hc q=>pow_int_small hc.1 hc.2.1 hc.2.2 q
theorem unI {f:Value->Sem Value} {g:Int->Int}
  (rule:∀ (i:Int) (t:Tok) (s:Shared) (Q:Value->Shared->Prop) (E:Value->Shared->Prop),Q (.int (g i) s.toks) { s with toks:=s.toks + 1 }->wpAny (model X.prog X.w) X.A (f (.int i t)) Q E s) :
  UnR X f (rU fun i=>.int (g i)):=by
 intro pins s σ H x v Q I rx h;obtain ⟨i,rfl,q⟩:=h;obtain ⟨t,rfl⟩:=rx;exact rule i t s _ _ ⟨.int (g i),H,I.tok _,⟨_,rfl⟩,q⟩
theorem B8p:UnR X (unaryOp .USub) (rU fun i=>.int (-i)):=unI fun _ _ _ _ _ q=>neg_int q
end
section
variable {X:Cx} {a b c:Expr} {ta tb tc:TE} {pos:Pos}
theorem B45 {pins:List (Addr × Obj)} {σ:St} {H:Hp} {s:Shared} {Q:VK} {k k':Bool} (I:Inv X pins σ H s) (q:Q (.bl k) H) (e:k=k'):EP X pins σ Q (.bool k') s:=by
 subst e;exact ⟨.bl k,H,I,rfl,q⟩
theorem A8k:OpR X (compareOp .Lt) (rI0 fun i j=>.bl (decide (i < j))):=opB0 fun _ _ _ _ _ _ _ q=>lt_int q
theorem B7d:OpR X (compareOp .LtE) (rI0 fun i j=>.bl (decide (i<=j))):=opB0 fun _ _ _ _ _ _ _ q=>le_int q
theorem A1g:OpR X (compareOp .Gt) (rI0 fun i j=>.bl (decide (j < i))):=opB0 fun _ _ _ _ _ _ _ q=>gt_int q
theorem C75:OpR X (compareOp .GtE) (rI0 fun i j=>.bl (decide (j<=i))):=opB0 fun _ _ _ _ _ _ _ q=>ge_int q
theorem B2d:OpR X (compareOp .In) (fun x y H Q=>∃ i j,x=.str i/\y=.str j/\Q (.bl (!(Builtin.Str.occurrences j i 0 j.length 1).isEmpty)) H):=by
 intro pins s σ H x y v u Q I rx ry h;obtain ⟨i,j,rfl,rfl,q⟩:=h;obtain ⟨t,rfl⟩:=rx;obtain ⟨t',rfl⟩:=ry;exact in_str (B45 I q rfl)
theorem C72:OpR X (compareOp .Is) (fun x y H Q=>y=.non/\Q (.bl (decide (x=.non))) H):=by
 intro pins s σ H x y v u Q I rx ry h;obtain ⟨rfl,q⟩:=h;cases ry;refine is_none_gen (B45 I q ?_);cases x <;> first
  | (cases rx; rfl)
  | (obtain ⟨t,rfl⟩:=rx; rfl)
theorem C36:OpR X (compareOp .IsNot) (fun x y H Q=>y=.non/\Q (.bl (!decide (x=.non))) H):=by
 intro pins s σ H x y v u Q I rx ry h;obtain ⟨rfl,q⟩:=h;cases ry;refine isnot_none_gen (B45 I q ?_);cases x <;> first
  | (cases rx; rfl)
  | (obtain ⟨t,rfl⟩:=rx; rfl)
theorem B2 (b:Expr) {op:CmpOp} (h:op≠.In:=by decide) (h2:op≠.NotIn:=by decide):behindInMarks op b=false:=by
 have e1:(op == CmpOp.In)=false:=by cases op <;> first | rfl | exact absurd rfl h
 have e2:(op == CmpOp.NotIn)=false:=by cases op <;> first | rfl | exact absurd rfl h2
 cases b <;> simp [behindInMarks,e1,e2]
theorem A1c {op:CmpOp} {r:R2} (ho:OpR X (compareOp op) r) (ha:PE X a ta) (hb:PE X b tb) (hm:behindInMarks op b=false):PE X (.Compare a [op] [b] pos) (tOp r ta tb):=by
 intro pins s σ H Q I h;exact wpAny_Compare1 (binT ha hb I h fun v u s2 x y H2 I2 rx ry q=>ho pins s2 σ H2 x y v u Q I2 rx ry q) hm
def A9m (t:TE):TT:=fun σ H Q=>t σ H fun x H'=>∃ k,x=.bl k/\Q k H'
theorem B0e {op:CmpOp} {r:R2} (ho:OpR X (compareOp op) r) (ha:PE X a ta) (hb:PE X b tb) (hm:behindInMarks op b=false):PT X (.Compare a [op] [b] pos) (A9m (tOp r ta tb)):=by
 intro pins s σ H Q I h;refine wpAny_isTrue_Compare1 (thn (ha pins s σ H _ I h) fun v s1 ⟨x,H1,I1,r1,q1⟩=>thn (hb pins s1 σ H1 _ I1 q1) fun u s2 ⟨y,H2,I2,r2,q2⟩ =>
  thn (ho pins s2 σ H2 x y v u _ I2 r1 r2 q2) fun c s3 ⟨z,H3,I3,r3,k,e,q3⟩=>?_) hm
 subst e;cases r3;exact wpAny_truthy_bool ⟨H3,I3,q3⟩
def A9p (r r':R2) (ta tb tc:TE):TE:=fun σ H Q=>ta σ H fun x H1=>tb σ H1 fun y H2=>r x y H2 fun z H3=>∃ k,z=.bl k /\
 (if k=true then tc σ H3 fun w' H4=>r' y w' H4 Q else Q (.bl false) H3)
theorem B6r {op op':CmpOp} {r r':R2} (ho:OpR X (compareOp op) r) (ho':OpR X (compareOp op') r') (ha:PE X a ta) (hb:PE X b tb) (hc:PE X c tc)
  (hm:lastMarks [op,op'] [b,c]=false:=by with_unfolding_all rfl):PT X (.Compare a [op,op'] [b,c] pos) (A9m (A9p r r' ta tb tc)):=by
 intro pins s σ H Q I h;refine isTrue_chain (thn (ha pins s σ H _ I h) fun v s1 ⟨x,H1,I1,r1,q1⟩=>test_link (thn (hb pins s1 σ H1 _ I1 q1) fun u s2 ⟨y,H2,I2,r2,q2⟩ =>
  thn (ho pins s2 σ H2 x y v u _ I2 r1 r2 q2) fun d s3 ⟨z,H3,I3,r3,k,e,q3⟩=>?_)) hm
 subst e;cases r3;refine wpAny_truthy_bool ?_;cases k with
 | false =>
  obtain ⟨k',e',q'⟩:=q3;cases e';exact ite_ff ⟨H3,I3,q'⟩
 | true =>
  refine ite_tt (test_last (thn (hc pins s3 σ H3 _ I3 q3) fun w' s4 ⟨z',H4,I4,r4,q4⟩=>thn (ho' pins s4 σ H4 y z' u w' _ I4 r2 r4 q4) fun d' s5 ⟨z2,H5,I5,r5,k2,e2,q5⟩=>?_));subst e2;cases r5;exact wpAny_truthy_bool ⟨H5,I5,q5⟩
theorem A0n:(sizeLine:Nat) < 2 ^ 63:=by rw [sizeLine_eq]; decide
theorem A8l:OpR X (binaryOp .Add) (fun x y H Q=>∃ i j,x=.str i/\y=.str j/\i.length + j.length<=sizeLine/\Q (.str (i++j)) H):=by
 intro pins s σ H x y v u Q I rx ry h;obtain ⟨i,j,rfl,rfl,hz,q⟩:=h;obtain ⟨t,rfl⟩:=rx;obtain ⟨t',rfl⟩:=ry;exact add_str (fun t' tk=>⟨.str (i++j),H,I.tok _,⟨_,rfl⟩,q⟩) hz
theorem A1y {x:V} {us:List Value} (r:Vals [x] us):∃ u,us=[u]/\RelV x u:=by
 cases r with
 | cons r1 r2=>cases r2; exact ⟨_,rfl,r1⟩
theorem D0d {x y:V} {us:List Value} (r:Vals [x,y] us):∃ u w',us=[u,w']/\RelV x u/\RelV y w':=by
 cases r with
 | cons r1 r2 =>
  cases r2 with
  | cons r3 r4=>cases r4; exact ⟨_,_,rfl,r1,r3⟩
theorem B72:CallR X (.builtin "abs") (fun xs H Q=>∃ i,xs=[.int i]/\Q (.int (if i < 0 then -i else i)) H):=by
 intro pins s σ H xs us Q I r h;obtain ⟨i,rfl,q⟩:=h;obtain ⟨u,rfl,t,rfl⟩:=A1y r;exact call_abs_int fun u tk=>⟨.int (if i < 0 then -i else i),H,I.tok _,⟨_,rfl⟩,q⟩
theorem A3x:CallR X (.type "int") (fun xs H Q=>(∃ i,xs=[.int i]/\Q (.int i) H)\/∃ k,xs=[.bl k]/\Q (.int (if k then 1 else 0)) H):=by
 intro pins s σ H xs us Q I r h;rcases h with ⟨i,rfl,q⟩ | ⟨k,rfl,q⟩
 ·obtain ⟨u,rfl,t,rfl⟩:=A1y r;exact call_int_int ⟨.int i,H,I,⟨_,rfl⟩,q⟩
 ·obtain ⟨u,rfl,r1⟩:=A1y r;cases r1;exact call_int_bool ⟨.int (if k then 1 else 0),H,I.tok _,⟨_,rfl⟩,q⟩
theorem A3u:CallR X (.type "str") (fun xs H Q=>∃ i,xs=[.int i]/\i.natAbs.log2 < 1920/\Q (.str (toString i)) H):=by
 intro pins s σ H xs us Q I r h;obtain ⟨i,rfl,hz,q⟩:=h;obtain ⟨u,rfl,t,rfl⟩:=A1y r;exact PySem.P.str_of_int hz ⟨.str _,H,I.tok _,⟨_,rfl⟩,q⟩
end
end L2
namespace L2
open PySem PySem.Spec PyProof.Rows
theorem B3u {h:Heap} {dx:Addr} {mA:Str->Option Value} (n:h.Ns1 dx mA):∃ od,h.get? dx=some od/\∀ name,PySem.W.lookIn name od=some (mA name):=by
 obtain ⟨o,es,ep,ho,hd,hk,_,hm⟩:=n;refine ⟨o,ho,fun name=>?_⟩;have e:=hm name;unfold nsFind findBy at e;rw [<- Array.find?_toList] at e;unfold PySem.W.lookIn;rw [hd];dsimp only;split
 ·rename_i y q;rw [q] at e;exact congrArg some e
 ·rename_i q;rw [q] at e;have a:es.toList.any (·.refKey)=false:=by
   rw [List.any_eq_false];intro y hy;obtain ⟨z,t,hkey⟩:=hk y (Array.mem_toList_iff.mp hy);simp [DictEntry.refKey,hkey]
  have a':¬ es.toList.any (·.refKey)=true:=by rw [a]; exact Bool.false_ne_true
  rw [if_neg a'];exact congrArg some e
section
variable {prog:Program} {w:World} {A:Around} {E:Value->Shared->Prop} {s:Shared} {K:PySem.W.Frag} {x dx C f:Addr} {mA:Str->Option Value} {name:Str} {v:Value}
end
theorem RelO.some_of {v:V} {o:Option Value} (r:RelO (some v) o):∃ u,o=some u/\RelV v u:=by
 cases o with
 | none=>exact (show False from r).elim
 | some u=>exact ⟨u,rfl,r⟩
theorem RelO.none_of {o:Option Value} (r:RelO none o):o=none:=by
 cases o with
 | none=>rfl
 | some u=>exact (show False from r).elim
section
variable {P:Program} {w:World} {H H':Hp} {h h':Heap} {a C dx:Addr} {fs fs':List (Str × V)}
end
structure Cls (K:PySem.W.Frag) (C:Addr):Prop where
 pg:PySem.W.plainGet K C Str.empty=true
 hd:PySem.W.hasDictIn K C=true
 po:PySem.W.plainOver K C=true
 sa:PySem.W.findIn K (.ref C) "__setattr__"=some (some (.builtin "object.__setattr__"))
theorem Cls.get {K:PySem.W.Frag} {C:Addr} (c:Cls K C) (f:Str):PySem.W.plainGet K C f=true:=c.pg
section
variable {X:Cx} {pins:List (Addr × Obj)} {σ:St} {H:Hp} {s:Shared} {a C dx:Addr} {fs:List (Str × V)} {f:Str} {v:V} {A:Around} {E:Value->Shared->Prop}
theorem C43 {prog:Program} {w:World} {env:Env} {e:Expr} {f:Str} {pos:Pos} {s:Shared} {Q:Value->Shared->Prop} (hb:attributeBase e f env (eval e env)=eval e env)
  (h:wpAny (model prog w) A (eval e env) (fun o s₁=>wpAny (model prog w) A (getAttr o f true) Q E s₁) E s):wpAny (model prog w) A (eval (.Attribute e f pos) env) Q E s :=
 Attribute_any_ h (by rw [arm_eval_Attribute,hb])
end
section
variable {X:Cx} {o e value:Expr} {f:Str} {pos pos' tpos:Pos} {ta tv:TE}
end
section
variable {X:Cx} {pins:List (Addr × Obj)} {σ:St} {H:Hp} {s:Shared} {A:Around} {E:Value->Shared->Prop} {Q:Value->Shared->Prop} {c:Value} {b:Bool}
end
end L2
namespace L2
open PySem PySem.Spec PyProof.Rows
structure Room (k:Nat) (A:Around):Prop where
 hd:A.handled=none
 gd:A.guards=some []
 dp:A.depth + 3 * k + 5 < recursionLimit
 un:A.units + 16 * k + 200 < cLine
theorem Room.mono {j k:Nat} {A:Around} (r:Room k A) (h:j<=k):Room j A:=⟨r.hd,r.gd,by have:=r.dp; omega,by have:=r.un; omega⟩
theorem Room.mo {j k:Nat} {A:Around} (r:Room k A) (h:j<=k:=by first | decide | omega):Room j A:=r.mono h
theorem Room.deeper {k:Nat} {A:Around} (r:Room (k + 1) A) (env:Env):Room k (A.deeper env) :=
 ⟨r.hd,r.gd,by have:=r.dp; show A.depth + 1 + 3 * k + 5 < _; omega,by have:=r.un; show A.units + 3 + 16 * k + 200 < _; omega⟩
theorem A8t {A:Around} {C:Addr} {us:List Value} {kw:List (Str × Value)}:(A.under (.builtin "type.__call__" ⟨.ref C :: us,kw⟩)).depth=A.depth + 1:=by
 first | rfl | simp [Around.under,Code.weight,Code.isCreation,Code.isGuard,Code.isCaller,Code.frames,Code.isFrame,guardIds]
theorem A8s {A:Around} {C:Addr} {us:List Value} {kw:List (Str × Value)}:(A.under (.builtin "type.__call__" ⟨.ref C :: us,kw⟩)).units=A.units + 1:=by
 first | rfl | simp [Around.under,Code.cUnits,Code.frames,Code.isFrame]
theorem Room.make {k:Nat} {A:Around} (r:Room (k + 1) A) (C:Addr) (us:List Value) (kw:List (Str × Value)):Room k (A.under (.builtin "type.__call__" ⟨.ref C :: us,kw⟩)) :=
 ⟨r.hd,r.gd,by have:=r.dp; rw [A8t]; omega,by have:=r.un; rw [A8s]; omega⟩
theorem Room.depth {k:Nat} {A:Around} (r:Room k A):A.depth < recursionLimit:=by have:=r.dp; omega
theorem Room.units {k:Nat} {A:Around} (r:Room k A):A.units + 64 < cLine:=by have:=r.un; omega
def tNil:TA:=fun _ H Q=>Q [] H
def J3 (ta:TE) (tr:TA):TA:=fun σ H Q=>ta σ H fun x H1=>tr σ H1 fun xs H2=>Q (x :: xs) H2
section
variable {X:Cx} {e:Expr} {es:List Expr} {te:TE} {t:TA} {pos:Pos}
theorem pa_nil:PA X [] tNil:=fun _ _ _ _ H Q I h=>Calls.spliced_nil ⟨[],H,I,.nil,h⟩
theorem pa_cons (ha:PE X e te) (hr:PA X es t) (hs:starEach (e :: es) X.env=(false,eval e X.env) :: starEach es X.env:=by rfl):PA X (e :: es) (J3 te t):=by
 intro pos pins s σ H Q I h;rw [hs];show wpAny _ _ (spliced ((false,eval e X.env) :: backTo pos (starEach es X.env))) _ _ s;refine Calls.spliced_cons (thn (ha pins s σ H _ I h) fun u s1 ⟨x,H1,I1,r1,q1⟩=>?_);exact thn (hr pos pins s1 σ H1 _ I1 q1) fun us s2 ⟨xs,H2,I2,r2,q2⟩=>⟨x :: xs,H2,I2,.cons r1 r2,q2⟩
def tTup (t:TA):TE:=fun σ H Q=>t σ H fun xs H1=>xs.length<=sizeLine/\∀ p,H1 p=none->Q (.ref p) (upd H1 p (.tup xs))
def tLst (t:TA):TE:=fun σ H Q=>t σ H fun xs H1=>xs.length<=sizeLine/\∀ p,H1 p=none->Q (.ref p) (upd H1 p (.lst xs))
theorem C6r {x1} (h:PA X es t):PE X (.Tuple es x1 pos) (tTup t):=by
 intro pins s σ H Q I hq;refine wpAny_Tuple_spliced (thn (h pos pins s σ H _ I hq) fun us s1 ⟨xs,H1,I1,r,z,q⟩=>⟨by rw [<- r.length]; exact z,?_⟩);have hf:H1 s1.heap.objs.size=none:=I1.hok.fresh (Zv _);refine ⟨.ref s1.heap.objs.size,upd H1 s1.heap.objs.size (.tup xs),I1.laid (t':=s1.toks) (fun b u e=>Heap.get?_push_of_some _ e) (Zv _) ?_,rfl,q _ hf⟩;exact ⟨z,us,r,⟨_,Heap.get?_push_size _ rfl,rfl,_,rfl⟩⟩
theorem B9g (h:PA X es t):PE X (.List es pos) (tLst t):=by
 intro pins s σ H Q I hq;refine wpAny_List_spliced (thn (h pos pins s σ H _ I hq) fun us s1 ⟨xs,H1,I1,r,z,q⟩=>⟨by rw [<- r.length]; exact z,?_⟩);have hf:H1 s1.heap.objs.size=none:=I1.hok.fresh (Zv _);refine ⟨.ref s1.heap.objs.size,upd H1 s1.heap.objs.size (.lst xs),I1.laid (t':=s1.toks) (fun b u e=>Heap.get?_push_of_some _ e) (Zv _) ?_,rfl,q _ hf⟩;exact ⟨z,us,0,r,Heap.get?_push_size _ rfl⟩
end
abbrev Sp:=List V->Hp->VK->XK->Prop
abbrev CXT:=List Env->Hp->Shared->XK->Value->Shared->Prop
structure Env0 (P:Program) (w:World) (K:PySem.W.Frag) (mg:Str->Option Value) (base:Heap) (A:Around) (outer:List Env) (s:Shared) (H:Hp):Prop where
 frames:A.frames=some outer
 mod:Mod K mg base
 bs:∀ b o,base.get? b=some o->s.heap.get? b=some o/\H b=none
 bsz:base.objs.size<=s.heap.objs.size
 funs:s.heap.FunFrames base outer
 frf:∀ b ∈ frs outer,H b=none
 hok:HOk P w H s.heap
 bare:AllBare s.gens
def CE (outer:List Env) (P:Program) (w:World) (H:Hp) (s:Shared) (Q:VK) (u:Value) (s':Shared):Prop :=
 ∃ v H',s'.os=s.os/\AllBare s'.gens/\Un (frs outer) [] H H' s.heap s'.heap/\HOk P w H' s'.heap/\RelV v u/\Q v H'
def CR (CX:CXT) (outer:List Env) (P:Program) (w:World) (H:Hp) (s:Shared) (Q:VK) (E:XK) (r:Result) (s':Shared):Prop :=
 match r with
 | .ok (.ret u)=>CE outer P w H s Q u s'
 | .ok _=>False
 | .error e=>CX outer H s E e s'
structure FnOk (P:Program) (w:World) (K:PySem.W.Frag) (mg:Str->Option Value) (base:Heap) (CX:CXT) (k:Nat) (f:Addr) (fd:FuncData) (ps:List Str) (sp:Sp):Prop where
 len:∀ vs H Q E,sp vs H Q E->vs.length=ps.length
 run:∀ (A:Around) (outer:List Env) (s:Shared) (H:Hp) (args:Args) (us:List Value) (vs:List V) (Q:VK) (E:XK),Room k A->Env0 P w K mg base A outer s H->BindsTo s fd args (ps.zip us)->Vals vs us->sp vs H Q E ->
  codeAny (model P w) A (.call (.ref f) args) (CR CX outer P w H s Q E) s
theorem FnOk.imp {P:Program} {w:World} {K:PySem.W.Frag} {mg:Str->Option Value} {base:Heap} {CX:CXT} {k:Nat} {f:Addr} {fd:FuncData} {ps:List Str} {sp sp':Sp} (F:FnOk P w K mg base CX k f fd ps sp)
  (h:∀ vs H Q E,sp' vs H Q E->sp vs H Q E):FnOk P w K mg base CX k f fd ps sp' :=
 ⟨fun vs H Q E q=>F.len vs H Q E (h _ _ _ _ q),fun A outer s H args us vs Q E hr he hb hv hs=>F.run A outer s H args us vs Q E hr he hb hv (h _ _ _ _ hs)⟩
theorem Env0.make {P:Program} {w:World} {K:PySem.W.Frag} {mg:Str->Option Value} {base:Heap} {A:Around} {outer:List Env} {s:Shared} {H:Hp} (e:Env0 P w K mg base A outer s H) (C:Addr) (us:List Value) (kw:List (Str × Value)) :
  Env0 P w K mg base (A.under (.builtin "type.__call__" ⟨.ref C :: us,kw⟩)) outer s H:=⟨by first | exact e.frames | (simpa [Around.under,Code.envs,Code.isFrame,pushEnvs] using e.frames),e.mod,e.bs,e.bsz,e.funs,e.frf,e.hok,e.bare⟩
section
variable {X:Cx} {pins:List (Addr × Obj)} {σ:St} {H:Hp} {s s':Shared}
theorem Inv.env0 (I:Inv X pins σ H s):Env0 X.prog X.w X.K X.mg X.base X.A X.stack s H :=
 ⟨I.ok.frames,I.ok.mod,I.bs,Zx I.ok.bsz I.sz,I.stack,I.stkFree,I.hok,I.bare⟩
theorem Inv.after {Q:VK} {u:Value} (I:Inv X pins σ H s) (h:CE X.stack X.prog X.w H s Q u s'):EP X pins σ Q u s':=by
 obtain ⟨v,H',os,bare,un,hok,r,q⟩:=h;obtain ⟨hh,g,d,t,os'⟩:=s';obtain rfl:os'=s.os:=os;exact ⟨v,H',I.call (h':=hh) (g':=g) (d':=d) (t':=t) (ch:=[]) un hok bare (fun b z=>absurd z (by simp)),r,q⟩
end
def B57 (sp:Sp) (dvs:List V) (E:XK) (t:TA):TE:=fun σ H Q=>t σ H fun vs H1=>sp (vs++dvs) H1 Q E
def Binds (K:PySem.W.Frag) (fd:FuncData) (ps:List Str) (ds:List Value):Prop :=
 ∀ (s:Shared) (us:List Value),K.In s.heap->(us++ds).length=ps.length->BindsTo s fd ⟨us,[]⟩ (ps.zip (us++ds))
theorem Binds.all {K:PySem.W.Frag} {fd:FuncData} {ps:List Str} (h:∀ us:List Value,us.length=ps.length->bindArgs fd ⟨us,[]⟩=pure (ps.zip us)):Binds K fd ps []:=fun s us _ hl=>by
 rw [List.append_nil] at hl ⊢;exact .of_eq (h us hl)
def A4b (CX:CXT) (X:Cx) (E:XK):Prop:=∀ (pins:List (Addr × Obj)) (σ:St) (H:Hp) (s:Shared) (e:Value) (s':Shared),Inv X pins σ H s->CX X.stack H s E e s'->X.xe e s'
section
variable {X:Cx} {CX:CXT} {k:Nat} {f C:Addr} {fd:FuncData} {ps:List Str} {sp:Sp} {dvs:List V} {ds:List Value} {E:XK} {x m:Str} {p pos apos:Pos} {e o:Expr} {es:List Expr} {ta:TE} {t:TA}
theorem B83 {pins:List (Addr × Obj)} {σ:St} {H:Hp} {s:Shared} {Q:VK} {us:List Value} {vs:List V} (F:FnOk X.prog X.w X.K X.mg X.base CX k f fd ps sp) (hr:Room k X.A) (hb:Binds X.K fd ps ds) (hd:Vals dvs ds) (hx:A4b CX X E)
  (I:Inv X pins σ H s) (r:Vals vs us) (h:sp (vs++dvs) H Q E):wpAny (model X.prog X.w) X.A (call (.ref f) us) (EP X pins σ Q) X.xe s:=by
 have r2:Vals (vs++dvs) (us++ds):=r.append hd;have hl:(us++ds).length=ps.length:=by rw [<- r2.length]; exact F.len _ _ _ _ h
 refine wpAny_call (codeAny_mono (F.run X.A X.stack s H ⟨us,[]⟩ (us++ds) (vs++dvs) Q E hr I.env0 (hb s us I.kIn hl) r2 h) fun r s' hq=>?_);cases r with
 | error e=>exact hx pins σ H s e s' I hq
 | ok fl =>
  cases fl with
  | ret u=>exact I.after hq
  | next=>exact False.elim hq
  | brk=>exact False.elim hq
  | cont=>exact False.elim hq
theorem C3i (F:FnOk X.prog X.w X.K X.mg X.base CX k f fd ps sp) (hr:Room k X.A) (hg:Gl X x) (hm:X.mg x=some (.ref f)) (hk:PySem.W.keepIn X.K (.ref f)=true) (hb:Binds X.K fd ps ds) (hd:Vals dvs ds) (hx:A4b CX X E)
  (ha:PA X (e :: es) t) (hdb:(x == ("__debug__":Str))=false:=by decide) (he:starEach (e :: es) X.env=(false,eval e X.env) :: starEach es X.env:=by rfl) (hpl:(backTo pos (starEach es X.env)).any (·.1)=false:=by rfl) :
  PE X (.Call (.Name x p) (e :: es) [] pos) (B57 sp dvs E t):=by
 intro pins s σ H Q I h;refine wpAny_Call_Name_kw (U6 I hg hm ?_ hdb);refine PySem.W.callWith_K (h₀:=X.base) I.ok.mod.kin hk (thn (ha pos pins s σ H _ I h) fun us s1 ⟨vs,H1,I1,r,q⟩=>⟨I1.kIn,?_⟩) he hpl;exact B83 F hr hb hd hx I1 r q
end
section
variable {X:Cx} {CX:CXT} {k:Nat} {f C:Addr} {fd:FuncData} {ps ks:List Str} {sp:Sp} {E:XK} {x m:Str} {p pos apos kpos:Pos} {e o:Expr} {es:List Expr} {kws:List Keyword} {te ta:TE} {t tk:TA} {nm:Option Str}
variable {g:List Value->List Value->List Value} {gV:List V->List V->List V}
end
structure FnScope (N P:List Str) (sc:Scope):Prop where
 kind:sc.kind=.function
 co:sc.isCoroutine=false
 gen:sc.isGenerator=false
 nd:N.Nodup
 pre:N.take P.length=P
 par:∀ x ∈ P,sc.names.lookup x=some .local\/sc.names.lookup x=some .cell
 nofree:∀ y ∈ sc.names,y.2≠.free
theorem A30 {kindOf:Str->Option NameKind} {x:Str}:∀ {binds:List (Str × Value)} {m:Str->Option Value},(∀ v,(x,v) ∉ binds)->bindL kindOf binds m x=m x
 | [],_,_=>rfl
 | (n,v) :: r,m,h=>by
  unfold bindL;rw [A30 fun w hw=>h w (Zr _ hw)];split
  ·have:x≠n:=by rintro rfl; exact h v Zy
   simp [this]
  ·rfl
theorem A32 {kindOf:Str->Option NameKind} {x:Str}:∀ {binds:List (Str × Value)} {m:Str->Option Value},(∀ v,(x,v) ∉ binds)->bindC kindOf binds m x=m x
 | [],_,_=>rfl
 | (n,v) :: r,m,h=>by
  unfold bindC;rw [A32 fun w hw=>h w (Zr _ hw)];split
  ·rfl
  ·have:x≠n:=by rintro rfl; exact h v Zy
   simp [this]
theorem A31 {kindOf:Str->Option NameKind} {x:Str} {v:Value}:∀ {P:List Str} {vs:List Value} {i:Nat} {m:Str->Option Value},P.Nodup->P[i]?=some x->vs[i]?=some v->kindOf x=some .local ->
  bindL kindOf (P.zip vs) m x=some v
 | [],_,_,_,_,h,_,_=>by simp at h
 | _ :: _,[],_,_,_,_,h,_=>by simp at h
 | p :: P,w :: vs,0,m,nd,h1,h2,hk=>by
  simp at h1 h2; subst h1; subst h2;show bindL kindOf ((p,w) :: P.zip vs) m p=_;unfold bindL;rw [A30 fun v hv=>(List.nodup_cons.mp nd).1 (List.of_mem_zip hv).1,if_pos hk];simp
 | p :: P,w :: vs,i + 1,m,nd,h1,h2,hk=>by
  show bindL kindOf ((p,w) :: P.zip vs) m x=_;unfold bindL;exact A31 (i:=i) (List.nodup_cons.mp nd).2 (by simpa using h1) (by simpa using h2) hk
theorem A33 {kindOf:Str->Option NameKind} {x:Str} {v:Value}:∀ {P:List Str} {vs:List Value} {i:Nat} {m:Str->Option Value},P.Nodup->P[i]?=some x->vs[i]?=some v->kindOf x≠some .local ->
  bindC kindOf (P.zip vs) m x=some v
 | [],_,_,_,_,h,_,_=>by simp at h
 | _ :: _,[],_,_,_,_,h,_=>by simp at h
 | p :: P,w :: vs,0,m,nd,h1,h2,hk=>by
  simp at h1 h2; subst h1; subst h2;show bindC kindOf ((p,w) :: P.zip vs) m p=_;unfold bindC;rw [A32 fun v hv=>(List.nodup_cons.mp nd).1 (List.of_mem_zip hv).1,if_neg hk];simp
 | p :: P,w :: vs,i + 1,m,nd,h1,h2,hk=>by
  show bindC kindOf ((p,w) :: P.zip vs) m x=_;unfold bindC;exact A33 (i:=i) (List.nodup_cons.mp nd).2 (by simpa using h1) (by simpa using h2) hk
def start (N:List Str) (vs:List V):St:=vs.map some++List.replicate (N.length - vs.length) none
def cxOf (CX:CXT) (P:Program) (w:World) (K:PySem.W.Frag) (mg:Str->Option Value) (base:Heap) (N:List Str) (qual:Str) (scope:Scope) (f:Addr) (cd:Value) (A:Around) (outer:List Env) (s:Shared) (H:Hp) (E:XK):Cx where
 prog:=P
 w:=w
 K:=K
 mg:=mg
 base:=base
 A:=A.deeper (envOfC qual scope s.heap.objs.size f cd)
 N:=N
 s₀:=s
 H₀:=H
 env:=envOfC qual scope s.heap.objs.size f cd
 outer:=outer
 stack:=envOfC qual scope s.heap.objs.size f cd :: outer
 ex:=[]
 calm:=true
 fn:=fun _=>true
 pn:=[]
 xe:=fun e s'=>wpAny (model P w) (A.deeper (envOfC qual scope s.heap.objs.size f cd)) (leaving (envOfC qual scope s.heap.objs.size f cd) e) (fun _ s''=>CX outer H s E e s'') (fun e' s''=>CX outer H s E e' s'') s'
theorem A7t {sc:Scope} {n:Nat} {x:Str} (h:sc.names.lookup x=some .cell):∃ c,(cellsFrom n sc.names []).lookup x=some c:=by
 have q:=PySem.W.cellsFrom_some sc.names n [] (.inl h);exact Option.isSome_iff_exists.mp q
theorem A3f {CX:CXT} {P:Program} {w:World} {K:PySem.W.Frag} {mg:Str->Option Value} {base:Heap} {N ps:List Str} {qual:Str} {scope:Scope} {f:Addr} {cd:Value} {A:Around} {outer:List Env} {s s1:Shared} {H:Hp} {E:XK} {us:List Value} {vs:List V}
  (S:FnScope N ps scope) (hd:A.handled=none) (e0:Env0 P w K mg base A outer s H) (hl:vs.length=ps.length) (r:Vals vs us)
  (x:InCallC s s.heap.objs.size (bindL (envOfC qual scope s.heap.objs.size f cd).kindOf (ps.zip us) fun _=>none) (cellsFrom (s.heap.objs.size + 1) scope.names []) (bindC (envOfC qual scope s.heap.objs.size f cd).kindOf (ps.zip us) fun _=>none) s1) :
  Inv (cxOf CX P w K mg base N qual scope f cd A outer s H E) [] (start N vs) H s1:=by
 have hpl:ps.length<=N.length:=by have:=congrArg List.length S.pre; rw [List.length_take] at this; omega
 obtain ⟨h1,tk,rfl,hk⟩:=x.done;have noA:∀ b:Addr,b ∉ (cxOf CX P w K mg base N qual scope f cd A outer s H E).ex:=fun b z=>absurd (show b ∈ ([]:List Addr) from z) (by simp);refine ⟨⟨e0.mod,S.kind,rfl,rfl,Zv _,fun y z c h1 h2=>?_,fun y hy=>?_,fun y c _ h=>?_,fun _=>hd,Around.frames_deeper e0.frames,.inr ⟨rfl,rfl⟩,fun b z=>absurd z (noA b),e0.bs,e0.bsz,fun b _ _=>noA b,fun b z=>absurd z (noA b),e0.funs,e0.frf⟩,
  rfl,e0.bare,Un.kept hk,⟨_,x.toInCall.ns,fun i y v h1 h2 h3=>?_⟩,fun y c h=>⟨_,x.cell y c h⟩,e0.hok.fresh (Zv _),fun y c h=>?_,fun p hp=>absurd (show p ∈ ([]:List (Addr × Obj)) from hp) (by simp),e0.hok.kept hk,?_⟩
 ·exact name_of_addr x.apart (PySem.mem_of_lookup h1) (PySem.mem_of_lookup h2)
 ·have hy:scope.names.lookup y=some .cell\/scope.names.lookup y=some .free:=hy;rcases hy with hy | hy
  ·exact A7t hy
  ·exact absurd rfl (S.nofree _ (PySem.mem_of_lookup hy))
 ·exact Nat.le_of_lt (x.above y c (PySem.mem_of_lookup h))
 ·have hi:i < vs.length:=by
   unfold start at h2;by_cases hi:i < vs.length
   ·exact hi
   ·rw [List.getElem?_append_right (by simpa using hi)] at h2;rw [List.getElem?_replicate] at h2;split at h2 <;> cases h2
  have ha:vs[i]?=some v:=by
   unfold start at h2;rw [List.getElem?_append_left (by simpa using hi),Zh] at h2;cases e:vs[i]? with
   | none=>rw [e] at h2; cases h2
   | some a=>rw [e] at h2; cases h2; rfl
  obtain ⟨u,hu,rv⟩:=r.get ha;have hp:ps[i]?=some y:=by
   rw [<- S.pre,List.getElem?_take_of_lt (by omega)]; exact h1
  have ndP:ps.Nodup:=by rw [<- S.pre]; exact S.nd.sublist (List.take_sublist _ _)
  refine ⟨u,rv,?_⟩;rcases S.par y (Zm hp) with k | k
  ·exact .inl ⟨k,A31 ndP hp hu k⟩
  ·obtain ⟨c,e⟩:=A7t (n:=s.heap.objs.size + 1) k;refine .inr ⟨.inl k,c,e,?_⟩;have q:=x.cell y c e;rw [A33 ndP hp hu (by show scope.names.lookup y≠_; rw [k]; decide)] at q;exact q
 ·exact e0.hok.fresh (Nat.le_of_lt (x.above y c (PySem.mem_of_lookup h)))
 ·unfold start;show _=N.length;rw [Ze,Zl,List.length_replicate];omega
theorem C9g {CX:CXT} {P:Program} {w:World} {K:PySem.W.Frag} {mg:Str->Option Value} {base:Heap} {k:Nat} {f:Addr} {name qual:Str} {params:Arguments} {body:List Stmt} {scope:Scope} {dV kV doc pm cdv ct oc:Value} {an od:Option Addr}
  {osl:Array (Option Value)} {N ps:List Str} {sp:Sp} (lk:K.lookup f=some ⟨oc,od,.func (PySem.W.fnOf name qual params body scope dV kV doc pm an cdv ct),osl⟩) (hcd:PySem.W.codeIn K cdv qual=true) (S:FnScope N ps scope)
  (len:∀ vs H Q E,sp vs H Q E->vs.length=ps.length)
  (hbody:∀ (A:Around) (outer:List Env) (s:Shared) (H:Hp) (vs:List V) (Q:VK) (E:XK),Room k (A.deeper (envOfC qual scope s.heap.objs.size f cdv))->sp vs H Q E ->
   ∃ t,PSs (cxOf CX P w K mg base N qual scope f cdv A outer s H E) body t/\t { nx:=fun _ H'=>Q .non H',rt:=Q } (start N vs) H) :
  FnOk P w K mg base CX (k + 1) f (PySem.W.fnOf name qual params body scope dV kV doc pm an cdv ct) ps sp:=by
 refine ⟨len,fun A outer s H args us vs Q E hr e0 hb r hsp=>?_⟩;have hl:=len _ _ _ _ hsp;have KX:K.In s.heap:=e0.mod.kin.keeps fun b o e=>(e0.bs b o e).1;have lim:s.heap.NoLimit:=e0.mod.nolimit.keeps fun b o e=>(e0.bs b o e).1;have hkind:∀ y ∈ ps.zip us,scope.names.lookup y.1=some .local\/(scope.names.lookup y.1=some .cell/\((cellsFrom (s.heap.objs.size + 1) scope.names []).lookup y.1).isSome=true):=fun ⟨n,v⟩ hy=>by
  rcases S.par n (List.of_mem_zip hy).1 with q | q
  ·exact .inl q
  ·exact .inr ⟨q,PySem.W.cellsFrom_some _ _ _ (.inl q)⟩
 refine codeAny_call_function hr.depth (KX _ _ lk) rfl S.co S.gen rfl (PySem.W.codeRec_of KX hcd) (hb _ _ _ _ ?_);refine wpAny_newFunctionEnv_cells S.kind hkind fun env he s1 x=>?_;subst he;refine ⟨lim.keeps x.toInCall.keep,codeAny_func ?_⟩;obtain ⟨t,ht,hq⟩:=hbody A outer s H vs Q E (hr.deeper _) hsp;have I:Inv (cxOf CX P w K mg base N qual scope f cdv A outer s H E) [] (start N vs) H s1:=A3f S hr.hd e0 hl r x;refine wpAny_mono (ht [] s1 (start N vs) H _ I hq) (fun fl s' hs=>?_) fun e s' hs=>hs;have fin:∀ {σ':St} {H':Hp} {v:V} {u:Value},Inv (cxOf CX P w K mg base N qual scope f cdv A outer s H E) [] σ' H' s'->RelV v u->Q v H'->CE outer P w H s Q u s' :=
  fun {σ' H' v u} J rv q=>⟨v,H',J.os,J.bare,J.base,J.hok,rv,q⟩
 cases fl with
 | ret u =>
  obtain ⟨v,σ',H',J,rv,q⟩:=hs;exact fin J rv q
 | next =>
  obtain ⟨σ',H',J,q⟩:=hs;exact fin (v:=V.non) (u:=Value.none) J rfl q
 | brk =>
  obtain ⟨_,_,_,q⟩:=hs;exact False.elim q
 | cont =>
  obtain ⟨_,_,_,q⟩:=hs;exact False.elim q
end L2
namespace L2
open PySem PySem.Spec PyProof.Rows
section
variable {X:Cx} {x:Str} {p pos:Pos} {e:Expr} {es:List Expr} {t:TA} {id T:String} {r:List V->Hp->VK->Prop}
def tCB (r:List V->Hp->VK->Prop) (t:TA):TE:=fun σ H Q=>t σ H fun vs H1=>r vs H1 Q
theorem A1d (hc:CallR X (.builtin id) r) (hg:Gl X x) (hm:X.mg x=none) (hv:bootBuiltins x=some (.builtin id)) (ha:PA X (e :: es) t) (hn:x≠"__name__":=by decide) (hdb:(x == ("__debug__":Str))=false:=by decide)
  (he:starEach (e :: es) X.env=(false,eval e X.env) :: starEach es X.env:=by rfl) (hpl:(backTo pos (starEach es X.env)).any (·.1)=false:=by rfl):PE X (.Call (.Name x p) (e :: es) [] pos) (tCB r t):=by
 intro pins s σ H Q I h;refine wpAny_Call_Name_kw (Y0 I hg hm hv ?_ hn hdb);exact PyProof.Rows.callWith_builtin1 (thn (ha pos pins s σ H _ I h) fun us s1 ⟨vs,H1,I1,r1,q1⟩=>hc pins s1 σ H1 vs us Q I1 r1 q1) he hpl
theorem A2q (hc:CallR X (.type T) r) (hg:Gl X x) (hm:X.mg x=none) (hv:bootBuiltins x=some (.type T)) (ha:PA X (e :: es) t) (hn:x≠"__name__":=by decide) (hdb:(x == ("__debug__":Str))=false:=by decide)
  (he:starEach (e :: es) X.env=(false,eval e X.env) :: starEach es X.env:=by rfl) (hpl:(backTo pos (starEach es X.env)).any (·.1)=false:=by rfl):PE X (.Call (.Name x p) (e :: es) [] pos) (tCB r t):=by
 intro pins s σ H Q I h;refine wpAny_Call_Name_kw (Y0 I hg hm hv ?_ hn hdb);exact PyProof.Rows.callWith_type1 (thn (ha pos pins s σ H _ I h) fun us s1 ⟨vs,H1,I1,r1,q1⟩=>hc pins s1 σ H1 vs us Q I1 r1 q1) he hpl
end
end L2
namespace HT
open PySem PyProof.Rows
section
open PySem.SeqAt
open PySem.AutoSeq1 (wpAny_loadPart')
open PySem.MeetsSeq PySem.MeetsSeq2 PySem.MeetsSeq3
end
section
variable {prog:Program} {w:World} {A:Around} {E:Value->Shared->Prop} {s:Shared}
def sIx (n d:Nat):Option Int->Nat
 | none=>d
 | some v=>if v < 0 then (v + (n:Int)).toNat else min v.toNat n
theorem D0a (n d:Nat):sIx n d none=d:=rfl
theorem D0k (n d k:Nat):sIx n d (some (k:Int))=min k n:=by
 show (if (k:Int) < 0 then ((k:Int) + (n:Int)).toNat else min (k:Int).toNat n)=min k n;rw [if_neg (by omega),Int.toNat_natCast]
end
end HT
namespace L2
open PySem PySem.Spec PyProof.Rows
abbrev TO:=St->Hp->(Option Int->Hp->Prop)->Prop
def PO (X:Cx) (e:Option Expr) (t:TO):Prop :=
 ∀ (pins:List (Addr × Obj)) (s:Shared) (σ:St) (H:Hp) (Q:Option Int->Hp->Prop),Inv X pins σ H s->t σ H Q ->
  wpAny (model X.prog X.w) X.A (evalPart e X.env) (fun u s'=>∃ o H',Inv X pins σ H' s'/\IsPart u o/\Q o H') X.xe s
def A4e:TO:=fun _ H Q=>Q none H
def C12 (t:TE):TO:=fun σ H Q=>t σ H fun x H1=>∃ i,x=.int i/\Q (some i) H1
section
variable {X:Cx} {e:Expr} {te:TE} {lo hi:Option Expr} {tl th:TO} {pos p2:Pos}
theorem C29:PO X none A4e:=by
 intro pins s σ H Q I h;rw [evalPart_none];exact wpAny_pure ⟨none,H,I,.none,h⟩
theorem C28 (h:PE X e te):PO X (some e) (C12 te):=by
 intro pins s σ H Q I hw;rw [evalPart_some];refine thn (h pins s σ H _ I hw) fun u s1 ⟨x,H1,I1,r1,q1⟩=>?_;obtain ⟨i,rfl,q⟩:=q1;obtain ⟨t,rfl⟩:=r1;exact ⟨some i,H1,I1,.int i t,q⟩
def SlR (X:Cx) (r:V->Option Int->Option Int->Hp->VK->Prop):Prop :=
 ∀ (pins:List (Addr × Obj)) (s:Shared) (σ:St) (H:Hp) (x:V) (v vl vu:Value) (lo hi:Option Int) (sl:Addr) (Q:VK),Inv X pins σ H s->RelV x v->s.heap.IsSliceOf sl vl vu .none->IsPart vl lo->IsPart vu hi->r x lo hi H Q ->
  ∃ T id,typeLookup (.type T) "__getitem__"=pure (some (.builtin id))/\s.TypeIs v T/\wpAny (model X.prog X.w) X.A (getItem v (.ref sl)) (EP X pins σ Q) X.xe s
def tSl (r:V->Option Int->Option Int->Hp->VK->Prop) (te:TE) (tl th:TO):TE:=fun σ H Q=>te σ H fun x H1=>tl σ H1 fun l H2=>th σ H2 fun u H3=>r x l u H3 Q
theorem B64 {r:V->Option Int->Option Int->Hp->VK->Prop} (hr:SlR X r) (he:PE X e te) (hl:PO X lo tl) (hu:PO X hi th):PE X (.Subscript e (.Slice lo hi none p2) pos) (tSl r te tl th):=by
 intro pins s σ H Q I h;refine Subscript_ (thn (he pins s σ H _ I h) fun v s1 ⟨x,H1,I1,r1,q1⟩=>?_);refine wpAny_Slice (thn (hl pins s1 σ H1 _ I1 q1) fun vl s2 ⟨l,H2,I2,pl,q2⟩=>thn (hu pins s2 σ H2 _ I2 q2) fun vu s3 ⟨u,H3,I3,pu,q3⟩=>?_);rw [evalPart_none];refine wpAny_pure ?_;have I4:Inv X pins σ H3 { s3 with heap:=s3.heap.push { cls:=.type "slice",data:=.fields #[vl,vu,.none] } }:=I3.kept (t':=s3.toks) fun b ob q=>Heap.get?_push_of_some _ q;obtain ⟨T,id,hT,ht,hg⟩:=hr pins { s3 with heap:=s3.heap.push { cls:=.type "slice",data:=.fields #[vl,vu,.none] } } σ H3 x v vl vu l u s3.heap.objs.size Q I4 r1 (Heap.IsSliceOf.new ..) pl pu q3;show wpAny (model X.prog X.w) X.A (subscriptTail e (.Slice lo hi none p2) v (.ref s3.heap.objs.size)) (EP X pins σ Q) X.xe { s3 with heap:=s3.heap.push { cls:=.type "slice",data:=.fields #[vl,vu,.none] } };exact tail_any (ops:=[.ref s3.heap.objs.size,v]) ht hT hg (by with_unfolding_all rfl)
def cutV (xs:List V) (lo hi:Option Int):List V:=(xs.drop (HT.sIx xs.length 0 lo)).take (HT.sIx xs.length xs.length hi - HT.sIx xs.length 0 lo)
theorem A48 (xs:List V) (lo hi:Option Int):(cutV xs lo hi).length<=xs.length:=by
 unfold cutV;rw [List.length_take,List.length_drop];omega
theorem Vals.nil_iff {xs:List V} {us:List Value} (r:Vals xs us):us=[] ↔ xs=[]:=by
 cases r with
 | nil=>simp
 | cons _ _=>simp
end
end L2
namespace L2
open PySem PySem.Spec PyProof.Rows
def ixN (n:Nat) (i:Int):Option Nat:=if 0<=i then (if i < n then some i.toNat else none) else if -(n:Int)<=i then some (i + n).toNat else none
def atI {α:Type} (xs:List α) (i:Int):Option α:=(ixN xs.length i).bind fun j=>xs[j]?
theorem B4u {n:Nat} {i:Int} {j:Nat} (h:ixN n i=some j):seqIndex? i n=some j/\j < n/\-(n:Int)<=i/\i < n:=by
 unfold ixN at h;by_cases h0:0<=i
 ·rw [if_pos h0] at h;by_cases h1:i < n
  ·rw [if_pos h1] at h;have e:i.toNat=j:=Zj h;exact ⟨by rw [seqIndex_of h0 h1,e],by omega,by omega,h1⟩
  ·rw [if_neg h1] at h; cases h
 ·rw [if_neg h0] at h;by_cases h1:-(n:Int)<=i
  ·rw [if_pos h1] at h;have e:(i + n).toNat=j:=Zj h;exact ⟨by rw [seqIndex_neg (by omega) h1,e],by omega,h1,by omega⟩
  ·rw [if_neg h1] at h; cases h
theorem A5e {α:Type} {xs:List α} {i:Int} {v:α} (h:atI xs i=some v):∃ j,seqIndex? i xs.length=some j/\xs[j]?=some v/\j < xs.length/\-(xs.length:Int)<=i/\i < xs.length:=by
 unfold atI at h;cases e:ixN xs.length i with
 | none=>rw [e] at h; cases h
 | some j =>
  rw [e] at h;obtain ⟨h1,h2,h3,h4⟩:=B4u e;exact ⟨j,h1,h,h2,h3,h4⟩
theorem K2 {α:Type} {xs:List α} {j:Nat} {v:α} (h:xs[j]?=some v):atI xs (j:Int)=some v:=by
 have hj:j < xs.length:=(Zs h).1;have e:ixN xs.length (j:Int)=some j:=by
  unfold ixN;rw [if_pos (by omega),if_pos (by omega)]; simp
 unfold atI; rw [e]; exact h
def A5f (b:Expr):Prop:=∀ o i,subscripted b false o i=operate [o,i] (getItem o i)
def IxR (X:Cx) (r:R2):Prop :=
 ∀ (value slice:Expr) (pins:List (Addr × Obj)) (s:Shared) (σ:St) (H:Hp) (x y:V) (v u:Value) (Q:VK),Inv X pins σ H s->RelV x v->RelV y u->r x y H Q ->
  subscripted slice false v u=operate [v,u] (getItem v u)->wpAny (model X.prog X.w) X.A (subscriptTail value slice v u) (EP X pins σ Q) X.xe s
def MtR (X:Cx) (id:String) (r:V->List V->Hp->VK->Prop):Prop :=
 ∀ (pins:List (Addr × Obj)) (s:Shared) (σ:St) (H:Hp) (x:V) (xs:List V) (v:Value) (us:List Value) (Q:VK),Inv X pins σ H s->RelV x v->Vals xs us->r x xs H Q ->
  wpAny (model X.prog X.w) X.A (call (.builtin id) (v :: us)) (EP X pins σ Q) X.xe s
section
variable {X:Cx} {a b:Expr} {ta tb:TE} {pos:Pos}
theorem IxR.or {r r':R2} (h:IxR X r) (h':IxR X r'):IxR X (fun x y H Q=>r x y H Q\/r' x y H Q):=by
 intro value slice pins s σ H x y v u Q I rx ry q hs;rcases q with q | q
 ·exact h value slice pins s σ H x y v u Q I rx ry q hs
 ·exact h' value slice pins s σ H x y v u Q I rx ry q hs
theorem A1b {r:R2} (hr:IxR X r) (ha:PE X a ta) (hb:PE X b tb) (hs:A5f b):PE X (.Subscript a b pos) (tOp r ta tb):=by
 intro pins s σ H Q I h;exact Subscript_ (binT ha hb I h fun v u s2 x y H2 I2 rx ry q=>hr a b pins s2 σ H2 x y v u Q I2 rx ry q (hs _ _))
def rIxL (K:PySem.W.Frag):R2:=fun x y H Q=>∃ p xs i v,x=.ref p/\y=.int i/\SqL K H p xs/\atI xs i=some v/\Q v H
def rIxT (K:PySem.W.Frag):R2:=fun x y H Q=>∃ p xs i v,x=.ref p/\y=.int i/\SqT K H p xs/\atI xs i=some v/\Q v H
def rIxS:R2:=fun x y H Q=>∃ z i c,x=.str z/\y=.int i/\z.length<=sizeLine/\atI z.cps.toList i=some c/\Q (.str ⟨#[c]⟩) H
theorem ix_list:IxR X (rIxL X.K):=by
 intro value slice pins s σ H x y v u Q I rx ry h hs;obtain ⟨p,xs,i,z,rfl,rfl,hq,he,q⟩:=h;cases rx;obtain ⟨t,rfl⟩:=ry;obtain ⟨its,r,pl,hz⟩:=I.list hq;obtain ⟨j,h1,h2,h3,h4,h5⟩:=A5e he;obtain ⟨w,ew,rw'⟩:=r.get h2;have hl:=r.length;have hn:=A0n;have fin:EP X pins σ Q w s:=⟨z,H,I,rw',q⟩;by_cases h0:0<=i
 ·have hj:i.toNat=j:=by
   rw [seqIndex_of h0 h5] at h1;exact Zj h1
  exact item_listR pl.isList h0 (by omega) (by rw [hj]; simpa using ew) fin hs
 ·have hj:(i + (its.toArray.size:Int)).toNat=j:=by
   rw [seqIndex_neg (by omega) h4] at h1;rw [List.size_toArray,<- hl];exact Zj h1
  exact subscriptTail_builtinR (x:=w) pl.isList.typeIs slot_list_getitem.lookup
   (wpAny_getItem_list_neg (Q:=fun r s'=>r=w/\EP X pins σ Q r s') pl.isList (by omega) (by rw [List.size_toArray] <;> omega) (by omega) (by rw [hj]; simpa using ew) ⟨rfl,fin⟩) hs
theorem ix_tup:IxR X (rIxT X.K):=by
 intro value slice pins s σ H x y v u Q I rx ry h hs;obtain ⟨p,xs,i,z,rfl,rfl,hq,he,q⟩:=h;cases rx;obtain ⟨t,rfl⟩:=ry;obtain ⟨its,r,pl,hz⟩:=I.tuple hq;obtain ⟨j,h1,h2,h3,h4,h5⟩:=A5e he;obtain ⟨w,ew,rw'⟩:=r.get h2;have hl:=r.length;have hn:=A0n;have fin:EP X pins σ Q w s:=⟨z,H,I,rw',q⟩;exact subscriptTail_builtinR (x:=w) pl.typeIs slot_tuple_getitem.lookup
  (getItem_tuple (j:=j) (Q:=fun r s'=>r=w/\EP X pins σ Q r s') pl (by omega) (by omega) (by rw [List.size_toArray,<- hl]; exact h1) (by simpa using ew) ⟨rfl,fin⟩) hs
theorem C88:IxR X rIxS:=by
 intro value slice pins s σ H x y v u Q I rx ry h hs;obtain ⟨z,i,c,rfl,rfl,hz,he,q⟩:=h;obtain ⟨t,rfl⟩:=rx;obtain ⟨t',rfl⟩:=ry;obtain ⟨j,h1,h2,h3,h4,h5⟩:=A5e he;have hl:z.cps.toList.length=z.length:=by simp [Str.length]
 rw [hl] at h1 h4 h5;have hn:=A0n;exact tail_any (typeIs_str s z t) slot_str_getitem.lookup (getItem_str (c:=c) (by
  have e1:decide (i < -(2 ^ 63:Int))=false:=Zd (by omega);have e2:decide (i ≥ 2 ^ 63)=false:=Zd (by omega);rw [e1,e2,Bool.or_false]) (by rw [h1]; simpa using h2) ⟨.str ⟨#[c]⟩,H,I.tok _,⟨_,rfl⟩,q⟩) hs
def rIx (K:PySem.W.Frag):R2:=fun x y H Q=>rIxL K x y H Q\/rIxT K x y H Q\/rIxS x y H Q
theorem C89:IxR X (rIx X.K):=ix_list.or (ix_tup.or C88)
theorem A8r (its:List Value) (n j:Nat) (u:Value):Obj.mapSeq (·.setIfInBounds j u) { cls:=.type "list",data:=.seq its.toArray n }={ cls:=.type "list",data:=.seq (its.set j u).toArray n }:=by
 simp [Obj.mapSeq]
theorem Inv.lst {pins:List (Addr × Obj)} {σ:St} {H:Hp} {s:Shared} {p:Addr} {xs:List V} (I:Inv X pins σ H s) (h:H p=some (.lst xs)) :
  ∃ (its:List Value) (n:Nat),Vals xs its/\s.heap.get? p=some { cls:=.type "list",data:=.seq its.toArray n }/\xs.length<=sizeLine:=by
 obtain ⟨z,its,n,r,e⟩:=I.hok p _ h;exact ⟨its,n,r,e,z⟩
theorem Inv.lstUpd {pins:List (Addr × Obj)} {σ:St} {H:Hp} {s:Shared} {p:Addr} {xs ys:List V} {its its':List Value} {n n':Nat} {f:Obj->Obj} (I:Inv X pins σ H s) (h:H p=some (.lst xs))
  (ho:s.heap.get? p=some { cls:=.type "list",data:=.seq its.toArray n }) (hf:f { cls:=.type "list",data:=.seq its.toArray n }={ cls:=.type "list",data:=.seq its'.toArray n' }) (r:Vals ys its') (hz:ys.length<=sizeLine) (t:Nat) :
  Inv X pins σ (upd H p (.lst ys)) { s with heap:=s.heap.update p f,toks:=t }:=by
 have e:(s.heap.update p f).get? p=some { cls:=.type "list",data:=.seq its'.toArray n' }:=by
  rw [Heap.get?_update_self f ho (by rw [hf] <;> rfl),hf]
 refine I.write (x:=p) (e:=p) (by rw [h]; trivial) (.inl rfl) (fun b u hb q=>(Heap.get?_update_other _ _ (Ne.symm hb)).trans q) ⟨_,e⟩ ?_;exact ⟨hz,its',n',r,e⟩
def D0m:V->V->V->Hp->(Hp->Prop)->Prop:=fun o i v H Q=>∃ p xs k j,o=.ref p/\i=.int k/\H p=some (.lst xs)/\ixN xs.length k=some j/\Q (upd H p (.lst (xs.set j v)))
theorem A04:PSet X D0m:=by
 intro pins s σ H o i v ov iv u Q I ro ri rv h;obtain ⟨p,xs,k,j,rfl,rfl,hp,hj,q⟩:=h;cases ro;obtain ⟨t,rfl⟩:=ri;obtain ⟨its,n,r,ho,hz⟩:=I.lst hp;obtain ⟨h1,h2,h3,h4⟩:=B4u hj;have hl:=r.length;have hn:=A0n;have I':Inv X pins σ (upd H p (.lst (xs.set j v))) { s with heap:=s.heap.update p (Obj.mapSeq (·.setIfInBounds j u)) } :=
  I.lstUpd hp ho (A8r its n j u) (r.set rv j) (by rw [List.length_set]; exact hz) s.toks
 by_cases h0:0<=k
 ·have hk:k.toNat=j:=by
   rw [seqIndex_of h0 h4] at h1;exact Zj h1
  exact PySem.W.ki_setAt ho h0 (by omega) (by rw [List.size_toArray,<- hl]; exact h4) (by rw [hk]; exact ⟨_,I',q⟩)
 ·have hk:(k + (its.toArray.size:Int)).toNat=j:=by
   rw [seqIndex_neg (by omega) h3] at h1;rw [List.size_toArray,<- hl];exact Zj h1
  exact PySem.W.ki_setBack ho (by omega) (by rw [List.size_toArray,<- hl]; exact h3) (by omega) (by rw [hk]; exact ⟨_,I',q⟩)
theorem A14 (lo hi:Option Int) (n:Nat):(sliceBounds lo hi none n).1=((HT.sIx n 0 lo:Nat):Int)/\(sliceBounds lo hi none n).2.1=((HT.sIx n n hi:Nat):Int)/\(sliceBounds lo hi none n).2.2=1:=by
 refine ⟨?_,?_,rfl⟩
 ·cases lo with
  | none=>simp [sliceBounds,HT.sIx]
  | some i =>
   simp only [sliceBounds,HT.sIx,Option.getD_none,show (1:Int) > 0 by decide,if_true];by_cases h:i < 0
   ·simp only [h,if_true] <;> omega
   ·simp only [h,if_false] <;> omega
 ·cases hi with
  | none=>simp [sliceBounds,HT.sIx]
  | some i =>
   simp only [sliceBounds,HT.sIx,Option.getD_none,show (1:Int) > 0 by decide,if_true];by_cases h:i < 0
   ·simp only [h,if_true] <;> omega
   ·simp only [h,if_false] <;> omega
theorem A03 (its:List Value) (lo hi:Option Int):slicePick its.toArray lo hi none=((its.drop (HT.sIx its.length 0 lo)).take (HT.sIx its.length its.length hi - HT.sIx its.length 0 lo)).toArray:=by
 obtain ⟨h1,h2,h3⟩:=A14 lo hi its.toArray.size;unfold slicePick;rw [h1,h2,h3];simp only [sliceRange_one,pick_run,List.size_toArray] <;> rfl
def rSlL (K:PySem.W.Frag):V->Option Int->Option Int->Hp->VK->Prop:=fun x lo hi H Q=>∃ a xs,x=.ref a/\SqL K H a xs/\∀ p,H p=none->Q (.ref p) (upd H p (.lst (cutV xs lo hi)))
theorem C2f:SlR X (rSlL X.K):=by
 intro pins s σ H x v vl vu lo hi sl Q I rx hs pl pu h;obtain ⟨a,xs,rfl,hx,q⟩:=h;cases rx;obtain ⟨its,r,ht,hz⟩:=I.list hx;have hlen:=r.length;refine ⟨"list",_,slot_list_getitem.lookup,ht.isList.typeIs,?_⟩;refine wpAny_getItem_list_slice ht.isList hs pl pu .none (by simp) ?_ (by rw [List.size_toArray] <;> omega)
 rw [A03,<- hlen];refine ⟨.ref s.heap.objs.size,_,I.laid (t':=s.toks) (o:=.lst (cutV xs lo hi)) (fun b ob q=>Heap.get?_push_of_some _ q) (Zv _) ?_,rfl,q _ (I.hok.fresh (Zv _))⟩;exact ⟨Zx (A48 xs lo hi) hz,_,0,(r.drop (HT.sIx xs.length 0 lo)).take (HT.sIx xs.length xs.length hi - HT.sIx xs.length 0 lo),Heap.get?_push_size _ rfl⟩
def C9h:V->Bool
 | .non=>true
 | .bl _=>true
 | .int _=>true
 | .str _=>true
 | _=>false
def eqV:V->V->Bool
 | .non,.non=>true
 | .bl a,.bl b=>a == b
 | .bl a,.int b=>(if a then 1 else 0) == b
 | .int a,.bl b=>a == (if b then 1 else 0)
 | .int a,.int b=>a == b
 | .str a,.str b=>a == b
 | _,_=>false
def inV (x:V) (xs:List V):Bool:=xs.any fun y=>eqV y x
def rIn (K:PySem.W.Frag) (neg:Bool):R2:=fun x y H Q=>∃ p xs,y=.ref p/\(SqL K H p xs\/SqT K H p xs)/\C9h x=true/\xs.all C9h=true/\Q (.bl (if neg then !inV x xs else inV x xs)) H
theorem call_len_seq:CallR X (.builtin "len") (fun xs H Q=>∃ p ys,xs=[.ref p]/\(SqL X.K H p ys\/SqT X.K H p ys)/\Q (.int ys.length) H):=by
 intro pins s σ H xs us Q I r h;obtain ⟨p,ys,rfl,hq,q⟩:=h;obtain ⟨u,rfl,rx⟩:=A1y r;cases rx;have hn:=A0n;rcases hq with hq | hq
 ·obtain ⟨its,r',pl,hz⟩:=I.list hq;have hlen:=r'.length;exact Calls.call_len_list pl.isList (by simp only [List.size_toArray] <;> omega) ⟨.int ys.length,H,I.tok _,⟨s.toks + 1,by rw [List.size_toArray,hlen]⟩,q⟩
 ·obtain ⟨its,r',pl,hz⟩:=I.tuple hq;have hlen:=r'.length;exact len_tuple pl (by simp only [List.size_toArray] <;> omega) ⟨.int ys.length,H,I.tok _,⟨s.toks + 1,by rw [List.size_toArray,hlen]⟩,q⟩
theorem A3v:CallR X (.builtin "len") (fun xs H Q=>∃ z,xs=[.str z]/\z.length<=sizeLine/\Q (.int z.length) H):=by
 intro pins s σ H xs us Q I r h;obtain ⟨z,rfl,hz,q⟩:=h;obtain ⟨u,rfl,t,rfl⟩:=A1y r;have hn:=A0n;exact len_str (by omega) ⟨.int z.length,H,I.tok _,⟨_,rfl⟩,q⟩
theorem CallR.or {f:Value} {r r':List V->Hp->VK->Prop} (h:CallR X f r) (h':CallR X f r'):CallR X f (fun xs H Q=>r xs H Q\/r' xs H Q):=by
 intro pins s σ H xs us Q I rs q;rcases q with q | q
 ·exact h pins s σ H xs us Q I rs q
 ·exact h' pins s σ H xs us Q I rs q
def tyV (K:PySem.W.Frag) (T:String) (x:V) (H:Hp):Prop:=match x with
 | .str _=>T="str"
 | .int _=>T="int"
 | .ref p=>(T="list"/\∃ xs,SqL K H p xs)\/(T="tuple"/\∃ o,K.lookup p=some o/\o.cls=.type "tuple"/\o.dict=none) \/
   (T="dict"/\((∃ kvs,H p=some (.dK kvs))\/∃ kvs,H p=some (.dT kvs)))\/(T="set"/\∃ S n,H p=some (.set S n))
 | _=>False
theorem C49 {pins:List (Addr × Obj)} {σ:St} {H:Hp} {s:Shared} {T:String} {x:V} {v:Value} (I:Inv X pins σ H s) (r:RelV x v) (ty:tyV X.K T x H) :
  s.TypeIs v T/\∀ a,v=.ref a->∃ ob,s.heap.get? a=some ob/\ob.dict=none:=by
 cases x with
 | str z =>
  obtain ⟨t,rfl⟩:=r;cases (show T="str" from ty);exact ⟨typeIs_str s z t,fun _ e=>nomatch e⟩
 | int i =>
  obtain ⟨t,rfl⟩:=r;cases (show T="int" from ty);exact ⟨typeIs_int s i t,fun _ e=>nomatch e⟩
 | ref p =>
  cases r;rcases ty with ⟨rfl,xs,hq⟩ | ⟨rfl,o,hk,hc,hd⟩ | ⟨rfl,hk⟩ | ⟨rfl,S,n,hk⟩
  ·obtain ⟨its,_,pl,_⟩:=I.list hq;refine ⟨pl.isList.typeIs,fun a e=>?_⟩;cases e;obtain ⟨o,n,e,c,hd,_⟩:=pl;exact ⟨o,e,hd⟩
  ·refine ⟨⟨o,I.kIn p o hk,hc⟩,fun a e=>?_⟩;cases e;exact ⟨o,I.kIn _ o hk,hd⟩
  ·have z:∃ o,s.heap.get? p=some o/\o.ExactDict:=by
    rcases hk with ⟨kvs,hk⟩ | ⟨kvs,hk⟩
    ·obtain ⟨_,_,_,_,o,_,_,e,ex,_⟩:=I.hok p _ hk;exact ⟨o,e,ex⟩
    ·obtain ⟨_,_,_,_,o,_,_,e,ex,_⟩:=I.hok p _ hk;exact ⟨o,e,ex⟩
   obtain ⟨o,e,ex⟩:=z;refine ⟨⟨o,e,ex.1⟩,fun a e2=>?_⟩;cases e2;exact ⟨o,e,ex.2.1⟩
  ·obtain ⟨o,_,_,_,e,ex,_⟩:=I.hok p _ hk;refine ⟨⟨o,e,ex.1⟩,fun a e2=>?_⟩;cases e2;exact ⟨o,e,ex.2.1⟩
 | _=>exact False.elim ty
def tBM (K:PySem.W.Frag) (T:String) (r:V->List V->Hp->VK->Prop) (to:TE) (t:TA):TE:=fun σ H Q=>to σ H fun x H1=>tyV K T x H1/\t σ H1 fun xs H2=>r x xs H2 Q
variable {o e:Expr} {es:List Expr} {to:TE} {t:TA} {name:Str} {apos cpos:Pos} {T id:String} {r:V->List V->Hp->VK->Prop}
theorem D0v (pa:PlainAttrs T) (slot:Slot T name id) (hty:typeOf (.builtin id)=pure (.type "method_descriptor")) (hm:MtR X id r) (ho:PE X o to) (ha:PA X (e :: es) t)
  (hbase:attributeBase o name X.env (eval o X.env)=eval o X.env:=by rfl)
  (hfew:((backTo cpos (starEach (e :: es) X.env)).all (fun x=>!x.1) && (backToKw cpos (keywordEach [] X.env)).all (fun x=>x.1.isSome)
   && decide ((e :: es).length + ([]:List Keyword).length + (if ([]:List Keyword).isEmpty then 0 else 1) < 30))=true:=by rfl)
  (hline:(apos.endLine == cpos.line)=true:=by rfl) (hs:starEach (e :: es) X.env=(false,eval e X.env) :: starEach es X.env:=by rfl) (hplain:(backTo cpos (starEach es X.env)).any (·.1)=false:=by rfl) :
  PE X (.Call (.Attribute o name apos) (e :: es) [] cpos) (tBM X.K T r to t):=by
 intro pins s σ H Q I h;refine wpAny_Call_method_late hbase hfew hline rfl (thn (ho pins s σ H _ I h) fun v s1 ⟨x,H1,I1,r1,ty,q1⟩=>?_);obtain ⟨h1,h2⟩:=C49 I1 r1 ty;refine ⟨T,id,pa,slot,hty,h1,h2,?_⟩;have hA:=ha cpos pins s1 σ H1 _ I1 q1;rw [hs] at hA ⊢;refine Calls.callWith_builtin (by show (false || (backTo cpos (starEach es X.env)).any (·.1))=false; rw [hplain] <;> rfl) (Calls.evalArgs_plain ?_)
 exact thn hA fun us s2 ⟨vs,H2,I2,r2,q2⟩=>hm pins s2 σ H2 x vs v us Q I2 r1 r2 q2
end
end L2
namespace L2
open PySem PySem.Spec PyProof.Rows
def MtM (X:Cx) (id:String) (r:V->List V->Hp->VK->Prop):Prop :=
 ∀ (pins:List (Addr × Obj)) (s:Shared) (σ:St) (H:Hp) (x:V) (xs:List V) (v:Value) (us:List Value) (Q:VK),Inv X pins σ H s->RelV x v->Vals xs us->r x xs H Q ->
  wpAny (model X.prog X.w) X.A (call (.builtin id) (v :: us)) (EP X pins σ Q) X.xe s
theorem Vals.one:∀ {x:V} {us:List Value},Vals [x] us->∃ u,us=[u]/\RelV x u
 | _,_,.cons r .nil=>⟨_,rfl,r⟩
theorem Vals.two:∀ {x y:V} {us:List Value},Vals [x,y] us->∃ u v,us=[u,v]/\RelV x u/\RelV y v
 | _,_,_,.cons r (.cons q .nil)=>⟨_,_,rfl,r,q⟩
theorem Vals.zero:∀ {us:List Value},Vals [] us->us=[]
 | _,.nil=>rfl
theorem Vals.dropLast {xs:List V} {us:List Value} (h:Vals xs us):Vals xs.dropLast us.dropLast:=by
 induction h with
 | nil=>exact .nil
 | cons r t ih =>
  cases t with
  | nil=>exact .nil
  | cons q t'=>exact .cons r ih
theorem Vals.eraseIdx:∀ {xs:List V} {us:List Value} (i:Nat),Vals xs us->Vals (xs.eraseIdx i) (us.eraseIdx i)
 | _,_,_,.nil=>.nil
 | _,_,0,.cons _ t=>t
 | _,_,i + 1,.cons r t=>.cons r (Vals.eraseIdx i t)
theorem Vals.reverse {xs:List V} {us:List Value} (h:Vals xs us):Vals xs.reverse us.reverse:=by
 induction h with
 | nil=>exact .nil
 | cons r t ih=>rw [List.reverse_cons,List.reverse_cons]; exact Vals.append ih (.cons r .nil)
theorem Vals.rep {xs:List V} {us:List Value} (h:Vals xs us):∀ k:Nat,Vals (List.replicate k xs).flatten (List.replicate k us).flatten
 | 0=>.nil
 | k + 1=>by
  rw [List.replicate_succ,List.replicate_succ,List.flatten_cons,List.flatten_cons];exact Vals.append h (Vals.rep h k)
theorem A3h (its:List Value):∀ (k:Nat) (acc:List Value),
  List.foldl (fun x1 x2=>x1++x2) acc.toArray (List.replicate k its.toArray)=(acc++(List.replicate k its).flatten).toArray
 | 0,acc=>by simp
 | k + 1,acc=>by
  have e:acc.toArray++its.toArray=(acc++its).toArray:=by simp
  have e2:(acc++its)++(List.replicate k its).flatten=acc++(List.replicate (k + 1) its).flatten:=by
   rw [List.replicate_succ,List.flatten_cons,List.append_assoc]
  rw [<- e2,<- A3h its k (acc++its),<- e,List.replicate_succ,List.foldl_cons]
section
variable {X:Cx} {pins:List (Addr × Obj)} {σ:St} {H:Hp} {s:Shared} {l b:Addr} {xs ys zs:List V}
theorem Inv.lset {its its':List Value} {n:Nat} {f:Array Value->Array Value} {t':Nat} (I:Inv X pins σ H s) (hH:H l=some (.lst xs))
  (e:s.heap.get? l=some { cls:=.type "list",data:=.seq its.toArray n }) (hf:f its.toArray=its'.toArray) (hv:Vals ys its') (hz:ys.length<=sizeLine) :
  Inv X pins σ (upd H l (.lst ys)) { s with heap:=s.heap.update l (Obj.mapSeq f),toks:=t' }:=by
 have q:=PySem.IsL.update e f;rw [hf] at q;refine I.write (x:=l) (e:=l) (by rw [hH]; exact trivial) (.inl rfl) (fun b' u hb hu=>(Heap.get?_update_other s.heap (Obj.mapSeq f) (Ne.symm hb)).trans hu) ⟨_,q⟩ ?_;exact ⟨hz,its',_,hv,q⟩
theorem Inv.lnew {its:List Value} {t':Nat} (I:Inv X pins σ H s) (hv:Vals ys its) (hz:ys.length<=sizeLine) :
  Inv X pins σ (upd H s.heap.objs.size (.lst ys)) { s with heap:=s.heap.push { cls:=.type "list",data:=.seq its.toArray },toks:=t' } :=
 I.laid (fun _ _ q=>Heap.get?_push_of_some _ q) (Zv _) ⟨hz,its,0,hv,Heap.get?_push_size _ rfl⟩
theorem Inv.fresh (I:Inv X pins σ H s):H s.heap.objs.size=none:=I.hok.fresh (Zv _)
theorem Inv.lstM (I:Inv X pins σ H s) (hH:H l=some (.lst xs)):xs.length<=sizeLine/\∃ (its:List Value) (n:Nat),Vals xs its/\xs.length=its.length/\s.heap.get? l=some { cls:=.type "list",data:=.seq its.toArray n }:=by
 obtain ⟨z,its,n,r,e⟩:=I.hok l _ hH;exact ⟨z,its,n,r,r.length,e⟩
theorem B7l {n:Nat} (h:n<=sizeLine):Builtin.List.listTooLong n=false:=by
 unfold Builtin.List.listTooLong;exact Zd (by omega)
end
section
variable {X:Cx}
def A4j:V->List V->Hp->VK->Prop:=fun x vs H Q=>∃ l xs y,x=.ref l/\vs=[y]/\H l=some (.lst xs)/\xs.length < sizeLine/\Q .non (upd H l (.lst (xs++[y])))
theorem F1:MtM X "list.append" A4j:=by
 intro pins s σ H x vs v us Q I rx rv h;obtain ⟨l,xs,y,rfl,rfl,hH,hz,q⟩:=h;cases rx;obtain ⟨u,rfl,ru⟩:=rv.one;obtain ⟨z,its,n,r,hl,e⟩:=I.lstM hH;refine call_meets F.slot_list_append ⟨_,e,rfl⟩ F.entry_list_append (F.args_list_append_2 _ _) (PySem.list_append l its.toArray n u (by rw [List.size_toArray]; omega)) ⟨e,?_⟩;refine ⟨.non,_,I.lset (its':=its++[u]) hH e (by simp) (r.append (.cons ru .nil)) ?_,rfl,q⟩;rw [Ze,List.length_singleton];omega
def rRep:R2:=fun x y H Q=>∃ l k xs,x=.ref l/\y=.int k/\H l=some (.lst xs)/\-(2 ^ 63)<=k/\k < 2 ^ 63/\xs.length * k.toNat<=sizeLine /\
 ∀ p,H p=none->Q (.ref p) (upd H p (.lst (List.replicate k.toNat xs).flatten))
theorem C4d {α:Type} (xs:List α) (k:Nat):(List.replicate k xs).flatten.length=k * xs.length:=by
 induction k with
 | zero=>simp
 | succ k ih=>rw [List.replicate_succ,List.flatten_cons,Ze,ih,Nat.succ_mul,Nat.add_comm]
theorem C70:OpR X (binaryOp .Mult) rRep:=by
 intro pins s σ H x y v u Q I rx ry h;obtain ⟨l,k,xs,rfl,rfl,hH,h1,h2,hz,q⟩:=h;cases rx;obtain ⟨t,rfl⟩:=ry;obtain ⟨z,its,n,r,hl,e⟩:=I.lstM hH;have hlen:its.toArray.size * k.toNat<=sizeLine:=by rw [List.size_toArray,<- hl]; exact hz
 have hcap:¬ its.toArray.size * k.toNat > (2 ^ 63 - 1) / 8:=by
  have:(sizeLine:Nat)<=(2 ^ 63 - 1) / 8:=by decide
  omega
 have hfit:¬ (!Builtin.List.listFitsIndex k)=true:=by
  rw [fitsIndex_both h1 h2];exact Bool.false_ne_true
 have hlong:¬ Builtin.List.listTooLong (its.toArray.size * k.toNat)=true:=by
  rw [B7l hlen];exact Bool.false_ne_true
 have hnew:List.foldl (fun x1 x2=>x1++x2) #[] (List.replicate (if its.toArray.isEmpty=true then 0 else k.toNat) its.toArray)=(List.replicate k.toNat its).flatten.toArray:=by
  have f0:∀ m:Nat,List.foldl (fun x1 x2=>x1++x2) #[] (List.replicate m its.toArray)=(List.replicate m its).flatten.toArray:=fun m=>by
   have:=A3h its m [];rw [List.nil_append] at this;exact this
  rw [f0];cases its with
  | nil=>simp
  | cons a r'=>rw [if_neg (by simp)]
 refine wpAny_binaryOp_repeat_ref (T:="list") (U:="int") (by decide) ⟨_,e,rfl⟩ (fun s'=>typeIs_int s' k t) noFill_list_mul F.fills_int_mul F.slot_int_rmul repeat_list F.slot_int_index.lookup
  (call_meets F.slot_int_rmul (typeIs_int s k t) F.entry_int_rmul (F.args_int_rmul_2 _ _) (int___rmul___int_list k t l its.toArray n)
   ⟨e,rfl,⟨_,e,rfl⟩,call_meets F.slot_list_mul ⟨_,e,rfl⟩ F.entry_list_mul (F.args_list_mul_2 _ _) (AutoListH.list___mul___list_int_3 l its.toArray n k t hfit hcap hlong) ⟨e,?_⟩⟩)
 rw [hnew];exact ⟨.ref _,_,I.lnew (t':=s.toks) (r.rep k.toNat) (by rw [C4d,Nat.mul_comm]; exact hz),rfl,q _ I.fresh⟩
end
section
variable {prog:Program} {w:World} {A:Around} {E:Value->Shared->Prop} {s:Shared}
end
section
variable {X:Cx}
end
end L2
namespace Att
open PySem PySem.W PySem.Calls PyProof.Rows
theorem Y3 {P:Params} {h:Heap}:∀ (ns:List Int) (vs:List Value),WellAll P h vs (ns.map WData.int)->IntsAre vs ns:=by
 intro ns;induction ns with
 | nil =>
  intro vs w;rw [List.map_nil] at w;cases w;exact .nil
 | cons n ns ih =>
  intro vs w;rw [List.map_cons] at w;cases w with
  | cons a b =>
   cases a;exact .cons _ _ (ih _ b)
theorem A9x {l:OpenLaw} {n:Nat} (hn:l.most=some n) {P:Params} {h:Heap} {args:List WData} {vals:List Value}
  (hpre:l.row.toRowW.claim.pre args=true) (hwl:WellAll P h vals args) :
  ∃ a vs ns,vals=[Value.ref a]/\args=[WData.list (ns.map WData.int)]/\h.get? a=some { cls:=.type "list",data:=.seq vs.toArray }/\IntsAre vs ns/\ns.length<=n:=by
 have hsh:WShape.hasAll [] args [.list .int]=true:=(pre_splitW hpre).1;have hc:l.pre.holds [] { args:=args }=true:=(pre_splitW hpre).2;obtain ⟨d,r,rfl,h1,h2⟩:=hasAllW_cons hsh;obtain rfl:=hasAllW_nil h2;obtain ⟨xs,rfl,h3⟩:=hasW_list h1;obtain ⟨ns,rfl⟩:=items_int h3;have hlen:ns.length<=n:=by
  unfold OpenLaw.pre at hc;have h4:(WTm.not (.lt (.lit (.int (n:Int))) (.len (.arg 0)))).holds [] { args:=[.list (ns.map .int)] }=true:=by
   have h4:=(holds_andW hc).1;rw [hn] at h4;exact h4
  have h5:=condW_of h4 (w_not (w_lt w_lit (w_len_list (w_arg rfl))));rw [Zl] at h5;refine Nat.le_of_not_lt fun q=>?_;have q':(n:Int) < ((ns.length:Nat):Int):=by omega
  first
   | (rw [Zk q'] at h5; exact absurd h5 (by decide))
   | (simp at h5; omega)
 cases hwl with
 | cons w1 w2 =>
  cases w2;cases w1 with
  | list ho hall=>exact ⟨_,_,ns,rfl,rfl,ho,Y3 ns _ hall,hlen⟩
theorem B0p (l:OpenLaw) (args:List WData):l.row.toRowW.claim.post args (.bool true) args=true :=
 postW_of (r:=l.row.toRowW) (X:=(true == true))
  (show WShape.has [] (.bool true) .bool=true by first | rfl | decide | simp [WShape.has,WShape.arms,WShape.armsAll])
  (show (WTm.eq .res (.lit (.bool true))).value [] { args:=args,res:=some (.bool true),after:=args }=some (.bool (true == true)) from w_eq_bool (w_res rfl) w_lit) rfl
theorem attach_call {l:OpenLaw} {n:Nat} {q:Program} {loose:List Str} {XP:(Str->Option Value)->Heap->Prop} {YP:World->Heap->Prop} {d:DefRec}
  (hn:l.most=some n) (hdf:d.params.defaults=[])
  (call:∀ (w:World) (s₀ s₁:Shared) (mg mb:Str->Option Value) (fa:Addr) (o:Obj) (pm cd doc:Value) (a:Addr) (vs:List Value) (ns:List Int),
   Ground q loose [] XP w s₀ mg mb s₁.heap->YP w s₁.heap ->
   s₁.heap.get? fa=some o->o.data=.func (docDef d.name d.params d.body d.scope pm cd doc)->s₁.heap.CodeRec cd d.name->mg d.name=some (.ref fa) ->
   s₁.heap.get? a=some { cls:=.type "list",data:=.seq vs.toArray }->IntsAre vs ns->ns.length<=n->s₁.gens=#[] ->
   codeAny (model l.prog w) callerA (.call (.ref fa) ⟨[.ref a],[]⟩) (fun r s'=>r=.ok (.ret (.bool true))/\OldK s₁.heap s'.heap/\s'.os=s₁.os/\AllBare s'.gens) s₁) :
  WalkO q loose XP YP l.row.toRowW d [] (fun f vs=>PySem.call f vs):=by
 intro w s₀ s₁ mg mb G Y fa o pm cd doc dV kV ho hd hcd hD hmg hg args vals as hpre hlay hrd hwl hlo;obtain rfl:dV=.none:=Dflts.none hD hdf;obtain rfl:kV=.none:=Dflts.noKw hD;obtain ⟨a,vs,ns,rfl,rfl,hobj,hints,hlen⟩:=A9x hn hpre hwl;refine enter_call (codeAny_mono (call w s₀ s₁ mg mb fa o pm cd doc a vs ns G Y ho (fd_plain hd) hcd hmg hobj hints hlen hg) fun r s' hq=>?_);obtain ⟨rfl,h2,h3,h4⟩:=hq;exact ⟨.inl ⟨.bool true,.bool true,[],rfl,fun _=>rfl,.bool true,B0p l _,fun _=>⟨List.Pairwise.nil,fun _ hm=>(nomatch hm)⟩⟩,h2,h3,h4⟩
section
variable {prog:Program} {w:World} {A:Around} {E:Value->Shared->Prop} {s:Shared} {K:Frag}
end
end Att
namespace L2
open PySem PySem.Spec PyProof.Rows
theorem A1x:∀ {vs:List Value} {ns:List Int},IntsAre vs ns->Vals (ns.map V.int) vs
 | _,_,.nil=>.nil
 | _,_,.cons n t h=>.cons ⟨t,rfl⟩ (A1x h)
def Only (H:Hp):Prop:=∀ b,H b=none\/∃ o xs,H b=some (.frz o (.lst xs))
theorem B7q {P:Program} {w:World} {K:PySem.W.Frag} {mg mb:Str->Option Value} {CX:CXT} {k:Nat} {fa a:Addr} {fd:FuncData} {x:Str} {sp:Sp} {s₁:Shared} {vs:List Value} {ns:List Int}
  (KX:K.In s₁.heap) (hns:s₁.heap.Ns mainGlobals mg) (hb:s₁.heap.Ns builtinsNs mb) (hbb:∀ x:Str,x≠"__name__"->mb x=bootBuiltins x) (hlim:s₁.heap.NoLimit) (hg:s₁.gens=#[])
  (ha:s₁.heap.get? a=some { cls:=.type "list",data:=.seq vs.toArray }) (hi:IntsAre vs ns) (hl:ns.length<=sizeLine) (hr:Room k callerA)
  (F:∀ base:Heap,K.In base->base.Ns mainGlobals mg->FnOk P w K mg base CX k fa fd [x] sp) (hbind:∀ (s:Shared) (u:Value),BindsTo s fd ⟨[u],[]⟩ [(x,u)])
  (hsp:∀ H:Hp,Only H->SqL K H a (ns.map V.int)->sp [.ref a] H (fun v _=>v=.bl true) fun _ _ _=>False)
  (hCX:∀ H e s',CX [] H s₁ (fun _ _ _=>False) e s'->False) :
  codeAny (model P w) callerA (.call (.ref fa) ⟨[.ref a],[]⟩) (fun r s'=>r=.ok (.ret (.bool true))/\OldK s₁.heap s'.heap/\s'.os=s₁.os/\AllBare s'.gens) s₁:=by
 have rv:=A1x hi;have lenV:=hi.length;have core:∀ H:Hp,Only H->SqL K H a (ns.map V.int)->HOk P w H s₁.heap->(∀ b,H b≠none->b=a)->(H a≠none->K.lookup a=none) ->
   codeAny (model P w) callerA (.call (.ref fa) ⟨[.ref a],[]⟩) (fun r s'=>r=.ok (.ret (.bool true))/\OldK s₁.heap s'.heap/\s'.os=s₁.os/\AllBare s'.gens) s₁:=by
  intro H hO hS hok hA hK;have base_of:∀ {b:Addr} {o:Obj},s₁.heap.get? b=some o->H b=none->(hidT s₁.heap H).get? b=some o:=fun e n=>B7x e n;have noA:∀ {b:Addr} {o:Obj} {es:Array DictEntry} {ep:Nat},s₁.heap.get? b=some o->o.data=.dict es ep->H b=none:=fun {b o es ep} e d=>by
   cases q:H b with
   | none=>rfl
   | some u =>
    have e':b=a:=hA b (by rw [q]; simp);subst e';rw [ha] at e; cases e;have d':Data.seq vs.toArray _=Data.dict es ep:=d;cases d'
  have nsK:∀ {b:Addr} {m:Str->Option Value},s₁.heap.Ns b m->(hidT s₁.heap H).Ns b m:=fun {b m} ⟨o,es,ep,e,d,r⟩=>⟨o,es,ep,base_of e (noA e d),d,r⟩;have hKb:K.In (hidT s₁.heap H):=fun b o e=>base_of (KX b o e) (by
   cases q:H b with
   | none=>rfl
   | some u =>
    have e':b=a:=hA b (by rw [q]; simp);subst e';rw [hK (by rw [q]; simp)] at e; cases e)
  have hM:Mod K mg (hidT s₁.heap H):=⟨hKb,nsK hns,⟨mb,nsK hb,hbb⟩,let ⟨mc,h1,h2⟩:=hlim; ⟨mc,nsK h1,h2⟩⟩;have e0:Env0 P w K mg (hidT s₁.heap H) callerA [] s₁ H:=⟨rfl,hM,fun b o e=>C37 e,Nat.le_of_eq (B4x _ _),trivial,fun b hb=>absurd (show b ∈ ([]:List Addr) from hb) (by simp),hok,.of_eq hg⟩;refine codeAny_mono ((F _ hKb (nsK hns)).run callerA [] s₁ H ⟨[.ref a],[]⟩ [.ref a] [.ref a] _ _ hr e0 (hbind s₁ (.ref a)) (.cons rfl .nil) (hsp H hO hS)) fun r s' h=>?_;cases r with
  | error e=>exact (hCX H e s' h).elim
  | ok fl =>
   cases fl with
   | next=>exact False.elim h
   | brk=>exact False.elim h
   | cont=>exact False.elim h
   | ret u =>
    obtain ⟨v,H',os,bare,un,hok',r',q⟩:=h;have q':v=.bl true:=q;subst q';obtain rfl:u=Value.bool true:=r';refine ⟨rfl,OldK.of_keep fun b o e=>?_,os,bare⟩;cases q:H b with
    | none=>exact un.keep b o e q (by intro z; exact absurd (show b ∈ ([]:List Addr) from z) (by simp)) (by simp)
    | some u =>
     rcases hO b with z | ⟨ob,xs,z⟩
     ·rw [q] at z; cases z
     ·have z2:=un.frzs b ob _ z;obtain ⟨e1,_⟩:=hok b _ z;obtain ⟨e2,_⟩:=hok' b _ z2;rw [e] at e1; cases e1;exact e2
 cases hk:K.lookup a with
 | some o =>
  have e:=KX a o hk;rw [ha] at e;cases e;refine core (fun _=>none) (fun _=>.inl rfl) (.inr ⟨_,vs.toArray,_,hk,rfl,rfl,rfl,by rw [List.size_toArray,lenV]; exact hl,by simpa using rv⟩) (fun b u z=>by have z':(none:Option HO)=some u:=z; cases z') (fun b z=>absurd rfl z) fun z=>absurd rfl z
 | none =>
  refine core (fun b=>if b=a then some (.frz { cls:=.type "list",data:=.seq vs.toArray } (.lst (ns.map V.int))) else none) (fun b=>?_) (.inl (.inr ⟨{ cls:=.type "list",data:=.seq vs.toArray },if_pos rfl⟩)) (fun b u z=>?_) (fun b z=>?_) fun _=>hk
  ·by_cases hb:b=a
   ·exact .inr ⟨_,_,if_pos hb⟩
   ·exact .inl (if_neg hb)
  ·by_cases hb:b=a
   ·have z':=(if_pos hb).symm.trans z;cases z';subst hb;exact ⟨ha,by rw [Zl]; exact hl,vs,_,rv,ha⟩
   ·have z':=(if_neg hb).symm.trans z;cases z'
  ·by_cases hb:b=a
   ·exact hb
   ·exact absurd (if_neg hb) z
end L2
namespace L2
open PySem PySem.Spec PyProof.Rows
theorem C1v {l:PySem.W.OpenLaw} {n k:Nat} {q:Program} {loose:List Str} {XP:(Str->Option Value)->Heap->Prop} {YP:World->Heap->Prop} {d:DefRec} {K:Params->PySem.W.Frag} {CX:World->CXT} {sp:World->Sp} {x:Str}
  (hn:l.most=some n) (hn2:n<=sizeLine) (hdf:d.params.defaults=[]) (hr:Room k callerA)
  (hY:∀ (w:World) (h:Heap),YP w h->(K w.params).In h)
  (F:∀ (w:World) (mg:Str->Option Value) (fa:Addr) (h:Heap),(K w.params).In h->h.Ns mainGlobals mg->mg d.name=some (.ref fa) ->
   ∃ fd:FuncData,(∀ (s:Shared) (u:Value),BindsTo s fd ⟨[u],[]⟩ [(x,u)]) /\
    ∀ base:Heap,(K w.params).In base->base.Ns mainGlobals mg->FnOk l.prog w (K w.params) mg base (CX w) k fa fd [x] (sp w))
  (hsp:∀ (w:World) (H:Hp) (a:Addr) (ns:List Int),ns.length<=n->Only H->SqL (K w.params) H a (ns.map V.int)->sp w [.ref a] H (fun v _=>v=.bl true) fun _ _ _=>False)
  (hCX:∀ (w:World) (H:Hp) (s:Shared) (e:Value) (s':Shared),CX w [] H s (fun _ _ _=>False) e s'->False) :
  PySem.W.WalkO q loose XP YP l.row.toRowW d [] (fun f vs=>PySem.call f vs):=by
 refine Att.attach_call hn hdf fun w s₀ s₁ mg mb fa o pm cd doc a vs ns G Y ho hd hcd hmg hobj hints hlen hg=>?_;have KX:=hY w _ Y;obtain ⟨fd,hb,hF⟩:=F w mg fa _ KX G.T.g hmg;exact B7q KX G.T.g G.T.b G.T.builtins G.T.nolimit hg hobj hints (Zx hlen hn2) hr hF hb (fun H hO hS=>hsp w H a ns hlen hO hS) fun H e s'=>hCX w H s₁ e s'
end L2
namespace L2
open PySem PySem.Spec PyProof.Rows
abbrev CX0:CXT:=fun _ _ _ _ _ _=>False
abbrev E0:XK:=fun _ _ _=>False
theorem D0x {X:Cx}:A4b CX0 X E0:=fun _ _ _ _ _ _ _ h=>h.elim
structure Fun (K:PySem.W.Frag) (x qual:Str) (st:Stmt) (f:Addr) (fd:FuncData):Prop where
 ex:∃ (oc:Value) (od:Option Addr) (kV doc pm:Value) (an:Option Addr) (cdv ct:Value) (osl:Array (Option Value)),
  fd=PySem.W.fnOf x qual (J0 st) (F2 st) (A7 st) .none kV doc pm an cdv ct/\K.lookup f=some ⟨oc,od,.func fd,osl⟩/\PySem.W.codeIn K cdv qual=true
 kp:PySem.W.keepIn K (.ref f)=true
section
variable {P:Program} {w:World} {K:PySem.W.Frag} {mg:Str->Option Value} {base:Heap}
theorem Fun.ok {x qual:Str} {st:Stmt} {f:Addr} {fd:FuncData} {N ps:List Str} {k:Nat} {sp:Sp} (F:Fun K x qual st f fd) (S:FnScope N ps (A7 st)) (len:∀ vs H Q E,sp vs H Q E->vs.length=ps.length)
  (hbody:∀ (cdv:Value) (A:Around) (outer:List Env) (s:Shared) (H:Hp) (vs:List V) (Q:VK) (E:XK),Room k (A.deeper (envOfC qual (A7 st) s.heap.objs.size f cdv))->sp vs H Q E ->
   ∃ t,PSs (cxOf CX0 P w K mg base N qual (A7 st) f cdv A outer s H E).nox (F2 st) t/\t { nx:=fun _ H'=>Q .non H',rt:=Q } (start N vs) H):FnOk P w K mg base CX0 (k + 1) f fd ps sp:=by
 obtain ⟨oc,od,kV,doc,pm,an,cdv,ct,osl,rfl,lk,hcd⟩:=F.ex;refine C9g lk hcd S len fun A outer s H vs Q E hr hsp=>?_;obtain ⟨t,h,q⟩:=hbody cdv A outer s H vs Q E hr hsp;exact ⟨t,h.nox,q⟩
theorem Fun.binds {x qual:Str} {st:Stmt} {f:Addr} {fd:FuncData} {ps:List Str} (F:Fun K x qual st f fd)
  (h:∀ (kV doc pm:Value) (an:Option Addr) (cdv ct:Value) (us:List Value),us.length=ps.length->bindArgs (PySem.W.fnOf x qual (J0 st) (F2 st) (A7 st) .none kV doc pm an cdv ct) ⟨us,[]⟩=pure (ps.zip us)):Binds K fd ps []:=by
 obtain ⟨oc,od,kV,doc,pm,an,cdv,ct,osl,rfl,lk,hcd⟩:=F.ex;exact .all (h kV doc pm an cdv ct)
theorem B42 {x qual:Str} {st:Stmt} {f:Addr} {oc:Value} {od an:Option Addr} {osl:Array (Option Value)} {kV doc pm cdv ct:Value} (l:K.lookup f=some ⟨oc,od,.func (PySem.W.fnOf x qual (J0 st) (F2 st) (A7 st) .none kV doc pm an cdv ct),osl⟩)
  (c:PySem.W.codeIn K cdv qual=true) (k:PySem.W.keepIn K (.ref f)=true):Fun K x qual st f (PySem.W.fnOf x qual (J0 st) (F2 st) (A7 st) .none kV doc pm an cdv ct):=⟨⟨oc,od,kV,doc,pm,an,cdv,ct,osl,rfl,l,c⟩,k⟩
end
theorem A13 {n:Nat} (h:n<=1000):n < sizeLine:=Nat.lt_of_le_of_lt h (by decide)
section
variable {X:Cx}
theorem pv (i:Nat) {x:Str} {pos:Pos} (hN:X.N[i]?=some x:=by rfl) (hv:Vis X.env.scope x:=by first | exact Or.inl rfl | exact Or.inr (Or.inl rfl) | exact Or.inr (Or.inr rfl)) (hd:(x == ("__debug__":Str))=false:=by decide)
  (hcd:(x == ("__classdict__":Str))=false:=by decide):PE X (.Name x pos) (tVar i):=A2p hN hv hd hcd
end
theorem iteF {A B:Prop} (h:B):if false=true then A else B:=by
 rw [if_neg Bool.false_ne_true];exact h
theorem iteT {A B:Prop} (h:A):if true=true then A else B:=by
 rw [if_pos rfl];exact h
theorem ite2 {c A B:Prop} [Decidable c] (h1:c->A) (h2:¬ c->B):if c then A else B:=by
 by_cases h:c
 ·rw [if_pos h];exact h1 h
 ·rw [if_neg h];exact h2 h
def Same (H H':Hp):Prop:=∀ b o,H b=some o->H' b=some o
theorem Same.refl (H:Hp):Same H H:=fun _ _ h=>h
theorem Same.trans {H H1 H2:Hp} (a:Same H H1) (b:Same H1 H2):Same H H2:=fun c o h=>b c o (a c o h)
theorem Same.seq {K:PySem.W.Frag} {H H':Hp} {a:Addr} {xs:List V} (e:Same H H') (h:SqL K H a xs):SqL K H' a xs:=by
 rcases h with (h | ⟨o,h⟩) | h
 ·exact .inl (.inl (e _ _ h))
 ·exact .inl (.inr ⟨o,e _ _ h⟩)
 ·exact .inr h
end L2
namespace My
def Sm (k:Nat) (x:Int):Prop:=x.natAbs < 2 ^ k
theorem Sm.mono {k l:Nat} {x:Int} (h:Sm k x) (e:k<=l):Sm l x:=Nat.lt_of_lt_of_le h (Zp (by decide) e)
theorem Sm.mul {k l:Nat} {x y:Int} (h:Sm k x) (g:Sm l y):Sm (k + l) (x * y):=by
 unfold Sm at *;rw [Int.natAbs_mul,Nat.pow_add];rcases Nat.eq_zero_or_pos y.natAbs with e | e
 ·rw [e,Nat.mul_zero]; exact Nat.mul_pos (Nat.two_pow_pos _) (Nat.two_pow_pos _)
 ·exact Nat.lt_of_lt_of_le (Nat.mul_lt_mul_of_pos_right h e) (Nat.mul_le_mul_left _ (Nat.le_of_lt g))
theorem Sm.add {k:Nat} {x y:Int} (h:Sm k x) (g:Sm k y):Sm (k + 1) (x + y):=by
 unfold Sm at *;rw [Nat.pow_succ];have:=Int.natAbs_add_le x y;omega
theorem Sm.le {k:Nat} {x y:Int} (h:Sm k x) (g:y.natAbs<=x.natAbs):Sm k y:=Nat.lt_of_le_of_lt g h
theorem Sm.log {k:Nat} {x:Int} (h:Sm k x) (hk:0 < k):x.natAbs.log2 < k:=by
 by_cases h0:x.natAbs=0
 ·rw [h0]; exact hk
 ·exact (Nat.log2_lt h0).mpr h
theorem B41 (a b:Int):Int.gcd b (a % b)=Int.gcd a b:=by
 have h:a % b=a + b * (-(a / b)):=by
  have:=Int.emod_def a b;rw [this,Int.mul_neg]; omega
 rw [h,Int.gcd_add_mul_left_right,Int.gcd_comm]
theorem C4l (a b:Int):Int.gcd (if a < 0 then -a else a) (if b < 0 then -b else b)=Int.gcd a b:=by
 unfold Int.gcd;congr 1
 ·split <;> omega
 ·split <;> omega
theorem A7g (a:Int) (h:0<=a):((Int.gcd a 0:Nat):Int)=a:=by
 rw [Int.gcd_zero_right]; omega
def sh (t b:Int):Int:=if b < 0 then -((Int.gcd t b:Nat):Int) else ((Int.gcd t b:Nat):Int)
theorem C5q {t b:Int} (h:b≠0):sh t b≠0:=by
 have:Int.gcd t b≠0:=fun e=>h (Int.gcd_eq_zero_iff.mp e).2;unfold sh; split <;> omega
theorem C5r (t b:Int):(sh t b).natAbs=Int.gcd t b:=by
 unfold sh; split <;> omega
theorem A5y (t b:Int):sh t b ∣ t:=by
 unfold sh; split
 ·exact Int.neg_dvd.mpr (Int.gcd_dvd_left ..)
 ·exact Int.gcd_dvd_left ..
theorem B6d (t b:Int):sh t b ∣ b:=by
 unfold sh; split
 ·exact Int.neg_dvd.mpr (Int.gcd_dvd_right ..)
 ·exact Int.gcd_dvd_right ..
theorem B3s {t b:Int} (h:b≠0):t.fdiv (sh t b)=(Rat.divInt t b).num:=by
 rw [Int.fdiv_eq_ediv_of_dvd (A5y t b),Rat.num_divInt,Int.gcd_comm b t];unfold sh;split
 ·rename_i h1;rw [Int.sign_eq_neg_one_of_neg h1,Int.ediv_neg,Int.neg_one_mul,Int.neg_ediv_of_dvd (Int.gcd_dvd_left ..)]
 ·rename_i h1;rw [Int.sign_eq_one_of_pos (by omega),Int.one_mul]
theorem C4b {t b:Int} (h:b≠0):b.fdiv (sh t b)=((Rat.divInt t b).den:Int):=by
 rw [Int.fdiv_eq_ediv_of_dvd (B6d t b),Rat.den_divInt,if_neg h,Int.gcd_comm b t];unfold sh;split
 ·rename_i h1;rw [Int.ediv_neg,Int.natCast_ediv];have e:(b.natAbs:Int)=-b:=by omega
  rw [e,Int.neg_ediv_of_dvd (Int.gcd_dvd_right ..)]
 ·rename_i h1;rw [Int.natCast_ediv];have e:(b.natAbs:Int)=b:=by omega
  rw [e]
theorem C8m (t b:Int):(Rat.divInt t b).num.natAbs<=t.natAbs:=by
 by_cases h:b=0
 ·subst h; simp [Rat.divInt_zero]
 ·rw [<- B3s h,Int.fdiv_eq_ediv_of_dvd (A5y t b)];have:=Int.natAbs_ediv_le_natAbs t (sh t b);exact this
theorem C9o {t b:Int} (h:b≠0):(Rat.divInt t b).den<=b.natAbs:=by
 rw [Rat.den_divInt,if_neg h];exact Nat.div_le_self _ _
def SmQ (k:Nat) (q:Rat):Prop:=Sm k q.num/\Sm k (q.den:Int)
theorem den0 (q:Rat):(q.den:Int)≠0:=by have:=q.den_nz; omega
theorem D0q (p q:Rat):Rat.divInt (p.num * q.den) ((p.den:Int) * q.num)=p / q:=by
 rw [Rat.div_def,Rat.inv_def,<- Rat.divInt_mul_divInt,Rat.num_divInt_den]
def W:List Rat->Nat
 | []=>1
 | q :: r=>q.den * W r
def S:List Rat->Rat
 | []=>0
 | q :: r=>q + S r
end My
namespace My
def SmR (n d:Nat) (q:Rat):Prop:=Sm n q.num/\Sm d (q.den:Int)
theorem SmR.q {n d:Nat} {q:Rat} (h:SmR n d q) (h1:n<=3900) (h2:d<=3900):SmQ 3900 q:=⟨h.1.mono h1,h.2.mono h2⟩
theorem SmR.low {n d:Nat} {t b:Int} (h:Sm n t) (g:Sm d b) (hb:b≠0):SmR n d (Rat.divInt t b) :=
 ⟨h.le (C8m t b),g.le (by simpa using C9o hb)⟩
theorem C8l {q:Rat} (h:q≠0):q.num≠0:=fun e=>h (Rat.num_eq_zero.mp e)
theorem SmR.div {a b c e:Nat} {p q:Rat} (h:SmR a b p) (g:SmR c e q) (hq:q≠0):SmR (a + e) (b + c) (p / q):=by
 rw [<- D0q];exact SmR.low (h.1.mul g.2) (h.2.mul g.1) (Int.mul_ne_zero (den0 p) (C8l hq))
theorem B7p (p q:Rat):decide (p.num * q.den < q.num * p.den)=decide (p < q):=by
 rw [Bool.eq_iff_iff,decide_eq_true_iff,decide_eq_true_iff,Rat.lt_iff]
end My
namespace L2
open PySem PySem.Spec PyProof.Rows
section
variable {X:Cx}
theorem A0q {x:Int} (h:My.Sm 8000 x):Builtin.Int.intBits x<=2 ^ 20:=by
 have e:(2:Nat) ^ 20=1048576:=by decide
 have h2:=h.log (by decide);unfold Builtin.Int.intBits;split <;> omega
def B8k (i j:Int):Prop:=My.Sm 8000 i/\My.Sm 8000 j
def C99 (_ j:Int):Prop:=j≠0/\My.Sm 8000 j
theorem N1:OpR X (binaryOp .Mult) (rI B8k fun i j=>.int (i * j)):=opI fun _ _ _ _ _ _ _ hc q=>mul_int q (.of_bits (A0q hc.1) (A0q hc.2))
theorem J5:OpR X (binaryOp .FloorDiv) (rI C99 fun i j=>.int (i.fdiv j)):=opI fun _ _ _ _ _ _ _ hc q =>
 floordiv_int hc.1 q (.inl (PyProof.noPylong_of_log2 (Nat.lt_of_lt_of_le (hc.2.log (by decide)) (by decide))))
def kitB (T c:String):Option Bool:=if (Value.type T == Value.type c)=true then some true else if PySem.W.kitMeta c=true then (fastBuiltinMro T).map (·.contains (Value.type c)) else none
theorem B7s (K:PySem.W.Frag) {T c:String} {b:Bool} (h:kitB T c=some b):PySem.W.kitOne K (.type T) (.type c)=some b:=h
def TyV (K:PySem.W.Frag) (H:Hp) (x:V) (T:String):Prop:=match x with
 | .non=>T="NoneType"
 | .bl _=>T="bool"
 | .int _=>T="int"
 | .str _=>T="str"
 | .ref a=>(T="list"/\∃ xs,SqL K H a xs)\/(T="tuple"/\∃ xs,SqT K H a xs)\/(T="dict"/\∃ kvs,H a=some (.dK kvs))
 | _=>False
theorem A49:CallR X (.builtin "isinstance") (fun xs H Q=>∃ x c T b,xs=[x,.ty c]/\TyV X.K H x T/\kitB T c=some b/\Q (.bl b) H):=by
 intro pins s σ H xs us Q I r h;obtain ⟨x,c,T,b,rfl,ty,e,q⟩:=h;obtain ⟨u,v,rfl,ru,rv⟩:=Vals.two r;cases (show v=Value.type c from rv);have fin:∀ tk,EP X pins σ Q (.bool b) { s with toks:=tk }:=fun tk=>⟨.bl b,H,I.tok tk,rfl,q⟩;have e':=B7s X.K e;cases x with
 | non=>cases (show T=_ from ty); cases (show u=Value.none from ru); exact PySem.W.kia_one PySem.W.kitx_none I.kIn True.intro e' (fun z=>nomatch z) fin
 | bl y=>cases (show T=_ from ty); cases (show u=Value.bool y from ru); exact PySem.W.kia_one PySem.W.kitx_bool I.kIn True.intro e' (fun z=>nomatch z) fin
 | int i=>cases (show T=_ from ty); obtain ⟨t,q'⟩:=(show ∃ t,u=Value.int i t from ru); cases q'; exact PySem.W.kia_one PySem.W.kitx_int I.kIn True.intro e' (fun z=>nomatch z) fin
 | str y=>cases (show T=_ from ty); obtain ⟨t,q'⟩:=(show ∃ t,u=Value.str y t from ru); cases q'; exact PySem.W.kia_one PySem.W.kitx_str I.kIn True.intro e' (fun z=>nomatch z) fin
 | ref a =>
  cases (show u=Value.ref a from ru);rcases (show _\/_\/_ from ty) with ⟨rfl,xs,h⟩ | ⟨rfl,xs,h⟩ | ⟨rfl,kvs,h⟩
  ·obtain ⟨its,_,⟨o,n,h1,h2,_⟩,_⟩:=I.list h;exact PySem.W.kia_one PySem.W.kitx_list I.kIn ⟨o,h1,h2⟩ e' (fun z=>nomatch z) fin
  ·obtain ⟨its,_,⟨o,h1,h2,_⟩,_⟩:=I.tuple h;exact PySem.W.kia_one PySem.W.kitx_tuple I.kIn ⟨o,h1,h2⟩ e' (fun z=>nomatch z) fin
  ·obtain ⟨_,_,vs,_,p⟩:=(show ObjOk X.prog X.w H s.heap a (.dK kvs) from I.hok a _ h);obtain ⟨o,es,ep,h1,h2,_⟩:=p;exact PySem.W.kia_one PySem.W.kitx_dict I.kIn ⟨o,h1,h2.1⟩ e' (fun z=>nomatch z) fin
 | byt _=>exact (show False from ty).elim
 | flt _=>exact (show False from ty).elim
 | ty _=>exact (show False from ty).elim
end
def encV:V->PyData
 | .int i=>.int i
 | .str x=>.str x
 | _=>.none
def encK:Key->PyData
 | .inl i=>.int i
 | .inr x=>.str x
def C4n (p:Key × V):PyData × PyData:=(encK p.1,encV p.2)
def NSI (xs:List V):Prop:=∀ c i,xs≠[V.str c,V.int i]
def SqD (K:PySem.W.Frag) (H:Hp) (a:Addr) (xs:List V):Prop:=SqT K H a xs/\(H a=some (.tup xs)\/NSI xs)
theorem SqD.of {K:PySem.W.Frag} {H:Hp} {a:Addr} {xs:List V} (h:H a=some (.tup xs)):SqD K H a xs:=⟨SqT.of h,.inl h⟩
mutual
inductive Den (K:PySem.W.Frag) (H:Hp):V->PyData->Prop
 | non:Den K H .non .none
 | bl (b:Bool):Den K H (.bl b) (.bool b)
 | int (i:Int):Den K H (.int i) (.int i)
 | str (x:Str):Den K H (.str x) (.str x)
 | lst {a:Addr} {xs:List V} {ds:LP}:SqL K H a xs->DenAll K H xs ds->Den K H (.ref a) (.list ds)
 | tup {a:Addr} {xs:List V} {ds:LP}:SqD K H a xs->DenAll K H xs ds->Den K H (.ref a) (.tuple ds)
 | dct {a:Addr} {kvs:List (Key × V)}:H a=some (.dK kvs)->Den K H (.ref a) (.dict (kvs.map C4n))
inductive DenAll (K:PySem.W.Frag) (H:Hp):List V->LP->Prop
 | nil:DenAll K H [] []
 | cons {x:V} {xs:List V} {d:PyData} {ds:LP}:Den K H x d->DenAll K H xs ds->DenAll K H (x :: xs) (d :: ds)
end
section
variable {X:Cx} {pins:List (Addr × Obj)} {σ:St} {H:Hp} {s:Shared}
mutual
theorem Den.reads (I:Inv X pins σ H s):∀ {x:V} {d:PyData} {u:Value},Den X.K H x d->RelV x u->d.canLay0=true->∃ as,Reads s.heap u d as
 | _,_,u,.non,r,_=>by cases (show u=Value.none from r); exact ⟨_,.none⟩
 | _,_,u,.bl b,r,_=>by cases (show u=Value.bool b from r); exact ⟨_,.bool b⟩
 | _,_,u,.int i,r,_=>by obtain ⟨t,q⟩:=(show ∃ t,u=Value.int i t from r); cases q; exact ⟨_,.int i t⟩
 | _,_,u,.str x,r,_=>by obtain ⟨t,q⟩:=(show ∃ t,u=Value.str x t from r); cases q; exact ⟨_,.str x t⟩
 | _,_,u,.lst (a:=a) h ds,r,cl=>by
  cases (show u=Value.ref a from r);obtain ⟨its,rv,⟨o,n,h1,h2,_,h3⟩,_⟩:=I.list h;obtain ⟨as,q⟩:=DenAll.reads I ds rv cl;exact ⟨_,.list h1 h2 h3 (by simpa using q)⟩
 | _,_,u,.tup (a:=a) h ds,r,cl=>by
  cases (show u=Value.ref a from r);obtain ⟨its,rv,⟨o,h1,h2,n,h3⟩,_⟩:=I.tuple h.1;obtain ⟨as,q⟩:=DenAll.reads I ds rv cl;exact ⟨_,.tuple h1 h2 h3 (by simpa using q)⟩
 | _,_,_,.dct _,_,cl=>absurd (show false=true from cl) Bool.false_ne_true
theorem DenAll.reads (I:Inv X pins σ H s):∀ {xs:List V} {ds:LP} {us:List Value},DenAll X.K H xs ds->Vals xs us->PyData.canLayAll0 ds=true->∃ as,ReadsAll s.heap us ds as
 | _,_,_,.nil,.nil,_=>⟨_,.nil⟩
 | _,d :: ds,_,.cons h t,.cons r rs,cl=>by
  have cl':(d.canLay0 && PyData.canLayAll0 ds)=true:=cl;rw [Bool.and_eq_true] at cl';obtain ⟨as,q⟩:=Den.reads I h r cl'.1;obtain ⟨bs,q'⟩:=DenAll.reads I t rs cl'.2;exact ⟨_,.cons q q'⟩
end
end
section
variable {X:Cx}
def rEqD (K:PySem.W.Frag):R2:=fun x y H Q=>∃ dx dy,Den K H x dx/\Den K H y dy/\dx.canLay0=true/\dy.canLay0=true/\dx.depth<=60/\Q (.bl (PyData.eqv dx dy)) H
def rNeD (K:PySem.W.Frag):R2:=fun x y H Q=>∃ dx dy,Den K H x dx/\Den K H y dy/\dx.canLay0=true/\dy.canLay0=true/\dx.depth<=60/\Q (.bl (!PyData.eqv dx dy)) H
theorem C76 (hu:X.A.units + 64 < cLine):OpR X (compareOp .Eq) (rEqD X.K):=by
 intro pins s σ H x y v u Q I rx ry h;obtain ⟨dx,dy,h1,h2,c1,c2,hd,q⟩:=h;obtain ⟨as,r1⟩:=h1.reads I rx c1;obtain ⟨bs,r2⟩:=h2.reads I ry c2;exact PySem.SeqAt.compareEq_reads r1 r2 c1 c2 (by omega) ⟨.bl _,H,I,rfl,q⟩
theorem C71 (hu:X.A.units + 64 < cLine):OpR X (compareOp .NotEq) (rNeD X.K):=by
 intro pins s σ H x y v u Q I rx ry h;obtain ⟨dx,dy,h1,h2,c1,c2,hd,q⟩:=h;obtain ⟨as,r1⟩:=h1.reads I rx c1;obtain ⟨bs,r2⟩:=h2.reads I ry c2;exact PySem.SeqAt.compareNe_reads r1 r2 c1 c2 (by omega) ⟨.bl _,H,I,rfl,q⟩
def tRev (K:PySem.W.Frag) (te ts:TE):TE:=fun σ H Q=>te σ H fun x H1=>ts σ H1 fun k H2=>k=.int (-1)/\∃ a xs,x=.ref a/\SqL K H2 a xs/\∀ p,H2 p=none->Q (.ref p) (upd H2 p (.lst xs.reverse))
theorem C6t {e st:Expr} {te ts:TE} {pos p2:Pos} (he:PE X e te) (hst:PE X st ts)
  (hsub:∀ (a sz:Addr),∃ ops,subscripted (.Slice none none (some st) p2) false (.ref a) (.ref sz)=operate ops (getItem (.ref a) (.ref sz)):=by intro a sz; exact ⟨_,by with_unfolding_all rfl⟩):PE X (.Subscript e (.Slice none none (some st) p2) pos) (tRev X.K te ts):=by
 intro pins s σ H Q I h;refine Subscript_ (thn (he pins s σ H _ I h) fun v s1 ⟨x,H1,I1,r1,q1⟩=>?_);refine wpAny_Slice ?_;rw [evalPart_none,evalPart_some];refine wpAny_pure (wpAny_pure ?_);refine thn (hst pins s1 σ H1 _ I1 q1) fun vk s3 ⟨k,H3,I3,rk,ek,a,xs,ex,hx,q⟩=>?_;subst ek;subst ex;obtain ⟨t,rfl⟩:=rk;cases r1;have I4:Inv X pins σ H3 { s3 with heap:=s3.heap.push { cls:=.type "slice",data:=.fields #[.none,.none,.int (-1) t] } }:=I3.kept (t':=s3.toks) fun b ob q=>Heap.get?_push_of_some _ q;obtain ⟨its,r,ht,hz⟩:=I4.list hx;have hlen:=r.length;obtain ⟨ops,hops⟩:=hsub a s3.heap.objs.size;refine tail_any (ops:=ops) ht.isList.typeIs slot_list_getitem.lookup ?_ hops;refine wpAny_getItem_list_slice ht.isList (Heap.IsSliceOf.new ..) .none .none (.int (-1) t) (by decide) ?_ (by rw [List.size_toArray] <;> omega)
 rw [PySem.W.krv_pick];refine ⟨.ref _,_,I4.laid (t':=s3.toks) (o:=.lst xs.reverse) (fun b ob q=>Heap.get?_push_of_some _ q) (Zv _) ?_,rfl,q _ (I4.hok.fresh (Zv _))⟩;exact ⟨by rw [List.length_reverse]; exact hz,its.reverse,0,r.reverse,Heap.get?_push_size _ rfl⟩
end
def Kp (p:Addr) (H H':Hp):Prop:=∀ b o,b≠p->H b=some o->H' b=some o
theorem Kp.upd {p:Addr} {H:Hp} {o:HO}:Kp p H (upd H p o):=fun b u n e=>by rw [B4 n]; exact e
theorem Kp.trans {p:Addr} {H H1 H2:Hp} (a:Kp p H H1) (b:Kp p H1 H2):Kp p H H2:=fun c o n e=>b c o n (a c o n e)
theorem Kp.refl {p:Addr} {H:Hp}:Kp p H H:=fun _ _ _ e=>e
theorem Same.kp {p:Addr} {H H':Hp} (a:Same H H'):Kp p H H':=fun b o _ e=>a b o e
theorem Same.upd {p:Addr} {H:Hp} {o:HO} (h:H p=none):Same H (upd H p o):=fun b u e=>by rw [B4 (C7 e h)]; exact e
theorem SqT.same {K:PySem.W.Frag} {H H':Hp} {a:Addr} {xs:List V} (e:Same H H') (h:SqT K H a xs):SqT K H' a xs:=by
 rcases h with (h | ⟨o,h⟩) | h
 ·exact .inl (.inl (e _ _ h))
 ·exact .inl (.inr ⟨o,e _ _ h⟩)
 ·exact .inr h
theorem at0 {α:Type} {x:α} {xs:List α}:atI (x :: xs) 0=some x:=K2 (j:=0) rfl
theorem at1 {α:Type} {x y:α} {xs:List α}:atI (x :: y :: xs) 1=some y:=K2 (j:=1) rfl
theorem at2 {α:Type} {x y z:α} {xs:List α}:atI (x :: y :: z :: xs) 2=some z:=K2 (j:=2) rfl
theorem at3 {α:Type} {x y z w:α} {xs:List α}:atI (x :: y :: z :: w :: xs) 3=some w:=K2 (j:=3) rfl
end L2
namespace L2
open PySem PySem.Spec PyProof.Rows
theorem A3q {prog:Program} {w:World} {A:Around} {R:Result->Shared->Prop} {s:Shared} {elt target iter:Expr} {ifs:List Expr} {scope:Scope} {pos:Pos} {it acc:Value} {env:Env} (I:Nat->Shared->Prop)
    (turn:∀ n s,I n s->wpAny (model prog w) A (pyNext it) (fun r s₁=>match r with
      | none=>R (.ok .next) s₁
      | some v=>wpAny (model prog w) A (letOwnedTupleGo target it v) (fun _ s₁'=>wpAny (model prog w) A (assign target env v) (fun _ s₂ =>
          wpAny (model prog w) A (forIn ifs true fun c r=>if r=true then do let ok <- isTrue c env (eval c env); pure (ForInStep.yield ok) else pure (ForInStep.yield r)) (fun ok s₃ =>
            if ok=true then wpAny (model prog w) A (eval elt env) (fun x s₄ =>
              wpAny (model prog w) A (call (.builtin "list.append") [acc,x]) (fun _ s₅=>∃ m,m < n/\I m s₅) (fun _ _=>False) s₄) (fun _ _=>False) s₃
            else ∃ m,m < n/\I m s₃) (fun _ _=>False) s₂) (fun _ _=>False) s₁') (fun _ _=>False) s₁) (fun _ _=>False) s)
    (n:Nat) (h:I n s):codeAny (model prog w) A (.compLoop (.ListComp elt [⟨target,iter,ifs,0⟩] scope pos) 0 it acc env) R s:=by
  refine codeAny_loop rfl I (fun n s hI=>?_) n h;show wpAny _ A ((compTurn (.ListComp elt [⟨target,iter,ifs,0⟩] scope pos) 0 it acc env).onRaise (fun x=>do noteFrame x env; theTreesLotGoes x)) _ _ s;refine wpAny_noted ?_;rw [compTurn_list];refine wpAny_bind (wpAny_standAt (wpAny_bind (wpAny_mono (turn n s hI) (fun r s₁ h₁=>?_) fun _ _ h'=>h'.elim)));cases r with
  | none=>exact wpAny_pure h₁
  | some v =>
    refine wpAny_bind (wpAny_mono h₁ (fun _ s₁' h₁'=>?_) fun _ _ h'=>h'.elim);refine wpAny_bind (wpAny_mono h₁' (fun _ s₂ h₂=>wpAny_bind (wpAny_mono h₂ (fun ok s₃ h₃=>?_) fun _ _ h'=>h'.elim)) fun _ _ h'=>h'.elim);cases ok with
    | false=>exact wpAny_pure ⟨rfl,h₃⟩
    | true =>
      exact wpAny_bind (wpAny_bind (wpAny_mono h₃ (fun x s₄ h₄=>wpAny_bind (wpAny_mono h₄ (fun _ s₅ h₅=>wpAny_pure (wpAny_pure ⟨rfl,h₅⟩)) fun _ _ h'=>h'.elim)) fun _ _ h'=>h'.elim))
def PTs (X:Cx) (ifs:List Expr) (t:TT):Prop :=
 ∀ (pins:List (Addr × Obj)) (s:Shared) (σ:St) (H:Hp) (Q:Bool->Hp->Prop),Inv X pins σ H s->t σ H Q ->
  wpAny (model X.prog X.w) X.A (forIn ifs true fun c r=>if r=true then do let ok <- isTrue c X.env (eval c X.env); pure (ForInStep.yield ok) else pure (ForInStep.yield r)) (TP X pins σ Q) X.xe s
def tYes:TT:=fun _ H Q=>Q true H
theorem C2z {X:Cx}:PTs X [] tYes:=fun pins s σ H Q I h=>wpAny_tests_nil ⟨H,I,h⟩
def Cx.block (X:Cx) (scope:Scope) (cl:List (Str × Addr)) (N':List Str) (s2:Shared) (H2:Hp) (fp:List Addr):Cx where
 prog:=X.prog
 w:=X.w
 K:=X.K
 mg:=X.mg
 base:=X.base
 A:=X.A
 N:=N'
 s₀:=s2
 H₀:=H2
 env:=compEnvC scope cl s2.heap.objs.size X.env
 outer:=X.stack
 stack:=X.stack
 ex:=fp
 fn:=fun _=>false
 calm:=X.calm
 pn:=[]
 xe:=fun _ _=>False
structure CompSc (X:Cx) (scope:Scope) (cl:List (Str × Addr)) (N':List Str) (cap:List (Option Nat)):Prop where
 clos:closureFor scope X.env=pure cl
 sub:∀ x c,cl.lookup x=some c->X.env.cells.lookup x=some c
 has:∀ x,((relabel scope X.env).names.lookup x=some .cell\/(relabel scope X.env).names.lookup x=some .free)->∃ c,cl.lookup x=some c
 kind:scope.kind=.function
 cell:∀ y ∈ scope.names,y.2≠.cell
 names:∀ y ∈ scope.names,y.2=.local->scope.names.lookup y.1=some .local
 nd:N'.Nodup
 len:cap.length=N'.length
 noloc:∀ x c,cl.lookup x=some c->X.env.kindOf x≠some .local
 capt:∀ (i:Nat) (x:Str) (j:Nat),N'[i]?=some x->cap[i]?=some (some j)->X.N[j]?=some x/\((relabel scope X.env).names.lookup x=some .cell\/(relabel scope X.env).names.lookup x=some .free)/\Vis X.env.scope x/\∃ c,cl.lookup x=some c
def capσ (cap:List (Option Nat)) (σ:St):St:=cap.map fun o=>o.bind fun j=>(σ[j]?).join
section
variable {X:Cx} {pins:List (Addr × Obj)} {σ:St} {H:Hp} {s:Shared} {scope:Scope} {cl:List (Str × Addr)} {N':List Str} {cap:List (Option Nat)} {fp:List Addr}
theorem B8a (I:Inv X pins σ H s) (C:CompSc X scope cl N' cap) (hf:∀ b ∈ fp,FpOk X pins H b) (ho:∀ b ∈ fp,∃ o,s.heap.get? b=some o):(X.block scope cl N' s H fp).Ok where
 mod:=I.ok.mod
 kind:=C.kind
 glob:=I.ok.glob
 blt:=I.ok.blt
 above:=Zv _
 inj:=fun x y c h1 h2=>I.ok.inj x y c (C.sub x c h1) (C.sub y c h2)
 has:=fun x h=>C.has x h
 cab:=fun x c h _=>absurd (show false=true from h) Bool.false_ne_true
 hd:=I.ok.hd
 frames:=I.ok.frames
 stk:=.inl rfl
 exf:=fun b hb=>⟨fun z=>by
  obtain ⟨o,e⟩:=ho b hb;exact absurd (Heap.lt_size e) (by rw [z]; exact Nat.lt_irrefl _),fun x c h=>(hf b hb).2.2.2.2.1 x c (C.sub x c h)⟩
 bs:=I.bs
 bsz:=Zx I.ok.bsz I.sz
 noex:=fun b o e hb=>by
  rcases (hf b hb).2.2.2.1 with z | z
  ·exact I.ok.noex b o e z
  ·exact absurd (Nat.lt_of_lt_of_le (Heap.lt_size e) (Zx I.ok.bsz z)) (Nat.lt_irrefl _)
 exfs:=fun b hb z=>by
  rcases List.mem_cons.mp (I.stkSub b z) with e | e
  ·exact (hf b hb).2.1 e
  ·exact (hf b hb).2.2.1 e
 funs:=I.stack
 frf:=I.stkFree
theorem B5q {h1:Heap} {tk:Nat} {m:Str->Option Value} (I:Inv X pins σ H s) (C:CompSc X scope cl N' cap) (hf:∀ b ∈ fp,FpOk X pins H b) (ho:∀ b ∈ fp,∃ o,s.heap.get? b=some o)
  (hn:h1.Ns s.heap.objs.size m) (hk:∀ b o,s.heap.get? b=some o->h1.get? b=some o):Inv (X.block scope cl N' s H fp) [] (capσ cap σ) H { s with heap:=h1,toks:=tk } where
 ok:=B8a I C hf ho
 os:=rfl
 bare:=I.bare
 base:=Un.kept hk
 loc:=⟨m,hn,fun i x v h1' h2 h3=>by
  unfold capσ at h2;rw [Zh] at h2;cases e:cap[i]? with
  | none=>rw [e] at h2; cases h2
  | some o =>
   rw [e] at h2;cases o with
   | none=>cases h2
   | some j =>
    obtain ⟨q1,q2,q3,c,q4⟩:=C.capt i x j h1' e;have hv:(σ[j]?).join=some v:=Zj h2;have hσ:σ[j]?=some (some v):=by
     cases z:σ[j]? with
     | none=>rw [z] at hv; cases hv
     | some y=>rw [z] at hv; cases (show y=some v from hv); rfl
    obtain ⟨m0,hn0,hl0⟩:=I.loc;obtain ⟨u,r,l⟩:=hl0 j x v q1 hσ q3;refine ⟨u,r,.inr ⟨q2,c,q4,?_⟩⟩;rcases l with ⟨l1,_⟩ | ⟨_,c',l2,l3⟩
    ·exact absurd l1 (C.noloc x c q4)
    ·have:=C.sub x c q4;rw [l2] at this;cases this;exact l3.keeps hk⟩
 cell:=fun x c h=>by
  obtain ⟨v,z⟩:=I.cell x c (C.sub x c h);exact ⟨v,z.keeps hk⟩
 free:=I.hok.fresh (Zv _)
 freeC:=fun x c h=>I.freeC x c (C.sub x c h)
 pin:=fun p hp=>absurd (show p ∈ ([]:List (Addr × Obj)) from hp) (by simp)
 hok:=I.hok.kept hk
 len:=by unfold capσ; rw [Zl]; exact C.len
theorem B5p {H':Hp} {s':Shared} {h':Heap} {σ':St} {pl:List (Addr × Obj)} (I:Inv X pins σ H s) (J:Inv (X.block scope cl N' s H fp) pl σ' H' s') (hf:∀ b ∈ fp,FpOk X pins H b) (hs:Heap.SameBut s.heap.objs.size s'.heap h') :
  Inv X pins σ H' { s' with heap:=h' }:=by
 have ne:∀ b o,s.heap.get? b=some o->b≠s.heap.objs.size:=fun b o e=>Nat.ne_of_lt (Heap.lt_size e);have B:Un (frs X.stack) fp H H' s.heap s'.heap:=J.base;refine I.call' (s':={ s' with heap:=h' }) (ch:=fp) J.os ⟨fun b o e n h1 h2=>?_,fun b o e n h1 h2=>?_,B.free,fun b o e h2=>?_,B.tups,B.frzs,B.tbls⟩ ?_ J.bare (fun b hb=>?_)
 ·show h'.get? b=some o;rw [hs.2 b (ne b o e)]; exact B.keep b o e n h1 h2
 ·show ∃ sl,h'.get? b=_;rw [hs.2 b (ne b o e)]; exact B.slot b o e n h1 h2
 ·show ∃ o',h'.get? b=_;rw [hs.2 b (ne b o e)]; exact B.there b o e h2
 ·intro b u e;have hfree:H' s.heap.objs.size=none:=J.free;have nC:∀ c v,H' c=some v->c≠s.heap.objs.size:=fun c v q z=>by rw [z,hfree] at q; cases q
  refine (J.hok b u e).stay (fun c v hc q=>?_) (fun _ q=>q) fun _ _ q=>q;show h'.get? c=some v;have:c≠s.heap.objs.size:=by
   rcases hc with z | z
   ·rw [z]; exact nC b u e
   ·exact nC c _ z
  rw [hs.2 c this]; exact q
 ·obtain ⟨f0,f1,f2,f3,f4,f5⟩:=hf b hb;exact ⟨f3,f1,f4,f5⟩
end
def A3r (J:It) (g:TG) (tt:TT) (te:TE) (D:Addr) (Fin:Hp->Prop) (σ0:St) (H1:Hp):Prop :=
 ∃ W:Nat->Nat->St->Hp->List V->Prop,(∃ m,W 0 m σ0 (upd H1 D (.lst [])) [])/\∀ i m σ' H' ys,W i m σ' H' ys->H' D=some (.lst ys)/\ys.length < sizeLine /\
  ((J.stop i H'/\Fin H')\/(J.go i H'/\∀ x H2,J.yld i H' x H2->g x σ' H2 fun σ2 H3=>tt σ2 H3 fun b H4=>if b=true then
   te σ2 H4 fun y H5=>∃ zs,H5 D=some (.lst zs)/\zs.length < sizeLine/\∃ m',m' < m/\W (i + 1) m' σ2 (upd H5 D (.lst (zs++[y]))) (zs++[y])
   else ∃ m',m' < m/\W (i + 1) m' σ2 H4 ys))
def C16 (wi:TI) (g:TG) (tt:TT) (te:TE) (cap:List (Option Nat)):TE:=fun σ H Q=>wi σ H fun J H1=>∀ D,H1 D=none->A3r J g tt te D (fun H'=>Q (.ref D) H') (capσ cap σ) H1
section
variable {X:Cx} {scope:Scope} {cl:List (Str × Addr)} {N':List Str} {cap:List (Option Nat)} {elt tg iter:Expr} {ifs:List Expr} {wi:TI} {g:TG} {tt:TT} {te:TE} {pos:Pos}
theorem A3z {pins:List (Addr × Obj)} {σ:St} {H2:Hp} {s2:Shared} {it:Addr} {fp:List Addr} {tn:Nat->Heap->Prop} {J:It} {E:Value->Shared->Prop} {RR:Value->Addr->Result->Shared->Prop} {Fin:Addr->Hp->Prop}
  (hc:X.calm=true) (C:CompSc X scope cl N' cap) (I2:Inv X pins σ H2 s2) (T:Turn X.prog X.w X.K tg J fp it tn) (st2:tn 0 s2.heap) (f2:∀ b ∈ fp,FpOk X pins H2 b)
  (hg:∀ s3 H3 fp,PG (X.block scope cl N' s3 H3 fp) tg g) (ht:∀ s3 H3 fp,PTs (X.block scope cl N' s3 H3 fp) ifs tt) (he:∀ s3 H3 fp,PE (X.block scope cl N' s3 H3 fp) elt te)
  (go:∀ D,H2 D=none->A3r J g tt te D (Fin D) (capσ cap σ) H2)
  (out:∀ (D C:Addr) (s':Shared) (m:Str->Option Value) (H':Hp),s'.heap.Ns C m->C≠X.env.locals->H' C=none->X.s₀.heap.objs.size<=C->(∀ x c,X.env.cells.lookup x=some c->c≠C)->(∀ p ∈ X.pn++pins,p.1≠C)->Fin D H'->Inv X pins σ H' s'->RR (.ref D) C (.ok .next) s') :
  wpAny (model X.prog X.w) X.A (newList []) (fun acc s₃=>wpAny (model X.prog X.w) X.A (newFunctionEnv scope X.env.globals cl [] X.env.qual none .none (some X.env)) (fun cenv s₄ =>
   codeAny (model X.prog X.w) X.A (.compStart (.ListComp elt [⟨tg,iter,ifs,0⟩] scope pos) 0 (.ref it) acc { cenv with scope:=relabel scope X.env }) (RR acc cenv.locals) s₄) E s₃) E s2:=by
 refine wpAny_newObj_type (wpAny_newFunctionEnv C.cell (by intro y hy; simp at hy) (fun h₁ hns₁ hsb₁=>?_) C.kind);have hD:H2 s2.heap.objs.size=none:=I2.hok.fresh (Zv _);obtain ⟨W,⟨m0,w0⟩,turn⟩:=go _ hD;have I3:Inv X pins σ (upd H2 s2.heap.objs.size (.lst [])) { s2 with heap:=s2.heap.push { cls:=.type "list",dict:=none,data:=.seq ([]:List Value).toArray } } :=
  I2.laid (t':=s2.toks) (o:=.lst []) (fun b u e=>Heap.get?_push_of_some _ e) (Zv _) ⟨Nat.zero_le _,[],0,.nil,Heap.get?_push_size _ rfl⟩
 have f3:∀ b ∈ fp,FpOk X pins (upd H2 s2.heap.objs.size (.lst [])) b:=fun b hb=>by
  obtain ⟨f0,fr⟩:=f2 b hb;obtain ⟨o,e,_⟩:=T.obj _ _ st2 b hb;exact ⟨by rw [B4 (Nat.ne_of_lt (Heap.lt_size e))]; exact f0,fr⟩
 generalize hs3:({ s2 with heap:=s2.heap.push { cls:=.type "list",dict:=none,data:=.seq ([]:List Value).toArray } }:Shared)=s3 at hns₁ hsb₁ I3 ⊢;have o3:∀ b o,s2.heap.get? b=some o->s3.heap.get? b=some o:=fun b o e=>by rw [<- hs3]; exact Heap.get?_push_of_some _ e
 have hk:∀ b o,s3.heap.get? b=some o->h₁.get? b=some o:=fun b o e=>by
  rw [hsb₁.2 b (Nat.ne_of_lt (Heap.lt_size e))]; exact Heap.get?_push_of_some _ e
 have st3:tn 0 s3.heap:=T.keep _ _ _ st2 fun b _ o e=>o3 b o e;have ho:∀ b ∈ fp,∃ o,s3.heap.get? b=some o:=fun b hb=>let ⟨o,e,_⟩:=T.obj _ _ st3 b hb; ⟨o,e⟩;have I4:=B5q (tk:=s3.toks + ([]:List (Str × Value)).length) I3 C f3 ho hns₁ hk;have st4:tn 0 h₁:=T.keep _ _ _ st3 fun b _ o e=>hk b o e;have hX:∀ {H':Hp} {pl:List (Addr × Obj)},(∀ b ∈ fp,H' b=none)->(∀ p ∈ pl,p.1 ∉ fp)->∀ b ∈ fp,FpOk (X.block scope cl N' s3 (upd H2 s2.heap.objs.size (.lst [])) fp) pl H' b:=fun {H' pl} hn hp b hb=>by
  refine ⟨hn b hb,I4.ok.exf b hb |>.1,I4.ok.exfs b hb,.inl hb,(I4.ok.exf b hb).2,fun p hp' z=>?_⟩;have hp'':p ∈ pl:=by simpa [Cx.block] using hp'
  exact hp p hp'' (by rw [z]; exact hb)
 have fr3:∀ b ∈ fp,(upd H2 s2.heap.objs.size (.lst [])) b=none:=fun b hb=>(f3 b hb).1;have loop:∀ s₅:Shared,s₅={ s3 with heap:=h₁,toks:=s3.toks + ([]:List (Str × Value)).length } ->
   codeAny (model X.prog X.w) X.A (.compLoop (.ListComp elt [⟨tg,iter,ifs,0⟩] scope pos) 0 (.ref it) (.ref s2.heap.objs.size) (compEnvC scope cl s3.heap.objs.size X.env)) (RR (.ref s2.heap.objs.size) s3.heap.objs.size) s₅:=by
  rintro s₅ rfl;refine A3q (fun n s'=>∃ i σ' H' ys,Inv (X.block scope cl N' s3 (upd H2 s2.heap.objs.size (.lst [])) fp) [] σ' H' s'/\tn i s'.heap/\(∀ b ∈ fp,H' b=none)/\W i n σ' H' ys) ?_ m0 ⟨0,_,_,[],I4,st4,fr3,w0⟩;rintro n s6 ⟨i,σ6,H6,ys,I6,st6,fr6,w6⟩;obtain ⟨hl6,hz6,hgo⟩:=turn i n σ6 H6 ys w6;rcases hgo with ⟨stop,fin⟩ | ⟨go',step⟩
  ·refine wpAny_mono (T.done (X.block scope cl N' s3 (upd H2 s2.heap.objs.size (.lst [])) fp) rfl rfl rfl hc i [] s6 σ6 H6 (fun _ _=>False) I6 (hX fr6 (fun _ z=>nomatch z)) st6 stop) (fun r s7 ⟨hr,I7⟩=>?_) fun _ _ z=>z.elim;subst hr;obtain ⟨m7,hn7,_⟩:=id I7.loc;refine out _ _ s7 m7 H6 hn7 (Nat.ne_of_gt I3.lt) I7.free I3.sz (fun x c e z=>?_) (fun p hp z=>?_) fin (B5p I3 I7 f3 (.refl ..))
   ·obtain ⟨v,q⟩:=I3.cell x c e;exact absurd q.lt (by rw [z]; exact Nat.lt_irrefl _)
   ·exact absurd (Heap.lt_size (I3.pin p hp).1) (by rw [z]; exact Nat.lt_irrefl _)
  ·refine wpAny_mono (T.item (X.block scope cl N' s3 (upd H2 s2.heap.objs.size (.lst [])) fp) rfl rfl rfl hc i [] s6 σ6 H6 (fun _ _=>False) I6 (hX fr6 (fun _ z=>nomatch z)) st6 go') (fun r s7 ⟨u,hr,h7⟩=>?_) fun _ _ z=>z.elim;subst hr;refine wpAny_mono h7 (fun _ s8 ⟨x,H8,I8,r8,y8,st8,fr8⟩=>?_) fun _ _ z=>z.elim;have I8':=I8.pinned (hX fr8 (fun _ z=>nomatch z)) (T.obj _ _ st8);have again:∀ {s9:Shared} {σ9:St} {H9:Hp},Inv (X.block scope cl N' s3 (upd H2 s2.heap.objs.size (.lst [])) fp) ([]++A2n fp s8.heap) σ9 H9 s9->∀ {zs:List V},(∃ m',m' < n/\W (i + 1) m' σ9 H9 zs) ->
     ∃ m,m < n/\∃ i σ' H' ys,Inv (X.block scope cl N' s3 (upd H2 s2.heap.objs.size (.lst [])) fp) [] σ' H' s9/\tn i s9.heap/\(∀ b ∈ fp,H' b=none)/\W i m σ' H' ys:=fun {s9 σ9 H9} I9 {zs} ⟨m',hm,w9⟩=>by
    refine ⟨m',hm,i + 1,σ9,H9,zs,I9.unpinned,T.keep _ _ _ st8 fun b hb o e=>(I9.pin (b,o) (Zw _ (Zw _ (Q1 hb e)))).1,fun b hb=>?_,w9⟩;obtain ⟨o,e,d⟩:=T.obj _ _ st8 b hb;exact (I9.pin (b,o) (Zw _ (Zw _ (Q1 hb e)))).2.1
   refine wpAny_mono (hg _ _ _ _ s8 σ6 H8 x u _ I8' r8 (step x H8 y8)) (fun _ s9 ⟨σ9,H9,I9,q9⟩=>?_) fun _ _ z=>z.elim;refine wpAny_mono (ht _ _ _ _ s9 σ9 H9 _ I9 q9) (fun ok s10 ⟨H10,I10,q10⟩=>?_) fun _ _ z=>z.elim;cases ok with
   | false=>exact again I10 q10
   | true =>
    rw [if_pos rfl];refine wpAny_mono (he _ _ _ _ s10 σ9 H10 _ I10 q10) (fun yv s11 ⟨y,H11,I11,r11,zs,hz,hlen,q11⟩=>?_) fun _ _ z=>z.elim;refine wpAny_mono (F1 (X:=X.block scope cl N' s3 (upd H2 s2.heap.objs.size (.lst [])) fp) _ s11 σ9 H11 (.ref s2.heap.objs.size) [y] (.ref s2.heap.objs.size) [yv] (fun _ H'=>∃ m',m' < n/\W (i + 1) m' σ9 H' (zs++[y])) I11 rfl (.cons r11 .nil) ⟨_,zs,y,rfl,rfl,hz,hlen,q11⟩) (fun _ s12 ⟨_,H12,I12,_,q12⟩=>?_) fun _ _ z=>z.elim;exact again I12 q12
 exact codeAny_compStart_list (loop _ rfl) (T.self _ 0 _ _ _ st4 (loop _ rfl))
theorem C3h (hc:X.calm=true) (C:CompSc X scope cl N' cap) (hi:PI X tg iter wi) (hg:∀ s3 H3 fp,PG (X.block scope cl N' s3 H3 fp) tg g) (ht:∀ s3 H3 fp,PTs (X.block scope cl N' s3 H3 fp) ifs tt)
  (he:∀ s3 H3 fp,PE (X.block scope cl N' s3 H3 fp) elt te) (hs:∀ x,foldedSetIterable iter X.env x=pure x:=by intro _; rfl):PE X (.ListComp elt [⟨tg,iter,ifs,0⟩] scope pos) (C16 wi g tt te cap):=by
 intro pins s σ H Q I h;rw [eval_ListComp];refine wpAny_comprehension_free (use:=none) rfl hs C.clos C.kind C.names (thn (hi pins s σ H _ I h) fun v s1 h1=>thn h1 fun itv s2 h2=>?_);obtain ⟨it,fp,tn,J,H2,e,I2,T,st2,f2,go⟩:=h2;subst e;refine A3z (RR:=fun acc C=>compPost (model X.prog X.w) X.A X.xe none (EP X pins σ Q) acc C) (Fin:=fun D H'=>Q (.ref D) H') hc C I2 T st2 f2 hg ht he go ?_;intro D C' s' m H' hn n1 n2 n3 n4 n5 fin inv;exact ⟨m,hn,fun h' hs'=>⟨.ref D,H',inv.turned (t':=s'.toks) (fun b o hb e=>(hs'.2 b hb).trans e) n2 n1 (.inr n3) n4 n5,rfl,fin⟩⟩
end
end L2
namespace L2
open PySem PySem.Spec PyProof.Rows
def A3t (env:Env):List (Str × NameKind)->List (Str × Addr)->List (Str × Addr)
 | [],acc=>acc
 | (n,k) :: r,acc=>A3t env r (if (k == .free)=true then (n,(env.cells.lookup n).getD 0) :: acc else acc)
theorem A1r {env:Env}:∀ (l:List (Str × NameKind)) (acc:List (Str × Addr)),(∀ p ∈ l,p.2=.free->(env.cells.lookup p.1).isSome=true) ->
  (forIn l acc (fun x s=>match x with
   | (name,kind)=>if (kind == NameKind.free)=true then do
     let a <- cellOf env name
     pure (ForInStep.yield ((name,a) :: s))
    else pure (ForInStep.yield s)):Sem (List (Str × Addr)))=pure (A3t env l acc)
 | [],acc,_=>rfl
 | (n,k) :: r,acc,h=>by
  rw [List.forIn_cons];have hr:=fun p hp=>h p (Zr _ hp);by_cases hk:(k == NameKind.free)=true
  ·have h1:=h (n,k) Zy (by simpa using hk);obtain ⟨c,hc⟩:=Option.isSome_iff_exists.mp h1;have hc:env.cells.lookup n=some c:=hc;have e1:cellOf env n=pure c:=by unfold cellOf; rw [hc]
   simp only [hk,if_true,e1,pure_bind];rw [A1r r _ hr];show _=pure (A3t env r (if (k == .free)=true then (n,(env.cells.lookup n).getD 0) :: acc else acc));rw [if_pos hk,hc];rfl
  ·simp only [hk,Bool.false_eq_true,if_false,pure_bind];rw [A1r r _ hr];show _=pure (A3t env r (if (k == .free)=true then (n,(env.cells.lookup n).getD 0) :: acc else acc));rw [if_neg hk]
theorem A3s {env:Env}:∀ (l:List (Str × NameKind)) (acc:List (Str × Addr)) (p:Str × Addr),p ∈ A3t env l acc->p ∈ acc\/((p.1,NameKind.free) ∈ l/\p.2=(env.cells.lookup p.1).getD 0)
 | [],acc,p,h=>.inl h
 | (n,k) :: r,acc,p,h=>by
  rcases A3s r _ p h with z | ⟨z,e⟩
  ·by_cases hk:(k == NameKind.free)=true
   ·rw [if_pos hk] at z;rcases List.mem_cons.mp z with rfl | z
    ·right;have:k=.free:=by simpa using hk
     subst this;exact ⟨Zy,rfl⟩
    ·exact .inl z
   ·rw [if_neg hk] at z;exact .inl z
  ·exact .inr ⟨Zr _ z,e⟩
theorem Z4 {env:Env}:∀ (l:List (Str × NameKind)) (acc:List (Str × Addr)) (x:Str),((∃ c,(x,c) ∈ acc)\/(x,NameKind.free) ∈ l)->∃ c,(x,c) ∈ A3t env l acc
 | [],acc,x,h=>by
  rcases h with h | h
  ·exact h
  ·exact absurd h (by simp)
 | (n,k) :: r,acc,x,h=>by
  refine Z4 r _ x ?_;rcases h with ⟨c,h⟩ | h
  ·left;by_cases hk:(k == NameKind.free)=true
   ·rw [if_pos hk]; exact ⟨c,Zr _ h⟩
   ·rw [if_neg hk]; exact ⟨c,h⟩
  ·rcases List.mem_cons.mp h with e | h
   ·left;cases e;rw [if_pos (by rfl)];exact ⟨_,Zy⟩
   ·exact .inr h
theorem N4 {β:Type} {x:Str}:∀ {l:List (Str × β)} {c:β},(x,c) ∈ l->∃ c',l.lookup x=some c'
 | (n,d) :: r,c,h=>by
  by_cases e:x=n
  ·subst e; exact ⟨d,by simp [List.lookup_cons]⟩
  ·rcases List.mem_cons.mp h with z | z
   ·cases z; exact absurd rfl e
   ·obtain ⟨c',q⟩:=N4 z;refine ⟨c',?_⟩;rw [List.lookup_cons];have:(x == n)=false:=by simpa using e
    rw [this]; exact q
theorem Q4 {scope:Scope} {env:Env} {x:Str} {k:NameKind} (hcell:∀ y ∈ scope.names,y.2≠.cell) (h:(relabel scope env).names.lookup x=some k) (hk:k=.cell\/k=.free):(x,NameKind.free) ∈ scope.names:=by
 have h1:=PySem.mem_of_lookup h;obtain ⟨⟨n,k'⟩,hm,e⟩:=List.mem_map.mp (show (x,k) ∈ scope.names.map _ from h1);dsimp only at e;split at e
 ·rename_i q;cases e;simp only [Bool.and_eq_true] at q;have:k'=.free:=by simpa using q.1.1
  subst this;exact hm
 ·cases e;rcases hk with rfl | rfl
  ·exact absurd rfl (hcell _ hm)
  ·exact hm
theorem O3 {env:Env} {x:Str}:∀ {l:List (Str × NameKind)},l.lookup x=some .free ->
  (l.map fun (n,k)=>if (k == NameKind.free && env.scope.kind == .function && env.kindOf n == some .cell) then (n,NameKind.cell) else (n,k)).lookup x=some .cell \/
  (l.map fun (n,k)=>if (k == NameKind.free && env.scope.kind == .function && env.kindOf n == some .cell) then (n,NameKind.cell) else (n,k)).lookup x=some .free
 | [],h=>by simp at h
 | (n,k) :: r,h=>by
  rw [List.lookup_cons] at h;rw [List.map_cons];dsimp only;by_cases e:(x == n)=true
  ·rw [e] at h;have hk:k=.free:=by simpa using h
   subst hk;by_cases q:(NameKind.free == NameKind.free && env.scope.kind == .function && env.kindOf n == some .cell)=true
   ·left; rw [if_pos q,List.lookup_cons,e]
   ·right; rw [if_neg q,List.lookup_cons,e]
  ·have e':(x == n)=false:=by simpa using e
   rw [e'] at h;have:=O3 (env:=env) h;by_cases q:(k == NameKind.free && env.scope.kind == .function && env.kindOf n == some .cell)=true
   ·rw [if_pos q,List.lookup_cons,e']; exact this
   ·rw [if_neg q,List.lookup_cons,e']; exact this
theorem A2a {scope:Scope} {env:Env} {x:Str} (h:scope.names.lookup x=some .free):(relabel scope env).names.lookup x=some .cell\/(relabel scope env).names.lookup x=some .free:=O3 h
theorem M4 {X:Cx} {scope:Scope} (N':List Str) (cap:List (Option Nat))
  (h1:scope.names.all (fun p=>!(p.2 == .free) || ((X.env.cells.lookup p.1).isSome && !(X.env.kindOf p.1 == some .local)))=true:=by exact rfl)
  (hk:scope.kind=.function:=by exact rfl) (h2:scope.names.all (fun p=>!(p.2 == .cell))=true:=by exact rfl) (h3:scope.names.all (fun p=>!(p.2 == .local) || scope.names.lookup p.1 == some .local)=true:=by exact rfl)
  (nd:N'.Nodup:=by decide +kernel) (len:cap.length=N'.length:=by exact rfl)
  (h4:(N'.zip cap).all (fun q=>match q.2 with | none=>true | some j=>(X.N[j]? == some q.1) && (scope.names.lookup q.1 == some .free) && (X.env.scope.names.lookup q.1 == some .cell || X.env.scope.names.lookup q.1 == some .free))=true:=by exact rfl) :
  CompSc X scope (A3t X.env scope.names []) N' cap:=by
 have hfree:∀ p ∈ scope.names,p.2=.free->(X.env.cells.lookup p.1).isSome=true/\X.env.kindOf p.1≠some .local:=fun p hp e=>by
  have:=List.all_eq_true.mp h1 p hp;rw [e] at this;have this:((X.env.cells.lookup p.1).isSome && !(X.env.kindOf p.1 == some .local))=true:=this;rw [Bool.and_eq_true] at this;refine ⟨this.1,fun z=>?_⟩;rw [z] at this;exact absurd this.2 (by decide)
 have hcell:∀ y ∈ scope.names,y.2≠.cell:=fun y hy e=>by
  have:=List.all_eq_true.mp h2 y hy;rw [e] at this;exact absurd this (by decide)
 have memsub:∀ x c,(A3t X.env scope.names []).lookup x=some c->(x,NameKind.free) ∈ scope.names/\X.env.cells.lookup x=some c:=fun x c h=>by
  rcases A3s _ _ _ (PySem.mem_of_lookup h) with z | ⟨z,e⟩
  ·exact absurd z (by simp)
  ·refine ⟨z,?_⟩;obtain ⟨c',hc'⟩:=Option.isSome_iff_exists.mp (hfree _ z rfl).1;have hc':X.env.cells.lookup x=some c':=hc';have e:c=(X.env.cells.lookup x).getD 0:=e;rw [hc'] at e ⊢;exact congrArg some e.symm
 refine ⟨?_,fun x c h=>(memsub x c h).2,fun x h=>?_,hk,hcell,fun y hy e=>?_,nd,len,fun x c h=>(hfree _ (memsub x c h).1 rfl).2,fun i x j hi hc=>?_⟩
 ·unfold closureFor;show (forIn scope.names [] _ >>= fun r=>pure r)=_;rw [A1r scope.names [] fun p hp e=>(hfree p hp e).1];rfl
 ·have hm:(x,NameKind.free) ∈ scope.names:=by
   rcases h with h | h
   ·exact Q4 hcell h (.inl rfl)
   ·exact Q4 hcell h (.inr rfl)
  obtain ⟨c,hc⟩:=Z4 (env:=X.env) scope.names [] x (.inr hm);exact N4 hc
 ·have:=List.all_eq_true.mp h3 y hy;rw [e] at this;simpa using this
 ·have hz:(x,some j) ∈ N'.zip cap:=by
   refine List.mem_iff_getElem?.mpr ⟨i,?_⟩;rw [List.getElem?_zip_eq_some];exact ⟨hi,hc⟩
  have:=List.all_eq_true.mp h4 _ hz;simp only [Bool.and_eq_true,Bool.or_eq_true,beq_iff_eq] at this;obtain ⟨⟨q1,q2⟩,q3⟩:=this;refine ⟨q1,A2a q2,?_,?_⟩
  ·rcases q3 with q | q
   ·exact .inr (.inl q)
   ·exact .inr (.inr q)
  ·obtain ⟨c,hc⟩:=Z4 (env:=X.env) scope.names [] x (.inr (PySem.mem_of_lookup q2));exact N4 hc
def R5 (wi:TI) (g:TG) (tt:TT) (te:TE) (cap:List (Option Nat)) (i:Nat):TS:=fun D σ H=>wi σ H fun J H1=>∀ l,H1 l=none->A3r J g tt te l (fun H'=>D.nx (σ.set i (some (.ref l))) H') (capσ cap σ) H1
section
variable {X:Cx} {scope:Scope} {cl:List (Str × Addr)} {N':List Str} {cap:List (Option Nat)} {elt tg iter:Expr} {ifs:List Expr} {wi:TI} {g:TG} {tt:TT} {te:TE} {pos spos py:Pos} {y:Str} {i:Nat}
theorem A8c (hc:X.calm=true) (hN:X.N.Nodup) (hi:X.N[i]?=some y) (hy:X.env.scope.names.lookup y=some .local) (C:CompSc X scope cl N' cap) (hit:PI X tg iter wi) (hg:∀ s3 H3 fp,PG (X.block scope cl N' s3 H3 fp) tg g)
  (ht:∀ s3 H3 fp,PTs (X.block scope cl N' s3 H3 fp) ifs tt) (he:∀ s3 H3 fp,PE (X.block scope cl N' s3 H3 fp) elt te)
  (hsw:swapsWith (.ListComp elt [⟨tg,iter,ifs,0⟩] scope pos) (some (.Name y py)) spos.line X.env=pure true) (hs:∀ x,foldedSetIterable iter X.env x=pure x:=by intro _; rfl) :
  PS X (.Assign [.Name y py] (.ListComp elt [⟨tg,iter,ifs,0⟩] scope pos) spos) (R5 wi g tt te cap i):=by
 intro pins s σ H D I h;rw [exec_Assign_Name_used _ _ _ _ hsw];refine wpAny_bind (wpAny_standAt (wpAny_bind ?_));show wpAny _ X.A (do let _ <- comprehension (.ListComp elt [⟨tg,iter,ifs,0⟩] scope pos) scope X.env _ (newList []) false (eval iter X.env) (some (assign (.Name y py) X.env))) _ _ s;refine wpAny_bind (wpAny_mono (wpAny_comprehension_free (use:=some (assign (.Name y py) X.env)) (Q:=fun _ s'=>SP X pins D .next s') rfl hs C.clos C.kind C.names
  (thn (hit pins s σ H _ I h) fun v s1 h1=>thn h1 fun itv s2 h2=>?_)) (fun _ s' hq=>wpAny_pure (wpAny_pure hq)) fun _ _ e=>e)
 obtain ⟨it,fp,tn,J,H2,e,I2,T,st2,f2,go⟩:=h2;subst e;refine A3z (RR:=fun acc C=>compPost (model X.prog X.w) X.A X.xe (some (assign (.Name y py) X.env)) (fun _ s'=>SP X pins D .next s') acc C) (Fin:=fun l H'=>D.nx (σ.set i (some (.ref l))) H') hc C I2 T st2 f2 hg ht he go ?_;intro l C' s' m H' hn n1 n2 n3 n4 n5 fin inv;show wpAny _ X.A (assign (.Name y py) X.env (.ref l)) _ _ _;refine wpAny_assign_Name (A12 (v:=.ref l) inv hN hi (.inl hy) rfl (fun s'' I'' ⟨a,sb,ha⟩=>?_) (.inr hy));have na:C'≠a:=by
  rcases ha with e | e
  ·rw [e]; exact n1
  ·exact (n4 _ _ e).symm
 exact ⟨m,hn.sameBut sb na,fun h' hs'=>⟨_,H',I''.turned (t':=s''.toks) (fun b o hb e=>(hs'.2 b hb).trans e) n2 n1 (.inr n3) n4 n5,fin⟩⟩
end
section
variable {X:Cx} {K:PySem.W.Frag}
theorem C3d {pos:Pos} {es:List Expr} {k:Nat} {t:TGs} {n:Nat} (h:X.K=K) (hc:X.calm=true) (hg:PGs X es t)
  (hn:(assignEach es X.env).length=n:=by rfl) (hst:(assignEach es X.env).findIdx? (·.1)=none:=by rfl):PG X (.Tuple es k pos) (gTup K n t):=by subst h; exact C6q hc hg hn hst
end
end L2
namespace Prf
open PySem L2 My
abbrev Hpp:=L2.Hp
theorem ifD {p:Prop} [Decidable p] {A B:Prop} (h1:p->A) (h2:¬ p->B):if decide p=true then A else B:=by
 by_cases h:p
 ·rw [Zk h]; exact h1 h
 ·rw [Zd h]; exact h2 h
structure StAt (H:Hpp) (p:Addr):Prop where
 ex:∃ (c m:Int) (f:Bool),H p=some (.lst [.int c,.int m,.bl f])/\0<=m/\m < 2147483648
theorem StAt.same {H H':Hpp} {p:Addr} (h:StAt H p) (e:Same H H'):StAt H' p:=by
 obtain ⟨c,m,f,h,r⟩:=h.ex; exact ⟨c,m,f,e _ _ h,r⟩
theorem StAt.kp {H H':Hpp} {p l:Addr} (h:StAt H p) (n:p≠l) (e:Kp l H H'):StAt H' p:=by
 obtain ⟨c,m,f,h,r⟩:=h.ex; exact ⟨c,m,f,e _ _ n h,r⟩
def A5v (K:PySem.W.Frag):Sp:=fun vs H Q _=>∃ (a:Addr) (ns:List Int) (k:Int),vs=[.ref a,.int k]/\SqL K H a (ns.map V.int)/\0<=k/\k<=63/\∀ p H',H p=none->StAt H' p->Kp p H H'->Q (.ref p) H'
def A9u:Sp:=fun vs H Q _=>∃ (p:Addr) (n:Int),vs=[.ref p,.int n]/\StAt H p/\0 < n/\Sm 4000 n/\∀ d H',0<=d->d < n->StAt H' p->Kp p H H'->Q (.int d) H'
def C2e (K:PySem.W.Frag):Sp:=fun vs H Q _=>∃ (a:Addr) (ns:List Int),vs=[.ref a]/\SqL K H a (ns.map V.int)/\ns.length<=63/\∀ H',Q (.bl true) H'
theorem sm32 {m:Int} (h0:0<=m) (h1:m < 2147483648):Sm 8000 m:=Sm.mono (k:=32) (by unfold Sm; omega) (by decide)
theorem A0c {m:Int} (n:Nat) (h:m.natAbs < 2 ^ 64:=by decide):Sm 8000 m:=Sm.mono (k:=64) h (by decide)
theorem D1j {k:Nat} {t b:Int} (h:Sm k b) (hb:b≠0):Sm k ((Int.gcd t b:Nat):Int):=by
 have h1:Int.gcd t b ∣ b.natAbs:=Nat.gcd_dvd_right _ _;have h2:=Nat.le_of_dvd (by omega) h1;exact h.le (by simpa using h2)
theorem C5l {k:Nat} {t b:Int} (h:Sm k b) (hb:b≠0):Sm k (sh t b):=by
 have h1:Int.gcd t b ∣ b.natAbs:=Nat.gcd_dvd_right _ _;have h2:=Nat.le_of_dvd (by omega) h1;exact h.le (by rw [C5r]; exact h2)
end Prf
namespace Prf
open PySem L2 My
theorem A0o (n:Nat) (h:(n:Int)<=1000000:=by decide):CPow 10 (n:Int):=⟨by omega,h,by decide⟩
theorem sm4 (n:Int) (h:n.natAbs < 2 ^ 64:=by decide):Sm 4000 n:=Sm.mono (k:=64) h (by decide)
theorem A5w {k:Int} (h0:0<=k) (h1:k<=63):Sm 8000 k:=sm32 h0 (by omega)
theorem C5m {k:Int} (h0:0<=k) (h1:k<=63):Sm 20 k:=by unfold Sm; omega
theorem C5n (b:Bool):Sm 8000 (if b=true then (1:Int) else 0):=by cases b <;> exact A0c 0
theorem C00:kitB "tuple" "tuple"=some true:=by decide +kernel
theorem C1a:kitB "int" "bool"=some false:=by decide +kernel
end Prf
namespace Prf
open PySem L2 My
inductive R2L {α:Type} (P:Addr->α->Prop):List V->List α->Prop
 | nil:R2L P [] []
 | cons {a:Addr} {q:α} {rs:List V} {qs:List α}:P a q->R2L P rs qs->R2L P (.ref a :: rs) (q :: qs)
section
variable {α:Type} {P P':Addr->α->Prop}
theorem R2L.get:∀ {rs qs} {i:Nat} {x:V},R2L P rs qs->rs[i]?=some x->∃ a q,x=.ref a/\qs[i]?=some q/\P a q
 | _,_,_,_,.nil,e=>by simp at e
 | _,_,0,_,.cons h _,e=>by simp at e; subst e; exact ⟨_,_,rfl,rfl,h⟩
 | _,_,i + 1,x,.cons _ t,e=>by
  obtain ⟨a,q,h1,h2,h3⟩:=R2L.get (i:=i) (x:=x) t (by simpa using e);exact ⟨a,q,h1,by simpa using h2,h3⟩
end
def dq (q:Rat):PyData:=.tuple [.int q.num,.int q.den]
def dcn (c:Rat × Rat):PyData:=.tuple [dq c.1,dq c.2]
end Prf
set_option maxHeartbeats 4000000
namespace L2
open PySem
theorem SqD.same {K:PySem.W.Frag} {F F':Hp} {a:Addr} {xs:List V} (e:Same F F') (h:SqD K F a xs):SqD K F' a xs:=⟨SqT.same e h.1,h.2.imp (e _ _) id⟩
mutual
theorem Den.same {K:PySem.W.Frag} {F F':Hp} (e:Same F F'):∀ {v:V} {x:PyData},Den K F v x->Den K F' v x
 | _,_,.non=>.non
 | _,_,.bl b=>.bl b
 | _,_,.int i=>.int i
 | _,_,.str x=>.str x
 | _,_,.lst h t=>.lst (e.seq h) (DenAll.same e t)
 | _,_,.tup h t=>.tup (SqD.same e h) (DenAll.same e t)
 | _,_,.dct h=>.dct (e _ _ h)
theorem DenAll.same {K:PySem.W.Frag} {F F':Hp} (e:Same F F'):∀ {vs:List V} {xs:LP},DenAll K F vs xs->DenAll K F' vs xs
 | _,_,.nil=>.nil
 | _,_,.cons h t=>.cons (Den.same e h) (DenAll.same e t)
end
section
variable {K:PySem.W.Frag} {F:Hp}
theorem Den.intE {v:V} {i:Int} (h:Den K F v (.int i)):v=.int i:=by cases h; rfl
theorem Den.blE {v:V} {b:Bool} (h:Den K F v (.bool b)):v=.bl b:=by cases h; rfl
theorem Den.strE {v:V} {s:Str} (h:Den K F v (.str s)):v=.str s:=by cases h; rfl
theorem Den.nonE {v:V} (h:Den K F v .none):v=.non:=by cases h; rfl
theorem Den.tupE {v:V} {xs:LP} (h:Den K F v (.tuple xs)):∃ a vs,v=.ref a/\SqT K F a vs/\DenAll K F vs xs:=by cases h with | tup h t=>exact ⟨_,_,rfl,h.1,t⟩
theorem Den.lstE {v:V} {xs:LP} (h:Den K F v (.list xs)):∃ a vs,v=.ref a/\SqL K F a vs/\DenAll K F vs xs:=by cases h; exact ⟨_,_,rfl,‹_›,‹_›⟩
theorem DenAll.len:∀ {vs:List V} {xs:LP},DenAll K F vs xs->vs.length=xs.length
 | _,_,.nil=>rfl
 | _,_,.cons _ t=>congrArg (· + 1) (DenAll.len t)
theorem DenAll.get:∀ {vs:List V} {xs:LP} {i:Nat} {v:V},DenAll K F vs xs->vs[i]?=some v->∃ x,xs[i]?=some x/\Den K F v x
 | _,_,_,_,.nil,e=>by simp at e
 | _,_,0,_,.cons h _,e=>by simp at e; subst e; exact ⟨_,rfl,h⟩
 | _,_,i + 1,v,.cons _ t,e=>by
  obtain ⟨x,h1,h2⟩:=DenAll.get (i:=i) (v:=v) t (by simpa using e);exact ⟨x,by simpa using h1,h2⟩
theorem DenAll.at:∀ {vs:List V} {xs:LP} {i:Nat} {x:PyData},DenAll K F vs xs->xs[i]?=some x->∃ v,vs[i]?=some v/\Den K F v x
 | _,_,_,_,.nil,e=>by simp at e
 | _,_,0,_,.cons h _,e=>by simp at e; subst e; exact ⟨_,rfl,h⟩
 | _,_,i + 1,x,.cons _ t,e=>by
  obtain ⟨v,h1,h2⟩:=DenAll.at (i:=i) (x:=x) t (by simpa using e);exact ⟨v,by simpa using h1,h2⟩
theorem DenAll.app:∀ {vs us:List V} {xs ys:LP},DenAll K F vs xs->DenAll K F us ys->DenAll K F (vs++us) (xs++ys)
 | _,_,_,_,.nil,h=>h
 | _,_,_,_,.cons h t,h'=>.cons h (DenAll.app t h')
theorem DenAll.drop:∀ {vs:List V} {xs:LP} (n:Nat),DenAll K F vs xs->DenAll K F (vs.drop n) (xs.drop n)
 | _,_,0,h=>by simpa using h
 | _,_,_ + 1,.nil=>by simpa using DenAll.nil
 | _,_,n + 1,.cons _ t=>by simpa using DenAll.drop n t
theorem DenAll.take:∀ {vs:List V} {xs:LP} (n:Nat),DenAll K F vs xs->DenAll K F (vs.take n) (xs.take n)
 | _,_,0,_=>by simpa using DenAll.nil
 | _,_,_ + 1,.nil=>by simpa using DenAll.nil
 | _,_,n + 1,.cons h t=>by simpa using DenAll.cons h (DenAll.take n t)
theorem DenAll.rev:∀ {vs:List V} {xs:LP},DenAll K F vs xs->DenAll K F vs.reverse xs.reverse
 | _,_,.nil=>.nil
 | _,_,.cons h t=>by rw [List.reverse_cons,List.reverse_cons]; exact (DenAll.rev t).app (.cons h .nil)
theorem DenAll.dropLast {vs:List V} {xs:LP} (h:DenAll K F vs xs):DenAll K F vs.dropLast xs.dropLast:=by
 rw [List.dropLast_eq_take,List.dropLast_eq_take,h.len]; exact h.take _
theorem DenAll.atIE {vs:List V} {xs:LP} {i:Int} {x:PyData} (h:DenAll K F vs xs) (e:L2.atI xs i=some x):∃ v,L2.atI vs i=some v/\Den K F v x:=by
 unfold L2.atI at *;rw [h.len];cases q:ixN xs.length i with
 | none=>rw [q] at e; cases e
 | some j=>rw [q] at e; exact DenAll.at h e
end
end L2
namespace Pu
open PySem L2 My Prf
abbrev Frag:=PySem.W.Frag
inductive OT where
 | leaf (x:PyData) | nd (b:Bool) (a:Addr) (k:OT) | nil | cons (h t:OT)
def OT.fp:OT->List Addr
 | .leaf _=>[]
 | .nd _ a k=>a :: k.fp
 | .nil=>[]
 | .cons h t=>h.fp++t.fp
def OT.dat:OT->LP
 | .leaf x=>[x]
 | .nd true _ k=>[.list k.dat]
 | .nd false _ k=>[.tuple k.dat]
 | .nil=>[]
 | .cons h t=>h.dat++t.dat
def OT.put (a:Addr) (n:OT):OT->OT
 | .leaf x=>.leaf x
 | .nd b a' k=>.nd b a' (if a'=a then n else OT.put a n k)
 | .nil=>.nil
 | .cons h t=>.cons (OT.put a n h) (OT.put a n t)
def dlF (l:Addr) (ks:List (Str × Addr × LP)):List Addr:=l :: ks.map (·.2.1)
inductive SV where
 | d (x:PyData) | own (xs:LP) | bor (xs:LP) | st | tr (t:OT) | bt (t:OT) | al (a:Addr) | dk (ks:List (Str × Int)) | dl (l:Addr) (ks:List (Str × Addr × LP))
def SV.foot (v:V):SV->Addr->Prop
 | .own _,a=>v=.ref a
 | .dk _,a=>v=.ref a
 | .dl l ks,a=>a ∈ dlF l ks
 | .tr t,a=>a ∈ t.fp
 | _,_=>False
def SV.isRes:SV->Bool
 | .bor _=>false
 | .bt _=>false
 | .al _=>false
 | _=>true
abbrev PEnv:=List (Option SV)
structure Wd where
 M:Addr->Prop
 H:Hpp
 F:Hpp
structure Wd.Ok (w:Wd):Prop where
 sub:Same w.F w.H
 st:∀ p,w.M p->StAt w.H p
 nf:∀ p,w.M p->w.F p=none
structure Lw (w w':Wd):Prop where
 f:Same w.F w'.F
 h:∀ b o,w.H b=some o->¬ w.M b->w'.H b=some o
 m:∀ b,w.M b->w'.M b
 mn:∀ b,w'.M b->w.M b\/w.H b=none
 dom:∀ b,w'.H b=none->w.H b=none
structure Le (w w':Wd):Prop extends Lw w w' where
 n:∀ a o,w'.F a=some o->w.F a=some o\/w.H a=none
theorem Lw.refl (w:Wd):Lw w w:=⟨Same.refl _,fun _ _ h _=>h,fun _ h=>h,fun _ h=>.inl h,fun _ h=>h⟩
theorem Le.refl (w:Wd):Le w w:=⟨Lw.refl w,fun _ _ h=>.inl h⟩
theorem Lw.nm {w w':Wd} (a:Lw w w') {b:Addr} (h:w.H b≠none) (n:¬ w.M b):¬ w'.M b:=fun z=>(a.mn b z).elim n h
theorem Lw.trans {w w1 w2:Wd} (a:Lw w w1) (b:Lw w1 w2):Lw w w2 :=
 ⟨a.f.trans b.f,fun c o h n=>b.h c o (a.h c o h n) (a.nm (by rw [h]; simp) n),fun c h=>b.m c (a.m c h),
  fun c h=>(b.mn c h).elim (a.mn c) fun z=>.inr (a.dom c z),fun c h=>a.dom c (b.dom c h)⟩
theorem Le.trans {w w1 w2:Wd} (a:Le w w1) (b:Le w1 w2):Le w w2 :=
 ⟨a.toLw.trans b.toLw,fun c o h=>(b.n c o h).elim (a.n c o) fun z=>.inr (a.dom c z)⟩
theorem Le.fnone {w w':Wd} (a:Le w w') {l:Addr} (h:w.F l=none) (h':w.H l≠none):w'.F l=none:=by
 cases q:w'.F l with
 | none=>rfl
 | some o =>
  rcases a.n l o q with z | z
  ·rw [h] at z; cases z
  ·exact absurd z h'
structure Ct where
 K:Frag
 w0:Wd
 Z:Addr->Prop
def VV (K:Frag) (w:Wd) (v:V) (x:PyData):Prop:=Den K w.F v x\/∃ l vs xs,v=.ref l/\x=.list xs/\w.H l=some (.lst vs)/\¬ w.M l/\DenAll K w.F vs xs
def ho:Bool->List V->HO
 | true,vs=>.lst vs
 | false,vs=>.tup vs
def Tre (K:Frag) (w:Wd):OT->List V->Prop
 | .leaf x,vs=>∃ v,vs=[v]/\Den K w.F v x
 | .nd b a k,vs=>vs=[.ref a]/\∃ us,w.H a=some (ho b us)/\Tre K w k us
 | .nil,vs=>vs=[]
 | .cons h t,vs=>∃ v r,vs=v :: r/\Tre K w h [v]/\Tre K w t r
theorem Tre.mono {K:Frag} {w w':Wd} (a:Lw w w'):∀ {t:OT} {vs:List V},Tre K w t vs->(∀ a ∈ t.fp,¬ w.M a)->Tre K w' t vs
 | .leaf _,_,⟨v,e,h⟩,_=>⟨v,e,Den.same a.f h⟩
 | .nd _ p _,_,⟨e,us,h,k⟩,n=>⟨e,us,a.h _ _ h (n p (by simp [OT.fp])),Tre.mono a k fun q hq=>n q (by simp [OT.fp,hq])⟩
 | .nil,_,e,_=>e
 | .cons _ _,_,⟨v,r,e,h,t⟩,n=>⟨v,r,e,Tre.mono a h fun q hq=>n q (by simp [OT.fp,hq]),Tre.mono a t fun q hq=>n q (by simp [OT.fp,hq])⟩
theorem Tre.sameF {K:Frag} {M:Addr->Prop} {H F F':Hpp} (e:Same F F'):∀ {t:OT} {vs:List V},Tre K ⟨M,H,F⟩ t vs->Tre K ⟨M,H,F'⟩ t vs
 | .leaf _,_,⟨v,q,h⟩=>⟨v,q,Den.same e h⟩
 | .nd _ _ _,_,⟨q,us,h,k⟩=>⟨q,us,h,Tre.sameF e k⟩
 | .nil,_,q=>q
 | .cons _ _,_,⟨v,r,q,h,t⟩=>⟨v,r,q,Tre.sameF e h,Tre.sameF e t⟩
def dAt (kvs:List (Key × V)) (s:Str):Option V:=(kvs.find? fun kv=>decide (kv.1=Sum.inr s)).map (·.2)
def DlAt (K:Frag) (w:Wd) (l:Addr) (ks:List (Str × Addr × LP)):Prop :=
 (∃ kvs,w.H l=some (.dK kvs)/\∀ k ∈ ks,dAt kvs k.1=some (.ref k.2.1))/\∀ k ∈ ks,∃ vs,w.H k.2.1=some (.lst vs)/\DenAll K w.F vs k.2.2
theorem C4o {l:Addr} {ks:List (Str × Addr × LP)}:l ∈ dlF l ks:=Zy
theorem A8y {l:Addr} {ks:List (Str × Addr × LP)} {k:Str × Addr × LP} (h:k ∈ ks):k.2.1 ∈ dlF l ks:=Zr _ (List.mem_map_of_mem h)
theorem DlAt.mono {K:Frag} {w w':Wd} {l:Addr} {ks:List (Str × Addr × LP)} (a:Lw w w') (h:DlAt K w l ks) (n:∀ q ∈ dlF l ks,¬ w.M q):DlAt K w' l ks :=
 ⟨let ⟨kvs,e,q⟩:=h.1; ⟨kvs,a.h _ _ e (n l C4o),q⟩,fun k hk=>let ⟨vs,e,d⟩:=h.2 k hk; ⟨vs,a.h _ _ e (n _ (A8y hk)),DenAll.same a.f d⟩⟩
theorem DlAt.writ {K:Frag} {w:Wd} {l p:Addr} {wo:HO} {ks:List (Str × Addr × LP)} (h:DlAt K w l ks) (n:p ∉ dlF l ks):DlAt K ⟨w.M,upd w.H p wo,w.F⟩ l ks :=
 ⟨let ⟨kvs,e,q⟩:=h.1; ⟨kvs,by show upd w.H p _ l=_; rw [B4 (fun z=>n (by rw [<- z]; exact C4o))]; exact e,q⟩,fun k hk=>let ⟨vs,e,d⟩:=h.2 k hk; ⟨vs,by show upd w.H p _ k.2.1=_; rw [B4 (fun z=>n (by rw [<- z]; exact A8y hk))]; exact e,d⟩⟩
def VR (c:Ct) (w:Wd) (v:V):SV->Prop
 | .d x=>Den c.K w.F v x
 | .own xs=>∃ l vs,v=.ref l/\w.H l=some (.lst vs)/\w.F l=none/\¬ w.M l/\c.w0.H l=none/\DenAll c.K w.F vs xs
 | .bor xs=>Den c.K w.F v (.list xs)\/∃ l vs,v=.ref l/\c.w0.H l=some (.lst vs)/\¬ c.w0.M l/\DenAll c.K w.F vs xs
 | .st=>∃ p,v=.ref p/\w.M p
 | .tr t=>Tre c.K w t [v]/\(∀ a ∈ t.fp,w.H a≠none/\w.F a=none/\¬ w.M a/\c.w0.H a=none)/\t.fp.Nodup
 | .bt t=>Tre c.K ⟨c.w0.M,c.w0.H,w.F⟩ t [v]/\∀ a ∈ t.fp,¬ c.w0.M a
 | .al a=>v=.ref a
 | .dk ks=>∃ l,v=.ref l/\w.H l=some (.dT (ks.map fun k=>([Sum.inr k.1,Sum.inl k.2],V.bl true)))/\w.F l=none/\¬ w.M l/\c.w0.H l=none
 | .dl l ks=>v=.ref l/\DlAt c.K w l ks/\(∀ a ∈ dlF l ks,w.H a≠none/\w.F a=none/\¬ w.M a/\c.w0.H a=none)/\(dlF l ks).Nodup
theorem A5l {H:Hpp} {p b:Addr} {o:HO} (h:upd H p o b=none):H b=none:=by
 unfold upd at h; split at h
 ·cases h
 ·exact h
theorem VR.foot {c:Ct} {w:Wd} {v:V} {a:Addr}:∀ {s:SV},VR c w v s->s.foot v a->w.H a≠none/\w.F a=none/\¬ w.M a/\c.w0.H a=none
 | .own _,⟨l,vs,e,h1,h2,h3,h4,_⟩,f=>by
  have:V.ref l=.ref a:=e.symm.trans f;cases this;exact ⟨by rw [h1]; simp,h2,h3,h4⟩
 | .dk _,⟨l,e,h1,h2,h3,h4⟩,f=>by
  have:V.ref l=.ref a:=e.symm.trans f;cases this;exact ⟨by rw [h1]; simp,h2,h3,h4⟩
 | .tr _,h,f=>h.2.1 a f
 | .dl _ _,h,f=>h.2.2.1 a f
theorem VV.mono {K:Frag} {w w':Wd} {v:V} {x:PyData} (a:Lw w w') (h:VV K w v x):VV K w' v x:=by
 rcases h with h | ⟨l,vs,xs,e,e',h1,h2,h3⟩
 ·exact .inl (Den.same a.f h)
 ·exact .inr ⟨l,vs,xs,e,e',a.h _ _ h1 h2,a.nm (by rw [h1]; simp) h2,DenAll.same a.f h3⟩
theorem VV.den {K:Frag} {w:Wd} {v:V} {x:PyData} (o:w.Ok) (h:VV K w v x):Den K w.H v x:=by
 rcases h with h | ⟨l,vs,xs,e,e',h1,h2,h3⟩
 ·exact Den.same o.sub h
 ·rw [e,e']; exact .lst (SqL.of h1) (DenAll.same o.sub h3)
theorem VR.mono {c:Ct} {w w':Wd} {v:V} (a:Le w w'):∀ {s:SV},VR c w v s->VR c w' v s
 | .d _,h=>Den.same a.f h
 | .own xs,⟨l,vs,e,h1,h2,h3,h4,h5⟩=>⟨l,vs,e,a.h _ _ h1 h3,a.fnone h2 (by rw [h1]; simp),a.nm (by rw [h1]; simp) h3,h4,DenAll.same a.f h5⟩
 | .bor xs,.inl h=>.inl (Den.same a.f h)
 | .bor xs,.inr ⟨l,vs,e,h1,h2,h3⟩=>.inr ⟨l,vs,e,h1,h2,DenAll.same a.f h3⟩
 | .st,⟨p,e,h⟩=>⟨p,e,a.m p h⟩
 | .bt t,⟨h,o⟩=>⟨h.sameF a.f,o⟩
 | .al _,h=>h
 | .dk _,⟨l,e,h1,h2,h3,h4⟩=>⟨l,e,a.h _ _ h1 h3,a.fnone h2 (by rw [h1]; simp),a.nm (by rw [h1]; simp) h3,h4⟩
 | .dl _ _,⟨e,h,o,d⟩=>⟨e,h.mono a.toLw fun q hq=>(o q hq).2.2.1,fun q hq=>let ⟨h1,h2,h3,h4⟩:=o q hq; ⟨fun z=>h1 (a.dom q z),a.fnone h2 h1,a.nm h1 h3,h4⟩,d⟩
 | .tr t,⟨h,o,d⟩=>⟨h.mono a.toLw fun q hq=>(o q hq).2.2.1,fun q hq=>let ⟨h1,h2,h3,h4⟩:=o q hq; ⟨fun z=>h1 (a.dom q z),a.fnone h2 h1,a.nm h1 h3,h4⟩,d⟩
theorem Tre.writ {K:Frag} {w:Wd} {l:Addr} {wo:HO}:∀ {t:OT} {vs:List V},Tre K w t vs->l ∉ t.fp->Tre K ⟨w.M,upd w.H l wo,w.F⟩ t vs
 | .leaf _,_,h,_=>h
 | .nd _ p _,_,⟨e,ys,h,k⟩,n=>⟨e,ys,by show upd w.H l _ p=_; rw [B4 (fun z=>n (by simp [OT.fp,z]))]; exact h,Tre.writ k fun q=>n (by simp [OT.fp,q])⟩
 | .nil,_,e,_=>e
 | .cons _ _,_,⟨v,r,e,h,t⟩,n=>⟨v,r,e,Tre.writ h fun q=>n (by simp [OT.fp,q]),Tre.writ t fun q=>n (by simp [OT.fp,q])⟩
theorem VR.writ {c:Ct} {w:Wd} {v:V} {l:Addr} {wo:HO} (hl:w.H l≠none):∀ {s:SV},VR c w v s->¬ s.foot v l->VR c ⟨w.M,upd w.H l wo,w.F⟩ v s
 | .d _,h,_=>h
 | .own _,⟨l',vs,e,k1,k2,k3,k4,k5⟩,n=>⟨l',vs,e,by show upd w.H l _ l'=_; rw [B4 (fun z=>n (by rw [<- z]; exact e))]; exact k1,k2,k3,k4,k5⟩
 | .bor _,h,_=>h
 | .st,h,_=>h
 | .bt _,h,_=>h
 | .al _,h,_=>h
 | .dk _,⟨l',e,k1,k2,k3,k4⟩,n=>⟨l',e,by show upd w.H l _ l'=_; rw [B4 (fun z=>n (by rw [<- z]; exact e))]; exact k1,k2,k3,k4⟩
 | .dl _ _,⟨e,h,o,d⟩,n=>⟨e,h.writ n,fun a ha=>⟨fun z=>(o a ha).1 (A5l z),(o a ha).2⟩,d⟩
 | .tr _,⟨h,o,d⟩,n=>⟨h.writ n,fun a ha=>⟨fun z=>(o a ha).1 (A5l z),(o a ha).2⟩,d⟩
structure EnvOk (c:Ct) (w:Wd) (env:PEnv) (σ:St):Prop where
 wok:w.Ok
 le0:Le c.w0 w
 len:env.length=σ.length
 at':∀ (i:Nat) s,env[i]?=some (some s)->∃ v,σ[i]?=some (some v)/\VR c w v s
 own:∀ (i j:Nat) s t v u a,env[i]?=some (some s)->env[j]?=some (some t)->σ[i]?=some (some v)->σ[j]?=some (some u)->s.foot v a->t.foot u a->i=j
 zf:∀ a,c.Z a->w.F a=none/\w.H a≠none/\¬ w.M a
 zo:∀ a (j:Nat) t u,c.Z a->env[j]?=some (some t)->σ[j]?=some (some u)->¬ t.foot u a
def New (c:Ct) (env:PEnv) (σ:St) (v:V) (s:SV):Prop:=∀ a,s.foot v a->(∀ (j:Nat) t u,env[j]?=some (some t)->σ[j]?=some (some u)->¬ t.foot u a)/\¬ c.Z a
theorem EnvOk.look {c:Ct} {w:Wd} {env:PEnv} {σ:St} (E:EnvOk c w env σ) {j:Nat} {t:SV} {u:V} (h:env[j]?=some (some t)) (hu:σ[j]?=some (some u)):VR c w u t:=by
 obtain ⟨v,h1,h2⟩:=E.at' j t h;rw [hu] at h1; cases h1; exact h2
theorem EnvOk.fresh {c:Ct} {w:Wd} {env:PEnv} {σ:St} (E:EnvOk c w env σ) {p:Addr} (hp:w.H p=none):(∀ (j:Nat) t u,env[j]?=some (some t)->σ[j]?=some (some u)->¬ t.foot u p)/\¬ c.Z p :=
 ⟨fun _ _ _ h hu f=>((E.look h hu).foot f).1 hp,fun z=>(E.zf p z).2.1 hp⟩
theorem Lw.hsome {w w':Wd} (a:Lw w w') {l:Addr} (h:w.H l≠none):w'.H l≠none:=fun z=>h (a.dom l z)
theorem EnvOk.mono {c:Ct} {w w':Wd} {env:PEnv} {σ:St} (E:EnvOk c w env σ) (ok:w'.Ok) (a:Le w w'):EnvOk c w' env σ :=
 ⟨ok,E.le0.trans a,E.len,fun i s e=>let ⟨v,h1,h2⟩:=E.at' i s e; ⟨v,h1,h2.mono a⟩,E.own,fun b z=>let ⟨h1,h2,h3⟩:=E.zf b z; ⟨a.fnone h1 h2,a.hsome h2,a.nm h2 h3⟩,E.zo⟩
structure Res (c:Ct) (w:Wd) (env:PEnv) (σ:St) (w':Wd) (v:V) (s:SV):Prop where
 ev:EnvOk c w' env σ
 lw:Lw w w'
 val:VR c w' v s
 new:New c env σ v s
 res:s.isRes=true
theorem Res.data {c:Ct} {w:Wd} {env:PEnv} {σ:St} {v:V} {x:PyData} (E:EnvOk c w env σ) (h:Den c.K w.F v x):Res c w env σ w v (.d x) :=
 ⟨E,Lw.refl w,h,fun _ e=>(nomatch e),rfl⟩
def Wd.tup (w:Wd) (p:Addr) (o:HO):Wd:=⟨w.M,upd w.H p o,upd w.F p o⟩
def Wd.lay (w:Wd) (p:Addr) (o:HO):Wd:=⟨w.M,upd w.H p o,w.F⟩
theorem Wd.Ok.fnone {w:Wd} (o:w.Ok) {p:Addr} (h:w.H p=none):w.F p=none:=by
 cases q:w.F p with
 | none=>rfl
 | some u=>have:=o.sub p u q; rw [h] at this; cases this
theorem Wd.Ok.mne {w:Wd} (o:w.Ok) {p q:Addr} (h:w.H p=none) (hq:w.M q):q≠p:=by
 obtain ⟨c,m,f,e,_⟩:=(o.st q hq).ex;exact C7 e h
theorem G5 {H:Hpp} {p b:Addr} {o:HO} (h:upd H p o b=none):H b=none:=by
 unfold upd at h; split at h
 ·cases h
 ·exact h
theorem Wd.tup_ok {w:Wd} {p:Addr} {o:HO} (ok:w.Ok) (h:w.H p=none):(w.tup p o).Ok :=
 ⟨fun b u e=>by
  show upd w.H p o b=some u;have e':upd w.F p o b=some u:=e;unfold upd at e' ⊢;split at e'
  ·rename_i z; rw [if_pos z]; exact e'
  ·rename_i z; rw [if_neg z]; exact ok.sub b u e',
  fun q hq=>(ok.st q hq).same (Same.upd h),fun q hq=>by
  show upd w.F p o q=none;rw [B4 (ok.mne h hq)]; exact ok.nf q hq⟩
theorem Wd.lay_ok {w:Wd} {p:Addr} {o:HO} (ok:w.Ok) (h:w.H p=none):(w.lay p o).Ok :=
 ⟨ok.sub.trans (Same.upd h),fun q hq=>(ok.st q hq).same (Same.upd h),ok.nf⟩
theorem Wd.tup_le {w:Wd} {p:Addr} {o:HO} (ok:w.Ok) (h:w.H p=none):Le w (w.tup p o) :=
 ⟨⟨Same.upd (ok.fnone h),fun b u e _=>Same.upd h b u e,fun _ z=>z,fun _ z=>.inl z,fun b z=>G5 z⟩,fun a u e=>by
  have e':upd w.F p o a=some u:=e;unfold upd at e';split at e'
  ·rename_i z; rw [z]; exact .inr h
  ·exact .inl e'⟩
theorem Wd.lay_le {w:Wd} {p:Addr} {o:HO} (h:w.H p=none):Le w (w.lay p o) :=
 ⟨⟨Same.refl _,fun b u e _=>Same.upd h b u e,fun _ z=>z,fun _ z=>.inl z,fun b z=>G5 z⟩,fun a u e=>.inl e⟩
theorem Res.tup {c:Ct} {w:Wd} {env:PEnv} {σ:St} {p:Addr} {vs:List V} {xs:LP} (E:EnvOk c w env σ) (h:w.H p=none) (hd:DenAll c.K w.F vs xs):Res c w env σ (w.tup p (.tup vs)) (.ref p) (.d (.tuple xs)) :=
 ⟨E.mono (Wd.tup_ok E.wok h) (Wd.tup_le E.wok h),(Wd.tup_le E.wok h).toLw,.tup (SqD.of B5) (DenAll.same (Wd.tup_le E.wok h).f hd),fun _ e=>(nomatch e),rfl⟩
theorem Res.lst {c:Ct} {w:Wd} {env:PEnv} {σ:St} {p:Addr} {vs:List V} {xs:LP} (E:EnvOk c w env σ) (h:w.H p=none) (hd:DenAll c.K w.F vs xs):Res c w env σ (w.lay p (.lst vs)) (.ref p) (.own xs) :=
 ⟨E.mono (Wd.lay_ok E.wok h) (Wd.lay_le h),(Wd.lay_le h).toLw,⟨p,vs,rfl,B5,E.wok.fnone h,fun z=>E.wok.mne h z rfl,E.le0.dom p h,hd⟩,
  fun a f=>(by
  have:V.ref p=.ref a:=f;cases this;exact E.fresh h),rfl⟩
theorem Res.frz {c:Ct} {w w1:Wd} {env:PEnv} {σ:St} {v:V} {xs:LP} (R:Res c w env σ w1 v (.own xs)):∃ w',w'.H=w1.H/\EnvOk c w' env σ/\Lw w w'/\Den c.K w'.F v (.list xs):=by
 obtain ⟨E,lw,⟨l,vs,e,h1,h2,h3,h4,h5⟩,new,_⟩:=R;subst e;obtain ⟨n1,n2⟩:=new l rfl;have up:Same w1.F (upd w1.F l (.lst vs)):=Same.upd h2;have lw':Lw w1 ⟨w1.M,w1.H,upd w1.F l (.lst vs)⟩:=⟨up,fun _ _ h _=>h,fun _ h=>h,fun _ h=>.inl h,fun _ h=>h⟩;refine ⟨⟨w1.M,w1.H,upd w1.F l (.lst vs)⟩,rfl,⟨⟨fun b u q=>?_,E.wok.st,fun p hp=>?_⟩,⟨E.le0.toLw.trans lw',fun a u q=>?_⟩,E.len,fun i s q=>?_,E.own,fun a za=>?_,E.zo⟩,lw.trans lw',.lst (SqL.of B5) (DenAll.same up h5)⟩
 ·have q':upd w1.F l (.lst vs) b=some u:=q;unfold upd at q';split at q'
  ·rename_i z; rw [z]; exact h1.trans q'
  ·exact E.wok.sub b u q'
 ·show upd w1.F l (.lst vs) p=none;rw [B4 (fun z=>h3 (by rw [<- z]; exact hp))]; exact E.wok.nf p hp
 ·have q':upd w1.F l (.lst vs) a=some u:=q;unfold upd at q';split at q'
  ·rename_i z; rw [z]; exact .inr h4
  ·exact E.le0.n a u q'
 ·obtain ⟨v,g1,g2⟩:=E.at' i s q;refine ⟨v,g1,?_⟩;cases s with
  | d x=>exact Den.same up g2
  | own ys =>
   obtain ⟨l',us,e',k1,k2,k3,k4,k5⟩:=g2;subst e';refine ⟨l',us,rfl,k1,?_,k3,k4,DenAll.same up k5⟩;show upd w1.F l (.lst vs) l'=none;rw [B4 (fun z=>n1 i _ _ q g1 (by subst z; rfl))]; exact k2
  | bor ys =>
   rcases g2 with g | ⟨l',us,e',k1,k2,k3⟩
   ·exact .inl (Den.same up g)
   ·exact .inr ⟨l',us,e',k1,k2,DenAll.same up k3⟩
  | st=>exact g2
  | bt t=>exact ⟨g2.1.sameF up,g2.2⟩
  | al a=>exact g2
  | dk ks =>
   obtain ⟨l',e',k1,k2,k3,k4⟩:=g2;subst e';refine ⟨l',rfl,k1,?_,k3,k4⟩;show upd w1.F l (.lst vs) l'=none;rw [B4 (fun z=>n1 i _ _ q g1 (by subst z; rfl))]; exact k2
  | dl l1 ks =>
   obtain ⟨k0,k1,k2,k3⟩:=g2;refine ⟨k0,k1.mono lw' fun p hp=>(k2 p hp).2.2.1,fun p hp=>⟨(k2 p hp).1,?_,(k2 p hp).2.2⟩,k3⟩;show upd w1.F l (.lst vs) p=none;rw [B4 (fun z=>n1 i _ _ q g1 (by subst z; exact hp))]; exact (k2 p hp).2.1
  | tr t =>
   obtain ⟨k1,k2,k3⟩:=g2;refine ⟨k1.mono lw' fun p hp=>(k2 p hp).2.2.1,fun p hp=>⟨(k2 p hp).1,?_,(k2 p hp).2.2⟩,k3⟩;show upd w1.F l (.lst vs) p=none;rw [B4 (fun z=>n1 i _ _ q g1 (by subst z; exact hp))]; exact (k2 p hp).2.1
 ·obtain ⟨z1,z2,z3⟩:=E.zf a za;refine ⟨?_,z2,z3⟩;show upd w1.F l (.lst vs) a=none;rw [B4 (fun z=>n2 (by subst z; exact za))]; exact z1
theorem EnvOk.set {c:Ct} {w:Wd} {env:PEnv} {σ:St} {v:V} {s:SV} {i:Nat} (E:EnvOk c w env σ) (h:VR c w v s) (new:New c env σ v s) :
  EnvOk c w (env.set i (some s)) (σ.set i (some v)):=by
 have hl:=E.len;have hd:∀ {j:Nat} {t:SV} {u:V},(env.set i (some s))[j]?=some (some t)->(σ.set i (some v))[j]?=some (some u)->(i=j/\t=s/\u=v)\/(i≠j/\env[j]?=some (some t)/\σ[j]?=some (some u)):=by
  intro j t u q q';rw [List.getElem?_set] at q q';by_cases e:i=j
  ·subst e;rw [if_pos rfl] at q q';split at q
   ·rename_i z;rw [if_pos (by omega)] at q';cases q; cases q'; exact .inl ⟨rfl,rfl,rfl⟩
   ·cases q
  ·rw [if_neg e] at q q';exact .inr ⟨e,q,q'⟩
 refine ⟨E.wok,E.le0,by simpa using hl,fun j t q=>?_,fun j k s1 t1 v1 u1 a q1 q2 q3 q4 f1 f2=>?_,E.zf,fun a j t u za q q'=>?_⟩
 ·rw [List.getElem?_set] at q ⊢;by_cases e:i=j
  ·subst e;rw [if_pos rfl] at q ⊢;split at q
   ·rename_i z;rw [if_pos (by omega)];cases q;exact ⟨v,rfl,h⟩
   ·cases q
  ·rw [if_neg e] at q ⊢;exact E.at' j t q
 ·rcases hd q1 q3 with ⟨e1,rfl,rfl⟩ | ⟨e1,p1,p3⟩
  ·rcases hd q2 q4 with ⟨e2,rfl,rfl⟩ | ⟨e2,q2,q4⟩
   ·exact e1.symm.trans e2
   ·exact absurd f2 ((new a f1).1 k _ _ q2 q4)
  ·rcases hd q2 q4 with ⟨e2,rfl,rfl⟩ | ⟨e2,p2,p4⟩
   ·exact absurd f1 ((new a f2).1 j _ _ p1 p3)
   ·exact E.own j k _ _ _ _ a p1 p2 p3 p4 f1 f2
 ·rcases hd q q' with ⟨_,rfl,rfl⟩ | ⟨_,q,q'⟩
  ·exact fun f=>(new a f).2 za
  ·exact E.zo a j t u za q q'
end Pu
namespace Pu
open PySem L2 My Prf
abbrev PX:=PEnv->(SV->PEnv->Prop)->Prop
abbrev PDt:=PEnv->(PyData->PEnv->Prop)->Prop
abbrev PTt:=PEnv->(Bool->PEnv->Prop)->Prop
abbrev PAr:=PEnv->(LP->PEnv->Prop)->Prop
abbrev PAs:=PEnv->(List SV->PEnv->Prop)->Prop
theorem Res.pre {c:Ct} {w w1 w2:Wd} {env:PEnv} {σ:St} {v:V} {s:SV} (a:Lw w w1) (R:Res c w1 env σ w2 v s):Res c w env σ w2 v s:=⟨R.ev,a.trans R.lw,R.val,R.new,R.res⟩
class RE (K:Frag) (te:TE) (pe:outParam PX):Prop where
 ok:∀ (c:Ct) (w:Wd) (env:PEnv) (σ:St) (Qp:SV->PEnv->Prop) (Q:VK),c.K=K->EnvOk c w env σ->pe env Qp->(∀ v s env' w',Res c w env' σ w' v s->Qp s env'->Q v w'.H)->te σ w.H Q
class RD (K:Frag) (te:TE) (pd:outParam PDt):Prop where
 ok:∀ (c:Ct) (w:Wd) (env:PEnv) (σ:St) (Qp:PyData->PEnv->Prop) (Q:VK),c.K=K->EnvOk c w env σ->pd env Qp->(∀ v x env' w',EnvOk c w' env' σ->Lw w w'->Den K w'.F v x->Qp x env'->Q v w'.H)->te σ w.H Q
class RW (K:Frag) (te:TE) (pd:outParam PDt):Prop where
 ok:∀ (c:Ct) (w:Wd) (env:PEnv) (σ:St) (Qp:PyData->PEnv->Prop) (Q:VK),c.K=K->EnvOk c w env σ->pd env Qp->(∀ v x env' w',EnvOk c w' env' σ->Lw w w'->VV K w' v x->Qp x env'->Q v w'.H)->te σ w.H Q
def SV.asD (s:SV) (k:PyData->Prop):Prop:=match s with
 | .d x=>k x
 | .own xs=>k (.list xs)
 | _=>False
def pdat (pe:PX) (env:PEnv) (Q:PyData->PEnv->Prop):Prop:=pe env fun s e=>s.asD fun x=>Q x e
instance C2l {K:Frag} {te:TE} {pe:PX} [h:RE K te pe]:RD K te (pdat pe) where
 ok:=by
  rintro c w env σ Qp Q rfl E p k;refine h.ok c w env σ _ Q rfl E p fun v s env' w' R q=>?_;cases s with
  | d x=>exact k v x env' w' R.ev R.lw R.val q
  | own xs =>
   obtain ⟨w2,e,E2,l2,d2⟩:=R.frz;rw [<- e];exact k v _ env' w2 E2 l2 d2 q
  | bor xs=>exact (show False from q).elim
  | st=>exact (show False from q).elim
  | tr t=>exact (show False from q).elim
  | bt t=>exact (show False from q).elim
  | al t=>exact (show False from q).elim
  | dk t=>exact (show False from q).elim
  | dl t u=>exact (show False from q).elim
instance (priority:=low) rw_of {K:Frag} {te:TE} {pd:PDt} [h:RD K te pd]:RW K te pd where
 ok:=fun c w env σ Qp Q e E p k=>h.ok c w env σ Qp Q e E p fun v x env' w' E' l d q=>k v x env' w' E' l (.inl d) q
def pVar (i:Nat) (env:PEnv) (Q:SV->PEnv->Prop):Prop:=match env[i]? with
 | some (some (.d x))=>Q (.d x) env
 | some (some (.own xs))=>Q (.d (.list xs)) (env.set i (some (.d (.list xs))))
 | some (some .st)=>Q .st env
 | _=>False
def C3m (i:Nat) (env:PEnv) (Q:PyData->PEnv->Prop):Prop:=match env[i]? with
 | some (some (.d x))=>Q x env
 | some (some (.own xs))=>Q (.list xs) env
 | some (some (.bor xs))=>Q (.list xs) env
 | _=>False
theorem EnvOk.frz {c:Ct} {w:Wd} {env:PEnv} {σ:St} {i:Nat} {xs:LP} (E:EnvOk c w env σ) (h:env[i]?=some (some (.own xs))) :
  ∃ w' v,w'.H=w.H/\σ[i]?=some (some v)/\EnvOk c w' (env.set i (some (.d (.list xs)))) σ/\Lw w w'/\Den c.K w'.F v (.list xs):=by
 obtain ⟨v,hv,hV⟩:=E.at' i _ h;have hV':=hV;obtain ⟨l,vs,e,h1,h2,h3,h4,h5⟩:=hV';have up:∀ {j:Nat} {t:SV},(env.set i none)[j]?=some (some t)->i≠j/\env[j]?=some (some t):=by
  intro j t q;rw [List.getElem?_set] at q;split at q
  ·split at q <;> cases q
  ·rename_i z; exact ⟨z,q⟩
 have E':EnvOk c w (env.set i none) σ:=⟨E.wok,E.le0,by simpa using E.len,fun j s q=>E.at' j s (up q).2,fun j k s t v u a q1 q2=>E.own j k s t v u a (up q1).2 (up q2).2,E.zf,fun a j t u za q=>E.zo a j t u za (up q).2⟩;have R:Res c w (env.set i none) σ w v (.own xs):=⟨E',Lw.refl w,hV,fun a f=>⟨fun j t u q z g=>(up q).1 (E.own i j _ _ _ _ a h (up q).2 hv z f g),fun za=>E.zo a i _ _ za h hv f⟩,rfl⟩;obtain ⟨w',e',E2,l2,d2⟩:=R.frz;refine ⟨w',v,e',hv,?_,l2,d2⟩;have E3:=E2.set (i:=i) (v:=v) (s:=.d (.list xs)) d2 (fun _ z=>nomatch z);rw [List.set_set] at E3;have hi:i < σ.length:=(Zs hv).1
 rwa [show σ.set i (some v)=σ by
  refine List.ext_getElem? fun j=>?_;rw [List.getElem?_set];split
  ·rename_i z; subst z; simp [hv]
  ·rfl] at E3
instance re_var {K:Frag} {i:Nat}:RE K (tVar i) (pVar i) where
 ok:=by
  rintro c w env σ Qp Q rfl E p k;unfold pVar at p;split at p
  ·rename_i x e;obtain ⟨v,h1,h2⟩:=E.at' i _ e;exact ⟨v,h1,k v _ env w (Res.data E h2) p⟩
  ·rename_i xs e;obtain ⟨w',v,e',hv,E',l,d⟩:=E.frz e;refine ⟨v,hv,?_⟩;rw [<- e'];exact k v (.d (.list xs)) _ w' ⟨E',l,d,fun _ z=>(nomatch z),rfl⟩ p
  ·rename_i e;obtain ⟨v,h1,h2⟩:=E.at' i _ e;exact ⟨v,h1,k v _ env w ⟨E,Lw.refl w,h2,fun _ z=>(nomatch z),rfl⟩ p⟩
  ·exact p.elim
theorem VR.vv {c:Ct} {w:Wd} {v:V} {xs:LP} (l:Le c.w0 w) (h:VR c w v (.bor xs)):VV c.K w v (.list xs):=by
 rcases h with h | ⟨l',vs,e,h1,h2,h3⟩
 ·exact .inl h
 ·exact .inr ⟨l',vs,xs,e,rfl,l.h _ _ h1 h2,l.nm (by rw [h1]; simp) h2,h3⟩
instance rw_var {K:Frag} {i:Nat}:RW K (tVar i) (C3m i) where
 ok:=by
  rintro c w env σ Qp Q rfl E p k;unfold C3m at p;split at p
  ·rename_i x e;obtain ⟨v,h1,h2⟩:=E.at' i _ e;exact ⟨v,h1,k v _ env w E (Lw.refl w) (.inl h2) p⟩
  ·rename_i xs e;obtain ⟨v,h1,l,vs,e',g1,g2,g3,g4,g5⟩:=E.at' i _ e;exact ⟨v,h1,k v _ env w E (Lw.refl w) (.inr ⟨l,vs,xs,e',rfl,g1,g3,g5⟩) p⟩
  ·rename_i xs e;obtain ⟨v,h1,h2⟩:=E.at' i _ e;exact ⟨v,h1,k v _ env w E (Lw.refl w) (h2.vv E.le0) p⟩
  ·exact p.elim
def pC (x:PyData) (env:PEnv) (Q:SV->PEnv->Prop):Prop:=Q (.d x) env
theorem S1 {K:Frag} {v:V} {x:PyData} (h:∀ F,Den K F v x):RE K (tC v) (pC x) where
 ok:=by
  rintro c w env σ Qp Q rfl E p k;exact k _ _ env w (Res.data E (h _)) p
instance re_int {K:Frag} {i:Int}:RE K (tC (.int i)) (pC (.int i)):=S1 fun _=>.int i
instance re_bl {K:Frag} {b:Bool}:RE K (tC (.bl b)) (pC (.bool b)):=S1 fun _=>.bl b
instance re_non {K:Frag}:RE K (tC .non) (pC .none):=S1 fun _=>.non
instance re_str {K:Frag} {x:Str}:RE K (tC (.str x)) (pC (.str x)):=S1 fun _=>.str x
class GD (K:Frag) (a:Addr) (x:outParam PyData):Prop where
 ok:∀ F,Den K F (.ref a) x
instance re_glob {K:Frag} {a:Addr} {x:PyData} [h:GD K a x]:RE K (tC (.ref a)) (pC x):=S1 h.ok
class RO (K:Frag) (r:R2) (pr:outParam (PyData->PyData->(SV->Prop)->Prop)):Prop where
 ok:∀ (c:Ct) (w:Wd) (env:PEnv) (σ:St) (x y:V) (dx dy:PyData) (Qp:SV->Prop) (Q:VK),c.K=K->EnvOk c w env σ->VV K w x dx->VV K w y dy->pr dx dy Qp->(∀ v s w',Res c w env σ w' v s->Qp s->Q v w'.H)->r x y w.H Q
def pOp (pr:PyData->PyData->(SV->Prop)->Prop) (pa pb:PDt) (env:PEnv) (Q:SV->PEnv->Prop):Prop:=pa env fun x e1=>pb e1 fun y e2=>pr x y fun s=>Q s e2
instance re_op {K:Frag} {r:R2} {ta tb:TE} {pr:PyData->PyData->(SV->Prop)->Prop} {pa pb:PDt} [h:RO K r pr] [ha:RW K ta pa] [hb:RW K tb pb]:RE K (tOp r ta tb) (pOp pr pa pb) where
 ok:=by
  rintro c w env σ Qp Q rfl E p k;refine ha.ok c w env σ _ _ rfl E p fun x dx e1 w1 E1 l1 v1 q1=>?_;refine hb.ok c w1 e1 σ _ _ rfl E1 q1 fun y dy e2 w2 E2 l2 v2 q2=>?_;exact h.ok c w2 e2 σ x y dx dy _ _ rfl E2 (v1.mono l2) v2 q2 fun v s w' R q=>k v s e2 w' (R.pre (l1.trans l2)) q
class SG (g:Int->Int->V) (gd:outParam (Int->Int->PyData)):Prop where
 ok:∀ i j K F,Den K F (g i j) (gd i j)
instance sg_int {f:Int->Int->Int}:SG (fun i j=>.int (f i j)) (fun i j=>.int (f i j)):=⟨fun _ _ _ _=>.int _⟩
instance sg_bl {f:Int->Int->Bool}:SG (fun i j=>.bl (f i j)) (fun i j=>.bool (f i j)):=⟨fun _ _ _ _=>.bl _⟩
def pI (C:Int->Int->Prop) (gd:Int->Int->PyData) (x y:PyData) (Q:SV->Prop):Prop:=match x,y with
 | .int i,.int j=>C i j/\Q (.d (gd i j))
 | _,_=>False
def pI0 (gd:Int->Int->PyData) (x y:PyData) (Q:SV->Prop):Prop:=match x,y with
 | .int i,.int j=>Q (.d (gd i j))
 | _,_=>False
theorem VV.intE {K:Frag} {w:Wd} {v:V} {i:Int} (h:VV K w v (.int i)):v=.int i:=by
 rcases h with h | ⟨l,vs,xs,e,e',_⟩
 ·exact h.intE
 ·cases e'
theorem VV.blE {K:Frag} {w:Wd} {v:V} {b:Bool} (h:VV K w v (.bool b)):v=.bl b:=by
 rcases h with h | ⟨l,vs,xs,e,e',_⟩
 ·exact h.blE
 ·cases e'
instance ro_I {K:Frag} {C:Int->Int->Prop} {g:Int->Int->V} {gd:Int->Int->PyData} [s:SG g gd]:RO K (rI C g) (pI C gd) where
 ok:=by
  rintro c w env σ x y dx dy Qp Q rfl E vx vy p k;unfold pI at p;split at p
  ·rename_i i j;exact ⟨i,j,vx.intE,vy.intE,p.1,k _ _ w (Res.data E (s.ok i j _ _)) p.2⟩
  ·exact p.elim
instance ro_I0 {K:Frag} {g:Int->Int->V} {gd:Int->Int->PyData} [s:SG g gd]:RO K (rI0 g) (pI0 gd) where
 ok:=by
  rintro c w env σ x y dx dy Qp Q rfl E vx vy p k;unfold pI0 at p;split at p
  ·rename_i i j;exact ⟨i,j,vx.intE,vy.intE,k _ _ w (Res.data E (s.ok i j _ _)) p⟩
  ·exact p.elim
def pEqD (x y:PyData) (Q:SV->Prop):Prop:=x.canLay0=true/\y.canLay0=true/\x.depth<=60/\Q (.d (.bool (PyData.eqv x y)))
def pNeD (x y:PyData) (Q:SV->Prop):Prop:=x.canLay0=true/\y.canLay0=true/\x.depth<=60/\Q (.d (.bool (!PyData.eqv x y)))
def isNo:PyData->Bool
 | .none=>true
 | _=>false
def rIsN:R2:=fun x y H Q=>y=.non/\Q (.bl (decide (x=.non))) H
def C57:R2:=fun x y H Q=>y=.non/\Q (.bl (!decide (x=.non))) H
theorem G0 {X:Cx}:OpR X (compareOp .Is) rIsN:=C72
theorem B7c {X:Cx}:OpR X (compareOp .IsNot) C57:=C36
theorem Den.no {K:Frag} {F:Hpp} {v:V} {x:PyData} (h:Den K F v x):decide (v=.non)=isNo x:=by cases h <;> rfl
theorem VV.no {K:Frag} {w:Wd} {v:V} {x:PyData} (h:VV K w v x):decide (v=.non)=isNo x:=by
 rcases h with h | ⟨l,vs,xs,e,e',_⟩
 ·exact Den.no h
 ·subst e; subst e'; rfl
def pIsN (x y:PyData) (Q:SV->Prop):Prop:=y=.none/\Q (.d (.bool (isNo x)))
def C3t (x y:PyData) (Q:SV->Prop):Prop:=y=.none/\Q (.d (.bool (!isNo x)))
theorem VV.nonE {K:Frag} {w:Wd} {v:V} (h:VV K w v .none):v=.non:=by
 rcases h with h | ⟨l,vs,xs,e,e',_⟩
 ·exact h.nonE
 ·cases e'
instance ro_isN {K:Frag}:RO K rIsN pIsN where
 ok:=by
  rintro c w env σ x y dx dy Qp Q rfl E vx vy ⟨rfl,p⟩ k;refine ⟨vy.nonE,k _ _ w (Res.data E ?_) p⟩;rw [vx.no]; exact .bl _
instance ro_notN {K:Frag}:RO K C57 C3t where
 ok:=by
  rintro c w env σ x y dx dy Qp Q rfl E vx vy ⟨rfl,p⟩ k;refine ⟨vy.nonE,k _ _ w (Res.data E ?_) p⟩;rw [vx.no]; exact .bl _
def pGet (xs:LP) (i:Int) (Q:SV->Prop):Prop:=match atI xs i with
 | some z=>Q (.d z)
 | none=>False
def pIx (x y:PyData) (Q:SV->Prop):Prop:=match x,y with
 | .list xs,.int i=>pGet xs i Q
 | .tuple xs,.int i=>pGet xs i Q
 | _,_=>False
theorem VV.lst {K:Frag} {w:Wd} {v:V} {xs:LP} (o:w.Ok) (h:VV K w v (.list xs)):∃ a vs,v=.ref a/\SqL K w.H a vs/\DenAll K w.F vs xs:=by
 rcases h with h | ⟨l,vs,ys,e,e',h1,h2,h3⟩
 ·obtain ⟨a,vs,e,h1,h2⟩:=h.lstE;exact ⟨a,vs,e,o.sub.seq h1,h2⟩
 ·cases e'; exact ⟨l,vs,e,SqL.of h1,h3⟩
theorem VV.tup {K:Frag} {w:Wd} {v:V} {xs:LP} (o:w.Ok) (h:VV K w v (.tuple xs)):∃ a vs,v=.ref a/\SqT K w.H a vs/\DenAll K w.F vs xs:=by
 rcases h with h | ⟨l,vs,ys,e,e',h1,h2,h3⟩
 ·obtain ⟨a,vs,e,h1,h2⟩:=h.tupE;exact ⟨a,vs,e,SqT.same o.sub h1,h2⟩
 ·cases e'
instance ro_ix {K:Frag}:RO K (rIx K) pIx where
 ok:=by
  rintro c w env σ x y dx dy Qp Q rfl E vx vy p k;unfold pIx at p;split at p
  ·rename_i xs i;unfold pGet at p;split at p
   ·rename_i z hz;obtain ⟨a,vs,e,h1,h2⟩:=vx.lst E.wok;obtain ⟨v,g1,g2⟩:=h2.atIE hz;exact .inl ⟨a,vs,i,v,e,vy.intE,h1,g1,k _ _ w (Res.data E g2) p⟩
   ·exact p.elim
  ·rename_i xs i;unfold pGet at p;split at p
   ·rename_i z hz;obtain ⟨a,vs,e,h1,h2⟩:=vx.tup E.wok;obtain ⟨v,g1,g2⟩:=h2.atIE hz;exact .inr (.inl ⟨a,vs,i,v,e,vy.intE,h1,g1,k _ _ w (Res.data E g2) p⟩)
   ·exact p.elim
  ·exact p.elim
theorem C4h {X:Cx} {K:Frag} (h:X.K=K):IxR X (rIx K):=by subst h; exact C89
def pU (gd:Int->PyData) (x:PyData) (Q:SV->Prop):Prop:=match x with
 | .int i=>Q (.d (gd i))
 | _=>False
def pUn (f:PyData->(SV->Prop)->Prop) (pa:PDt) (env:PEnv) (Q:SV->PEnv->Prop):Prop:=pa env fun x e=>f x fun s=>Q s e
instance re_neg {K:Frag} {ta:TE} {pa:PDt} {f:Int->Int} [ha:RW K ta pa]:RE K (tUn (rU fun i=>.int (f i)) ta) (pUn (pU fun i=>.int (f i)) pa) where
 ok:=by
  rintro c w env σ Qp Q rfl E p k;refine ha.ok c w env σ _ _ rfl E p fun x dx e1 w1 E1 l1 v1 q1=>?_;unfold pU at q1;split at q1
  ·rename_i i;exact ⟨i,v1.intE,k _ _ e1 w1 ((Res.data E1 (.int _)).pre l1) q1⟩
  ·exact q1.elim
inductive VVs (K:Frag) (w:Wd):List V->LP->Prop
 | nil:VVs K w [] []
 | cons {v:V} {x:PyData} {vs:List V} {xs:LP}:VV K w v x->VVs K w vs xs->VVs K w (v :: vs) (x :: xs)
class RAv (K:Frag) (ta:TA) (pa:outParam PAr):Prop where
 ok:∀ (c:Ct) (w:Wd) (env:PEnv) (σ:St) (Qp:LP->PEnv->Prop) (Q:List V->Hpp->Prop),c.K=K->EnvOk c w env σ->pa env Qp->(∀ vs xs env' w',EnvOk c w' env' σ->Lw w w'->VVs K w' vs xs->Qp xs env'->Q vs w'.H)->ta σ w.H Q
class RAd (K:Frag) (ta:TA) (pa:outParam PAr):Prop where
 ok:∀ (c:Ct) (w:Wd) (env:PEnv) (σ:St) (Qp:LP->PEnv->Prop) (Q:List V->Hpp->Prop),c.K=K->EnvOk c w env σ->pa env Qp->(∀ vs xs env' w',EnvOk c w' env' σ->Lw w w'->DenAll K w'.F vs xs->Qp xs env'->Q vs w'.H)->ta σ w.H Q
def pNil (env:PEnv) (Q:LP->PEnv->Prop):Prop:=Q [] env
def A1f (pa:PDt) (pr:PAr) (env:PEnv) (Q:LP->PEnv->Prop):Prop:=pa env fun x e1=>pr e1 fun xs e2=>Q (x :: xs) e2
instance rav_nil {K:Frag}:RAv K tNil pNil:=⟨fun c w env σ Qp Q _ E p k=>k [] [] env w E (Lw.refl w) .nil p⟩
instance rad_nil {K:Frag}:RAd K tNil pNil:=⟨fun c w env σ Qp Q _ E p k=>k [] [] env w E (Lw.refl w) .nil p⟩
instance rav_cons {K:Frag} {ta:TE} {tr:TA} {pa:PDt} {pr:PAr} [ha:RW K ta pa] [hr:RAv K tr pr]:RAv K (J3 ta tr) (A1f pa pr) where
 ok:=by
  rintro c w env σ Qp Q rfl E p k;refine ha.ok c w env σ _ _ rfl E p fun x dx e1 w1 E1 l1 v1 q1=>?_;refine hr.ok c w1 e1 σ _ _ rfl E1 q1 fun vs xs e2 w2 E2 l2 v2 q2=>?_;exact k _ _ e2 w2 E2 (l1.trans l2) (.cons (v1.mono l2) v2) q2
instance rad_cons {K:Frag} {ta:TE} {tr:TA} {pa:PDt} {pr:PAr} [ha:RD K ta pa] [hr:RAd K tr pr]:RAd K (J3 ta tr) (A1f pa pr) where
 ok:=by
  rintro c w env σ Qp Q rfl E p k;refine ha.ok c w env σ _ _ rfl E p fun x dx e1 w1 E1 l1 v1 q1=>?_;refine hr.ok c w1 e1 σ _ _ rfl E1 q1 fun vs xs e2 w2 E2 l2 v2 q2=>?_;exact k _ _ e2 w2 E2 (l1.trans l2) (.cons (Den.same l2.f v1) v2) q2
def pTup (pa:PAr) (env:PEnv) (Q:SV->PEnv->Prop):Prop:=pa env fun xs e=>xs.length<=1000/\Q (.d (.tuple xs)) e
def pLst (pa:PAr) (env:PEnv) (Q:SV->PEnv->Prop):Prop:=pa env fun xs e=>xs.length<=1000/\Q (.own xs) e
instance re_tup {K:Frag} {ta:TA} {pa:PAr} [ha:RAd K ta pa]:RE K (tTup ta) (pTup pa) where
 ok:=by
  rintro c w env σ Qp Q rfl E p k;refine ha.ok c w env σ _ _ rfl E p fun vs xs e1 w1 E1 l1 v1 q1=>⟨?_,fun p hp=>?_⟩
  ·rw [v1.len]; exact Nat.le_of_lt (A13 q1.1)
  ·exact k _ _ e1 _ ((Res.tup E1 hp v1).pre l1) q1.2
instance re_lst {K:Frag} {ta:TA} {pa:PAr} [ha:RAd K ta pa]:RE K (tLst ta) (pLst pa) where
 ok:=by
  rintro c w env σ Qp Q rfl E p k;refine ha.ok c w env σ _ _ rfl E p fun vs xs e1 w1 E1 l1 v1 q1=>⟨?_,fun p hp=>?_⟩
  ·rw [v1.len]; exact Nat.le_of_lt (A13 q1.1)
  ·exact k _ _ e1 _ ((Res.lst E1 hp v1).pre l1) q1.2
class RB (K:Frag) (r:List V->Hpp->VK->Prop) (pr:outParam (LP->(SV->Prop)->Prop)):Prop where
 ok:∀ (c:Ct) (w:Wd) (env:PEnv) (σ:St) (vs:List V) (xs:LP) (Qp:SV->Prop) (Q:VK),c.K=K->EnvOk c w env σ->VVs K w vs xs->pr xs Qp->(∀ v s w',Res c w env σ w' v s->Qp s->Q v w'.H)->r vs w.H Q
def pCB (pr:LP->(SV->Prop)->Prop) (pa:PAr) (env:PEnv) (Q:SV->PEnv->Prop):Prop:=pa env fun xs e=>pr xs fun s=>Q s e
instance re_cb {K:Frag} {r:List V->Hpp->VK->Prop} {ta:TA} {pr:LP->(SV->Prop)->Prop} {pa:PAr} [h:RB K r pr] [ha:RAv K ta pa]:RE K (tCB r ta) (pCB pr pa) where
 ok:=by
  rintro c w env σ Qp Q rfl E p k;refine ha.ok c w env σ _ _ rfl E p fun vs xs e1 w1 E1 l1 v1 q1=>?_;exact h.ok c w1 e1 σ vs xs _ _ rfl E1 v1 q1 fun v s w' R q=>k v s e1 w' (R.pre l1) q
def rAbs:List V->Hpp->VK->Prop:=fun xs H Q=>∃ i,xs=[.int i]/\Q (.int (if i < 0 then -i else i)) H
def rInt:List V->Hpp->VK->Prop:=fun xs H Q=>(∃ i,xs=[.int i]/\Q (.int i) H)\/∃ k,xs=[.bl k]/\Q (.int (if k then 1 else 0)) H
def rIsi (K:Frag):List V->Hpp->VK->Prop:=fun xs H Q=>∃ x c T b,xs=[x,.ty c]/\TyV K H x T/\kitB T c=some b/\Q (.bl b) H
section
variable {X:Cx}
theorem Z5:CallR X (.builtin "abs") rAbs:=B72
theorem A3w:CallR X (.type "int") rInt:=A3x
theorem D9 {K:Frag} (h:X.K=K):CallR X (.builtin "isinstance") (rIsi K):=by subst h; exact A49
end
def pLen (xs:LP) (Q:SV->Prop):Prop:=match xs with
 | [.list ys]=>Q (.d (.int ys.length))
 | [.tuple ys]=>Q (.d (.int ys.length))
 | _=>False
def pAbs (xs:LP) (Q:SV->Prop):Prop:=match xs with
 | [.int i]=>Q (.d (.int (if i < 0 then -i else i)))
 | _=>False
def pMax (xs:LP) (Q:SV->Prop):Prop:=match xs with
 | [.int i,.int j]=>Q (.d (.int (if j > i then j else i)))
 | _=>False
def pMin (xs:LP) (Q:SV->Prop):Prop:=match xs with
 | [.int i,.int j]=>Q (.d (.int (if j < i then j else i)))
 | _=>False
def pInt (xs:LP) (Q:SV->Prop):Prop:=match xs with
 | [.int i]=>Q (.d (.int i))
 | [.bool k]=>Q (.d (.int (if k then 1 else 0)))
 | _=>False
def B9s (xs:LP) (Q:SV->Prop):Prop:=match xs with
 | [.list ys]=>Q (.own ys)
 | [.tuple ys]=>Q (.own ys)
 | _=>False
instance rb_abs {K:Frag}:RB K rAbs pAbs where
 ok:=by
  rintro c w env σ vs xs Qp Q rfl E vv p k;unfold pAbs at p;split at p
  ·cases vv with | cons h t=>cases t; exact ⟨_,by rw [h.intE],k _ _ w (Res.data E (.int _)) p⟩
  ·exact p.elim
instance rb_int {K:Frag}:RB K rInt pInt where
 ok:=by
  rintro c w env σ vs xs Qp Q rfl E vv p k;unfold pInt at p;split at p
  ·cases vv with | cons h t=>cases t; exact .inl ⟨_,by rw [h.intE],k _ _ w (Res.data E (.int _)) p⟩
  ·cases vv with | cons h t=>cases t; exact .inr ⟨_,by rw [h.blE],k _ _ w (Res.data E (.int _)) p⟩
  ·exact p.elim
def tyD:PyData->String
 | .none=>"NoneType"
 | .bool _=>"bool"
 | .int _=>"int"
 | .str _=>"str"
 | .list _=>"list"
 | .tuple _=>"tuple"
 | .dict _=>"dict"
theorem Den.ty {K:Frag} {H:Hpp} {v:V} {x:PyData} (h:Den K H v x):TyV K H v (tyD x):=by
 cases h with
 | non=>rfl
 | bl=>rfl
 | int=>rfl
 | str=>rfl
 | lst h _=>exact .inl ⟨rfl,_,h⟩
 | tup h _=>exact .inr (.inl ⟨rfl,_,h.1⟩)
 | dct h=>exact .inr (.inr ⟨rfl,_,h⟩)
def pIsi (c:String) (pa:PDt) (env:PEnv) (Q:SV->PEnv->Prop):Prop:=pa env fun x e=>match kitB (tyD x) c with
 | some b=>Q (.d (.bool b)) e
 | none=>False
instance (priority:=high) re_isi {K:Frag} {ta:TE} {pa:PDt} {c:String} [ha:RW K ta pa]:RE K (tCB (rIsi K) (J3 ta (J3 (tC (.ty c)) tNil))) (pIsi c pa) where
 ok:=by
  rintro ct w env σ Qp Q rfl E p k;refine ha.ok ct w env σ _ _ rfl E p fun x dx e1 w1 E1 l1 v1 q1=>?_;split at q1
  ·rename_i b hb;exact ⟨x,c,_,b,rfl,Den.ty (v1.den E1.wok),hb,k _ _ e1 w1 ((Res.data E1 (.bl _)).pre l1) q1⟩
  ·exact q1.elim
end Pu
namespace Pu
open PySem L2 My Prf
class RT (K:Frag) (tt:TT) (pt:outParam PTt):Prop where
 ok:∀ (c:Ct) (w:Wd) (env:PEnv) (σ:St) (Qp:Bool->PEnv->Prop) (Q:Bool->Hpp->Prop),c.K=K->EnvOk c w env σ->pt env Qp->(∀ b env' w',EnvOk c w' env' σ->Lw w w'->Qp b env'->Q b w'.H)->tt σ w.H Q
def asB (x:PyData) (k:Bool->Prop):Prop:=match x with
 | .bool b=>k b
 | _=>False
def B66 (pa:PDt) (env:PEnv) (Q:Bool->PEnv->Prop):Prop:=pa env fun x e=>asB x fun b=>Q b e
instance rt_test {K:Frag} {ta:TE} {pa:PDt} [ha:RW K ta pa]:RT K (A9m ta) (B66 pa) where
 ok:=by
  rintro c w env σ Qp Q rfl E p k;refine ha.ok c w env σ _ _ rfl E p fun x dx e1 w1 E1 l1 v1 q1=>?_;unfold asB at q1;split at q1
  ·exact ⟨_,v1.blE,k _ e1 w1 E1 l1 q1⟩
  ·exact q1.elim
instance rt_B {K:Frag} {ta:TE} {pa:PDt} [ha:RW K ta pa]:RT K (tB ta) (B66 pa) where
 ok:=by
  rintro c w env σ Qp Q rfl E p k;refine ha.ok c w env σ _ _ rfl E p fun x dx e1 w1 E1 l1 v1 q1=>?_;unfold asB at q1;split at q1
  ·exact ⟨_,v1.blE,k _ e1 w1 E1 l1 q1⟩
  ·exact q1.elim
def pYes (env:PEnv) (Q:Bool->PEnv->Prop):Prop:=Q true env
instance rt_yes {K:Frag}:RT K tYes pYes:=⟨fun c w env σ Qp Q _ E p k=>k true env w E (Lw.refl w) p⟩
def pNot (pa:PTt) (env:PEnv) (Q:Bool->PEnv->Prop):Prop:=pa env fun b e=>Q (!b) e
def pAnd (pa pb:PTt) (env:PEnv) (Q:Bool->PEnv->Prop):Prop:=pa env fun b e=>if b=true then pb e Q else Q false e
def pOr (pa pb:PTt) (env:PEnv) (Q:Bool->PEnv->Prop):Prop:=pa env fun b e=>if b=true then Q true e else pb e Q
instance rt_not {K:Frag} {ta:TT} {pa:PTt} [ha:RT K ta pa]:RT K (tNot ta) (pNot pa) where
 ok:=by
  rintro c w env σ Qp Q rfl E p k;exact ha.ok c w env σ _ _ rfl E p fun b e1 w1 E1 l1 q1=>k _ e1 w1 E1 l1 q1
instance rt_and {K:Frag} {ta tb:TT} {pa pb:PTt} [ha:RT K ta pa] [hb:RT K tb pb]:RT K (tAnd ta tb) (pAnd pa pb) where
 ok:=by
  rintro c w env σ Qp Q rfl E p k;refine ha.ok c w env σ _ _ rfl E p fun b e1 w1 E1 l1 q1=>?_;cases b with
  | true=>exact hb.ok c w1 e1 σ _ _ rfl E1 q1 fun b e2 w2 E2 l2 q2=>k _ e2 w2 E2 (l1.trans l2) q2
  | false=>exact k _ e1 w1 E1 l1 q1
instance rt_or {K:Frag} {ta tb:TT} {pa pb:PTt} [ha:RT K ta pa] [hb:RT K tb pb]:RT K (tOr ta tb) (pOr pa pb) where
 ok:=by
  rintro c w env σ Qp Q rfl E p k;refine ha.ok c w env σ _ _ rfl E p fun b e1 w1 E1 l1 q1=>?_;cases b with
  | false=>exact hb.ok c w1 e1 σ _ _ rfl E1 q1 fun b e2 w2 E2 l2 q2=>k _ e2 w2 E2 (l1.trans l2) q2
  | true=>exact k _ e1 w1 E1 l1 q1
def C3s (pa:PDt) (env:PEnv) (Q:SV->PEnv->Prop):Prop:=pa env fun x e=>asB x fun b=>Q (.d (.bool (!b))) e
def C34 (pa:PDt) (pb:PX) (env:PEnv) (Q:SV->PEnv->Prop):Prop:=pa env fun x e=>asB x fun b=>if b=true then pb e Q else Q (.d (.bool false)) e
def pOrV (pa:PDt) (pb:PX) (env:PEnv) (Q:SV->PEnv->Prop):Prop:=pa env fun x e=>asB x fun b=>if b=true then Q (.d (.bool true)) e else pb e Q
instance re_notV {K:Frag} {ta:TE} {pa:PDt} [ha:RW K ta pa]:RE K (C13 ta) (C3s pa) where
 ok:=by
  rintro c w env σ Qp Q rfl E p k;refine ha.ok c w env σ _ _ rfl E p fun x dx e1 w1 E1 l1 v1 q1=>?_;unfold asB at q1;split at q1
  ·exact ⟨_,v1.blE,k _ _ e1 w1 ((Res.data E1 (.bl _)).pre l1) q1⟩
  ·exact q1.elim
instance re_andV {K:Frag} {ta tb:TE} {pa:PDt} {pb:PX} [ha:RW K ta pa] [hb:RE K tb pb]:RE K (C17 ta tb) (C34 pa pb) where
 ok:=by
  rintro c w env σ Qp Q rfl E p k;refine ha.ok c w env σ _ _ rfl E p fun x dx e1 w1 E1 l1 v1 q1=>?_;unfold asB at q1;split at q1
  ·rename_i b;refine ⟨_,v1.blE,?_⟩;cases b with
   | true=>exact hb.ok c w1 e1 σ _ _ rfl E1 q1 fun v s e2 w2 R q2=>k _ _ e2 w2 (R.pre l1) q2
   | false=>exact k _ _ e1 w1 ((Res.data E1 (.bl _)).pre l1) q1
  ·exact q1.elim
def pIfE (pt:PTt) (pa pb:PX) (env:PEnv) (Q:SV->PEnv->Prop):Prop:=pt env fun b e=>if b=true then pa e Q else pb e Q
instance re_if {K:Frag} {tt:TT} {ta tb:TE} {pt:PTt} {pa pb:PX} [ht:RT K tt pt] [ha:RE K ta pa] [hb:RE K tb pb]:RE K (tIf tt ta tb) (pIfE pt pa pb) where
 ok:=by
  rintro c w env σ Qp Q rfl E p k;refine ht.ok c w env σ _ _ rfl E p fun b e1 w1 E1 l1 q1=>?_;cases b with
  | true=>exact ha.ok c w1 e1 σ _ _ rfl E1 q1 fun v s e2 w2 R q2=>k _ _ e2 w2 (R.pre l1) q2
  | false=>exact hb.ok c w1 e1 σ _ _ rfl E1 q1 fun v s e2 w2 R q2=>k _ _ e2 w2 (R.pre l1) q2
inductive Md where
 | dat | vw | st | bt
def TV (K:Frag) (w:Wd) (v:V) (t:OT):Prop:=Tre K w t [v]/\∀ a ∈ t.fp,¬ w.M a
theorem Tre.has {K:Frag} {w:Wd}:∀ {t:OT} {vs:List V},Tre K w t vs->∀ a ∈ t.fp,w.H a≠none
 | .leaf _,_,_,_,z=>nomatch z
 | .nd _ p _,_,⟨_,_,h,k⟩,a,z=>(List.mem_cons.mp z).elim (fun e=>by rw [e,h]; simp) (Tre.has k a)
 | .nil,_,_,_,z=>nomatch z
 | .cons _ _,_,⟨_,_,_,h,t⟩,a,z=>(Za z).elim (Tre.has h a) (Tre.has t a)
inductive Args (K:Frag) (w:Wd):List Md->List V->List SV->Prop
 | nil:Args K w [] [] []
 | dat {v:V} {x:PyData} {md:List Md} {vs:List V} {as:List SV}:Den K w.F v x->Args K w md vs as->Args K w (.dat :: md) (v :: vs) (.d x :: as)
 | vw {v:V} {xs:LP} {md:List Md} {vs:List V} {as:List SV}:VV K w v (.list xs)->Args K w md vs as->Args K w (.vw :: md) (v :: vs) (.bor xs :: as)
 | bt {v:V} {t:OT} {md:List Md} {vs:List V} {as:List SV}:TV K w v t->Args K w md vs as->Args K w (.bt :: md) (v :: vs) (.bt t :: as)
 | st {v:V} {md:List Md} {vs:List V} {as:List SV}:(∃ p,v=.ref p/\w.M p)->Args K w md vs as->Args K w (.st :: md) (v :: vs) (.st :: as)
theorem Args.len {K:Frag} {w:Wd}:∀ {md vs as},Args K w md vs as->vs.length=md.length
 | _,_,_,.nil=>rfl
 | _,_,_,.dat _ t=>congrArg (· + 1) (Args.len t)
 | _,_,_,.vw _ t=>congrArg (· + 1) (Args.len t)
 | _,_,_,.st _ t=>congrArg (· + 1) (Args.len t)
 | _,_,_,.bt _ t=>congrArg (· + 1) (Args.len t)
abbrev PSp:=List SV->(SV->Prop)->Prop
def noZ:Addr->Prop:=fun _=>False
def spOf (K:Frag) (md:List Md) (psp:PSp):Sp:=fun vs H Q _=>∃ (w:Wd) (as:List SV) (Qp:SV->Prop),w.H=H/\w.Ok/\Args K w md vs as/\psp as Qp /\
 ∀ v s w',w'.Ok->Le w w'->VR ⟨K,w,noZ⟩ w' v s->s.isRes=true->Qp s->Q v w'.H
theorem spOf.len {K:Frag} {md:List Md} {psp:PSp} {n:Nat} (h:md.length=n):∀ vs H Q E,spOf K md psp vs H Q E->vs.length=n:=by
 rintro vs H Q E ⟨w,as,Qp,_,_,a,_⟩;exact a.len.trans h
class RAm (K:Frag) (md:List Md) (ta:TA) (pa:outParam PAs):Prop where
 ok:∀ (c:Ct) (w:Wd) (env:PEnv) (σ:St) (Qp:List SV->PEnv->Prop) (Q:List V->Hpp->Prop),c.K=K->EnvOk c w env σ->pa env Qp->(∀ vs as env' w',EnvOk c w' env' σ->Lw w w'->Args K w' md vs as->Qp as env'->Q vs w'.H)->ta σ w.H Q
def C3u (env:PEnv) (Q:List SV->PEnv->Prop):Prop:=Q [] env
def B14 (pa:PDt) (pr:PAs) (env:PEnv) (Q:List SV->PEnv->Prop):Prop:=pa env fun x e1=>pr e1 fun as e2=>Q (.d x :: as) e2
def asL (x:PyData) (k:LP->Prop):Prop:=match x with
 | .list xs=>k xs
 | _=>False
def B13 (pa:PDt) (pr:PAs) (env:PEnv) (Q:List SV->PEnv->Prop):Prop:=pa env fun x e1=>asL x fun xs=>pr e1 fun as e2=>Q (.bor xs :: as) e2
def isSt (o:Option (Option SV)) (k:Prop):Prop:=match o with
 | some (some .st)=>k
 | _=>False
def A6o (i:Nat) (pr:PAs) (env:PEnv) (Q:List SV->PEnv->Prop):Prop:=isSt env[i]? (pr env fun as e2=>Q (.st :: as) e2)
instance ram_nil {K:Frag}:RAm K [] tNil C3u:=⟨fun c w env σ Qp Q _ E p k=>k [] [] env w E (Lw.refl w) .nil p⟩
instance ram_dat {K:Frag} {md:List Md} {ta:TE} {tr:TA} {pa:PDt} {pr:PAs} [ha:RD K ta pa] [hr:RAm K md tr pr]:RAm K (.dat :: md) (J3 ta tr) (B14 pa pr) where
 ok:=by
  rintro c w env σ Qp Q rfl E p k;refine ha.ok c w env σ _ _ rfl E p fun x dx e1 w1 E1 l1 v1 q1=>?_;refine hr.ok c w1 e1 σ _ _ rfl E1 q1 fun vs xs e2 w2 E2 l2 v2 q2=>?_;exact k _ _ e2 w2 E2 (l1.trans l2) (.dat (Den.same l2.f v1) v2) q2
instance ram_vw {K:Frag} {md:List Md} {ta:TE} {tr:TA} {pa:PDt} {pr:PAs} [ha:RW K ta pa] [hr:RAm K md tr pr]:RAm K (.vw :: md) (J3 ta tr) (B13 pa pr) where
 ok:=by
  rintro c w env σ Qp Q rfl E p k;refine ha.ok c w env σ _ _ rfl E p fun x dx e1 w1 E1 l1 v1 q1=>?_;unfold asL at q1;split at q1
  ·refine hr.ok c w1 e1 σ _ _ rfl E1 q1 fun vs xs e2 w2 E2 l2 v2 q2=>?_;exact k _ _ e2 w2 E2 (l1.trans l2) (.vw (v1.mono l2) v2) q2
  ·exact q1.elim
instance ram_st {K:Frag} {md:List Md} {i:Nat} {tr:TA} {pr:PAs} [hr:RAm K md tr pr]:RAm K (.st :: md) (J3 (tVar i) tr) (A6o i pr) where
 ok:=by
  rintro c w env σ Qp Q rfl E p k;unfold A6o isSt at p;split at p
  ·rename_i e;obtain ⟨v,h1,h2⟩:=E.at' i _ e;refine ⟨v,h1,?_⟩;refine hr.ok c w env σ _ _ rfl E p fun vs xs e2 w2 E2 l2 v2 q2=>?_;obtain ⟨q,e',hm⟩:=h2;exact k _ _ e2 w2 E2 l2 (.st ⟨q,e',l2.m _ hm⟩ v2) q2
  ·exact p.elim
def C7x (psp:PSp) (pa:PAs) (env:PEnv) (Q:SV->PEnv->Prop):Prop:=pa env fun as e=>psp as fun s=>Q s e
theorem Res.called {c:Ct} {w w':Wd} {env:PEnv} {σ:St} {v:V} {s:SV} (E:EnvOk c w env σ) (ok:w'.Ok) (l:Le w w') (h:VR ⟨c.K,w,noZ⟩ w' v s) (r:s.isRes=true):Res c w env σ w' v s:=by
 refine ⟨E.mono ok l,l.toLw,?_,fun a f=>E.fresh (h.foot f).2.2.2,r⟩;cases s with
 | d x=>exact h
 | own xs=>obtain ⟨a,vs,e,h1,h2,h3,h4,h5⟩:=h; exact ⟨a,vs,e,h1,h2,h3,E.le0.dom _ h4,h5⟩
 | bor xs=>cases r
 | bt t=>cases r
 | al t=>cases r
 | dk ks=>obtain ⟨l',e,h1,h2,h3,h4⟩:=h; exact ⟨l',e,h1,h2,h3,E.le0.dom _ h4⟩
 | dl l1 ks=>exact ⟨h.1,h.2.1,fun a f=>⟨(h.2.2.1 a f).1,(h.2.2.1 a f).2.1,(h.2.2.1 a f).2.2.1,E.le0.dom _ (h.2.2.1 a f).2.2.2⟩,h.2.2.2⟩
 | st=>exact h
 | tr t=>exact ⟨h.1,fun a f=>⟨(h.2.1 a f).1,(h.2.1 a f).2.1,(h.2.1 a f).2.2.1,E.le0.dom _ (h.2.1 a f).2.2.2⟩,h.2.2⟩
instance re_call {K:Frag} {md:List Md} {psp:PSp} {E0':XK} {ta:TA} {pa:PAs} [ha:RAm K md ta pa]:RE K (B57 (spOf K md psp) [] E0' ta) (C7x psp pa) where
 ok:=by
  rintro c w env σ Qp Q rfl E p k;refine ha.ok c w env σ _ _ rfl E p fun vs as e1 w1 E1 l1 a1 q1=>?_;rw [List.append_nil];exact ⟨w1,as,_,rfl,E1.wok,a1,q1,fun v s w' ok l h r q=>k v s e1 w' ((Res.called E1 ok l h r).pre l1) q⟩
structure PEnds where
 nx:PEnv->Prop
 rt:SV->PEnv->Prop
 bk:PEnv->Prop
 ct:PEnv->Prop
abbrev PSt:=PEnds->PEnv->Prop
structure EndsOk (c:Ct) (w:Wd) (Dp:PEnds) (D:Ends):Prop where
 nx:∀ env σ w',EnvOk c w' env σ->Same w.F w'.F->Dp.nx env->D.nx σ w'.H
 rt:∀ v s env σ w',EnvOk c w' env σ->VR c w' v s->s.isRes=true->Dp.rt s env->D.rt v w'.H
 bk:∀ env σ w',EnvOk c w' env σ->Same w.F w'.F->Dp.bk env->D.bk σ w'.H
 ct:∀ env σ w',EnvOk c w' env σ->Same w.F w'.F->Dp.ct env->D.ct σ w'.H
theorem EndsOk.on {c:Ct} {w w1:Wd} {Dp:PEnds} {D:Ends} (h:EndsOk c w Dp D) (s:Same w.F w1.F):EndsOk c w1 Dp D :=
 ⟨fun e σ w' E s'=>h.nx e σ w' E (s.trans s'),h.rt,fun e σ w' E s'=>h.bk e σ w' E (s.trans s'),fun e σ w' E s'=>h.ct e σ w' E (s.trans s')⟩
class RS (K:Frag) (ts:TS) (ps:outParam PSt):Prop where
 ok:∀ (c:Ct) (w:Wd) (env:PEnv) (σ:St) (Dp:PEnds) (D:Ends),c.K=K->EnvOk c w env σ->EndsOk c w Dp D->ps Dp env->ts D σ w.H
def C3v (D:PEnds) (env:PEnv):Prop:=D.nx env
def C0d (D:PEnds) (env:PEnv):Prop:=D.bk env
def C7r (D:PEnds) (env:PEnv):Prop:=D.ct env
def B1i (_:PEnds) (_:PEnv):Prop:=False
def pSeq (p q:PSt) (D:PEnds) (env:PEnv):Prop:=p { D with nx:=q D } env
instance rs_next {K:Frag}:RS K C14 C3v:=⟨fun c w env σ Dp D _ E h p=>h.nx env σ w E (Same.refl _) p⟩
instance rs_never {K:Frag}:RS K A5r B1i:=⟨fun c w env σ Dp D _ E h p=>p.elim⟩
instance rs_seq {K:Frag} {t u:TS} {p q:PSt} [ht:RS K t p] [hu:RS K u q]:RS K (tSeq t u) (pSeq p q) where
 ok:=by
  rintro c w env σ Dp D rfl E h pr;refine ht.ok c w env σ { Dp with nx:=q Dp } _ rfl E ⟨fun e1 σ1 w1 E1 s1 n1=>?_,h.rt,h.bk,h.ct⟩ pr;exact hu.ok c w1 e1 σ1 Dp D rfl E1 (h.on s1) n1
def C7o (pe:PX) (D:PEnds) (env:PEnv):Prop:=pe env fun _ e=>D.nx e
def pRet (pe:PX) (D:PEnds) (env:PEnv):Prop:=pe env fun s e=>D.rt s e
instance (priority:=low) rs_ret {K:Frag} {te:TE} {pe:PX} [he:RE K te pe]:RS K (tRet te) (pRet pe) where
 ok:=by
  rintro c w env σ Dp D rfl E h p;exact he.ok c w env σ _ _ rfl E p fun v s e1 w1 R q=>h.rt v s e1 σ w1 R.ev R.val R.res q
def C3q (i:Nat) (D:PEnds) (env:PEnv):Prop:=match env[i]? with
 | some (some (.bor _))=>False
 | some (some (.bt _))=>False
 | some (some (.al _))=>False
 | some (some s)=>D.rt s env
 | _=>False
instance rs_retV {K:Frag} {i:Nat}:RS K (tRet (tVar i)) (C3q i) where
 ok:=by
  rintro c w env σ Dp D rfl E h p;unfold C3q at p;split at p
  ·exact p.elim
  ·exact p.elim
  ·exact p.elim
  ·rename_i s hn hn2 hn3 e;obtain ⟨v,h1,h2⟩:=E.at' i _ e;refine ⟨v,h1,h.rt v s env σ w E h2 ?_ p⟩;cases s with
   | bor xs=>exact absurd rfl (hn xs)
   | bt t=>exact absurd rfl (hn2 t)
   | al t=>exact absurd rfl (hn3 t)
   | _=>rfl
  ·exact p.elim
def C67 (D:PEnds) (env:PEnv):Prop:=D.rt (.d .none) env
def pIf (pt:PTt) (p q:PSt) (D:PEnds) (env:PEnv):Prop:=pt env fun b e=>if b=true then p D e else q D e
instance rs_if {K:Frag} {tt:TT} {t u:TS} {pt:PTt} {p q:PSt} [hc:RT K tt pt] [ht:RS K t p] [hu:RS K u q]:RS K (tIfS tt t u) (pIf pt p q) where
 ok:=by
  rintro c w env σ Dp D rfl E h pr;refine hc.ok c w env σ _ _ rfl E pr fun b e1 w1 E1 l1 q1=>?_;cases b with
  | true=>exact ht.ok c w1 e1 σ Dp D rfl E1 (h.on l1.f) q1
  | false=>exact hu.ok c w1 e1 σ Dp D rfl E1 (h.on l1.f) q1
def pAsg (pe:PX) (i:Nat) (D:PEnds) (env:PEnv):Prop:=pe env fun s e=>D.nx (e.set i (some s))
instance rs_asg {K:Frag} {te:TE} {pe:PX} {i:Nat} [he:RE K te pe]:RS K (tAsg te (Y5 i)) (pAsg pe i) where
 ok:=by
  rintro c w env σ Dp D rfl E h p;exact he.ok c w env σ _ _ rfl E p fun v s e1 w1 R q=>h.nx _ _ w1 (R.ev.set R.val R.new) R.lw.f q
class RG (K:Frag) (g:TG) (pg:outParam (PyData->PEnv->(PEnv->Prop)->Prop)):Prop where
 ok:∀ (c:Ct) (w:Wd) (env:PEnv) (σ:St) (v:V) (x:PyData) (Qp:PEnv->Prop) (Q:St->Hpp->Prop),c.K=K->EnvOk c w env σ->Den K w.F v x->pg x env Qp->(∀ env' σ',EnvOk c w env' σ'->Qp env'->Q σ' w.H)->g v σ w.H Q
class RGs (K:Frag) (g:TGs) (pg:outParam (LP->PEnv->(PEnv->Prop)->Prop)):Prop where
 ok:∀ (c:Ct) (w:Wd) (env:PEnv) (σ:St) (vs:List V) (xs:LP) (Qp:PEnv->Prop) (Q:St->Hpp->Prop),c.K=K->EnvOk c w env σ->DenAll K w.F vs xs->pg xs env Qp->(∀ env' σ',EnvOk c w env' σ'->Qp env'->Q σ' w.H)->g vs σ w.H Q
def B0c (i:Nat) (x:PyData) (env:PEnv) (Q:PEnv->Prop):Prop:=Q (env.set i (some (.d x)))
instance rg_name {K:Frag} {i:Nat}:RG K (Y5 i) (B0c i) where
 ok:=by
  rintro c w env σ v x Qp Q rfl E d p k;exact k _ _ (E.set (s:=.d x) d (fun _ z=>nomatch z)) p
def qNil (xs:LP) (env:PEnv) (Q:PEnv->Prop):Prop:=match xs with
 | []=>Q env
 | _=>False
def C2w (pg:PyData->PEnv->(PEnv->Prop)->Prop) (pr:LP->PEnv->(PEnv->Prop)->Prop) (xs:LP) (env:PEnv) (Q:PEnv->Prop):Prop:=match xs with
 | x :: r=>pg x env fun e=>pr r e Q
 | []=>False
def qTup (n:Nat) (pr:LP->PEnv->(PEnv->Prop)->Prop) (x:PyData) (env:PEnv) (Q:PEnv->Prop):Prop:=match x with
 | .tuple xs=>xs.length=n/\pr xs env Q
 | _=>False
instance rgs_nil {K:Frag}:RGs K gNil qNil where
 ok:=by
  rintro c w env σ vs xs Qp Q rfl E d p k;unfold qNil at p;split at p
  ·cases d; exact ⟨rfl,k env σ E p⟩
  ·exact p.elim
instance rgs_cons {K:Frag} {g:TG} {gs:TGs} {pg:PyData->PEnv->(PEnv->Prop)->Prop} {pr:LP->PEnv->(PEnv->Prop)->Prop} [hg:RG K g pg] [hr:RGs K gs pr]:RGs K (C4m g gs) (C2w pg pr) where
 ok:=by
  rintro c w env σ vs xs Qp Q rfl E d p k;unfold C2w at p;split at p
  ·cases d with
   | cons h t =>
    refine ⟨_,_,rfl,hg.ok c w env σ _ _ _ _ rfl E h p fun e1 σ1 E1 q1=>?_⟩;exact hr.ok c w e1 σ1 _ _ _ _ rfl E1 t q1 k
  ·exact p.elim
instance rg_tup {K:Frag} {n:Nat} {gs:TGs} {pr:LP->PEnv->(PEnv->Prop)->Prop} [hr:RGs K gs pr]:RG K (gTup K n gs) (qTup n pr) where
 ok:=by
  rintro c w env σ v x Qp Q rfl E d p k;unfold qTup at p;split at p
  ·obtain ⟨a,vs,e,h1,h2⟩:=d.tupE;exact ⟨a,vs,e,SqT.same E.wok.sub h1,h2.len.trans p.1,hr.ok c w env σ _ _ _ _ rfl E h2 p.2 k⟩
  ·exact p.elim
def C33 (pd:PDt) (n:Nat) (pr:LP->PEnv->(PEnv->Prop)->Prop) (D:PEnds) (env:PEnv):Prop:=pd env fun x e=>qTup n pr x e D.nx
instance rs_asgT {K:Frag} {te:TE} {pd:PDt} {n:Nat} {gs:TGs} {pr:LP->PEnv->(PEnv->Prop)->Prop} [he:RD K te pd] [hr:RGs K gs pr]:RS K (tAsg te (gTup K n gs)) (C33 pd n pr) where
 ok:=by
  rintro c w env σ Dp D rfl E h p;refine he.ok c w env σ _ _ rfl E p fun v x e1 w1 E1 l1 d1 q1=>?_;exact rg_tup.ok c w1 e1 σ v x _ _ rfl E1 d1 q1 fun e2 σ2 E2 q2=>h.nx e2 σ2 w1 E2 l1.f q2
def pPar (i j:Nat) (pa:PAr) (D:PEnds) (env:PEnv):Prop:=pa env fun xs e=>match xs with
 | [x,y]=>D.nx ((e.set i (some (.d x))).set j (some (.d y)))
 | _=>False
instance rs_par {K:Frag} {ta:TA} {pa:PAr} {i j:Nat} [ha:RAd K ta pa]:RS K (tPar i j ta) (pPar i j pa) where
 ok:=by
  rintro c w env σ Dp D rfl E h p;refine ha.ok c w env σ _ _ rfl E p fun vs xs e1 w1 E1 l1 d1 q1=>?_;split at q1
  ·cases d1 with
   | cons a t=>cases t with
    | cons b t =>
     cases t;exact ⟨_,_,rfl,h.nx _ _ w1 ((E1.set (s:=.d _) a (fun _ z=>nomatch z)).set (s:=.d _) b (fun _ z=>nomatch z)) l1.f q1⟩
  ·exact q1.elim
def N9 (o:Option (Option SV)) (k:LP->Prop):Prop:=match o with
 | some (some (.own xs))=>k xs
 | _=>False
theorem EnvOk.writeAt {c:Ct} {w:Wd} {env:PEnv} {σ:St} {i:Nat} {s s':SV} {l:Addr} {wo:HO} {v:V} (E:EnvOk c w env σ) (e:env[i]?=some (some s)) (hσ:σ[i]?=some (some v)) (hf:s.foot v l) (hf':∀ a,s'.foot v a->s.foot v a)
  (hd:VR c ⟨w.M,upd w.H l wo,w.F⟩ v s'):EnvOk c ⟨w.M,upd w.H l wo,w.F⟩ (env.set i (some s')) σ:=by
 obtain ⟨h1,h2,h3,h4⟩:=(E.look e hσ).foot hf;have ne:∀ b,w.M b->b≠l:=fun b hb z=>h3 (z ▸ hb);have hd':∀ {j:Nat} {t:SV},(env.set i (some s'))[j]?=some (some t)->(i=j/\t=s')\/(i≠j/\env[j]?=some (some t)):=by
  intro j t q;rw [List.getElem?_set] at q;split at q
  ·rename_i z;split at q
   ·cases q; exact .inl ⟨z,rfl⟩
   ·cases q
  ·rename_i z; exact .inr ⟨z,q⟩
 have ft:∀ {j:Nat} {t:SV} {u:V} {a:Addr},(env.set i (some s'))[j]?=some (some t)->σ[j]?=some (some u)->t.foot u a->∃ t',env[j]?=some (some t')/\t'.foot u a:=by
  intro j t u a q qu f;rcases hd' q with ⟨rfl,rfl⟩ | ⟨_,q⟩
  ·rw [hσ] at qu; cases qu; exact ⟨s,e,hf' a f⟩
  ·exact ⟨t,q,f⟩
 refine ⟨⟨fun b o q=>?_,fun p hp=>(E.wok.st p hp).kp (ne p hp) Kp.upd,E.wok.nf⟩,⟨⟨E.le0.f,fun b o q n=>?_,E.le0.m,E.le0.mn,fun b q=>E.le0.dom b (G5 q)⟩,E.le0.n⟩,by simpa using E.len,fun j t q=>?_,fun j k s1 t1 v1 u1 a q1 q2 q3 q4 f1 f2=>?_,fun a za=>?_,fun a j t u za q q' f=>?_⟩
 ·show upd w.H l wo b=some o;rw [B4 (fun z=>by rw [z,h2] at q; cases q)]; exact E.wok.sub b o q
 ·show upd w.H l wo b=some o;rw [B4 (fun z=>by rw [z,h4] at q; cases q)]; exact E.le0.h b o q n
 ·rcases hd' q with ⟨rfl,rfl⟩ | ⟨z,q⟩
  ·exact ⟨v,hσ,hd⟩
  ·obtain ⟨u,g1,g2⟩:=E.at' j t q;exact ⟨u,g1,g2.writ h1 fun f=>z (E.own i j _ _ _ _ l e q hσ g1 hf f)⟩
 ·obtain ⟨_,p1,g1⟩:=ft q1 q3 f1;obtain ⟨_,p2,g2⟩:=ft q2 q4 f2;exact E.own j k _ _ _ _ a p1 p2 q3 q4 g1 g2
 ·obtain ⟨z1,z2,z3⟩:=E.zf a za;exact ⟨z1,fun q=>z2 (G5 q),z3⟩
 ·obtain ⟨_,p,g⟩:=ft q q' f;exact E.zo a j _ _ za p q' g
theorem EnvOk.write {c:Ct} {w:Wd} {env:PEnv} {σ:St} {i:Nat} {xs ys:LP} {l:Addr} {vs us:List V} (E:EnvOk c w env σ) (e:env[i]?=some (some (.own xs))) (hσ:σ[i]?=some (some (.ref l))) (h1:w.H l=some (.lst vs)) (h2:w.F l=none) (h3:¬ w.M l) (h4:c.w0.H l=none)
  (hd:DenAll c.K w.F us ys):EnvOk c ⟨w.M,upd w.H l (.lst us),w.F⟩ (env.set i (some (.own ys))) σ :=
 E.writeAt e hσ rfl (fun _ f=>f) ⟨l,us,rfl,B5,h2,h3,h4,hd⟩
def pApp (i:Nat) (pd:PDt) (D:PEnds) (env:PEnv):Prop:=N9 env[i]? fun _=>pd env fun x e=>N9 e[i]? fun xs=>xs.length < 1000000/\D.nx (e.set i (some (.own (xs++[x]))))
theorem A0b {n:Nat} (h:n < 1000000):n < sizeLine:=Nat.lt_of_lt_of_le h (by decide)
instance rs_app {K:Frag} {i:Nat} {te:TE} {pd:PDt} [he:RD K te pd]:RS K (B56 (tBM K "list" A4j (tVar i) (J3 te tNil))) (pApp i pd) where
 ok:=by
  rintro c w env σ Dp D rfl E h p;unfold pApp N9 at p;split at p
  ·rename_i xs0 e0;obtain ⟨v,g0,l,vs,ev,h1,h2,h3,h4,h5⟩:=E.at' i _ e0;subst ev;refine ⟨_,g0,.inl ⟨rfl,_,SqL.of h1⟩,?_⟩;refine he.ok c w env σ _ _ rfl E p fun y x e1 w1 E1 l1 d1 q1=>?_;split at q1
   ·rename_i xs e;obtain ⟨v',g0',l',vs',ev',k1,k2,k3,k4,k5⟩:=E1.at' i _ e;rw [g0] at g0'; cases g0'; cases ev';refine ⟨l,vs',y,rfl,rfl,k1,by rw [k5.len]; exact A0b q1.1,?_⟩;exact h.nx _ σ ⟨w1.M,upd w1.H l (.lst (vs'++[y])),w1.F⟩ (E1.write e g0 k1 k2 k3 k4 (k5.app (.cons d1 .nil))) l1.f q1.2
   ·exact q1.elim
  ·exact p.elim
def C0b (i:Nat) (D:PEnds) (env:PEnv):Prop:=N9 env[i]? fun _=>D.nx (env.set i (some (.own [])))
def C7a (i:Nat) (D:PEnds) (env:PEnv):Prop:=N9 env[i]? fun xs=>0 < xs.length/\D.nx (env.set i (some (.own xs.dropLast)))
end Pu
namespace L2
open PySem PySem.Spec PyProof.Rows
section
variable {X:Cx} {tg:Expr}
def iSq (K:PySem.W.Frag) (tl:TE):TI:=fun σ H R=>tl σ H fun x H1=>(∃ a,x=.ref a/\(∃ xs,SqL K H1 a xs)/\R (Itl K a) H1)\/∃ a,x=.ref a/\(∃ xs,SqT K H1 a xs)/\R (Itt K a) H1
theorem D0t {l:Expr} {tl:TE} (hl:PE X l tl):PI X tg l (iSq X.K tl):=by
 intro pins s σ H R I h;refine thn (hl pins s σ H _ I h) fun v s1 ⟨x,H1,I1,r1,q1⟩=>?_;rcases q1 with ⟨a,e,⟨xs,hq⟩,q⟩ | ⟨a,e,⟨xs,hq⟩,q⟩
 ·subst e;cases r1;obtain ⟨its,rv,p,hz⟩:=I1.list hq;refine wpAny_pyIter_list p.isList ?_;refine ⟨s1.heap.objs.size,[s1.heap.objs.size],_,_,H1,rfl,I1.kept (t':=s1.toks) fun b o e=>Heap.get?_push_of_some _ e,A9i a _,⟨_,Heap.get?_push_size _ rfl,rfl,rfl⟩,fun b hb=>?_,q⟩;have e:b=s1.heap.objs.size:=by simpa using hb
  subst e;exact I1.fpOk (Zv _) (I1.hok.fresh (Zv _))
 ·subst e;cases r1;obtain ⟨its,rv,p,hz⟩:=I1.tuple hq;refine wpAny_pyIter_tuple (show s1.heap.IsTuple a its.toArray from p) ?_;refine ⟨s1.heap.objs.size,[s1.heap.objs.size],_,_,H1,rfl,I1.kept (t':=s1.toks) fun b o e=>Heap.get?_push_of_some _ e,A71 a _,⟨_,Heap.get?_push_size _ rfl,rfl,rfl⟩,fun b hb=>?_,q⟩;have e:b=s1.heap.objs.size:=by simpa using hb
  subst e;exact I1.fpOk (Zv _) (I1.hok.fresh (Zv _))
theorem C6p {K:PySem.W.Frag} {l:Expr} {tl:TE} (h:X.K=K) (hl:PE X l tl):PI X tg l (iSq K tl):=by subst h; exact D0t hl
theorem B9 {K:PySem.W.Frag} (h:X.K=K) (hu:X.A.units + 64 < cLine):OpR X (compareOp .Eq) (rEqD K):=by subst h; exact C76 hu
theorem R3 {K:PySem.W.Frag} (h:X.K=K) (hu:X.A.units + 64 < cLine):OpR X (compareOp .NotEq) (rNeD K):=by subst h; exact C71 hu
theorem F4 {K:PySem.W.Frag} (h:X.K=K):SlR X (rSlL K):=by subst h; exact C2f
end
end L2
namespace Pu
open PySem L2 My Prf
def A6f (pt:PTt) (pb:PSt) (D:PEnds) (env:PEnv):Prop:=∃ Inv:Nat->PEnv->Prop,(∃ m,Inv m env)/\∀ m e,Inv m e->pt e fun b e2=>if b=true then pb ⟨fun e3=>∃ m',m' < m/\Inv m' e3,D.rt,D.nx,fun e3=>∃ m',m' < m/\Inv m' e3⟩ e2 else D.nx e2
instance rs_while {K:Frag} {tt:TT} {tb:TS} {pt:PTt} {pb:PSt} [ht:RT K tt pt] [hb:RS K tb pb]:RS K (A9l tt tb) (A6f pt pb) where
 ok:=by
  rintro c w env σ Dp D rfl E h ⟨Inv,⟨m0,i0⟩,step⟩;refine ⟨fun m σ' H'=>∃ e w',w'.H=H'/\EnvOk c w' e σ'/\Same w.F w'.F/\Inv m e,⟨m0,env,w,rfl,E,Same.refl _,i0⟩,?_⟩;rintro m σ1 _ ⟨e1,w1,rfl,E1,s1,i1⟩;refine ht.ok c w1 e1 σ1 _ _ rfl E1 (step m e1 i1) fun b e2 w2 E2 l2 q2=>?_;cases b with
  | true =>
   refine ⟨fun σ' H'=>∃ e w',w'.H=H'/\EnvOk c w' e σ'/\Same w.F w'.F/\∃ m',m' < m/\Inv m' e,fun σ' H' ⟨e,w',e1,E',s',m',hm,i'⟩=>⟨m',hm,e,w',e1,E',s',i'⟩,?_⟩;refine hb.ok c w2 e2 σ1 ⟨fun e3=>∃ m',m' < m/\Inv m' e3,Dp.rt,Dp.nx,fun e3=>∃ m',m' < m/\Inv m' e3⟩ _ rfl E2 ⟨fun e3 σ3 w3 E3 s3 n3=>⟨e3,w3,rfl,E3,s1.trans (l2.f.trans s3),n3⟩,h.rt,fun e3 σ3 w3 E3 s3 n3=>h.nx e3 σ3 w3 E3 (s1.trans (l2.f.trans s3)) n3,fun e3 σ3 w3 E3 s3 n3=>⟨e3,w3,rfl,E3,s1.trans (l2.f.trans s3),n3⟩⟩ q2
  | false=>exact h.nx e2 σ1 w2 E2 (s1.trans l2.f) q2
def Walk (c:Ct) (w1:Wd) (J:It) (xs:LP):Prop :=
 ∀ w',w'.Ok->Le c.w0 w'->Same w1.F w'.F->(∀ i,i < xs.length->J.go i w'.H)/\J.stop xs.length w'.H/\∀ i v H',J.yld i w'.H v H'->i < xs.length->∃ w2 x,w2.H=H'/\w2.Ok/\Le w' w2/\xs[i]?=some x/\Den c.K w2.F v x
class RI (K:Frag) (wi:TI) (pi:outParam PAr):Prop where
 ok:∀ (c:Ct) (w:Wd) (env:PEnv) (σ:St) (Qp:LP->PEnv->Prop) (R:It->Hpp->Prop),c.K=K->EnvOk c w env σ->pi env Qp->(∀ J xs env' w',EnvOk c w' env' σ->Lw w w'->Walk c w' J xs->Qp xs env'->R J w'.H)->wi σ w.H R
theorem O0 {c:Ct} {w1:Wd} {a:Addr} {vs:List V} {xs:LP} (d:DenAll c.K w1.F vs xs) (h:∀ w',w'.Ok->Le c.w0 w'->Same w1.F w'.F->SqL c.K w'.H a vs):Walk c w1 (Itl c.K a) xs:=by
 intro w' ok l s;have q:=h w' ok l s;have hl:=d.len;refine ⟨fun i hi=>⟨vs,vs[i]'(by omega),q,Zg _⟩,⟨vs,q,by omega⟩,fun i v H' y hi=>?_⟩;obtain ⟨e,y⟩:=y;obtain ⟨x,g1,g2⟩:=d.get (y vs q);exact ⟨w',x,e.symm,ok,Le.refl w',g1,Den.same s g2⟩
theorem A5h {c:Ct} {w1:Wd} {a:Addr} {vs:List V} {xs:LP} (d:DenAll c.K w1.F vs xs) (h:∀ w',w'.Ok->Le c.w0 w'->Same w1.F w'.F->SqT c.K w'.H a vs):Walk c w1 (Itt c.K a) xs:=by
 intro w' ok l s;have q:=h w' ok l s;have hl:=d.len;refine ⟨fun i hi=>⟨vs,vs[i]'(by omega),q,Zg _⟩,⟨vs,q,by omega⟩,fun i v H' y hi=>?_⟩;obtain ⟨e,y⟩:=y;obtain ⟨x,g1,g2⟩:=d.get (y vs q);exact ⟨w',x,e.symm,ok,Le.refl w',g1,Den.same s g2⟩
def V2 (x:PyData) (k:LP->Prop):Prop:=match x with
 | .list xs=>k xs
 | .tuple xs=>k xs
 | _=>False
def C3z (pd:PDt) (env:PEnv) (Q:LP->PEnv->Prop):Prop:=pd env fun x e=>V2 x fun xs=>Q xs e
instance (priority:=low) ri_sq {K:Frag} {tl:TE} {pd:PDt} [hl:RD K tl pd]:RI K (iSq K tl) (C3z pd) where
 ok:=by
  rintro c w env σ Qp R rfl E p k;refine hl.ok c w env σ _ _ rfl E p fun v x e1 w1 E1 l1 d1 q1=>?_;unfold V2 at q1;split at q1
  ·obtain ⟨a,vs,e,h1,h2⟩:=d1.lstE;exact .inl ⟨a,e,⟨vs,E1.wok.sub.seq h1⟩,k _ _ e1 w1 E1 l1 (O0 h2 fun w' ok l s=>(s.trans ok.sub).seq h1) q1⟩
  ·obtain ⟨a,vs,e,h1,h2⟩:=d1.tupE;exact .inr ⟨a,e,⟨vs,SqT.same E1.wok.sub h1⟩,k _ _ e1 w1 E1 l1 (A5h h2 fun w' ok l s=>SqT.same (s.trans ok.sub) h1) q1⟩
  ·exact q1.elim
def B1w (i:Nat) (env:PEnv) (Q:LP->PEnv->Prop):Prop:=match env[i]? with
 | some (some (.d x))=>V2 x fun xs=>Q xs env
 | some (some (.own xs))=>Q xs (env.set i (some (.d (.list xs))))
 | some (some (.bor xs))=>Q xs env
 | _=>False
instance ri_var {K:Frag} {i:Nat}:RI K (iSq K (tVar i)) (B1w i) where
 ok:=by
  rintro c w env σ Qp R rfl E p k;unfold B1w at p;split at p
  ·rename_i x e;obtain ⟨v,h1,h2⟩:=E.at' i _ e;refine ⟨v,h1,?_⟩;unfold V2 at p;split at p
   ·obtain ⟨a,vs,e,g1,g2⟩:=Den.lstE h2;exact .inl ⟨a,e,⟨vs,E.wok.sub.seq g1⟩,k _ _ env w E (Lw.refl w) (O0 g2 fun w' ok l s=>(s.trans ok.sub).seq g1) p⟩
   ·obtain ⟨a,vs,e,g1,g2⟩:=Den.tupE h2;exact .inr ⟨a,e,⟨vs,SqT.same E.wok.sub g1⟩,k _ _ env w E (Lw.refl w) (A5h g2 fun w' ok l s=>SqT.same (s.trans ok.sub) g1) p⟩
   ·exact p.elim
  ·rename_i xs e;obtain ⟨w',v,e',hv,E',l,d⟩:=E.frz e;refine ⟨v,hv,?_⟩;obtain ⟨a,vs,e,g1,g2⟩:=d.lstE;have:=k _ _ _ w' E' l (O0 g2 fun w' ok l s=>(s.trans ok.sub).seq g1) p;rw [e'] at this;exact .inl ⟨a,e,⟨vs,by rw [<- e']; exact E'.wok.sub.seq g1⟩,this⟩
  ·rename_i xs e;obtain ⟨v,h1,h2⟩:=E.at' i _ e;refine ⟨v,h1,?_⟩;rcases h2 with h2 | ⟨l,vs,ev,g1,g2,g3⟩
   ·obtain ⟨a,vs,e,g1,g2⟩:=Den.lstE h2;exact .inl ⟨a,e,⟨vs,E.wok.sub.seq g1⟩,k _ _ env w E (Lw.refl w) (O0 g2 fun w' ok l s=>(s.trans ok.sub).seq g1) p⟩
   ·exact .inl ⟨l,ev,⟨vs,SqL.of (E.le0.h _ _ g1 g2)⟩,k _ _ env w E (Lw.refl w) (O0 g3 fun w' ok l' s=>SqL.of (l'.h _ _ g1 g2)) p⟩
  ·exact p.elim
def rngD (lo:Int) (n:Nat):LP:=(List.range n).map fun k:Nat=>PyData.int (lo + (k:Int))
theorem V5 (lo:Int) (n:Nat):(rngD lo n).length=n:=by simp [rngD]
theorem B6h {lo:Int} {n i:Nat} {x:PyData} (h:(rngD lo n)[i]?=some x):i < n/\x=.int (lo + (i:Int)):=by
 unfold rngD at h;rw [Zh] at h;by_cases hi:i < n
 ·rw [List.getElem?_range hi] at h; cases h; exact ⟨hi,rfl⟩
 ·rw [List.getElem?_eq_none (by simpa using hi)] at h; cases h
theorem A5i {c:Ct} {w1:Wd} {lo:Int} {n:Nat}:Walk c w1 (Itr lo n) (rngD lo n):=by
 intro w' ok l s;refine ⟨fun i hi=>by rw [V5] at hi; exact hi,by rw [V5]; exact Zv _,fun i v H' y hi=>?_⟩;obtain ⟨e,y⟩:=y;subst y;rw [V5] at hi;refine ⟨w',.int (lo + i),e.symm,ok,Le.refl w',?_,.int _⟩;unfold rngD;rw [Zh,List.getElem?_range hi]; rfl
def C66 (pa:PAr) (env:PEnv) (Q:LP->PEnv->Prop):Prop:=pa env fun xs e=>match xs with
 | [.int j]=>(-(2 ^ 62)<=j/\j < 2 ^ 62)/\Q (rngD 0 j.toNat) e
 | _=>False
def C65 (pa:PAr) (env:PEnv) (Q:LP->PEnv->Prop):Prop:=pa env fun xs e=>match xs with
 | [.int i,.int j]=>(-(2 ^ 62)<=i/\i < 2 ^ 62/\-(2 ^ 62)<=j/\j < 2 ^ 62)/\Q (rngD i (j - i).toNat) e
 | _=>False
instance ri_rng1 {K:Frag} {ta:TA} {pa:PAr} [ha:RAv K ta pa]:RI K (C4j ta) (C66 pa) where
 ok:=by
  rintro c w env σ Qp R rfl E p k;refine ha.ok c w env σ _ _ rfl E p fun vs xs e1 w1 E1 l1 v1 q1=>?_;split at q1
  ·cases v1 with | cons h t=>cases t; exact ⟨_,by rw [h.intE],q1.1.1,q1.1.2,k _ _ e1 w1 E1 l1 A5i q1.2⟩
  ·exact q1.elim
instance ri_rng2 {K:Frag} {ta:TA} {pa:PAr} [ha:RAv K ta pa]:RI K (C4i ta) (C65 pa) where
 ok:=by
  rintro c w env σ Qp R rfl E p k;refine ha.ok c w env σ _ _ rfl E p fun vs xs e1 w1 E1 l1 v1 q1=>?_;split at q1
  ·cases v1 with | cons h t=>cases t with | cons h' t=>cases t; exact ⟨_,_,by rw [h.intE,h'.intE],q1.1,k _ _ e1 w1 E1 l1 A5i q1.2⟩
  ·exact q1.elim
def B1z (xs:LP) (pg:PyData->PEnv->(PEnv->Prop)->Prop) (pb:PSt) (D:PEnds) (env:PEnv):Prop :=
 ∃ Inv:Nat->PEnv->Prop,Inv 0 env/\(∀ i x e,xs[i]?=some x->Inv i e->pg x e fun e2=>pb ⟨Inv (i + 1),D.rt,D.nx,Inv (i + 1)⟩ e2)/\∀ e,Inv xs.length e->D.nx e
def pFor (pi:PAr) (pg:PyData->PEnv->(PEnv->Prop)->Prop) (pb:PSt) (D:PEnds) (env:PEnv):Prop:=pi env fun xs e=>B1z xs pg pb D e
instance rs_for {K:Frag} {wi:TI} {g:TG} {tb:TS} {pi:PAr} {pg:PyData->PEnv->(PEnv->Prop)->Prop} {pb:PSt} [hi:RI K wi pi] [hg:RG K g pg] [hb:RS K tb pb]:RS K (tFor wi g tb) (pFor pi pg pb) where
 ok:=by
  rintro c w env σ Dp D rfl E h p;refine hi.ok c w env σ _ _ rfl E p fun J xs e1 w1 E1 l1 wk ⟨Iv,i0,step,fin⟩=>?_;refine ⟨fun i m σ' H'=>m=xs.length - i/\i<=xs.length/\∃ e w',w'.H=H'/\EnvOk c w' e σ'/\Same w1.F w'.F/\Iv i e,⟨xs.length,rfl,Nat.zero_le _,e1,w1,rfl,E1,Same.refl _,i0⟩,?_⟩;rintro i m σ2 _ ⟨rfl,hle,e2,w2,rfl,E2,s2,i2⟩;obtain ⟨go,stop,yld⟩:=wk w2 E2.wok E2.le0 s2;by_cases hlt:i < xs.length
  ·refine .inr ⟨go i hlt,fun σ' H'=>i + 1<=xs.length/\∃ e w',w'.H=H'/\EnvOk c w' e σ'/\Same w1.F w'.F/\Iv (i + 1) e,fun σ' H' ⟨q0,q⟩=>⟨xs.length - (i + 1),by omega,rfl,q0,q⟩,fun v H' y=>?_⟩;obtain ⟨w2',x,rfl,ok2,le2,hx,dx⟩:=yld i v H' y hlt;replace E2:=E2.mono ok2 le2;replace s2:=s2.trans le2.f;clear yld go stop y le2 ok2;generalize w2'=w2 at E2 s2 dx;refine hg.ok c w2 e2 σ2 v x _ _ rfl E2 dx (step i x e2 hx i2) fun e3 σ3 E3 q3=>?_;refine hb.ok c w2 e3 σ3 ⟨Iv (i + 1),Dp.rt,Dp.nx,Iv (i + 1)⟩ _ rfl E3 ⟨fun e4 σ4 w4 E4 s4 n4=>⟨hlt,e4,w4,rfl,E4,s2.trans s4,n4⟩,h.rt,fun e4 σ4 w4 E4 s4 n4=>h.nx e4 σ4 w4 E4 (l1.f.trans (s2.trans s4)) n4,fun e4 σ4 w4 E4 s4 n4=>⟨hlt,e4,w4,rfl,E4,s2.trans s4,n4⟩⟩ q3
  ·have e:i=xs.length:=by omega
   subst e;exact .inl ⟨stop,h.nx e2 σ2 w2 E2 (l1.f.trans s2) (fin e2 i2)⟩
theorem Y6 {lo:Int} {n:Nat} {pg:PyData->PEnv->(PEnv->Prop)->Prop} {pb:PSt} {D:PEnds} {env:PEnv} (Inv:Nat->PEnv->Prop) (h0:Inv 0 env)
  (hs:∀ (i:Nat) e,i < n->Inv i e->pg (.int (lo + (i:Int))) e fun e2=>pb ⟨Inv (i + 1),D.rt,D.nx,Inv (i + 1)⟩ e2) (hd:∀ e,Inv n e->D.nx e):B1z (rngD lo n) pg pb D env :=
 ⟨Inv,h0,fun i x e hx hi=>by obtain ⟨h1,rfl⟩:=B6h hx; exact hs i e h1 hi,fun e h=>hd e (by rwa [V5] at h)⟩
def SV.lent:SV->Option SV
 | .own xs=>some (.bor xs)
 | .tr _=>none
 | .bt _=>none
 | .dk _=>none
 | .dl _ _=>none
 | s=>some s
def F5 (cap:List (Option Nat)) (env:PEnv):PEnv:=cap.map fun o=>o.bind fun j=>(env[j]?).join.bind SV.lent
theorem EnvOk.writeZ {c:Ct} {w:Wd} {env:PEnv} {σ:St} {l:Addr} {us:List V} (E:EnvOk c w env σ) (z:c.Z l) (h4:c.w0.H l=none):EnvOk c ⟨w.M,upd w.H l (.lst us),w.F⟩ env σ:=by
 obtain ⟨h2,h1,h3⟩:=E.zf l z;have ne:∀ b,w.M b->b≠l:=fun b hb z=>h3 (z ▸ hb);refine ⟨⟨fun b o q=>?_,fun p hp=>(E.wok.st p hp).kp (ne p hp) Kp.upd,E.wok.nf⟩,⟨⟨E.le0.f,fun b o q n=>?_,E.le0.m,E.le0.mn,fun b q=>E.le0.dom b (G5 q)⟩,E.le0.n⟩,E.len,fun j s q=>?_,E.own,fun a za=>?_,E.zo⟩
 ·show upd w.H l (.lst us) b=some o;rw [B4 (fun z=>by rw [z,h2] at q; cases q)]; exact E.wok.sub b o q
 ·show upd w.H l (.lst us) b=some o;rw [B4 (fun z=>by rw [z,h4] at q; cases q)]; exact E.le0.h b o q n
 ·obtain ⟨v,g1,g2⟩:=E.at' j s q;exact ⟨v,g1,g2.writ h1 (E.zo l j s v z q g1)⟩
 ·obtain ⟨z1,z2,z3⟩:=E.zf a za;exact ⟨z1,fun q=>z2 (G5 q),z3⟩
theorem EnvOk.cap {c:Ct} {w:Wd} {env:PEnv} {σ:St} {D:Addr} (cap:List (Option Nat)) (E:EnvOk c w env σ) (hD:w.H D=none):EnvOk ⟨c.K,w,fun a=>a=D⟩ (w.lay D (.lst [])) (F5 cap env) (capσ cap σ):=by
 have nown:∀ (i:Nat) s v a,(F5 cap env)[i]?=some (some s)->¬ s.foot v a:=fun i s0 v a q f=>by
  unfold F5 at q;rw [Zh] at q;cases hc:cap[i]? with
  | none=>rw [hc] at q; cases q
  | some o =>
   rw [hc] at q;cases o with
   | none=>cases q
   | some j =>
    have q':((env[j]?).join.bind SV.lent)=some s0:=Zj q;cases hj:(env[j]?).join with
    | none=>rw [hj] at q'; cases q'
    | some s=>rw [hj] at q'; cases s <;> cases q' <;> exact f
 refine ⟨Wd.lay_ok E.wok hD,Wd.lay_le hD,by simp [F5,capσ],fun i s q=>?_,fun i j s t v u a q _ _ _ f=>absurd f (nown i s v a q),fun a za=>?_,fun a j t u _ q _=>nown j t u a q⟩
 ·unfold F5 at q;unfold capσ;rw [Zh] at q ⊢;cases hc:cap[i]? with
  | none=>rw [hc] at q; cases q
  | some o =>
   rw [hc] at q;cases o with
   | none=>cases q
   | some j =>
    have q':((env[j]?).join.bind SV.lent)=some s:=Zj q;cases hj:env[j]? with
    | none=>rw [hj] at q'; cases q'
    | some t =>
     rw [hj] at q';cases t with
     | none=>cases q'
     | some s0 =>
      have q2:s0.lent=some s:=q';obtain ⟨v,h1,h2⟩:=E.at' j s0 hj;refine ⟨v,by simp [h1],?_⟩;cases s0 with
      | d x=>cases q2; exact h2
      | own xs=>cases q2; obtain ⟨l,vs,e,g1,g2,g3,g4,g5⟩:=h2; exact .inr ⟨l,vs,e,g1,g3,g5⟩
      | bor xs =>
       cases q2;rcases h2.vv E.le0 with g | ⟨l,vs,ys,e,e',g1,g2,g3⟩
       ·exact .inl g
       ·cases e'; exact .inr ⟨l,vs,e,g1,g2,g3⟩
      | st=>cases q2; exact h2
      | tr t=>cases q2
      | bt t=>cases q2
      | al t=>cases q2; exact h2
      | dk t=>cases q2
      | dl t u=>cases q2
 ·have e:a=D:=za;subst e;exact ⟨E.wok.fnone hD,by show upd w.H a (.lst []) a≠none; rw [B5]; simp,fun z=>E.wok.mne hD z rfl⟩
theorem Walk.up {c:Ct} {w:Wd} {J:It} {xs:LP} (h:Walk c w J xs) (l:Le c.w0 w):Walk ⟨c.K,w,c.Z⟩ w J xs:=fun w' ok l' s=>h w' ok (l.trans l') s
def O5 (xs:LP) (pg:PyData->PEnv->(PEnv->Prop)->Prop) (pt:PTt) (pd:PDt) (e0:PEnv) (Fin:LP->Prop):Prop :=
 ∃ Pv:Nat->PEnv->LP->Prop,Pv 0 e0 []/\(∀ i x e ys,xs[i]?=some x->Pv i e ys->pg x e fun e2=>pt e2 fun b e3=>if b=true then pd e3 fun y e4=>Pv (i + 1) e4 (ys++[y]) else Pv (i + 1) e3 ys)/\∀ e ys,Pv xs.length e ys->Fin ys
theorem B5l {K:Frag} {g:TG} {tt:TT} {te:TE} {pg:PyData->PEnv->(PEnv->Prop)->Prop} {pt:PTt} {pd:PDt} [hg:RG K g pg] [ht:RT K tt pt] [he:RD K te pd] {c:Ct} {w:Wd} {env:PEnv} {σ:St} {J:It} {xs:LP} {cap:List (Option Nat)} {D:Addr} {Fp:LP->Prop} {Fin:Hpp->Prop}
  (hK:c.K=K) (E:EnvOk c w env σ) (wk:Walk ⟨c.K,w,c.Z⟩ w J xs) (hn:xs.length < 1000000) (p:O5 xs pg pt pd (F5 cap env) Fp) (hD:w.H D=none) (k:∀ w' ys,Res c w env σ w' (.ref D) (.own ys)->Fp ys->Fin w'.H):A3r J g tt te D Fin (capσ cap σ) w.H:=by
 subst hK;obtain ⟨Pv,p0,step,fin⟩:=p;have hw0:c.w0.H D=none:=E.le0.dom D hD;refine ⟨fun i m σ' H' vs=>m=xs.length - i/\i<=xs.length/\∃ e w' ys,w'.H=H'/\EnvOk ⟨c.K,w,fun a=>a=D⟩ w' e σ'/\w'.H D=some (.lst vs)/\vs.length<=i/\DenAll c.K w'.F vs ys/\Pv i e ys,
  ⟨xs.length,rfl,Nat.zero_le _,F5 cap env,w.lay D (.lst []),[],rfl,E.cap cap hD,B5,Zv _,.nil,p0⟩,?_⟩
 rintro i m σ1 _ vs ⟨rfl,hle,e1,w1,ys,rfl,E1,h1,hvl,d1,q1⟩;refine ⟨h1,A0b (by omega),?_⟩;obtain ⟨go,stop,yld⟩:=wk w1 E1.wok E1.le0 E1.le0.f;by_cases hlt:i < xs.length
 ·refine .inr ⟨go i hlt,fun v H' y=>?_⟩;obtain ⟨w1',x,rfl,ok1',le1,hx,dx⟩:=yld i v H' y hlt;replace h1:=le1.h _ _ h1 (E1.zf D rfl).2.2;replace E1:=E1.mono ok1' le1;replace d1:=DenAll.same le1.f d1;clear yld go stop y le1 ok1';generalize w1'=w1 at E1 h1 d1 dx;refine hg.ok ⟨c.K,w,fun a=>a=D⟩ w1 e1 σ1 v x _ _ rfl E1 dx (step i x e1 ys hx q1) fun e2 σ2 E2 q2=>?_;refine ht.ok ⟨c.K,w,fun a=>a=D⟩ w1 e2 σ2 _ _ rfl E2 q2 fun b e3 w3 E3 l3 q3=>?_;have nm:=(E2.zf D rfl).2.2;have h3:=l3.h _ _ h1 nm;cases b with
  | true =>
   refine he.ok ⟨c.K,w,fun a=>a=D⟩ w3 e3 σ2 _ _ rfl E3 q3 fun y' y e4 w4 E4 l4 d4 q4=>?_;have h4:=l4.h _ _ h3 (E3.zf D rfl).2.2;refine ⟨vs,h4,A0b (by omega),xs.length - (i + 1),by omega,rfl,hlt,e4,⟨w4.M,upd w4.H D (.lst (vs++[y'])),w4.F⟩,ys++[y],rfl,E4.writeZ rfl hD,B5,by rw [Ze]; simp; exact hvl,(DenAll.same (l3.f.trans l4.f) d1).app (.cons d4 .nil),q4⟩
  | false =>
   exact ⟨xs.length - (i + 1),by omega,rfl,hlt,e3,w3,ys,rfl,E3,h3,by omega,DenAll.same l3.f d1,q3⟩
 ·have e:i=xs.length:=by omega
  subst e;obtain ⟨z1,z2,z3⟩:=E1.zf D rfl;refine .inl ⟨stop,k w1 ys ⟨E.mono E1.wok E1.le0,E1.le0.toLw,⟨D,vs,rfl,h1,z1,z3,hw0,d1⟩,fun a f=>?_,rfl⟩ (fin e1 ys q1)⟩;have:V.ref D=.ref a:=f;cases this;exact E.fresh hD
def C7s (pi:PAr) (pg:PyData->PEnv->(PEnv->Prop)->Prop) (pt:PTt) (pd:PDt) (cap:List (Option Nat)) (env:PEnv) (Q:SV->PEnv->Prop):Prop:=pi env fun xs e=>xs.length < 1000000/\O5 xs pg pt pd (F5 cap e) fun ys=>Q (.own ys) e
instance re_comp {K:Frag} {wi:TI} {g:TG} {tt:TT} {te:TE} {cap:List (Option Nat)} {pi:PAr} {pg:PyData->PEnv->(PEnv->Prop)->Prop} {pt:PTt} {pd:PDt} [hi:RI K wi pi] [hg:RG K g pg] [ht:RT K tt pt] [he:RD K te pd]:RE K (C16 wi g tt te cap) (C7s pi pg pt pd cap) where
 ok:=by
  rintro c w env σ Qp Q rfl E p k;refine hi.ok c w env σ _ _ rfl E p fun J xs e1 w1 E1 l1 wk ⟨hn,q⟩ D hD=>?_;exact B5l (pg:=pg) (pt:=pt) (pd:=pd) rfl E1 (wk.up E1.le0) hn q hD fun w' ys R q'=>k _ _ e1 w' (R.pre l1) q'
def A6g (pi:PAr) (pg:PyData->PEnv->(PEnv->Prop)->Prop) (pt:PTt) (pd:PDt) (cap:List (Option Nat)) (i:Nat) (D:PEnds) (env:PEnv):Prop:=pi env fun xs e=>xs.length < 1000000/\O5 xs pg pt pd (F5 cap e) fun ys=>D.nx (e.set i (some (.own ys)))
instance rs_setComp {K:Frag} {wi:TI} {g:TG} {tt:TT} {te:TE} {cap:List (Option Nat)} {i:Nat} {pi:PAr} {pg:PyData->PEnv->(PEnv->Prop)->Prop} {pt:PTt} {pd:PDt} [hi:RI K wi pi] [hg:RG K g pg] [ht:RT K tt pt] [he:RD K te pd]:RS K (R5 wi g tt te cap i) (A6g pi pg pt pd cap i) where
 ok:=by
  rintro c w env σ Dp D rfl E h p;refine hi.ok c w env σ _ _ rfl E p fun J xs e1 w1 E1 l1 wk ⟨hn,q⟩ l hl=>?_;exact B5l (pg:=pg) (pt:=pt) (pd:=pd) rfl E1 (wk.up E1.le0) hn q hl fun w' ys R q'=>h.nx _ _ w' (R.ev.set R.val R.new) (l1.f.trans R.lw.f) q'
class RP (K:Frag) (to:TO) (po:outParam (PEnv->(Option Int->PEnv->Prop)->Prop)):Prop where
 ok:∀ (c:Ct) (w:Wd) (env:PEnv) (σ:St) (Qp:Option Int->PEnv->Prop) (Q:Option Int->Hpp->Prop),c.K=K->EnvOk c w env σ->po env Qp->(∀ o env' w',EnvOk c w' env' σ->Lw w w'->Qp o env'->Q o w'.H)->to σ w.H Q
def A4s (env:PEnv) (Q:Option Int->PEnv->Prop):Prop:=Q none env
def asI (x:PyData) (k:Int->Prop):Prop:=match x with
 | .int i=>k i
 | _=>False
def C3r (pa:PDt) (env:PEnv) (Q:Option Int->PEnv->Prop):Prop:=pa env fun x e=>asI x fun i=>Q (some i) e
instance rp_no {K:Frag}:RP K A4e A4s:=⟨fun c w env σ Qp Q _ E p k=>k none env w E (Lw.refl w) p⟩
instance rp_part {K:Frag} {te:TE} {pa:PDt} [ha:RW K te pa]:RP K (C12 te) (C3r pa) where
 ok:=by
  rintro c w env σ Qp Q rfl E p k;refine ha.ok c w env σ _ _ rfl E p fun x dx e1 w1 E1 l1 v1 q1=>?_;unfold asI at q1;split at q1
  ·exact ⟨_,v1.intE,k _ e1 w1 E1 l1 q1⟩
  ·exact q1.elim
def cutD (xs:LP) (lo hi:Option Int):LP:=(xs.drop (HT.sIx xs.length 0 lo)).take (HT.sIx xs.length xs.length hi - HT.sIx xs.length 0 lo)
def pSlL (pa:PDt) (pl ph:PEnv->(Option Int->PEnv->Prop)->Prop) (env:PEnv) (Q:SV->PEnv->Prop):Prop:=pa env fun x e=>asL x fun xs=>pl e fun lo e1=>ph e1 fun hi e2=>Q (.own (cutD xs lo hi)) e2
instance re_sl {K:Frag} {te:TE} {tl th:TO} {pa:PDt} {pl ph:PEnv->(Option Int->PEnv->Prop)->Prop} [ha:RW K te pa] [hl:RP K tl pl] [hh:RP K th ph]:RE K (tSl (rSlL K) te tl th) (pSlL pa pl ph) where
 ok:=by
  rintro c w env σ Qp Q rfl E p k;refine ha.ok c w env σ _ _ rfl E p fun x dx e1 w1 E1 l1 v1 q1=>?_;unfold asL at q1;split at q1
  ·rename_i xs;refine hl.ok c w1 e1 σ _ _ rfl E1 q1 fun lo e2 w2 E2 l2 q2=>?_;refine hh.ok c w2 e2 σ _ _ rfl E2 q2 fun hi e3 w3 E3 l3 q3=>?_;obtain ⟨a,vs,e,g1,g2⟩:=((v1.mono l2).mono l3).lst E3.wok;refine ⟨a,vs,e,g1,fun p hp=>k _ _ e3 _ ((Res.lst E3 hp (xs:=cutD xs lo hi) ?_).pre (l1.trans (l2.trans l3))) q3⟩;unfold cutV cutD;rw [g2.len];exact (g2.drop _).take _
  ·exact q1.elim
def pRev (pa pb:PDt) (env:PEnv) (Q:SV->PEnv->Prop):Prop:=pa env fun x e=>asL x fun xs=>pb e fun k e2=>k=.int (-1)/\Q (.own xs.reverse) e2
instance re_rev {K:Frag} {te ts:TE} {pa pb:PDt} [ha:RW K te pa] [hb:RW K ts pb]:RE K (tRev K te ts) (pRev pa pb) where
 ok:=by
  rintro c w env σ Qp Q rfl E p k;refine ha.ok c w env σ _ _ rfl E p fun x dx e1 w1 E1 l1 v1 q1=>?_;unfold asL at q1;split at q1
  ·refine hb.ok c w1 e1 σ _ _ rfl E1 q1 fun y dy e2 w2 E2 l2 v2 ⟨ey,q2⟩=>?_;subst ey;obtain ⟨a,vs,e,g1,g2⟩:=(v1.mono l2).lst E2.wok;exact ⟨v2.intE,a,vs,e,g1,fun p hp=>k _ _ e2 _ ((Res.lst E2 hp g2.rev).pre (l1.trans l2)) q2⟩
  ·exact q1.elim
theorem L8 {K:Frag} {w:Wd}:∀ {md:List Md} {vs:List V} {as:List SV},Args K w md vs as->as.length=vs.length/\∀ (i:Nat) s,as[i]?=some s->(∃ v,vs[i]?=some v/\VR ⟨K,w,noZ⟩ w v s)/\∀ u a,¬ s.foot u a
 | _,_,_,.nil=>⟨rfl,fun i s h=>by simp at h⟩
 | _,_,_,.dat h t=>⟨by simp [(L8 t).1],fun i s e=>match i,e with
  | 0,e=>by simp at e; subst e; exact ⟨⟨_,rfl,h⟩,fun _ _ z=>z⟩
  | i + 1,e=>by simpa using (L8 t).2 i s (by simpa using e)⟩
 | _,_,_,.vw h t=>⟨by simp [(L8 t).1],fun i s e=>match i,e with
  | 0,e=>by
   simp at e; subst e;refine ⟨⟨_,rfl,?_⟩,fun _ _ z=>z⟩;rcases h with h | ⟨l,vs,ys,e1,e2,h1,h2,h3⟩
   ·exact .inl h
   ·cases e2; exact .inr ⟨l,vs,e1,h1,h2,h3⟩
  | i + 1,e=>by simpa using (L8 t).2 i s (by simpa using e)⟩
 | _,_,_,.bt h t=>⟨by simp [(L8 t).1],fun i s e=>match i,e with
  | 0,e=>by simp at e; subst e; exact ⟨⟨_,rfl,h⟩,fun _ _ z=>z⟩
  | i + 1,e=>by simpa using (L8 t).2 i s (by simpa using e)⟩
 | _,_,_,.st h t=>⟨by simp [(L8 t).1],fun i s e=>match i,e with
  | 0,e=>by simp at e; subst e; exact ⟨⟨_,rfl,h⟩,fun _ _ z=>z⟩
  | i + 1,e=>by simpa using (L8 t).2 i s (by simpa using e)⟩
theorem G3 {K:Frag} {ts:TS} {ps:PSt} [hs:RS K ts ps] {md:List Md} {psp:PSp} {vs:List V} {H:Hpp} {Q:VK} {E:XK} {N:List Str} (h:spOf K md psp vs H Q E)
  (hb:∀ as Qp,psp as Qp->ps ⟨fun _=>Qp (.d .none),fun s _=>Qp s,fun _=>False,fun _=>False⟩ (as.map some++List.replicate (N.length - md.length) none)):ts { nx:=fun _ H'=>Q .non H',rt:=Q } (L2.start N vs) H:=by
 obtain ⟨w,as,Qp,rfl,ok,a,p,k⟩:=h;obtain ⟨hl,hat⟩:=L8 a;have look:∀ (i:Nat) s,(as.map some++List.replicate (N.length - md.length) none)[i]?=some (some s)->as[i]?=some s:=fun i s e=>by
  rw [List.getElem?_append] at e;split at e
  ·rw [Zh] at e;cases q:as[i]? with
   | none=>rw [q] at e; cases e
   | some t=>rw [q] at e; cases e; rfl
  ·rw [List.getElem?_replicate] at e;split at e <;> cases e
 refine hs.ok ⟨K,w,noZ⟩ w (as.map some++List.replicate (N.length - md.length) none) (L2.start N vs) _ _ rfl ⟨ok,Le.refl w,by simp [L2.start,hl,a.len],fun i s e=>?_,fun i j s t v u a e _ _ _ f=>absurd f ((hat i _ (look i _ e)).2 v a),fun a z=>z.elim,fun a j t u z=>z.elim⟩ ⟨fun env σ w' E' _ q=>?_,fun v s _ _ w' E' h r q=>k v s w' E'.wok E'.le0 h r q,fun _ _ _ _ _ z=>z,fun _ _ _ _ _ z=>z⟩ (hb as Qp p)
 ·obtain ⟨⟨v,h1,h2⟩,_⟩:=hat i s (look i s e);refine ⟨v,?_,h2⟩;unfold L2.start;rw [List.getElem?_append_left (by rw [Zl]; exact (Zs h1).1),Zh,h1]; rfl
 ·exact k .non (.d .none) w' E'.wok E'.le0 (show Den _ _ _ _ from .non) rfl q
def pLaw:PSp:=fun as Q=>∃ ns:List Int,as=[.bor (ns.map .int)]/\ns.length<=63/\Q (.d (.bool true))
theorem B5i {K:Frag} {F:Hpp}:∀ ns:List Int,DenAll K F (ns.map V.int) (ns.map .int)
 | []=>.nil
 | n :: r=>.cons (.int n) (B5i r)
theorem C80 {K:Frag}:∀ vs H Q E,C2e K vs H Q E->spOf K [.vw] pLaw vs H Q E:=by
 rintro vs H Q E ⟨a,ns,rfl,hS,hl,k⟩;refine ⟨⟨fun _=>False,H,fun b=>if b=a then H a else none⟩,[.bor (ns.map .int)],fun s=>s=.d (.bool true),rfl,⟨fun b o e=>?_,fun _ z=>z.elim,fun _ z=>z.elim⟩,.vw (.inl (.lst ?_ (B5i ns))) .nil,⟨ns,rfl,hl,rfl⟩,fun v s w' ok l h r e=>?_⟩
 ·dsimp only at e;split at e
  ·rename_i z; rw [z]; exact e
  ·cases e
 ·rcases hS with (h | ⟨o,h⟩) | h
  ·exact .inl (.inl (by dsimp only; rw [if_pos rfl]; exact h))
  ·exact .inl (.inr ⟨o,by dsimp only; rw [if_pos rfl]; exact h⟩)
  ·exact .inr h
 ·subst e;have:v=.bl true:=Den.blE h;subst this;exact k _
end Pu
namespace L2
open PySem PySem.Spec PyProof.Rows
theorem C3e {X:Cx} {K:PySem.W.Frag} {e st:Expr} {te ts:TE} {pos p2:Pos} (h:X.K=K) (he:PE X e te) (hst:PE X st ts)
  (hsub:∀ (a sz:Addr),∃ ops,subscripted (.Slice none none (some st) p2) false (.ref a) (.ref sz)=operate ops (getItem (.ref a) (.ref sz)):=by intro a sz; exact ⟨_,by with_unfolding_all rfl⟩):PE X (.Subscript e (.Slice none none (some st) p2) pos) (tRev K te ts):=by subst h; exact C6t he hst hsub
end L2
namespace Pu
open PySem L2 My Prf
theorem B1v {q:Rat} {Q:SV->Prop}:pIx (dq q) (.int 0) Q=Q (.d (.int q.num)):=rfl
theorem B1u {q:Rat} {Q:SV->Prop}:pIx (dq q) (.int 1) Q=Q (.d (.int (q.den:Int))):=rfl
theorem B3y {i:Int}:(PyData.int i).canLay0=true:=rfl
theorem A63 {b:Bool}:(PyData.bool b).canLay0=true:=rfl
theorem A61:PyData.none.canLay0=true:=rfl
theorem B5f {i:Int}:(PyData.int i).depth=0:=rfl
theorem A7r {b:Bool}:(PyData.bool b).depth=0:=rfl
theorem B5d {s:Str}:(PyData.str s).depth=0:=rfl
theorem A7q:PyData.none.depth=0:=rfl
theorem C0z {q:Rat}:(dq q).canLay0=true:=rfl
theorem C1o {q:Rat}:(dq q).depth=1:=rfl
theorem A1n {i j:Int}:PyData.eqv (.int i) (.int j)=decide (i=j):=by
 show (i == j)=_;by_cases h:i=j <;> simp [h]
theorem C2p {p q:Rat} (h1:p.num=q.num) (h2:(p.den:Int)=q.den):p=q:=Rat.ext h1 (by omega)
theorem C1l {p q:Rat}:PyData.eqv (dq p) (dq q)=decide (p=q):=by
 show (PyData.eqv (.int p.num) (.int q.num) && (PyData.eqv (.int (p.den:Int)) (.int (q.den:Int)) && true))=_;rw [A1n,A1n,Bool.and_true];by_cases h:p=q
 ·subst h; simp
 ·rw [Zd h];by_cases h1:p.num=q.num
  ·have h2:¬ (p.den:Int)=(q.den:Int):=fun z=>h (C2p h1 z);rw [Zd h2,Bool.and_false]
  ·rw [Zd h1,Bool.false_and]
theorem A3j {q:Rat}:PyData.eqv .none (dq q)=false:=rfl
theorem A3i {q:Rat}:PyData.eqv (dq q) .none=false:=rfl
theorem B4v {q:Rat}:isNo (dq q)=false:=rfl
theorem A85:PyData.tuple [.int 0,.int 1]=dq 0:=rfl
theorem C0j:PyData.tuple [.int 1,.int 1]=dq 1:=rfl
theorem B8q {q:Rat}:tyD (dq q)="tuple":=rfl
theorem C1d:kitB "bool" "bool"=some true:=by decide +kernel
theorem C09:kitB "int" "int"=some true:=by decide +kernel
theorem C1c:kitB "bool" "int"=some true:=by decide +kernel
theorem C03:kitB "str" "str"=some true:=by decide +kernel
theorem C07:kitB "list" "list"=some true:=by decide +kernel
theorem C06:kitB "list" "tuple"=some false:=by decide +kernel
theorem C01:kitB "tuple" "list"=some false:=by decide +kernel
theorem C02:kitB "tuple" "bool"=some false:=by decide +kernel
theorem C04:kitB "NoneType" "tuple"=some false:=by decide +kernel
theorem B4w {K:Frag} {F:Hpp}:∀ {vs:List V} {ns:List Int},DenAll K F vs (ns.map .int)->vs=ns.map V.int
 | _,[],.nil=>rfl
 | _,n :: r,.cons h t=>by rw [h.intE,B4w t]; rfl
def B0f:PSp:=fun as Q=>∃ n:Int,as=[.st,.d (.int n)]/\0 < n/\Sm 4000 n/\∀ d:Int,0<=d->d < n->Q (.d (.int d))
def A58:PSp:=fun as Q=>∃ (ns:List Int) (k:Int),as=[.bor (ns.map .int),.d (.int k)]/\0<=k/\k<=63/\Q .st
theorem C1z {K:Frag}:∀ vs H Q E,spOf K [.st,.dat] B0f vs H Q E->A9u vs H Q E:=by
 rintro vs H Q E ⟨w,as,Qp,rfl,ok,a,⟨n,rfl,n0,sn,q⟩,k⟩;cases a with
 | st h t=>cases t with
  | dat h' t =>
   cases t;obtain ⟨p,e,hm⟩:=h;subst e;rw [Den.intE h'];refine ⟨p,n,rfl,ok.st p hm,n0,sn,fun d H' d0 d1 S' kp=>?_⟩;have out:∀ b o,w.H b=some o->b≠p->H' b=some o:=fun b o e ne=>kp b o ne e;have pn:=ok.nf p hm;refine k (.int d) (.d (.int d)) ⟨w.M,H',w.F⟩ ⟨fun b o e=>out b o (ok.sub b o e) (fun z=>by rw [z,pn] at e; cases e),fun r hr=>?_,ok.nf⟩ ⟨⟨Same.refl _,fun b o e nb=>out b o e (fun z=>nb (z ▸ hm)),fun _ z=>z,fun _ z=>.inl z,fun b e=>?_⟩,fun _ _ z=>.inl z⟩ (Den.int d) rfl (q d d0 d1)
   ·by_cases z:r=p
    ·subst z; exact S'
    ·exact (ok.st r hr).kp z kp
   ·cases hb:w.H b with
    | none=>rfl
    | some o =>
     by_cases z:b=p
     ·subst z; obtain ⟨_,_,_,hp,_⟩:=S'.ex; rw [show H' b=none from e] at hp; cases hp
     ·have:=out b o hb z; rw [show H' b=none from e] at this; cases this
theorem B8b {K:Frag}:∀ vs H Q E,spOf K [.vw,.dat] A58 vs H Q E->A5v K vs H Q E:=by
 rintro vs H Q E ⟨w,as,Qp,rfl,ok,a,⟨ns,kk,rfl,k0,k1,q⟩,k⟩;cases a with
 | vw h t=>cases t with
  | dat h' t =>
   cases t;obtain ⟨a,us,e,hS,hd⟩:=h.lst ok;subst e;rw [Den.intE h'];refine ⟨a,ns,kk,rfl,by rw [<- B4w hd]; exact hS,k0,k1,fun p H' hp S' kp=>?_⟩;have out:∀ b o,w.H b=some o->H' b=some o:=fun b o e=>kp b o (C7 e hp) e;refine k (.ref p) .st ⟨fun b=>w.M b\/b=p,H',w.F⟩ ⟨fun b o e=>out b o (ok.sub b o e),fun r hr=>?_,fun r hr=>?_⟩ ⟨⟨Same.refl _,fun b o e _=>out b o e,fun _ z=>.inl z,fun b z=>?_,fun b e=>?_⟩,fun _ _ z=>.inl z⟩ ⟨p,rfl,.inr rfl⟩ rfl q
   ·rcases hr with hr | rfl
    ·exact (ok.st r hr).kp (ok.mne hp hr) kp
    ·exact S'
   ·rcases hr with hr | rfl
    ·exact ok.nf r hr
    ·exact ok.fnone hp
   ·rcases z with z | rfl
    ·exact .inl z
    ·exact .inr hp
   ·cases hb:w.H b with
    | none=>rfl
    | some o=>have:=out b o hb; rw [show H' b=none from e] at this; cases this
def C6j:PSp:=fun as Q=>∃ a b:Int,as=[.d (.int a),.d (.int b)]/\Q (.d (.int ((Int.gcd a b:Nat):Int)))
def C22:PSp:=fun as Q=>∃ t b:Int,as=[.d (.int t),.d (.int b)]/\0 < b/\Sm 8000 t/\Sm 8000 b/\Q (.d (dq (Rat.divInt t b)))
def C23:PSp:=fun as Q=>∃ p q:Rat,as=[.d (dq p),.d (dq q)]/\SmQ 3900 p/\SmQ 3900 q/\Q (.d (.bool (decide (p < q))))
end Pu
namespace L2
open PySem PySem.Spec PyProof.Rows
section
variable {X:Cx} {tg:Expr}
def C6a (K:PySem.W.Frag):R2:=fun x y H Q=>∃ l b xs zs,x=.ref l/\y=.ref b/\SqL K H l xs/\SqL K H b zs/\xs.length + zs.length<=sizeLine/\∀ p,H p=none->Q (.ref p) (upd H p (.lst (xs++zs)))
theorem G2 {K:PySem.W.Frag} (hK:X.K=K):OpR X (binaryOp .Add) (C6a K):=by
 subst hK;intro pins s σ H x y v u Q I rx ry h;obtain ⟨l,b,xs,zs,rfl,rfl,hH,hB,hz,q⟩:=h;cases rx;cases ry;obtain ⟨its,r,hl,z⟩:=I.list hH;obtain ⟨its2,r2,hl2,z2⟩:=I.list hB;have n1:=r.length;have n2:=r2.length;obtain ⟨⟨k1,dd,da,sl⟩,m1,ho,e1,e2,e3⟩:=hl;obtain ⟨⟨k2,dd2,da2,sl2⟩,m2,ho2,e4,e5,e6⟩:=hl2;dsimp only at e1 e2 e3 e4 e5 e6;subst e1 e2 e3 e4 e5 e6;refine concat_meets ⟨_,ho,rfl⟩ ⟨_,ho2,rfl⟩ noFill_list_add seq_list_add F.slot_list_add F.entry_list_add (F.args_list_add_2 _ _) (list_addW l b its.toArray its2.toArray m1 m2 none none sl sl2 (by rw [List.size_toArray,List.size_toArray]; omega)) ⟨ho,ho2,?_⟩;rw [show its.toArray++its2.toArray=(its++its2).toArray by simp];exact ⟨.ref _,_,I.lnew (t':=s.toks) (r.append r2) (by rw [Ze]; omega),rfl,q _ I.fresh⟩
def rAll (K:PySem.W.Frag):List V->Hp->VK->Prop:=fun xs H Q=>∃ (p:Addr) (bs:List Bool),xs=[.ref p]/\SqL K H p (bs.map V.bl)/\Q (.bl (bs.all id)) H
theorem C40 {bs:List Bool}:∀ {us:List Value},Vals (bs.map V.bl) us->us=bs.map Value.bool:=by
 induction bs with
 | nil=>intro us h; cases h; rfl
 | cons b r ih =>
  intro us h;cases h with
  | cons h t=>rw [ih t,show _=Value.bool b from h]; rfl
theorem A95 (bs:List Bool):(List.range bs.length).all (fun i=>bs.getD i false)=bs.all id:=by
 rw [Bool.eq_iff_iff,List.all_eq_true,List.all_eq_true];constructor
 ·intro h b hb;obtain ⟨i,hi,e⟩:=List.mem_iff_getElem.mp hb;have:=h i (List.mem_range.mpr hi);rw [List.getD_eq_getElem?_getD,Zg hi,e] at this;exact this
 ·intro h i hi;have hi:=List.mem_range.mp hi;rw [List.getD_eq_getElem?_getD,Zg hi];exact h _ (List.getElem_mem hi)
theorem C1w {pins:List (Addr × Obj)} {σ:St} {H:Hp} {s:Shared} {p:Addr} {bs:List Bool} (hc:X.calm=true) (I:Inv X pins σ H s) (hS:SqL X.K H p (bs.map V.bl)) {A:Around} (hA:A.handled=none) {Qf:Bool->Value->Shared->Prop} {E:Value->Shared->Prop} {g:(Nat->Bool)->Nat->Bool}
  (hQ:∀ h' tk,Inv X pins σ H { s with heap:=h',toks:=tk }->Qf (g (fun i=>bs.getD i false) bs.length) (.bool (g (fun i=>bs.getD i false) bs.length)) { s with heap:=h',toks:=tk }) :
  wpAny (model X.prog X.w) A (pyIter (.ref p)) (fun it s₂=>∃ J fp wr n P St tr,it=.ref J/\Walks X.prog X.w A J fp wr n P St/\St 0 s₂.heap/\TruthOf X.prog X.w A P tr /\
   ∀ h' tk,(∀ b o,b ∉ wr->s₂.heap.get? b=some o->h'.get? b=some o)->Qf (g tr n) (.bool (g tr n)) { s₂ with heap:=h',toks:=tk }) E s:=by
 obtain ⟨its,r,hl,z⟩:=I.list hS;have e:=C40 r;refine wpAny_pyIter_list hl.isList ?_;have hne:p≠s.heap.objs.size:=by
  obtain ⟨o,_,ho,_⟩:=hl;exact Nat.ne_of_lt (Heap.lt_size ho)
 have W:=Walks.list (prog:=X.prog) (w:=X.w) (A:=A) hA s.heap.objs.size p hne its.toArray;have hn:its.toArray.size=bs.length:=by rw [List.size_toArray,e,Zl]
 rw [hn] at W;refine ⟨s.heap.objs.size,_,_,_,_,_,fun i=>bs.getD i false,rfl,W,⟨⟨_,Heap.get?_push_size _ rfl,rfl,rfl⟩,hl.isList.push _⟩,fun i v s' Q' E' hP q=>?_,fun h' tk hk=>hQ h' tk ?_⟩
 ·dsimp only at hP;rw [List.getElem?_toArray,e,Zh] at hP;cases hb:bs[i]? with
  | none=>rw [hb] at hP; cases hP
  | some b =>
   rw [hb] at hP; cases hP;refine wpAny_truthy_bool ?_;dsimp only at q;rw [List.getD_eq_getElem?_getD,hb] at q;exact q
 ·have I1:Inv X pins σ H { s with heap:=s.heap.push { cls:=.type "list_iterator",data:=.fields #[.ref p,.int 0 0] } }:=I.kept (t':=s.toks) fun b o e=>Heap.get?_push_of_some _ e;have f:=I.fpOk (H':=H) (Zv s.heap.objs.size) I.fresh;exact I1.turned (t':=tk) (fun b o hb e=>hk b o (fun z=>hb (Zn z)) e) f.1 f.2.1 f.2.2.2.1 f.2.2.2.2.1 f.2.2.2.2.2
theorem B5o {K:PySem.W.Frag} (hK:X.K=K) (hc:X.calm=true:=by rfl):CallR X (.builtin "all") (rAll K):=by
 subst hK;intro pins s σ H xs us Q I r h;obtain ⟨p,bs,rfl,hS,q⟩:=h;cases r with
 | cons r rr =>
  cases rr;cases r;refine call_all_walk (C1w hc I hS (A:=X.A.in1) (I.ok.hd hc) (g:=fun tr n=>(List.range n).all tr) (Qf:=fun _=>EP X pins σ Q) fun h' tk I'=>⟨.bl _,H,I',rfl,?_⟩);rw [A95]; exact q
end
end L2
namespace L2
open PySem PySem.Spec PyProof.Rows
section
variable {X:Cx}
def A1m (T:String):List String->Option Bool
 | []=>some false
 | c :: r=>match kitB T c with
  | some true=>some true
  | some false=>A1m T r
  | none=>none
end
end L2
namespace Pu
open PySem L2 My Prf
def dwnD (lo:Int) (n:Nat):LP:=(List.range n).map fun k:Nat=>PyData.int (lo - (k:Int))
def D0y (pa:PAr) (env:PEnv) (Q:LP->PEnv->Prop):Prop:=pa env fun xs e=>match xs with
 | [.int i,.int j,.int k]=>k=-1/\((-(2 ^ 61)<=i/\i < 2 ^ 61)/\-(2 ^ 61)<=j/\j < 2 ^ 61)/\Q (dwnD i (i - j).toNat) e
 | _=>False
def pCat (x y:PyData) (Q:SV->Prop):Prop:=match x,y with
 | .list xs,.list ys=>xs.length + ys.length<=1000000/\Q (.own (xs++ys))
 | _,_=>False
instance ro_cat {K:Frag}:RO K (C6a K) pCat where
 ok:=by
  rintro c w env σ x y dx dy Qp Q rfl E vx vy p k;unfold pCat at p;split at p
  ·obtain ⟨a,vs,e,h1,h2⟩:=vx.lst E.wok;obtain ⟨b,us,e',g1,g2⟩:=vy.lst E.wok;exact ⟨a,b,vs,us,e,e',h1,g1,by rw [h2.len,g2.len]; exact Zx p.1 (by decide),fun q hq=>k _ _ _ (Res.lst E hq (h2.app g2)) p.2⟩
  ·exact p.elim
def blsD:LP->Option (List Bool)
 | []=>some []
 | .bool b :: r=>(blsD r).map (b :: ·)
 | _=>none
theorem A7v:∀ bs:List Bool,blsD (bs.map .bool)=some bs
 | []=>rfl
 | b :: r=>by show (blsD (r.map .bool)).map (b :: ·)=_; rw [A7v r]; rfl
theorem A7w {K:Frag} {F:Hpp}:∀ {vs:List V} {xs:LP} {bs:List Bool},DenAll K F vs xs->blsD xs=some bs->vs=bs.map V.bl
 | _,_,bs,.nil,h=>by cases h; rfl
 | _,_,bs,.cons (x:=x) (xs:=vs) (d:=d) (ds:=ds) h t,e=>by
  cases d with
  | bool b =>
   have e':(blsD ds).map (b :: ·)=some bs:=e;cases q:blsD ds with
   | none=>rw [q] at e'; cases e'
   | some r =>
    rw [q] at e'; cases e';rw [h.blE,A7w t q]; rfl
  | _=>cases e
def pAll (xs:LP) (Q:SV->Prop):Prop:=match xs with
 | [.list ys]=>∃ bs,blsD ys=some bs/\Q (.d (.bool (bs.all id)))
 | _=>False
def pAny (xs:LP) (Q:SV->Prop):Prop:=match xs with
 | [.list ys]=>∃ bs,blsD ys=some bs/\Q (.d (.bool (bs.any id)))
 | _=>False
instance rb_all {K:Frag}:RB K (rAll K) pAll where
 ok:=by
  rintro c w env σ vs xs Qp Q rfl E vv p k;unfold pAll at p;split at p
  ·obtain ⟨bs,e,q⟩:=p;cases vv with | cons h t=>cases t; obtain ⟨a,us,e',h1,h2⟩:=h.lst E.wok; exact ⟨a,bs,by rw [e'],by rw [<- A7w h2 e]; exact h1,k _ _ w (Res.data E (.bl _)) q⟩
  ·exact p.elim
def D00 (cs:List String) (pa:PDt) (env:PEnv) (Q:SV->PEnv->Prop):Prop:=pa env fun x e=>cs.length<=1000/\match A1m (tyD x) cs with
 | some b=>Q (.d (.bool b)) e
 | none=>False
theorem A69:A1m "bool" ["list","tuple"]=some false:=by decide +kernel
theorem A66:A1m "NoneType" ["list","tuple"]=some false:=by decide +kernel
theorem A68:A1m "int" ["list","tuple"]=some false:=by decide +kernel
theorem A65:A1m "str" ["list","tuple"]=some false:=by decide +kernel
theorem A67:A1m "list" ["list","tuple"]=some true:=by decide +kernel
theorem A64:A1m "tuple" ["list","tuple"]=some true:=by decide +kernel
theorem C32 {x:PyData} {xs:LP} {Q:SV->Prop}:pGet (x :: xs) 0 Q=Q (.d x):=by unfold pGet; rw [at0]
theorem C31 {x y:PyData} {xs:LP} {Q:SV->Prop}:pGet (x :: y :: xs) 1 Q=Q (.d y):=by unfold pGet; rw [at1]
theorem C7m {x y z:PyData} {xs:LP} {Q:SV->Prop}:pGet (x :: y :: z :: xs) 2 Q=Q (.d z):=by unfold pGet; rw [at2]
theorem C7l {x y z u:PyData} {xs:LP} {Q:SV->Prop}:pGet (x :: y :: z :: u :: xs) 3 Q=Q (.d u):=by unfold pGet; rw [at3]
theorem K0 {xs:LP} {i:Int} {z:PyData} {Q:SV->Prop} (h:atI xs i=some z) (q:Q (.d z)):pGet xs i Q:=by unfold pGet; rw [h]; exact q
theorem pIxT {xs:LP} {i:Int} {Q:SV->Prop}:pIx (.tuple xs) (.int i) Q=pGet xs i Q:=rfl
end Pu
namespace L2
open PySem PySem.Spec PyProof.Rows
structure QE (X:Cx) (e:Expr) (t:TE):Prop where
 out:PE X e  t
structure QT (X:Cx) (e:Expr) (t:TT):Prop where
 out:PT X e  t
structure QW (X:Cx) (e:Expr) (t:TT):Prop where
 out:PW X e  t
structure QA (X:Cx) (e:List Expr) (t:TA):Prop where
 out:PA X e  t
structure QSs (X:Cx) (e:List Stmt) (t:TS):Prop where
 out:PSs X e  t
structure QS (X:Cx) (e:Stmt) (t:TS):Prop where
 out:PS X e  t
structure QGs (X:Cx) (e:List Expr) (t:TGs):Prop where
 out:PGs X e  t
structure QG (X:Cx) (e:Expr) (t:TG):Prop where
 out:PG X e  t
structure QI (X:Cx) (e e2:Expr) (t:TI):Prop where
 out:PI X e e2  t
structure QTs (X:Cx) (e:List Expr) (t:TT):Prop where
 out:PTs X e  t
structure QO (X:Cx) (e:Option Expr) (t:TO):Prop where
 out:PO X e  t
section
variable {X:Cx}
theorem qpv (i: Nat) {x:Str} {pos:Pos} (hN: X.N[i]?=some x:=by rfl) (hv: Vis X.env.scope x:=by first | exact Or.inl rfl | exact Or.inr (Or.inl rfl) | exact Or.inr (Or.inr rfl)) (hd: (x == ("__debug__":Str))=false:=by decide) (hcd: (x == ("__classdict__":Str))=false:=by decide):QE X (.Name x pos) (tVar i):=⟨pv i hN hv hd hcd⟩
theorem A3 {i j pos}:QE X (.Constant (.int i) j pos) (tC (.int i)):=⟨C9 ⟩
theorem N7 {b j pos}:QE X (.Constant (.bool b) j pos) (tC (.bl b)):=⟨D0w ⟩
theorem B8 {j pos}:QE X (.Constant .none j pos) (tC .non):=⟨C6u ⟩
theorem A4 {x j pos}:QE X (.Constant (.str x) j pos) (tC (.str x)):=⟨C6s ⟩
theorem G8 {x:Str} {v:V} {u:Value} {pos:Pos} (hg: Gl X x) (hm: X.mg x=some u) (r: RelV v u) (hd: (x == ("__debug__":Str))=false:=by decide):QE X (.Name x pos) (tC v):=⟨B0w hg hm r hd⟩
theorem F8 {x:Str} {v:V} {u:Value} {pos:Pos} (hg: Gl X x) (hm: X.mg x=none) (hv: bootBuiltins x=some u) (r: RelV v u) (hn: x≠"__name__":=by decide) (hd: (x == ("__debug__":Str))=false:=by decide):QE X (.Name x pos) (tC v):=⟨B0x hg hm hv r hn hd⟩
theorem A8 {op:Operator} {r:R2} (ho: OpR X (binaryOp op) r) (ha: QE X a ta) (hb: QE X b tb):QE X (.BinOp a op b pos) (tOp r ta tb):=⟨K6 ho ha.out hb.out⟩
theorem B9a {op:UnaryOp} {r:V->Hp->VK->Prop} (ho: UnR X (unaryOp op) r) (ha: QE X a ta):QE X (.UnaryOp op a pos) (tUn r ta):=⟨D0u ho ha.out⟩
theorem C2t (ha: QE X a ta):QE X (.UnaryOp .Not a pos) (C13 ta):=⟨B9f ha.out⟩
theorem G9 {op:CmpOp} {r:R2} (ho: OpR X (compareOp op) r) (ha: QE X a ta) (hb: QE X b tb) (hm: behindInMarks op b=false):QE X (.Compare a [op] [b] pos) (tOp r ta tb):=⟨A1c ho ha.out hb.out hm⟩
theorem A6 {op:CmpOp} {r:R2} (ho: OpR X (compareOp op) r) (ha: QE X a ta) (hb: QE X b tb) (hm: behindInMarks op b=false):QT X (.Compare a [op] [b] pos) (A9m (tOp r ta tb)):=⟨B0e ho ha.out hb.out hm⟩
theorem A2c {op op':CmpOp} {r r':R2} (ho: OpR X (compareOp op) r) (ho': OpR X (compareOp op') r') (ha: QE X a ta) (hb: QE X b tb) (hc: QE X c tc) (hm: lastMarks [op,op'] [b,c]=false:=by with_unfolding_all rfl):QT X (.Compare a [op,op'] [b,c] pos) (A9m (A9p r r' ta tb tc)):=⟨B6r ho ho' ha.out hb.out hc.out hm⟩
theorem T7 {rest:List Expr} (ha: QE X a ta) (hb: QE X (.BoolOp .And (b :: rest) pos) tb):QE X (.BoolOp .And (a :: b :: rest) pos) (C17 ta tb):=⟨B9h ha.out hb.out⟩
theorem X3 {op} {t:TE} (h: QE X a t):QE X (.BoolOp op [a] pos) t:=⟨B9e h.out⟩
theorem A06 {rest:List Expr} (ha: QT X a tA) (hb: QW X (.BoolOp .And (b :: rest) pos) tB'):QW X (.BoolOp .And (a :: b :: rest) pos) (tAnd tA tB'):=⟨C6g ha.out hb.out⟩
theorem K3 {rest:List Expr} (ha: QT X a tA) (hb: QW X (.BoolOp .Or (b :: rest) pos) tB'):QW X (.BoolOp .Or (a :: b :: rest) pos) (tOr tA tB'):=⟨D0r ha.out hb.out⟩
theorem V6 (ha: QT X a tA):QW X (.BoolOp .And [a] pos) tA:=⟨C2x ha.out⟩
theorem J9 (ha: QT X a tA):QW X (.BoolOp .Or [a] pos) tA:=⟨C6f ha.out⟩
theorem N0 (ha: QT X a tA):QT X (.UnaryOp .Not a pos) (tNot tA):=⟨C6h ha.out⟩
theorem F9 {e:Expr} {t:TE} (h: QE X e t) (he: ∀ whole,isTrue e X.env whole=(do let v <- whole; standAt e.pos; holding [v] (truthy v)):=by intro _; rfl):QT X e (tB t):=⟨B9c h.out he⟩
theorem G7 {c:Expr} (hc: QT X c tA) (ha: QE X a ta) (hb: QE X b tb):QE X (.IfExp c a b pos) (tIf tA ta tb):=⟨A6b hc.out ha.out hb.out⟩
theorem V7 (hc: X.calm=true) (C: CompSc X scope cl N' cap) (hi: QI X tg iter wi) (hg: ∀ s3 H3 fp,QG (X.block scope cl N' s3 H3 fp) tg g) (ht: ∀ s3 H3 fp,QTs (X.block scope cl N' s3 H3 fp) ifs tt) (he: ∀ s3 H3 fp,QE (X.block scope cl N' s3 H3 fp) elt te) (hs: ∀ x,foldedSetIterable iter X.env x=pure x:=by intro _; rfl):QE X (.ListComp elt [⟨tg,iter,ifs,0⟩] scope pos) (C16 wi g tt te cap):=⟨C3h hc C hi.out (fun a b c=>(hg a b c).out) (fun a b c=>(ht a b c).out) (fun a b c=>(he a b c).out) hs⟩
theorem X0 (hc: X.calm=true) (hN: X.N.Nodup) (hi: X.N[i]?=some y) (hy: X.env.scope.names.lookup y=some .local) (C: CompSc X scope cl N' cap) (hit: QI X tg iter wi) (hg: ∀ s3 H3 fp,QG (X.block scope cl N' s3 H3 fp) tg g) (ht: ∀ s3 H3 fp,QTs (X.block scope cl N' s3 H3 fp) ifs tt) (he: ∀ s3 H3 fp,QE (X.block scope cl N' s3 H3 fp) elt te) (hsw: swapsWith (.ListComp elt [⟨tg,iter,ifs,0⟩] scope pos) (some (.Name y py)) spos.line X.env=pure true) (hs: ∀ x,foldedSetIterable iter X.env x=pure x:=by intro _; rfl):QS X (.Assign [.Name y py] (.ListComp elt [⟨tg,iter,ifs,0⟩] scope pos) spos) (R5 wi g tt te cap i):=⟨A8c hc hN hi hy C hit.out (fun a b c=>(hg a b c).out) (fun a b c=>(ht a b c).out) (fun a b c=>(he a b c).out) hsw hs⟩
theorem C4 {x1} (h: QA X es t):QE X (.Tuple es x1 pos) (tTup t):=⟨C6r h.out⟩
theorem B6 (h: QA X es t):QE X (.List es pos) (tLst t):=⟨B9g h.out⟩
theorem C3 {lo hi:Option Expr} {r:V->Option Int->Option Int->Hp->VK->Prop} (hr: SlR X r) (he: QE X e te) (hl: QO X lo tl) (hu: QO X hi th):QE X (.Subscript e (.Slice lo hi none p2) pos) (tSl r te tl th):=⟨B64 hr he.out hl.out hu.out⟩
theorem D6 :QO X none A4e:=⟨C29 ⟩
theorem D5 (h: QE X e te):QO X (some e) (C12 te):=⟨C28 h.out⟩
theorem A54 {X:Cx} {K:PySem.W.Frag} {e st:Expr} {te ts:TE} {pos p2:Pos} (h: X.K=K) (he: QE X e te) (hst: QE X st ts) (hsub: ∀ (a sz:Addr),∃ ops,subscripted (.Slice none none (some st) p2) false (.ref a) (.ref sz)=operate ops (getItem (.ref a) (.ref sz)):=by intro a sz; exact ⟨_,by with_unfolding_all rfl⟩):QE X (.Subscript e (.Slice none none (some st) p2) pos) (tRev K te ts):=⟨C3e h he.out hst.out hsub⟩
theorem C6b {r:R2} (hr: IxR X r) (ha: QE X a ta) (hb: QE X b tb) (hs: A5f b):QE X (.Subscript a b pos) (tOp r ta tb):=⟨A1b hr ha.out hb.out hs⟩
theorem B6p (F: FnOk X.prog X.w X.K X.mg X.base CX k f fd ps sp) (hr: Room k X.A) (hg: Gl X x) (hm: X.mg x=some (.ref f)) (hk: PySem.W.keepIn X.K (.ref f)=true) (hb: Binds X.K fd ps ds) (hd: Vals dvs ds) (hx: A4b CX X E) (ha: QA X (e :: es) t) (hdb: (x == ("__debug__":Str))=false:=by decide) (he: starEach (e :: es) X.env=(false,eval e X.env) :: starEach es X.env:=by rfl) (hpl: (backTo pos (starEach es X.env)).any (·.1)=false:=by rfl):QE X (.Call (.Name x p) (e :: es) [] pos) (B57 sp dvs E t):=⟨C3i F hr hg hm hk hb hd hx ha.out hdb he hpl⟩
theorem C2 {id:String} (hc: CallR X (.builtin id) r) (hg: Gl X x) (hm: X.mg x=none) (hv: bootBuiltins x=some (.builtin id)) (ha: QA X (e :: es) t) (hn: x≠"__name__":=by decide) (hdb: (x == ("__debug__":Str))=false:=by decide) (he: starEach (e :: es) X.env=(false,eval e X.env) :: starEach es X.env:=by rfl) (hpl: (backTo pos (starEach es X.env)).any (·.1)=false:=by rfl):QE X (.Call (.Name x p) (e :: es) [] pos) (tCB r t):=⟨A1d hc hg hm hv ha.out hn hdb he hpl⟩
theorem F7 (hc: CallR X (.type T) r) (hg: Gl X x) (hm: X.mg x=none) (hv: bootBuiltins x=some (.type T)) (ha: QA X (e :: es) t) (hn: x≠"__name__":=by decide) (hdb: (x == ("__debug__":Str))=false:=by decide) (he: starEach (e :: es) X.env=(false,eval e X.env) :: starEach es X.env:=by rfl) (hpl: (backTo pos (starEach es X.env)).any (·.1)=false:=by rfl):QE X (.Call (.Name x p) (e :: es) [] pos) (tCB r t):=⟨A2q hc hg hm hv ha.out hn hdb he hpl⟩
theorem C0 {K:PySem.W.Frag} (hK:X.K=K) {id:String} (pa: PlainAttrs T) (slot: Slot T name id) (hty: typeOf (.builtin id)=pure (.type "method_descriptor")) (hm: MtR X id r) (ho: QE X o to) (ha: QA X (e :: es) t) (hbase: attributeBase o name X.env (eval o X.env)=eval o X.env:=by rfl) (hfew: ((backTo cpos (starEach (e :: es) X.env)).all (fun x=>!x.1) && (backToKw cpos (keywordEach [] X.env)).all (fun x=>x.1.isSome)
   && decide ((e :: es).length + ([]:List Keyword).length + (if ([]:List Keyword).isEmpty then 0 else 1) < 30))=true:=by rfl) (hline: (apos.endLine == cpos.line)=true:=by rfl) (hs: starEach (e :: es) X.env=(false,eval e X.env) :: starEach es X.env:=by rfl) (hplain: (backTo cpos (starEach es X.env)).any (·.1)=false:=by rfl):QE X (.Call (.Attribute o name apos) (e :: es) [] cpos) (tBM K T r to t):=by subst hK; exact ⟨D0v pa slot hty hm ho.out ha.out hbase hfew hline hs hplain⟩
theorem A1 :QA X [] tNil:=⟨pa_nil ⟩
theorem A0 (ha: QE X e te) (hr: QA X es t) (hs: starEach (e :: es) X.env=(false,eval e X.env) :: starEach es X.env:=by rfl):QA X (e :: es) (J3 te t):=⟨pa_cons ha.out hr.out hs⟩
theorem A9 :QSs X [] C14:=⟨A4l ⟩
theorem A5 {st:Stmt} (h1: QS X st t):QSs X [st] t:=⟨T9 h1.out⟩
theorem A2 {st:Stmt} {rest:List Stmt} (h1: QS X st t) (h2: QSs X rest u):QSs X (st :: rest) (tSeq t u):=⟨J4 h1.out h2.out⟩
theorem O4 {st:Stmt}:QS X st A5r:=⟨B6t ⟩
theorem B0 (he: QE X e te):QS X (.Return (some e) pos) (tRet te):=⟨A2h he.out⟩
theorem G6 (he: QE X e te) (hs: swapsWith e none pos.line X.env=pure false:=by rfl):QS X (.Expr e pos) (B56 te):=⟨C25 he.out hs⟩
theorem B7 {c:Expr} {a b:List Stmt} {tc:TT} (hc: QT X c tc) (ha: QSs X a t) (hb: QSs X b u):QS X (.If c a b pos) (tIfS tc t u):=⟨C24 hc.out ha.out hb.out⟩
theorem W9 {c:Expr} {body:List Stmt} {tc:TT} {tb:TS} (hp: PassesOwn (model X.prog X.w) X.A X.env X.xe) (hc: QT X c tc) (hb: QSs X body tb):QS X (.While c body [] pos) (A9l tc tb):=⟨B6s hp hc.out hb.out⟩
theorem Q8 {iter:Expr} {body:List Stmt} {wi:TI} {g:TG} {tb:TS} {pos:Pos} (hp: PassesOwn (model X.prog X.w) X.A X.env X.xe) (hc: X.calm=true) (hi: QI X tg iter wi) (hg: QG X tg g) (hb: QSs X body tb) (hs: ∀ x,foldedSetIterable iter X.env x=pure x:=by intro _; rfl):QS X (.For tg iter body [] pos) (tFor wi g tb):=⟨B0j hp hc hi.out hg.out hb.out hs⟩
theorem A4k {i:Nat} {x:Str} {e:Expr} {te:TE} {pos':Pos} (hN: X.N.Nodup) (hi: X.N[i]?=some x) (hx: Loc X.env.scope x) (he: QE X e te) (hs: swapsWith e (some (.Name x pos')) pos.line X.env=pure false:=by rfl) (hf: X.fn x=true\/X.env.scope.names.lookup x=some .local:=by first | exact .inl rfl | exact .inr rfl | assumption):QS X (.Assign [.Name x pos'] e pos) (tAsg te (Y5 i)):=⟨A0f hN hi hx he.out hs hf⟩
theorem X1 {i j:Nat} {x y:Str} {a b:Expr} {ta:TA} {px py pt:Pos} {kt k2 pt2} (hc: X.calm=true) (hN: X.N.Nodup) (hi: X.N[i]?=some x) (hj: X.N[j]?=some y) (hij: i≠j) (hx: X.env.scope.names.lookup x=some .local) (hy: X.env.scope.names.lookup y=some .local) (ha: QA X [a,b] ta) (hw: swappedStores [.Tuple [.Name x px,.Name y py] kt pt] (.Tuple [a,b] k2 pt2) X.env=pure (some [x,y])) (hs: swapsWithSole [.Tuple [.Name x px,.Name y py] kt pt] (.Tuple [a,b] k2 pt2) pos.line X.env=pure false:=by rfl):QS X (.Assign [.Tuple [.Name x px,.Name y py] kt pt] (.Tuple [a,b] k2 pt2) pos) (tPar i j ta):=⟨C6i hc hN hi hj hij hx hy ha.out hw hs⟩
theorem L7 {tg e:Expr} {te:TE} {g:TG} (he: QE X e te) (hg: QG X tg g) (hs: swapsWithSole [tg] e pos.line X.env=pure false:=by rfl) (hw: swappedStores [tg] e X.env=pure none:=by rfl) (h1: (assignEach [tg] X.env).map (·.2)=[assign tg X.env]:=by rfl):QS X (.Assign [tg] e pos) (tAsg te g):=⟨A59 he.out hg.out hs hw h1⟩
theorem A53 {i:Nat} {x:Str} (hN: X.N.Nodup) (hi: X.N[i]?=some x) (hx: Loc X.env.scope x) (hf: X.fn x=true\/X.env.scope.names.lookup x=some .local:=by first | exact .inl rfl | exact .inr rfl | assumption):QG X (.Name x pos) (Y5 i):=⟨B0u hN hi hx hf⟩
theorem E7 :QGs X [] gNil:=⟨C3c ⟩
theorem B1 {e:Expr} {es:List Expr} {t:TG} {u:TGs} (h1: QG X e t) (h2: QGs X es u) (hs: (assignEach (e :: es) X.env).map (·.2)=assign e X.env :: (assignEach es X.env).map (·.2):=by rfl):QGs X (e :: es) (C4m t u):=⟨B63 h1.out h2.out hs⟩
theorem E8 {K:PySem.W.Frag} {pos:Pos} {es:List Expr} {k:Nat} {t:TGs} {n:Nat} (h: X.K=K) (hc: X.calm=true) (hg: QGs X es t) (hn: (assignEach es X.env).length=n:=by rfl) (hst: (assignEach es X.env).findIdx? (·.1)=none:=by rfl):QG X (.Tuple es k pos) (gTup K n t):=⟨C3d h hc hg.out hn hst⟩
theorem P8 {a:Expr} {ta:TA} {p pos:Pos} (hg: Gl X "range") (hm: X.mg "range"=none) (ha: QA X [a] ta) (hs: starEach [a] X.env=[(false,eval a X.env)]:=by rfl):QI X tg (.Call (.Name "range" p) [a] [] pos) (C4j ta):=⟨A2o hg hm ha.out hs⟩
theorem A79 {a b:Expr} {ta:TA} {p pos:Pos} (hg: Gl X "range") (hm: X.mg "range"=none) (ha: QA X [a,b] ta) (hs: starEach [a,b] X.env=[(false,eval a X.env),(false,eval b X.env)]:=by rfl) (hs2: starEach [b] X.env=[(false,eval b X.env)]:=by rfl):QI X tg (.Call (.Name "range" p) [a,b] [] pos) (C4i ta):=⟨B0s hg hm ha.out hs hs2⟩
theorem X2 {K:PySem.W.Frag} {l:Expr} {tl:TE} (h: X.K=K) (hl: QE X l tl):QI X tg l (iSq K tl):=⟨C6p h hl.out⟩
theorem P6 {X:Cx}:QTs X [] tYes:=⟨C2z ⟩
theorem QW.pt {X:Cx} {e:Expr} {t:TT} (h:QW X e t):QT X e t:=⟨h.out.pt⟩
end
end L2
namespace Pu
open PySem L2 My Prf
theorem A6l {c:Rat × Rat} {Q:SV->Prop}:pIx (dcn c) (.int 0) Q=Q (.d (dq c.1)):=by unfold dcn; rw [pIxT,C32]
theorem A6k {c:Rat × Rat} {Q:SV->Prop}:pIx (dcn c) (.int 1) Q=Q (.d (dq c.2)):=by unfold dcn; rw [pIxT,C31]
theorem Q3 {α:Type} {f:α->PyData} {xs:List α} {pg:PyData->PEnv->(PEnv->Prop)->Prop} {pt:PTt} {pd:PDt} {e0:PEnv} {Fin:LP->Prop} (Pv:Nat->PEnv->LP->Prop) (h0:Pv 0 e0 [])
  (hs:∀ (i:Nat) a e ys,xs[i]?=some a->Pv i e ys->pg (f a) e fun e2=>pt e2 fun b e3=>if b=true then pd e3 fun y e4=>Pv (i + 1) e4 (ys++[y]) else Pv (i + 1) e3 ys) (hd:∀ e ys,Pv xs.length e ys->Fin ys):O5 (xs.map f) pg pt pd e0 Fin:=by
 refine ⟨Pv,h0,fun i x e ys hx hi=>?_,fun e ys h=>hd e ys (by rwa [List.length_map] at h)⟩;rw [Zh] at hx;cases ha:xs[i]? with
 | none=>rw [ha] at hx; cases hx
 | some a=>rw [ha] at hx; cases hx; exact hs i a e ys ha hi
theorem A9e:PyData.tuple [.int 2,.int 3]=dq (Rat.divInt 2 3):=by
 unfold dq;rw [show (Rat.divInt 2 3).num=2 by decide +kernel,show (Rat.divInt 2 3).den=3 by decide +kernel]; rfl
theorem B4y:PyData.tuple [.int 1,.int 2]=dq (Rat.divInt 1 2):=by
 unfold dq;rw [show (Rat.divInt 1 2).num=1 by decide +kernel,show (Rat.divInt 1 2).den=2 by decide +kernel]; rfl
end Pu
namespace Pu
open PySem L2 My Prf
theorem A7z {q:Rat} {k:LP->Prop}:V2 (dq q) k=k [.int q.num,.int (q.den:Int)]:=rfl
theorem B1n {q:Rat} {Q:SV->Prop}:pLen [dq q] Q=Q (.d (.int 2)):=rfl
theorem A2w {xs:LP} {Q:SV->Prop}:pLen [.list xs] Q=Q (.d (.int xs.length)):=rfl
theorem A6j {xs:LP} {Q:SV->Prop}:pLen [.tuple xs] Q=Q (.d (.int xs.length)):=rfl
theorem B47:PyData.eqv (.list []) (.list [])=true:=rfl
theorem B3x:(PyData.list []).canLay0=true:=rfl
theorem B5e:(PyData.list []).depth=1:=rfl
theorem A9c {i:Int}:tyD (.int i)="int":=rfl
theorem A5p {b:Bool}:tyD (.bool b)="bool":=rfl
theorem A9b {s:Str}:tyD (.str s)="str":=rfl
theorem A5m:tyD .none="NoneType":=rfl
theorem A5n {xs:LP}:tyD (.list xs)="list":=rfl
theorem A9a {xs:LP}:tyD (.tuple xs)="tuple":=rfl
theorem A9d {c:Rat × Rat}:tyD (dcn c)="tuple":=rfl
theorem A0t {xs:LP} {k:LP->Prop}:V2 (.list xs) k=k xs:=rfl
theorem A39 {xs:LP} {k:LP->Prop}:V2 (.tuple xs) k=k xs:=rfl
theorem A4a {c:Rat × Rat} {k:LP->Prop}:V2 (dcn c) k=k [dq c.1,dq c.2]:=rfl
theorem A3c:isNo .none=true:=rfl
theorem A7d {i:Int}:isNo (.int i)=false:=rfl
theorem A3e {b:Bool}:isNo (.bool b)=false:=rfl
theorem A7c {s:Str}:isNo (.str s)=false:=rfl
theorem A3d {xs:LP}:isNo (.list xs)=false:=rfl
theorem A7b {xs:LP}:isNo (.tuple xs)=false:=rfl
end Pu
namespace L2
open PySem PySem.Spec PyProof.Rows
section
variable {X:Cx} {pins:List (Addr × Obj)} {σ:St} {H:Hp} {s:Shared} {h':Heap}
theorem Inv.turnL {t':Nat} {wr:List Addr} (I:Inv X pins σ H s) (k:∀ b o,b ∉ wr->s.heap.get? b=some o->h'.get? b=some o) (hf:∀ b ∈ wr,FpOk X pins H b):Inv X pins σ H { s with heap:=h',toks:=t' }:=by
 have nw:∀ b u,H b=some u->b ∉ wr:=fun b u e z=>by have:=(hf b z).1; rw [e] at this; cases this
 refine I.call (g':=s.gens) (d':=s.drawn) (ch:=wr) ⟨fun b o e _ _ hb=>k b o hb e,fun b o e _ _ hb=>⟨o.slots,k b o hb e⟩,fun _ _ _ n _=>n,fun b o e hb=>⟨o,k b o hb e⟩,fun _ _ e=>e,fun _ _ _ e=>e,fun b ps e=>⟨#[],by rw [e]; simp⟩⟩ (fun b u e=>?_) I.bare fun b hb=>?_
 ·refine (I.hok b u e).stay (fun c v hc q=>k c v ?_ q) (fun _ q=>q) fun _ _ q=>q;rcases hc with z | z
  ·rw [z]; exact nw b u e
  ·exact nw c _ z
 ·have f:=hf b hb;exact ⟨f.2.2.2.1,f.2.1,f.2.2.2.2.1,f.2.2.2.2.2⟩
theorem Inv.laidL {t':Nat} {wr:List Addr} {T:Addr} {o:HO} (I:Inv X pins σ H s) (k:∀ b u,b ∉ wr->s.heap.get? b=some u->h'.get? b=some u) (hf:∀ b ∈ wr,FpOk X pins H b) (hp:s.heap.objs.size<=T) (new:ObjOk X.prog X.w (upd H T o) h' T o) :
  Inv X pins σ (upd H T o) { s with heap:=h',toks:=t' }:=by
 have hn:=I.hok.fresh hp;have nw:∀ b u,H b=some u->b ∉ wr:=fun b u e z=>by have:=(hf b z).1; rw [e] at this; cases this
 refine I.call (g':=s.gens) (d':=s.drawn) (ch:=wr) ⟨fun b u e _ _ hb=>k b u hb e,fun b u e _ _ hb=>⟨u.slots,k b u hb e⟩,fun b u e n _=>by rw [B4 (Nat.ne_of_lt (Nat.lt_of_lt_of_le (Heap.lt_size e) hp))]; exact n,fun b u e hb=>⟨u,k b u hb e⟩,
  fun b xs e=>by rw [B4 (C7 e hn)]; exact e,fun b u xs e=>by rw [B4 (C7 e hn)]; exact e,fun b ps e=>⟨#[],by rw [B4 (C7 e hn),e]; simp⟩⟩ (fun b u e=>?_) I.bare fun b hb=>?_
 ·by_cases hb:b=T
  ·subst hb; rw [B5] at e; cases e; exact new
  ·rw [B4 hb] at e;refine (I.hok b u e).stay (fun c v hc q=>k c v ?_ q) (fun c q=>by rw [B4 (C7 q hn)]; exact q) fun c xs q=>by rw [B4 (C7 q hn)]; exact q
   rcases hc with z | z
   ·rw [z]; exact nw b u e
   ·exact nw c _ z
 ·have f:=hf b hb;exact ⟨f.2.2.2.1,f.2.1,f.2.2.2.2.1,f.2.2.2.2.2⟩
end
def Itz (K:PySem.W.Frag) (l1 l2:Addr):It :=
 ⟨fun i H=>∃ xs ys x y,SqL K H l1 xs/\SqL K H l2 ys/\xs[i]?=some x/\ys[i]?=some y,
  fun i H v H'=>∃ T x y,v=.ref T/\H T=none/\H'=upd H T (.tup [x,y])/\(∀ xs,SqL K H l1 xs->xs[i]?=some x)/\∀ ys,SqL K H l2 ys->ys[i]?=some y,
  fun i H=>∃ xs ys,SqL K H l1 xs/\SqL K H l2 ys/\(xs.length<=i\/ys.length<=i)⟩
def Ite (K:PySem.W.Frag) (l:Addr):It :=
 ⟨fun i H=>∃ xs x,SqL K H l xs/\xs[i]?=some x,
  fun i H v H'=>∃ T x,v=.ref T/\H T=none/\H'=upd H T (.tup [.int i,x])/\∀ xs,SqL K H l xs->xs[i]?=some x,
  fun i H=>∃ xs,SqL K H l xs/\xs.length<=i⟩
theorem P3:∀ {xs:List V} {us:List Value} {i:Nat} {x:V},Vals xs us->xs[i]?=some x->∃ u,us[i]?=some u/\RelV x u
 | _,_,_,_,.nil,e=>by simp at e
 | _,_,0,_,.cons h _,e=>by simp at e; subst e; exact ⟨_,rfl,h⟩
 | _,_,i + 1,x,.cons _ t,e=>by
  obtain ⟨u,h1,h2⟩:=P3 (i:=i) (x:=x) t (by simpa using e);exact ⟨u,by simpa using h1,h2⟩
theorem B55 {P:Program} {w:World} {K:PySem.W.Frag} {es:List Expr} {kk:Nat} {tp:Pos} {z TI TO i1 i2 l1 l2:Addr} (D:ZipApart z TI TO i1 i2 l1 l2) :
    Turn P w K (.Tuple es kk tp) (Itz K l1 l2) [z,TI,TO,i1,i2] z (fun i h=>IsZip h z TI TO .none/\IsPair h TI (.ref i1) (.ref i2)/\(∃ a b,IsPair h TO a b)/\h.IsListIter i1 l1 i/\h.IsListIter i2 l2 i) where
  mem:=Zy
  obj:=fun i h st b hb=>by
    obtain ⟨hz,hTI,⟨a,c,hTO⟩,⟨o1,g1,k1,d1⟩,⟨o2,g2,k2,d2⟩⟩:=st;simp only [List.mem_cons,List.mem_nil_iff,or_false] at hb;rcases hb with rfl | rfl | rfl | rfl | rfl
    · exact ⟨_,hz,fun v q=>Data.noConfusion (show Data.fields _=Data.cell v from q)⟩
    · exact ⟨_,hTI,fun v q=>Data.noConfusion (show Data.seq _ _=Data.cell v from q)⟩
    · exact ⟨_,hTO,fun v q=>Data.noConfusion (show Data.seq _ _=Data.cell v from q)⟩
    · exact ⟨_,g1,fun v q=>by rw [d1] at q; cases q⟩
    · exact ⟨_,g2,fun v q=>by rw [d2] at q; cases q⟩
  keep:=fun i h h' st k=>by
    obtain ⟨hz,hTI,⟨a,c,hTO⟩,h1,h2⟩:=st;exact ⟨k z (by simp) _ hz,k TI (by simp) _ hTI,⟨a,c,k TO (by simp) _ hTO⟩,h1.at fun o e=>k i1 (by simp) o e,h2.at fun o e=>k i2 (by simp) o e⟩
  item:=by
    intro X hP hw hK hc i pins s σ H E I hf st hg;subst hP hw hK;obtain ⟨hz,hTI,⟨a,c,hTO⟩,h1,h2⟩:=st;obtain ⟨xs,ys,x,y,q1,q2,ex,ey⟩:=hg;obtain ⟨its1,r1,p1,_⟩:=I.list q1;obtain ⟨its2,r2,p2,_⟩:=I.list q2;obtain ⟨u1,e1,ru1⟩:=P3 r1 ex;obtain ⟨u2,e2,ru2⟩:=P3 r2 ey;refine wpAny_pyNext_zip_item D hz hTI hTO h1 h2 p1.isList p2.isList (by simpa using e1) (by simpa using e2) fun h' a1 a2 a3 a4 a5 a6 hk=>⟨_,rfl,?_⟩;refine wpAny_letOwnedTupleGo_zip a1 fun h'' b1 sb=>?_;have lt:∀ {b o},s.heap.get? b=some o->s.heap.objs.size≠b:=fun e=>Nat.ne_of_gt (Heap.lt_size e);have k2:∀ b o,b ∉ [z,TO,i1,i2]->s.heap.get? b=some o->h''.get? b=some o:=fun b o hb e=>by
      simp only [List.mem_cons,List.mem_nil_iff,or_false,not_or] at hb;exact (sb.2 b hb.1).trans (hk b o hb.1 hb.2.1 hb.2.2.1 hb.2.2.2 e)
    have I2:Inv X pins σ (upd H s.heap.objs.size (.tup [x,y])) { s with heap:=h'',toks:=s.toks }:=by
      refine I.laidL (wr:=[z,TO,i1,i2]) k2 (fun b hb=>hf b ?_) (Zv _) ⟨by show 2<=sizeLine; decide,[u1,u2],.cons ru1 (.cons ru2 .nil),?_⟩
      · simp only [List.mem_cons,List.mem_nil_iff,or_false] at hb ⊢
        rcases hb with q | q | q | q <;> simp [q]
      · exact ⟨_,(sb.2 _ (lt hz)).trans a5,rfl,_,rfl⟩
    refine ⟨.ref s.heap.objs.size,_,I2,rfl,⟨_,x,y,rfl,I.fresh,rfl,fun zs hzs=>by rw [I.list_inj hzs q1]; exact ex,fun zs hzs=>by rw [I.list_inj hzs q2]; exact ey⟩,⟨b1,(sb.2 _ D.TIz).trans (hk _ _ D.TIz D.TITO D.TIi1 D.TIi2 hTI),⟨_,_,(sb.2 _ D.TOz).trans a2⟩,a3.at fun o e=>(sb.2 _ D.i1z).trans e,a4.at fun o e=>(sb.2 _ D.i2z).trans e⟩,fun b hb=>?_⟩;have:b≠s.heap.objs.size:=by
      simp only [List.mem_cons,List.mem_nil_iff,or_false] at hb;obtain ⟨_,g1,_⟩:=h1;obtain ⟨_,g2,_⟩:=h2;rcases hb with rfl | rfl | rfl | rfl | rfl
      · exact (lt hz).symm
      · exact (lt hTI).symm
      · exact (lt hTO).symm
      · exact (lt g1).symm
      · exact (lt g2).symm
    rw [B4 this]; exact (hf b hb).1
  done:=by
    intro X hP hw hK hc i pins s σ H E I hf st hg;subst hP hw hK;obtain ⟨hz,hTI,⟨a,c,hTO⟩,h1,h2⟩:=st;obtain ⟨xs,ys,q1,q2,hl⟩:=hg;obtain ⟨its1,r1,p1,_⟩:=I.list q1;obtain ⟨its2,r2,p2,_⟩:=I.list q2;have n1:=r1.length;have n2:=r2.length;refine wpAny_pyNext_zip_end (I.ok.hd hc) D hz hTI hTO h1 h2 p1.isList p2.isList (hl.imp (fun q=>by simp; omega) fun q=>by simp; omega) fun h' hk=>⟨rfl,?_⟩;refine I.turnL (t':=s.toks) (wr:=[z,TO,i1,i2]) (fun b o hb e=>?_) (fun b hb=>hf b ?_)
    · simp only [List.mem_cons,List.mem_nil_iff,or_false,not_or] at hb
      exact hk b o hb.1 hb.2.1 hb.2.2.1 hb.2.2.2 e
    · simp only [List.mem_cons,List.mem_nil_iff,or_false] at hb ⊢
      rcases hb with q | q | q | q <;> simp [q]
  self:=fun _ _ _ _ _ st h=>wpAny_pyIter_zip st.1 h
theorem A9j {P:Program} {w:World} {K:PySem.W.Frag} {es:List Expr} {kk:Nat} {tp:Pos} {e it l:Addr} (hei:e≠it) :
    Turn P w K (.Tuple es kk tp) (Ite K l) [e,it] e (fun i h=>(∃ old,IsEnum h e it i old)/\h.IsListIter it l i) where
  mem:=Zy
  obj:=fun i h st b hb=>by
    obtain ⟨⟨old,he⟩,⟨o1,g1,k1,d1⟩⟩:=st;simp only [List.mem_cons,List.mem_nil_iff,or_false] at hb;rcases hb with rfl | rfl
    · exact ⟨_,he,fun v q=>Data.noConfusion (show Data.fields _=Data.cell v from q)⟩
    · exact ⟨_,g1,fun v q=>by rw [d1] at q; cases q⟩
  keep:=fun i h h' st k=>by
    obtain ⟨⟨old,he⟩,h1⟩:=st;exact ⟨⟨old,k e (by simp) _ he⟩,h1.at fun o q=>k it (by simp) o q⟩
  item:=by
    intro X hP hw hK hc i pins s σ H E I hf st hg;subst hP hw hK;obtain ⟨⟨old,he⟩,h1⟩:=st;obtain ⟨xs,x,q1,ex⟩:=hg;obtain ⟨its1,r1,p1,_⟩:=I.list q1;obtain ⟨u1,e1,ru1⟩:=P3 r1 ex;refine wpAny_pyNext_enum_item he h1 p1.isList (x:=u1) (by simpa using e1) hei fun h' a1 a2 a3 a4 hk=>⟨_,rfl,?_⟩;refine wpAny_letOwnedTupleGo_enum a1 fun h'' b1 sb=>?_;have lt:∀ {b o},s.heap.get? b=some o->s.heap.objs.size≠b:=fun e=>Nat.ne_of_gt (Heap.lt_size e);obtain ⟨o1,g1,_⟩:=id h1;have I2:Inv X pins σ (upd H s.heap.objs.size (.tup [.int i,x])) { s with heap:=h'',toks:=s.toks + 1 }:=by
      refine I.laidL (wr:=[e,it]) (fun b o hb q=>?_) (fun b hb=>hf b hb) (Zv _) ⟨by show 2<=sizeLine; decide,[.int i s.toks,u1],.cons ⟨_,rfl⟩ (.cons ru1 .nil),?_⟩
      · simp only [List.mem_cons,List.mem_nil_iff,or_false,not_or] at hb
        exact (sb.2 b hb.1).trans (hk b o hb.1 hb.2 q)
      · exact ⟨_,(sb.2 _ (lt he)).trans a3,rfl,_,rfl⟩
    refine ⟨.ref s.heap.objs.size,_,I2,rfl,⟨_,x,rfl,I.fresh,rfl,fun zs hzs=>by rw [I.list_inj hzs q1]; exact ex⟩,⟨⟨_,by simpa using b1⟩,a2.at fun o q=>(sb.2 _ hei.symm).trans q⟩,fun b hb=>?_⟩;have:b≠s.heap.objs.size:=by
      simp only [List.mem_cons,List.mem_nil_iff,or_false] at hb;rcases hb with rfl | rfl
      · exact (lt he).symm
      · exact (lt g1).symm
    rw [B4 this]; exact (hf b hb).1
  done:=by
    intro X hP hw hK hc i pins s σ H E I hf st hg;subst hP hw hK;obtain ⟨⟨old,he⟩,h1⟩:=st;obtain ⟨xs,q1,hl⟩:=hg;obtain ⟨its1,r1,p1,_⟩:=I.list q1;have n1:=r1.length;refine wpAny_pyNext_enum_end (I.ok.hd hc) he h1 p1.isList (by simp; omega) fun h' hk=>⟨rfl,?_⟩;refine I.turnL (t':=s.toks) (wr:=[e,it]) (fun b o hb q=>?_) (fun b hb=>hf b hb);simp only [List.mem_cons,List.mem_nil_iff,or_false,not_or] at hb;exact hk b o hb.2 q
  self:=fun _ _ _ _ _ st h=>by obtain ⟨⟨old,he⟩,_⟩:=st; exact wpAny_pyIter_enum he h
section
variable {X:Cx}
def C4k (K:PySem.W.Frag) (ta:TA):TI:=fun σ H R=>ta σ H fun vs H1=>∃ l xs,vs=[.ref l]/\SqL K H1 l xs/\R (Ite K l) H1
theorem B62 {K:PySem.W.Frag} {a:Expr} {ta:TA} {p pos:Pos} {es:List Expr} {kk:Nat} {tp:Pos} (hK:X.K=K) (hg:Gl X "enumerate") (hm:X.mg "enumerate"=none) (ha:PA X [a] ta)
  (hs:starEach [a] X.env=[(false,eval a X.env)]:=by rfl):PI X (.Tuple es kk tp) (.Call (.Name "enumerate" p) [a] [] pos) (C4k K ta):=by
 subst hK;intro pins s σ H R I h;refine Call_ (Y0 I hg hm boot_enumerate (PyProof.Rows.callWith_type1 (thn (ha pos pins s σ H _ I h) fun us s1 ⟨vs,H1,I1,r1,q1⟩=>?_) hs rfl));obtain ⟨l,xs,e,g1,q⟩:=q1;subst e;cases r1 with
 | cons r rr =>
  cases rr;cases r;obtain ⟨its1,_,p1,_⟩:=I1.list g1;refine call_enumerate_list p1.isList fun h' a1 a2 a3 hk=>wpAny_pyIter_enum a1 ?_;have I2:Inv X pins σ H1 { s1 with heap:=h' }:=I1.kept (t':=s1.toks) hk;refine ⟨_,[s1.heap.objs.size + 1,s1.heap.objs.size],_,_,H1,rfl,I2,A9j (Nat.succ_ne_self _),⟨⟨_,a1⟩,a2⟩,fun b hb=>?_,q⟩;have hb':s1.heap.objs.size<=b:=by
   simp only [List.mem_cons,List.mem_nil_iff,or_false] at hb;rcases hb with rfl | rfl <;> omega
  exact I1.fpOk hb' (I1.hok.fresh hb')
theorem A2e {K:PySem.W.Frag} {a:Expr} {ta:TA} {p pos:Pos} {es:List Expr} {kk:Nat} {tp:Pos} (hK:X.K=K) (hg:Gl X "enumerate") (hm:X.mg "enumerate"=none) (ha:QA X [a] ta)
  (hs:starEach [a] X.env=[(false,eval a X.env)]:=by rfl):QI X (.Tuple es kk tp) (.Call (.Name "enumerate" p) [a] [] pos) (C4k K ta):=⟨B62 hK hg hm ha.out hs⟩
end
end L2
namespace Pu
open PySem L2 My Prf
class RL (K:Frag) (te:TE) (pl:outParam PAr):Prop where
 ok:∀ (c:Ct) (w:Wd) (env:PEnv) (σ:St) (Qp:LP->PEnv->Prop) (Q:VK),c.K=K->EnvOk c w env σ->pl env Qp->(∀ v xs env' w',EnvOk c w' env' σ->Lw w w'->VR c w' v (.bor xs)->Qp xs env'->Q v w'.H)->te σ w.H Q
def C7e (pd:PDt) (env:PEnv) (Q:LP->PEnv->Prop):Prop:=pd env fun x e=>asL x fun xs=>Q xs e
def C3x (i:Nat) (env:PEnv) (Q:LP->PEnv->Prop):Prop:=match env[i]? with
 | some (some (.d x))=>asL x fun xs=>Q xs env
 | some (some (.own xs))=>Q xs (env.set i (some (.d (.list xs))))
 | some (some (.bor xs))=>Q xs env
 | _=>False
instance rl_var {K:Frag} {i:Nat}:RL K (tVar i) (C3x i) where
 ok:=by
  rintro c w env σ Qp Q rfl E p k;unfold C3x at p;split at p
  ·rename_i x e;obtain ⟨v,h1,h2⟩:=E.at' i _ e;unfold asL at p;split at p
   ·exact ⟨v,h1,k v _ env w E (Lw.refl w) (.inl h2) p⟩
   ·exact p.elim
  ·rename_i xs e;obtain ⟨w',v,e',hv,E',l,d⟩:=E.frz e;refine ⟨v,hv,?_⟩;rw [<- e'];exact k v _ _ w' E' l (.inl d) p
  ·rename_i xs e;obtain ⟨v,h1,h2⟩:=E.at' i _ e;exact ⟨v,h1,k v _ env w E (Lw.refl w) h2 p⟩
  ·exact p.elim
inductive Brs (c:Ct) (w:Wd):List V->List LP->Prop
 | nil:Brs c w [] []
 | cons {v:V} {xs:LP} {vs:List V} {xss:List LP}:VR c w v (.bor xs)->Brs c w vs xss->Brs c w (v :: vs) (xs :: xss)
theorem B75 {c:Ct} {w w':Wd} {v:V} {xs:LP} (s:Same w.F w'.F) (h:VR c w v (.bor xs)):VR c w' v (.bor xs):=by
 rcases h with h | ⟨l,vs,e,h1,h2,h3⟩
 ·exact .inl (Den.same s h)
 ·exact .inr ⟨l,vs,e,h1,h2,DenAll.same s h3⟩
class RLs (K:Frag) (ta:TA) (pa:outParam (PEnv->(List LP->PEnv->Prop)->Prop)):Prop where
 ok:∀ (c:Ct) (w:Wd) (env:PEnv) (σ:St) (Qp:List LP->PEnv->Prop) (Q:List V->Hpp->Prop),c.K=K->EnvOk c w env σ->pa env Qp->(∀ vs xss env' w',EnvOk c w' env' σ->Lw w w'->Brs c w' vs xss->Qp xss env'->Q vs w'.H)->ta σ w.H Q
def pLsN (env:PEnv) (Q:List LP->PEnv->Prop):Prop:=Q [] env
def pLsC (pl:PAr) (pr:PEnv->(List LP->PEnv->Prop)->Prop) (env:PEnv) (Q:List LP->PEnv->Prop):Prop:=pl env fun xs e1=>pr e1 fun xss e2=>Q (xs :: xss) e2
instance rls_nil {K:Frag}:RLs K tNil pLsN:=⟨fun c w env σ Qp Q _ E p k=>k [] [] env w E (Lw.refl w) .nil p⟩
instance rls_cons {K:Frag} {te:TE} {tr:TA} {pl:PAr} {pr:PEnv->(List LP->PEnv->Prop)->Prop} [hl:RL K te pl] [hr:RLs K tr pr]:RLs K (J3 te tr) (pLsC pl pr) where
 ok:=by
  rintro c w env σ Qp Q rfl E p k;refine hl.ok c w env σ _ _ rfl E p fun v xs e1 w1 E1 l1 b1 q1=>?_;refine hr.ok c w1 e1 σ _ _ rfl E1 q1 fun vs xss e2 w2 E2 l2 b2 q2=>?_;exact k _ _ e2 w2 E2 (l1.trans l2) (.cons (B75 l2.f b1) b2) q2
theorem B76 {c:Ct} {w:Wd} {v:V} {xs:LP} (h:VR c w v (.bor xs)):∃ l vs,v=.ref l/\DenAll c.K w.F vs xs/\∀ w',w'.Ok->Le c.w0 w'->Same w.F w'.F->SqL c.K w'.H l vs:=by
 rcases h with h | ⟨l,vs,e,h1,h2,h3⟩
 ·obtain ⟨a,vs,e,g1,g2⟩:=Den.lstE h;exact ⟨a,vs,e,g2,fun w' ok _ s=>(s.trans ok.sub).seq g1⟩
 ·exact ⟨l,vs,e,h3,fun w' _ l' _=>SqL.of (l'.h _ _ h1 h2)⟩
def zipD (xs ys:LP):LP:=List.zipWith (fun x y=>.tuple [x,y]) xs ys
def A1o (xs:LP):LP:=xs.zipIdx.map fun p=>.tuple [.int (p.2:Int),p.1]
theorem B5z {xs ys:LP} {i:Nat} {x:PyData} (h:(zipD xs ys)[i]?=some x):∃ a b,xs[i]?=some a/\ys[i]?=some b/\x=.tuple [a,b]:=by
 unfold zipD at h;rw [List.getElem?_zipWith] at h;cases h1:xs[i]? with
 | none=>rw [h1] at h; cases h
 | some a=>cases h2:ys[i]? with
  | none=>rw [h1,h2] at h; cases h
  | some b=>rw [h1,h2] at h; cases h; exact ⟨a,b,rfl,rfl,rfl⟩
theorem B5y {xs ys:LP}:(zipD xs ys).length=min xs.length ys.length:=List.length_zipWith
theorem B49 {xs:LP} {i:Nat} {x:PyData} (h:(A1o xs)[i]?=some x):∃ a,xs[i]?=some a/\x=.tuple [.int (i:Int),a]:=by
 unfold A1o at h;rw [Zh,List.getElem?_zipIdx] at h;cases h1:xs[i]? with
 | none=>rw [h1] at h; cases h
 | some a=>rw [h1] at h; cases h; exact ⟨a,rfl,by simp⟩
theorem A3k {xs:LP}:(A1o xs).length=xs.length:=by unfold A1o; rw [Zl,List.length_zipIdx]
def pZip (pa:PEnv->(List LP->PEnv->Prop)->Prop) (env:PEnv) (Q:LP->PEnv->Prop):Prop:=pa env fun xss e=>match xss with
 | [xs,ys]=>Q (zipD xs ys) e
 | _=>False
def C7n (pa:PEnv->(List LP->PEnv->Prop)->Prop) (env:PEnv) (Q:LP->PEnv->Prop):Prop:=pa env fun xss e=>match xss with
 | [xs]=>Q (A1o xs) e
 | _=>False
instance ri_enum {K:Frag} {ta:TA} {pa:PEnv->(List LP->PEnv->Prop)->Prop} [ha:RLs K ta pa]:RI K (C4k K ta) (C7n pa) where
 ok:=by
  rintro c w env σ Qp R rfl E p k;refine ha.ok c w env σ _ _ rfl E p fun vs xss e1 w1 E1 l1 b1 q1=>?_;split at q1
  ·rename_i xs;cases b1 with | cons h t =>
    cases t;obtain ⟨a1,us1,rfl,d1,s1⟩:=B76 h;refine ⟨a1,us1,rfl,s1 w1 E1.wok E1.le0 (Same.refl _),k _ _ e1 w1 E1 l1 ?_ q1⟩;intro w' ok l s;have g1:=s1 w' ok l s;have n1:=d1.len;rw [A3k];refine ⟨fun i hi=>⟨us1,us1[i]'(by omega),g1,Zg _⟩,⟨us1,g1,by omega⟩,fun i v H' y hi=>?_⟩;obtain ⟨T,x,rfl,hT,rfl,y1⟩:=y;obtain ⟨dx,x1,x2⟩:=d1.get (y1 us1 g1);refine ⟨w'.tup T (.tup [.int i,x]),.tuple [.int i,dx],rfl,Wd.tup_ok ok hT,Wd.tup_le ok hT,?_,?_⟩
    ·unfold A1o; rw [Zh,List.getElem?_zipIdx,x1]; simp
    ·have f:=(Wd.tup_le (o:=.tup [.int i,x]) ok hT).f;exact .tup (SqD.of B5) (.cons (.int _) (.cons (Den.same (s.trans f) x2) .nil))
  ·exact q1.elim
end Pu
namespace Pu
open PySem L2 My Prf
theorem S2 {n:Nat} {pr:LP->PEnv->(PEnv->Prop)->Prop} {xs:LP} {env:PEnv} {Q:PEnv->Prop}:qTup n pr (.tuple xs) env Q=(xs.length=n/\pr xs env Q):=rfl
theorem A56 {pr:LP->PEnv->(PEnv->Prop)->Prop} {c:Rat × Rat} {env:PEnv} {Q:PEnv->Prop}:qTup 2 pr (dcn c) env Q=pr [dq c.1,dq c.2] env Q:=by
 show (2=2/\_)=_; simp
theorem A44 {c:Rat × Rat}:(dcn c).canLay0=true:=rfl
theorem B5g {c:Rat × Rat}:(dcn c).depth=2:=rfl
theorem B48 {c:Rat × Rat}:PyData.eqv (dcn c) (dcn c)=true:=PySem.SeqAt.eqv_refl _ A44
theorem A7e {c:Rat × Rat}:isNo (dcn c)=false:=rfl
end Pu
namespace L2
open PySem PySem.Spec PyProof.Rows
section
variable {prog:Program} {w:World} {A:Around} {E:Value->Shared->Prop} {s:Shared}
theorem U3 {it t:Addr} {i:Nat} {items:Array Value} {x:Value} {Q:Value->Shared->Prop} (hit:s.heap.IsTupleIter it t i) (ht:s.heap.IsTuple t items) (hx:items[i]?=some x)
  (hQ:∀ h',h'.IsTupleIter it t (i + 1)->Heap.SameBut it s.heap h'->Q x { s with heap:=h' }):wpAny (model prog w) A (Builtin.SmallTypes.nextOf (.ref it)) Q E s:=by
 have hit':=hit;obtain ⟨ob,go,gc,gd⟩:=hit';obtain ⟨ot,tg,_,tn,td⟩:=ht;have key:wpAny (model prog w) A (callSpecial? (.ref it) (Str.ofString "__next__")) (fun r s'=>r=some x/\Q x s') E s:=by
  refine wpAny_callSpecial?_slot (name:=Str.ofString "__next__") hit.typeIs F.slot_tuple_iterator_next (wpAny_call_entry F.slot_tuple_iterator_next hit.typeIs F.entry_tuple_iterator_next ?_ (F.args_tuple_iterator_next_1 _));refine wpAny_bind (m:=field (.ref it) 0) (wpAny_field go gd (x:=.ref t) rfl ?_);show wpAny _ _ (if (Value.ref t == .none)=true then _ else _) _ _ s;rw [if_neg (fun q=>by cases q)];refine wpAny_bind (m:=field (.ref it) 1) (wpAny_field go gd (x:=.int i 0) rfl (wpAny_bind (m:=seqItems? (.ref t)) (wpAny_seqItems tg td ?_)));simp only [Int.toNat_natCast,hx];refine wpAny_bind (wpAny_setField go gd (by simp) (wpAny_pure ⟨x,rfl,rfl,hQ _ ?_ (Heap.SameBut.update ..)⟩));refine ⟨_,Heap.get?_update_self _ go (Obj.isFreed_of_fields (Obj.data_mapFields gd _)),(Obj.cls_mapFields ..).trans gc,?_⟩;rw [Obj.data_mapFields gd]; simp [rawInt]
 unfold Builtin.SmallTypes.nextOf;refine wpAny_bind (wpAny_mono key (fun r s' h=>?_) fun _ _ e=>e);obtain ⟨rfl,q⟩:=h;exact wpAny_pure q
theorem A27 {it t:Addr} {i:Nat} {items:Array Value} {Q:Value->Shared->Prop} (hh:A.handled=none) (hit:s.heap.IsTupleIter it t i) (ht:s.heap.IsTuple t items) (hx:items[i]?=none)
  (hE:∀ h' e,Heap.ExtBut it s.heap h'->(∃ o,h'.get? e=some o/\o.cls=.type "StopIteration")->E (.ref e) { s with heap:=h' }):wpAny (model prog w) A (Builtin.SmallTypes.nextOf (.ref it)) Q E s:=by
 have hit':=hit;obtain ⟨ob,go,gc,gd⟩:=hit';obtain ⟨ot,tg,_,tn,td⟩:=ht;unfold Builtin.SmallTypes.nextOf;refine wpAny_bind (wpAny_callSpecial?_slot (name:=Str.ofString "__next__") hit.typeIs F.slot_tuple_iterator_next (wpAny_call_entry F.slot_tuple_iterator_next hit.typeIs F.entry_tuple_iterator_next ?_ (F.args_tuple_iterator_next_1 _)));refine wpAny_bind (m:=field (.ref it) 0) (wpAny_field go gd (x:=.ref t) rfl ?_);show wpAny _ _ (if (Value.ref t == .none)=true then _ else _) _ _ s;rw [if_neg (fun q=>by cases q)];refine wpAny_bind (m:=field (.ref it) 1) (wpAny_field go gd (x:=.int i 0) rfl (wpAny_bind (m:=seqItems? (.ref t)) (wpAny_seqItems tg td ?_)));simp only [Int.toNat_natCast,hx];refine wpAny_bind (wpAny_rule (wpAny_bind (wpAny_setField go gd (by simp) (wpAny_bind ?_))));simp only [newExc,newTuple];refine wpAny_bind (wpAny_newObj_type (wpAny_bind (m:=firstArgMember _ _) (wpAny_of_eq (a:=Value.none) (by first | rfl | (simp only [firstArgMember]; rfl)) (wpAny_newObj_type ?_ (by size_fits)))) (by size_fits));simp only [raiseNew];refine wpAny_bind (wpAny_handled ?_);rw [show A.in1.handled=none from hh];refine wpAny_bind (wpAny_pure (wpAny_throw (hE _ _ (((Heap.SameBut.update ..).extBut.push _).push _) ⟨_,Heap.get?_push_size _ rfl,rfl⟩)))
theorem A84 {z TI TO i1 i2 l1 l2:Addr} {k1 k2:Nat} {xs ys:Array Value} {x y a b:Value} {Q:Value->Shared->Prop} (D:ZipApart z TI TO i1 i2 l1 l2) (hz:IsZip s.heap z TI TO .none) (hTI:IsPair s.heap TI (.ref i1) (.ref i2)) (hTO:IsPair s.heap TO a b)
  (h1:s.heap.IsTupleIter i1 l1 k1) (h2:s.heap.IsTupleIter i2 l2 k2) (hl1:s.heap.IsTuple l1 xs) (hl2:s.heap.IsTuple l2 ys) (hx:xs[k1]?=some x) (hy:ys[k2]?=some y)
  (hQ:∀ h',IsZip h' z TI TO (rawInt s.heap.objs.size)->IsPair h' TO x y->h'.IsTupleIter i1 l1 (k1 + 1)->h'.IsTupleIter i2 l2 (k2 + 1)->IsPair h' s.heap.objs.size x y ->
   (∀ c o,c≠z->c≠TO->c≠i1->c≠i2->s.heap.get? c=some o->h'.get? c=some o)->Q (.ref s.heap.objs.size) { s with heap:=h' }) :
  wpAny (model prog w) A (Builtin.«zip.__next__» ⟨[.ref z],[]⟩) (fun fin s'=>∃ v,fin=.done (.ret v)/\Q v s') E s:=by
 refine wpAny_bind (m:=field (.ref z) 2) (wpAny_field hz rfl (x:=.bool false) rfl ?_);refine wpAny_bind (m:=field (.ref z) 3) (wpAny_field hz rfl (x:=.ref TI) rfl (wpAny_bind (wpAny_seqItems hTI rfl (wpAny_bind (m:=Builtin.SmallTypes.ownedTupleIsFree (.ref z)) ?_))));unfold Builtin.SmallTypes.ownedTupleIsFree;refine wpAny_bind (wpAny_field hz rfl (x:=.none) rfl (wpAny_pure ?_));simp only [if_true];refine wpAny_bind (wpAny_rule (wpAny_bind (wpAny_field hz rfl (x:=.ref TO) rfl (wpAny_bind (wpAny_setField_rec hz (by simp) fun g1 z1 e1=>wpAny_bind ?_)))));have z1:IsZip g1 z TI TO .ellipsis:=z1;simp only [List.zipIdx_cons,List.zipIdx_nil,List.forIn_cons,List.forIn_nil];refine wpAny_bind (wpAny_bind (wpAny_onRaise (wpAny_bind (U3 (h1.at fun o q=>e1.extBut _ _ D.i1z q) (hl1.at fun o q=>e1.extBut _ _ D.l1z q) hx fun g2 n1 e2=>wpAny_pure ?_))));have t2:IsPair g2 TO a b:=e2.extBut _ _ D.TOi1 (e1.extBut _ _ D.TOz hTO);refine wpAny_bind (wpAny_seqItems t2 rfl (wpAny_bind (wpAny_updateSeq_pair t2 fun g3 t3 e3=>wpAny_bind (wpAny_letGo (wpAny_pure ?_)))));have t3:IsPair g3 TO x b:=t3;refine wpAny_bind (wpAny_bind (wpAny_onRaise (wpAny_bind (U3 (h2.at fun o q=>e3.extBut _ _ D.TOi2.symm (e2.extBut _ _ D.i12.symm (e1.extBut _ _ D.i2z q))) (hl2.at fun o q=>e3.extBut _ _ D.l2TO (e2.extBut _ _ D.l2i1 (e1.extBut _ _ D.l2z q))) hy fun g4 n2 e4=>wpAny_pure ?_))));have t4:IsPair g4 TO x b:=e4.extBut _ _ D.TOi2 t3;refine wpAny_bind (wpAny_seqItems t4 rfl (wpAny_bind (wpAny_updateSeq_pair t4 fun g5 t5 e5=>wpAny_bind (wpAny_letGo (wpAny_pure (wpAny_pure ?_))))));have t5:IsPair g5 TO x y:=t5;refine wpAny_bind (wpAny_seqItems t5 rfl (wpAny_bind (wpAny_newTuple (wpAny_bind (m:=Builtin.SmallTypes.ownedTupleHandOut (.ref z) (.ref g5.objs.size)) ?_))));have sz:g5.objs.size=s.heap.objs.size:=by rw [e5.1,e4.1,e3.1,e2.1,e1.1]
 have z5:IsZip g5 z TI TO .ellipsis:=e5.extBut _ _ D.TOz.symm (e4.extBut _ _ D.i2z.symm (e3.extBut _ _ D.TOz.symm (e2.extBut _ _ D.i1z.symm z1)));have k5:∀ c o,c≠z->c≠TO->c≠i1->c≠i2->s.heap.get? c=some o->g5.get? c=some o:=fun c o c1 c2 c3 c4 q=>e5.extBut _ _ c2 (e4.extBut _ _ c4 (e3.extBut _ _ c2 (e2.extBut _ _ c3 (e1.extBut _ _ c1 q))));have n15:g5.IsTupleIter i1 l1 (k1 + 1):=n1.at fun o q=>e5.extBut _ _ D.TOi1.symm (e4.extBut _ _ D.i12 (e3.extBut _ _ D.TOi1.symm q));have n25:g5.IsTupleIter i2 l2 (k2 + 1):=n2.at fun o q=>e5.extBut _ _ D.TOi2.symm q;have zl:z < g5.objs.size:=Heap.lt_size z5;unfold Builtin.SmallTypes.ownedTupleHandOut;have z6:IsZip (g5.push { cls:=.type "tuple",data:=.seq #[x,y] }) z TI TO .ellipsis:=Heap.get?_push_of_some _ z5;refine wpAny_bind (wpAny_setField_rec z6 (by simp) fun g7 z7 e7=>?_);have z7:IsZip g7 z TI TO (rawInt g5.objs.size):=z7;refine wpAny_setField_rec z7 (by simp) fun g8 z8 e8=>?_;have z8:IsZip g8 z TI TO (rawInt g5.objs.size):=z8;have up:∀ c o,c≠z->g5.get? c=some o->g8.get? c=some o:=fun c o c1 q=>e8.extBut _ _ c1 (e7.extBut _ _ c1 (Heap.get?_push_of_some _ q));have p8:IsPair g8 g5.objs.size x y:=e8.extBut _ _ (Nat.ne_of_gt zl) (e7.extBut _ _ (Nat.ne_of_gt zl) (Heap.get?_push_size _ rfl));rw [sz] at z8 p8;refine wpAny_pure ⟨_,rfl,?_⟩;show Q (.ref g5.objs.size) _;rw [sz];exact hQ g8 z8 (up _ _ D.TOz t5) (n15.at fun o q=>up _ o D.i1z q) (n25.at fun o q=>up _ o D.i2z q) p8 fun c o c1 c2 c3 c4 q=>up c o c1 (k5 c o c1 c2 c3 c4 q)
theorem B5x {z TI TO i1 i2 l1 l2:Addr} {k1 k2:Nat} {xs ys:Array Value} {a b:Value} {Q:Fin->Shared->Prop} (hh:A.handled=none) (D:ZipApart z TI TO i1 i2 l1 l2) (hz:IsZip s.heap z TI TO .none) (hTI:IsPair s.heap TI (.ref i1) (.ref i2)) (hTO:IsPair s.heap TO a b)
  (h1:s.heap.IsTupleIter i1 l1 k1) (h2:s.heap.IsTupleIter i2 l2 k2) (hl1:s.heap.IsTuple l1 xs) (hl2:s.heap.IsTuple l2 ys) (hend:xs[k1]?=none\/ys[k2]?=none)
  (hE:∀ h' e,(∀ c o,c≠z->c≠TO->c≠i1->c≠i2->s.heap.get? c=some o->h'.get? c=some o)->(∃ o,h'.get? e=some o/\o.cls=.type "StopIteration")->E (.ref e) { s with heap:=h' }) :
  wpAny (model prog w) A (Builtin.«zip.__next__» ⟨[.ref z],[]⟩) Q E s:=by
 refine wpAny_bind (m:=field (.ref z) 2) (wpAny_field hz rfl (x:=.bool false) rfl ?_);refine wpAny_bind (m:=field (.ref z) 3) (wpAny_field hz rfl (x:=.ref TI) rfl (wpAny_bind (wpAny_seqItems hTI rfl (wpAny_bind (m:=Builtin.SmallTypes.ownedTupleIsFree (.ref z)) ?_))));unfold Builtin.SmallTypes.ownedTupleIsFree;refine wpAny_bind (wpAny_field hz rfl (x:=.none) rfl (wpAny_pure ?_));simp only [if_true];refine wpAny_bind (wpAny_rule (wpAny_bind (wpAny_field hz rfl (x:=.ref TO) rfl (wpAny_bind (wpAny_setField_rec hz (by simp) fun g1 z1 e1=>wpAny_bind ?_)))));have z1:IsZip g1 z TI TO .ellipsis:=z1;simp only [List.zipIdx_cons,List.zipIdx_nil,List.forIn_cons,List.forIn_nil];refine wpAny_bind (wpAny_bind (wpAny_onRaise (wpAny_bind (m:=Builtin.SmallTypes.nextOf (.ref i1)) ?_)));cases hx:xs[k1]? with
 | none =>
  refine A27 hh (h1.at fun o q=>e1.extBut _ _ D.i1z q) (hl1.at fun o q=>e1.extBut _ _ D.l1z q) hx fun g2 e e2 he=>?_;obtain ⟨oe,go,gc⟩:=he;have z2:IsZip g2 z TI TO .ellipsis:=e2 _ _ D.i1z.symm z1;have ez:e≠z:=fun q=>by subst q; rw [z2] at go; cases go; simp at gc
  exact wpAny_setField_rec z2 (by simp) fun g3 _ e3=>hE g3 e (fun c o c1 _ c3 _ q=>e3.extBut _ _ c1 (e2 _ _ c3 (e1.extBut _ _ c1 q))) ⟨oe,e3.extBut _ _ ez go,gc⟩
 | some x =>
  have hy:ys[k2]?=none:=hend.elim (fun q=>by rw [hx] at q; cases q) id;refine U3 (h1.at fun o q=>e1.extBut _ _ D.i1z q) (hl1.at fun o q=>e1.extBut _ _ D.l1z q) hx fun g2 n1 e2=>wpAny_pure ?_;have t2:IsPair g2 TO a b:=e2.extBut _ _ D.TOi1 (e1.extBut _ _ D.TOz hTO);refine wpAny_bind (wpAny_seqItems t2 rfl (wpAny_bind (wpAny_updateSeq_pair t2 fun g3 t3 e3=>wpAny_bind (wpAny_letGo (wpAny_pure ?_)))));refine wpAny_bind (wpAny_bind (wpAny_onRaise (wpAny_bind (A27 hh (h2.at fun o q=>e3.extBut _ _ D.TOi2.symm (e2.extBut _ _ D.i12.symm (e1.extBut _ _ D.i2z q))) (hl2.at fun o q=>e3.extBut _ _ D.l2TO (e2.extBut _ _ D.l2i1 (e1.extBut _ _ D.l2z q))) hy fun g4 e e4 he=>?_))));obtain ⟨oe,go,gc⟩:=he;have z4:IsZip g4 z TI TO .ellipsis:=e4 _ _ D.i2z.symm (e3.extBut _ _ D.TOz.symm (e2.extBut _ _ D.i1z.symm z1));have ez:e≠z:=fun q=>by subst q; rw [z4] at go; cases go; simp at gc
  exact wpAny_setField_rec z4 (by simp) fun g5 _ e5=>hE g5 e (fun c o c1 c2 c3 c4 q=>e5.extBut _ _ c1 (e4 _ _ c4 (e3.extBut _ _ c2 (e2.extBut _ _ c3 (e1.extBut _ _ c1 q))))) ⟨oe,e5.extBut _ _ ez go,gc⟩
end
end L2
namespace L2
open PySem PySem.Spec PyProof.Rows
def zT1 (h:Heap) (l1:Addr):Heap:=h.push { cls:=.type "tuple_iterator",data:=.fields #[.ref l1,.int 0 0] }
def zT2 (h:Heap) (l1 l2:Addr):Heap:=(zT1 h l1).push { cls:=.type "tuple_iterator",data:=.fields #[.ref l2,.int 0 0] }
def zT3 (h:Heap) (l1 l2:Addr):Heap:=(zT2 h l1 l2).push { cls:=.type "tuple",data:=.seq #[.ref h.objs.size,.ref (zT1 h l1).objs.size] }
def zT4 (h:Heap) (l1 l2:Addr):Heap:=(zT3 h l1 l2).push { cls:=.type "tuple",data:=.seq #[.none,.none] }
def zT5 (h:Heap) (l1 l2:Addr):Heap:=(zT4 h l1 l2).push { cls:=.type "zip",data:=.fields #[.none,.bool false,.bool false,.ref (zT2 h l1 l2).objs.size,.ref (zT3 h l1 l2).objs.size] }
theorem A8q (l1 l2:Addr) (xs ys:Array Value):Meets (Builtin.«zip.__new__» ⟨[.type "zip",.ref l1,.ref l2],[]⟩)
  (fun _ R s=>s.heap.IsTuple l1 xs/\s.heap.IsTuple l2 ys/\R (.ok (.ret (.ref (zT4 s.heap l1 l2).objs.size))) { s with heap:=zT5 s.heap l1 l2 }) :=
 .of_wp fun prog w A R s h=>by
  obtain ⟨hp,g,d,tk,os⟩:=s;obtain ⟨q1,q2,h⟩:=h;have hsub:=sub_zip;have hL1:Heap.IsTuple (Shared.heap ⟨hp,g,d,tk,os⟩) l1 xs:=q1;have hL2:Heap.IsTuple (Shared.heap ⟨hp.push { cls:=.type "tuple_iterator",data:=.fields #[.ref l1,.int 0 0] },g,d,tk,os⟩) l2 ys:=Heap.IsTuple.push q2 _
  wp_walk using wpAny_pyIter_tuple hL1,wpAny_pyIter_tuple hL2
  exact ⟨_,rfl,h⟩
section
variable {prog:Program} {w:World} {A:Around} {E:Value->Shared->Prop} {s:Shared}
theorem B5m {l1 l2:Addr} {xs ys:Array Value} {Q:Value->Shared->Prop} (hl1:s.heap.IsTuple l1 xs) (hl2:s.heap.IsTuple l2 ys)
  (h:∀ h',IsZip h' (s.heap.objs.size + 4) (s.heap.objs.size + 2) (s.heap.objs.size + 3) .none->IsPair h' (s.heap.objs.size + 2) (.ref s.heap.objs.size) (.ref (s.heap.objs.size + 1))->IsPair h' (s.heap.objs.size + 3) .none .none ->
   h'.IsTupleIter s.heap.objs.size l1 0->h'.IsTupleIter (s.heap.objs.size + 1) l2 0->(∀ c o,s.heap.get? c=some o->h'.get? c=some o)->Q (.ref (s.heap.objs.size + 4)) { s with heap:=h' }) :
  wpAny (model prog w) A (call (.type "zip") [.ref l1,.ref l2]) Q E s:=by
 refine callType_new F.called_zip (by decide) (F.typeCall_zip_2 _ _) (F.newCall_zip_2 _ _) (fun obj=>F.args_object_init_3 obj _ _) F.entry_zip_new (A8q l1 l2 xs ys) ⟨hl1,hl2,?_⟩;have s1:(zT1 s.heap l1).objs.size=s.heap.objs.size + 1:=Heap.size_push ..;have s2:(zT2 s.heap l1 l2).objs.size=s.heap.objs.size + 2:=(Heap.size_push ..).trans (by rw [s1]);have s3:(zT3 s.heap l1 l2).objs.size=s.heap.objs.size + 3:=(Heap.size_push ..).trans (by rw [s2]);have s4:(zT4 s.heap l1 l2).objs.size=s.heap.objs.size + 4:=(Heap.size_push ..).trans (by rw [s3]);have u5:∀ {c o},(zT4 s.heap l1 l2).get? c=some o->(zT5 s.heap l1 l2).get? c=some o:=fun q=>Heap.get?_push_of_some _ q;have u4:∀ {c o},(zT3 s.heap l1 l2).get? c=some o->(zT4 s.heap l1 l2).get? c=some o:=fun q=>Heap.get?_push_of_some _ q;have u3:∀ {c o},(zT2 s.heap l1 l2).get? c=some o->(zT3 s.heap l1 l2).get? c=some o:=fun q=>Heap.get?_push_of_some _ q;have u2:∀ {c o},(zT1 s.heap l1).get? c=some o->(zT2 s.heap l1 l2).get? c=some o:=fun q=>Heap.get?_push_of_some _ q;have g5:(zT5 s.heap l1 l2).get? (zT4 s.heap l1 l2).objs.size=some _:=Heap.get?_push_size _ rfl;have g4:(zT5 s.heap l1 l2).get? (zT3 s.heap l1 l2).objs.size=some _:=u5 (Heap.get?_push_size _ rfl);have g3:(zT5 s.heap l1 l2).get? (zT2 s.heap l1 l2).objs.size=some _:=u5 (u4 (Heap.get?_push_size _ rfl));have g2:(zT5 s.heap l1 l2).get? (zT1 s.heap l1).objs.size=some _:=u5 (u4 (u3 (Heap.get?_push_size _ rfl)));have g1:(zT5 s.heap l1 l2).get? s.heap.objs.size=some _:=u5 (u4 (u3 (u2 (Heap.get?_push_size _ rfl))));rw [s2,s3,s4] at g5;rw [s1,s2] at g3;rw [s3] at g4;rw [s1] at g2;show _/\_;rw [s4];exact ⟨⟨_,g5,rfl⟩,h _ g5 g3 g4 ⟨_,g1,rfl,rfl⟩ ⟨_,g2,rfl,rfl⟩ fun c o q=>u5 (u4 (u3 (u2 (Heap.get?_push_of_some _ q))))⟩
theorem A8o {z TI TO i1 i2 l1 l2:Addr} {k1 k2:Nat} {xs ys:Array Value} {x y a b:Value} {Q:Option Value->Shared->Prop} (D:ZipApart z TI TO i1 i2 l1 l2) (hz:IsZip s.heap z TI TO .none) (hTI:IsPair s.heap TI (.ref i1) (.ref i2)) (hTO:IsPair s.heap TO a b)
  (h1:s.heap.IsTupleIter i1 l1 k1) (h2:s.heap.IsTupleIter i2 l2 k2) (hl1:s.heap.IsTuple l1 xs) (hl2:s.heap.IsTuple l2 ys) (hx:xs[k1]?=some x) (hy:ys[k2]?=some y)
  (hQ:∀ h',IsZip h' z TI TO (rawInt s.heap.objs.size)->IsPair h' TO x y->h'.IsTupleIter i1 l1 (k1 + 1)->h'.IsTupleIter i2 l2 (k2 + 1)->IsPair h' s.heap.objs.size x y ->
   (∀ c o,c≠z->c≠TO->c≠i1->c≠i2->s.heap.get? c=some o->h'.get? c=some o)->Q (some (.ref s.heap.objs.size)) { s with heap:=h' }):wpAny (model prog w) A (pyNext (.ref z)) Q E s:=by
 have tz:s.TypeIs (.ref z) "zip":=⟨_,hz,rfl⟩;unfold pyNext;refine wpAny_bind (wpAny_attempt (wpAny_callSpecial?_slot (name:=Str.ofString "__next__") tz F.slot_zip_next (wpAny_call_entry F.slot_zip_next tz F.entry_zip_next ?_ (F.args_zip_next_1 _))));exact A84 D hz hTI hTO h1 h2 hl1 hl2 hx hy fun h' a1 a2 a3 a4 a5 a6=>wpAny_pure (hQ h' a1 a2 a3 a4 a5 a6)
theorem B3l {z TI TO i1 i2 l1 l2:Addr} {k1 k2:Nat} {xs ys:Array Value} {a b:Value} {Q:Option Value->Shared->Prop} (hh:A.handled=none) (D:ZipApart z TI TO i1 i2 l1 l2) (hz:IsZip s.heap z TI TO .none) (hTI:IsPair s.heap TI (.ref i1) (.ref i2)) (hTO:IsPair s.heap TO a b)
  (h1:s.heap.IsTupleIter i1 l1 k1) (h2:s.heap.IsTupleIter i2 l2 k2) (hl1:s.heap.IsTuple l1 xs) (hl2:s.heap.IsTuple l2 ys) (hend:xs[k1]?=none\/ys[k2]?=none)
  (hQ:∀ h',(∀ c o,c≠z->c≠TO->c≠i1->c≠i2->s.heap.get? c=some o->h'.get? c=some o)->Q none { s with heap:=h' }):wpAny (model prog w) A (pyNext (.ref z)) Q E s:=by
 have tz:s.TypeIs (.ref z) "zip":=⟨_,hz,rfl⟩;unfold pyNext;refine wpAny_bind (wpAny_attempt (wpAny_callSpecial?_slot (name:=Str.ofString "__next__") tz F.slot_zip_next (wpAny_call_entry F.slot_zip_next tz F.entry_zip_next ?_ (F.args_zip_next_1 _))));refine B5x hh D hz hTI hTO h1 h2 hl1 hl2 hend fun h' e hk ⟨o,ho,hc⟩=>?_;exact wpAny_bind (wpAny_isInstance (T:="StopIteration") (b:=true) ⟨o,ho,hc⟩ isSubtype_stop (wpAny_pure (hQ _ hk)))
end
def ItzT (K:PySem.W.Frag) (l1 l2:Addr):It :=
 ⟨fun i H=>∃ xs ys x y,SqT K H l1 xs/\SqT K H l2 ys/\xs[i]?=some x/\ys[i]?=some y,
  fun i H v H'=>∃ T x y,v=.ref T/\H T=none/\H'=upd H T (.tup [x,y])/\(∀ xs,SqT K H l1 xs->xs[i]?=some x)/\∀ ys,SqT K H l2 ys->ys[i]?=some y,
  fun i H=>∃ xs ys,SqT K H l1 xs/\SqT K H l2 ys/\(xs.length<=i\/ys.length<=i)⟩
theorem A9f {P:Program} {w:World} {K:PySem.W.Frag} {es:List Expr} {kk:Nat} {tp:Pos} {z TI TO i1 i2 l1 l2:Addr} (D:ZipApart z TI TO i1 i2 l1 l2) :
    Turn P w K (.Tuple es kk tp) (ItzT K l1 l2) [z,TI,TO,i1,i2] z (fun i h=>IsZip h z TI TO .none/\IsPair h TI (.ref i1) (.ref i2)/\(∃ a b,IsPair h TO a b)/\h.IsTupleIter i1 l1 i/\h.IsTupleIter i2 l2 i) where
  mem:=Zy
  obj:=fun i h st b hb=>by
    obtain ⟨hz,hTI,⟨a,c,hTO⟩,⟨o1,g1,k1,d1⟩,⟨o2,g2,k2,d2⟩⟩:=st;simp only [List.mem_cons,List.mem_nil_iff,or_false] at hb;rcases hb with rfl | rfl | rfl | rfl | rfl
    · exact ⟨_,hz,fun v q=>Data.noConfusion (show Data.fields _=Data.cell v from q)⟩
    · exact ⟨_,hTI,fun v q=>Data.noConfusion (show Data.seq _ _=Data.cell v from q)⟩
    · exact ⟨_,hTO,fun v q=>Data.noConfusion (show Data.seq _ _=Data.cell v from q)⟩
    · exact ⟨_,g1,fun v q=>by rw [d1] at q; cases q⟩
    · exact ⟨_,g2,fun v q=>by rw [d2] at q; cases q⟩
  keep:=fun i h h' st k=>by
    obtain ⟨hz,hTI,⟨a,c,hTO⟩,h1,h2⟩:=st;exact ⟨k z (by simp) _ hz,k TI (by simp) _ hTI,⟨a,c,k TO (by simp) _ hTO⟩,h1.at fun o e=>k i1 (by simp) o e,h2.at fun o e=>k i2 (by simp) o e⟩
  item:=by
    intro X hP hw hK hc i pins s σ H E I hf st hg;subst hP hw hK;obtain ⟨hz,hTI,⟨a,c,hTO⟩,h1,h2⟩:=st;obtain ⟨xs,ys,x,y,q1,q2,ex,ey⟩:=hg;obtain ⟨its1,r1,p1,_⟩:=I.tuple q1;obtain ⟨its2,r2,p2,_⟩:=I.tuple q2;obtain ⟨u1,e1,ru1⟩:=P3 r1 ex;obtain ⟨u2,e2,ru2⟩:=P3 r2 ey;refine A8o D hz hTI hTO h1 h2 (xs:=its1.toArray) (ys:=its2.toArray) p1 p2 (by simpa using e1) (by simpa using e2) fun h' a1 a2 a3 a4 a5 hk=>⟨_,rfl,?_⟩;refine wpAny_letOwnedTupleGo_zip a1 fun h'' b1 sb=>?_;have lt:∀ {b o},s.heap.get? b=some o->s.heap.objs.size≠b:=fun e=>Nat.ne_of_gt (Heap.lt_size e);have k2:∀ b o,b ∉ [z,TO,i1,i2]->s.heap.get? b=some o->h''.get? b=some o:=fun b o hb e=>by
      simp only [List.mem_cons,List.mem_nil_iff,or_false,not_or] at hb;exact (sb.2 b hb.1).trans (hk b o hb.1 hb.2.1 hb.2.2.1 hb.2.2.2 e)
    have I2:Inv X pins σ (upd H s.heap.objs.size (.tup [x,y])) { s with heap:=h'',toks:=s.toks }:=by
      refine I.laidL (wr:=[z,TO,i1,i2]) k2 (fun b hb=>hf b ?_) (Zv _) ⟨by show 2<=sizeLine; decide,[u1,u2],.cons ru1 (.cons ru2 .nil),?_⟩
      · simp only [List.mem_cons,List.mem_nil_iff,or_false] at hb ⊢
        rcases hb with q | q | q | q <;> simp [q]
      · exact ⟨_,(sb.2 _ (lt hz)).trans a5,rfl,_,rfl⟩
    refine ⟨.ref s.heap.objs.size,_,I2,rfl,⟨_,x,y,rfl,I.fresh,rfl,fun zs hzs=>by rw [I.tuple_inj hzs q1]; exact ex,fun zs hzs=>by rw [I.tuple_inj hzs q2]; exact ey⟩,⟨b1,(sb.2 _ D.TIz).trans (hk _ _ D.TIz D.TITO D.TIi1 D.TIi2 hTI),⟨_,_,(sb.2 _ D.TOz).trans a2⟩,a3.at fun o e=>(sb.2 _ D.i1z).trans e,a4.at fun o e=>(sb.2 _ D.i2z).trans e⟩,fun b hb=>?_⟩;have:b≠s.heap.objs.size:=by
      simp only [List.mem_cons,List.mem_nil_iff,or_false] at hb;obtain ⟨_,g1,_⟩:=h1;obtain ⟨_,g2,_⟩:=h2;rcases hb with rfl | rfl | rfl | rfl | rfl
      · exact (lt hz).symm
      · exact (lt hTI).symm
      · exact (lt hTO).symm
      · exact (lt g1).symm
      · exact (lt g2).symm
    rw [B4 this]; exact (hf b hb).1
  done:=by
    intro X hP hw hK hc i pins s σ H E I hf st hg;subst hP hw hK;obtain ⟨hz,hTI,⟨a,c,hTO⟩,h1,h2⟩:=st;obtain ⟨xs,ys,q1,q2,hl⟩:=hg;obtain ⟨its1,r1,p1,_⟩:=I.tuple q1;obtain ⟨its2,r2,p2,_⟩:=I.tuple q2;have n1:=r1.length;have n2:=r2.length;refine B3l (I.ok.hd hc) D hz hTI hTO h1 h2 (xs:=its1.toArray) (ys:=its2.toArray) p1 p2 (hl.imp (fun q=>by simp; omega) fun q=>by simp; omega) fun h' hk=>⟨rfl,?_⟩;refine I.turnL (t':=s.toks) (wr:=[z,TO,i1,i2]) (fun b o hb e=>?_) (fun b hb=>hf b ?_)
    · simp only [List.mem_cons,List.mem_nil_iff,or_false,not_or] at hb
      exact hk b o hb.1 hb.2.1 hb.2.2.1 hb.2.2.2 e
    · simp only [List.mem_cons,List.mem_nil_iff,or_false] at hb ⊢
      rcases hb with q | q | q | q <;> simp [q]
  self:=fun _ _ _ _ _ st h=>wpAny_pyIter_zip st.1 h
section
variable {X:Cx}
def C9c (K:PySem.W.Frag) (ta:TA):TI:=fun σ H R=>ta σ H fun vs H1=>∃ l1 l2 xs ys,vs=[.ref l1,.ref l2]/\((SqL K H1 l1 xs/\SqL K H1 l2 ys/\R (Itz K l1 l2) H1)\/(SqT K H1 l1 xs/\SqT K H1 l2 ys/\R (ItzT K l1 l2) H1))
theorem C3b {K:PySem.W.Frag} {a b:Expr} {ta:TA} {p pos:Pos} {es:List Expr} {kk:Nat} {tp:Pos} (hK:X.K=K) (hg:Gl X "zip") (hm:X.mg "zip"=none) (ha:QA X [a,b] ta)
  (hs:starEach [a,b] X.env=[(false,eval a X.env),(false,eval b X.env)]:=by rfl) (hs2:starEach [b] X.env=[(false,eval b X.env)]:=by rfl):QI X (.Tuple es kk tp) (.Call (.Name "zip" p) [a,b] [] pos) (C9c K ta):=by
 subst hK;refine ⟨fun pins s σ H R I h=>?_⟩;refine Call_ (Y0 I hg hm boot_zip (PyProof.Rows.callWith_type1 (thn (ha.out pos pins s σ H _ I h) fun us s1 ⟨vs,H1,I1,r1,q1⟩=>?_) (hs.trans (by rw [hs2])) (by rw [hs2]; rfl)));obtain ⟨l1,l2,xs,ys,e,q⟩:=q1;subst e;obtain ⟨u,v,rfl,ru,rv⟩:=Vals.two r1;cases (show u=Value.ref l1 from ru);cases (show v=Value.ref l2 from rv);have ap:(show Nat from l1) < s1.heap.objs.size->(show Nat from l2) < s1.heap.objs.size->ZipApart (s1.heap.objs.size + 4) (s1.heap.objs.size + 2) (s1.heap.objs.size + 3) s1.heap.objs.size (s1.heap.objs.size + 1) l1 l2:=fun lt1 lt2=>by
  generalize s1.heap.objs.size=n at lt1 lt2;have g:∀ a b:Nat,a < b->a≠b:=fun a b q=>Nat.ne_of_lt q;have g':∀ a b:Nat,b < a->a≠b:=fun a b q=>Nat.ne_of_gt q;constructor <;> first | exact g _ _ (Nat.lt_trans lt1 (by omega)) | exact g _ _ (Nat.lt_trans lt2 (by omega)) | exact g _ _ lt1 | exact g _ _ lt2 | exact g _ _ (by omega) | exact g' _ _ (by omega)
 have fps:∀ b ∈ [s1.heap.objs.size + 4,s1.heap.objs.size + 2,s1.heap.objs.size + 3,s1.heap.objs.size,s1.heap.objs.size + 1],FpOk X pins H1 b:=fun b hb=>by
  have hb':s1.heap.objs.size<=b:=by
   simp only [List.mem_cons,List.mem_nil_iff,or_false] at hb;rcases hb with rfl | rfl | rfl | rfl | rfl <;> omega
  exact I1.fpOk hb' (I1.hok.fresh hb')
 rcases q with ⟨g1,g2,q⟩ | ⟨g1,g2,q⟩
 ·obtain ⟨its1,_,p1,_⟩:=I1.list g1;obtain ⟨its2,_,p2,_⟩:=I1.list g2;refine call_zip_2 p1.isList p2.isList fun h' a1 a2 a3 a4 a5 a6 hk=>wpAny_pyIter_zip a1 ?_;have lt1:(show Nat from l1) < s1.heap.objs.size:=by obtain ⟨o,_,ho,_⟩:=p1; exact Heap.lt_size ho
  have lt2:(show Nat from l2) < s1.heap.objs.size:=by obtain ⟨o,_,ho,_⟩:=p2; exact Heap.lt_size ho
  exact ⟨_,_,_,_,H1,rfl,I1.kept (t':=s1.toks) hk,B55 (ap lt1 lt2),⟨a1,a2,⟨_,_,a3⟩,a4,a5⟩,fps,q⟩
 ·obtain ⟨its1,_,p1,_⟩:=I1.tuple g1;obtain ⟨its2,_,p2,_⟩:=I1.tuple g2;refine B5m (xs:=its1.toArray) (ys:=its2.toArray) p1 p2 fun h' a1 a2 a3 a4 a5 hk=>wpAny_pyIter_zip a1 ?_;have lt1:(show Nat from l1) < s1.heap.objs.size:=by obtain ⟨o,ho,_⟩:=p1; exact Heap.lt_size ho
  have lt2:(show Nat from l2) < s1.heap.objs.size:=by obtain ⟨o,ho,_⟩:=p2; exact Heap.lt_size ho
  exact ⟨_,_,_,_,H1,rfl,I1.kept (t':=s1.toks) hk,A9f (ap lt1 lt2),⟨a1,a2,⟨_,_,a3⟩,a4,a5⟩,fps,q⟩
end
end L2
namespace Pu
open PySem L2 My Prf
def B8h (xs:LP) (k:LP->Prop):Prop:=match xs with
 | [.list xs,.list ys]=>k (zipD xs ys)
 | [.tuple xs,.tuple ys]=>k (zipD xs ys)
 | _=>False
def C3l (pa:PAr) (env:PEnv) (Q:LP->PEnv->Prop):Prop:=pa env fun xs e=>B8h xs fun zs=>Q zs e
theorem A5g {c:Ct} {w1:Wd} {K:Frag} (hK:c.K=K) {J:It} {us1 us2:List V} {xs ys:LP} (d1:DenAll K w1.F us1 xs) (d2:DenAll K w1.F us2 ys)
  (go:∀ w':Wd,w'.Ok->Le c.w0 w'->Same w1.F w'.F->(∀ i,i < min us1.length us2.length->J.go i w'.H)/\J.stop (min us1.length us2.length) w'.H/\∀ i v H',J.yld i w'.H v H'->∃ T x y,v=.ref T/\w'.H T=none/\H'=upd w'.H T (.tup [x,y])/\us1[i]?=some x/\us2[i]?=some y):Walk c w1 J (zipD xs ys):=by
 subst hK;intro w' ok l s;obtain ⟨g1,g2,g3⟩:=go w' ok l s;rw [B5y,<- d1.len,<- d2.len];refine ⟨g1,g2,fun i v H' y hi=>?_⟩;obtain ⟨T,x,y',rfl,hT,rfl,y1,y2⟩:=g3 i v H' y;obtain ⟨dx,x1,x2⟩:=d1.get y1;obtain ⟨dy,y3,y4⟩:=d2.get y2;refine ⟨w'.tup T (.tup [x,y']),.tuple [dx,dy],rfl,Wd.tup_ok ok hT,Wd.tup_le ok hT,?_,?_⟩
 ·unfold zipD; rw [List.getElem?_zipWith,x1,y3]
 ·have f:=(Wd.tup_le (o:=.tup [x,y']) ok hT).f;exact .tup (SqD.of B5) (.cons (Den.same (s.trans f) x2) (.cons (Den.same (s.trans f) y4) .nil))
instance ri_zipS {K:Frag} {ta:TA} {pa:PAr} [ha:RAd K ta pa]:RI K (C9c K ta) (C3l pa) where
 ok:=by
  rintro c w env σ Qp R rfl E p k;refine ha.ok c w env σ _ _ rfl E p fun vs xs e1 w1 E1 l1 d1 q1=>?_;unfold B8h at q1;split at q1
  ·cases d1 with | cons h t=>cases t with | cons h' t =>
    cases t;obtain ⟨a1,us1,rfl,s1,m1⟩:=h.lstE;obtain ⟨a2,us2,rfl,s2,m2⟩:=h'.lstE;refine ⟨a1,a2,us1,us2,rfl,.inl ⟨E1.wok.sub.seq s1,E1.wok.sub.seq s2,k _ _ e1 w1 E1 l1 (A5g rfl m1 m2 fun w' ok l s=>?_) q1⟩⟩;have t1:=(s.trans ok.sub).seq s1;have t2:=(s.trans ok.sub).seq s2;exact ⟨fun i hi=>⟨us1,us2,us1[i]'(by omega),us2[i]'(by omega),t1,t2,Zg _,Zg _⟩,⟨us1,us2,t1,t2,by omega⟩,fun i v H' ⟨T,x,y,e1,e2,e3,e4,e5⟩=>⟨T,x,y,e1,e2,e3,e4 _ t1,e5 _ t2⟩⟩
  ·cases d1 with | cons h t=>cases t with | cons h' t =>
    cases t;obtain ⟨a1,us1,rfl,s1,m1⟩:=h.tupE;obtain ⟨a2,us2,rfl,s2,m2⟩:=h'.tupE;refine ⟨a1,a2,us1,us2,rfl,.inr ⟨SqT.same E1.wok.sub s1,SqT.same E1.wok.sub s2,k _ _ e1 w1 E1 l1 (A5g rfl m1 m2 fun w' ok l s=>?_) q1⟩⟩;have t1:=SqT.same (s.trans ok.sub) s1;have t2:=SqT.same (s.trans ok.sub) s2;exact ⟨fun i hi=>⟨us1,us2,us1[i]'(by omega),us2[i]'(by omega),t1,t2,Zg _,Zg _⟩,⟨us1,us2,t1,t2,by omega⟩,fun i v H' ⟨T,x,y,e1,e2,e3,e4,e5⟩=>⟨T,x,y,e1,e2,e3,e4 _ t1,e5 _ t2⟩⟩
  ·exact q1.elim
end Pu
namespace Pu
open PySem L2 My Prf
def okA:Nat->PyData->Prop
 | _,.none=>True
 | _,.bool _=>True
 | _,.int _=>True
 | _,.str s=>(PyData.str s).canLay0=true
 | _,.dict _=>False
 | 0,.list _=>False
 | 0,.tuple _=>False
 | n + 1,.list xs=>xs.length < 1000/\∀ x ∈ xs,okA n x
 | n + 1,.tuple xs=>xs.length < 1000/\∀ x ∈ xs,okA n x
def A6a (n:Nat):PSp:=fun as Q=>∃ x,as=[.d x,.d x]/\okA n x/\Q (.d (.bool true))
theorem B7y {P:Program} {w:World} {K:Frag} {mg:Str->Option Value} {base:Heap} {k:Nat} {f:Addr} {fd:FuncData} {ps:List Str} {md:List Md} (h:md.length=ps.length):FnOk P w K mg base CX0 k f fd ps (spOf K md fun _ _=>False) :=
 ⟨spOf.len h,fun _ _ _ _ _ _ _ _ _ _ _ _ _ hs=>by obtain ⟨_,_,_,_,_,_,z,_⟩:=hs; exact z.elim⟩
theorem A0s {xs ys:LP} {k:LP->Prop}:B8h [.list xs,.list ys] k=k (zipD xs ys):=rfl
theorem A38 {xs ys:LP} {k:LP->Prop}:B8h [.tuple xs,.tuple ys] k=k (zipD xs ys):=rfl
theorem A1v {xs:LP} {i:Nat} {x:PyData} (h:(zipD xs xs)[i]?=some x):∃ a,xs[i]?=some a/\x=.tuple [a,a]:=by
 obtain ⟨a,b,h1,h2,rfl⟩:=B5z h;rw [h1] at h2; cases h2; exact ⟨a,h1,rfl⟩
theorem A7o {a b:Bool}:PyData.eqv (.bool a) (.bool b)=decide (a=b):=by cases a <;> cases b <;> rfl
theorem B46 {s:Str}:PyData.eqv (.str s) (.str s)=true:=by show (s == s)=true; simp
theorem C08:kitB "int" "str"=some false:=by decide +kernel
theorem C1b:kitB "bool" "str"=some false:=by decide +kernel
theorem C05:kitB "NoneType" "str"=some false:=by decide +kernel
theorem A25 (q:Rat) (n:Nat):okA (n + 1) (dq q):=by
 show _ < 1000/\_;refine ⟨by simp,fun x hx=>?_⟩;simp at hx;rcases hx with rfl | rfl <;> (unfold okA; trivial)
end Pu
namespace Pu
open PySem L2 My Prf
def C6:LP->OT
 | []=>.nil
 | x :: r=>.cons (.leaf x) (C6 r)
def OT.len:OT->Nat
 | .cons _ t=>t.len + 1
 | .nil=>0
 | _=>1
def OT.kid:OT->Nat->Option OT
 | .cons h _,0=>some h
 | .cons _ t,n + 1=>t.kid n
 | _,_=>none
theorem X9:∀ xs,(C6 xs).fp=[]
 | []=>rfl
 | _ :: r=>by show []++(C6 r).fp=[]; rw [X9 r]; rfl
theorem U5:∀ xs,(C6 xs).dat=xs
 | []=>rfl
 | x :: r=>by show [x]++(C6 r).dat=x :: r; rw [U5 r]; rfl
theorem Z8 {K:Frag} {w:Wd}:∀ {vs:List V} {xs:LP},DenAll K w.F vs xs->Tre K w (C6 xs) vs
 | _,_,.nil=>rfl
 | _,_,.cons h t=>⟨_,_,rfl,⟨_,rfl,h⟩,Z8 t⟩
noncomputable def hm (w:Wd):Hpp:=fun a=>open Classical in if w.M a then none else w.H a
theorem Y4 {w:Wd} {a:Addr} {o:HO} (h:w.H a=some o) (n:¬ w.M a):hm w a=some o:=by unfold hm; rw [if_neg n]; exact h
theorem C1k {w:Wd} {a:Addr} {o:HO} (h:hm w a=some o):w.H a=some o/\¬ w.M a:=by
 unfold hm at h; split at h
 ·cases h
 ·exact ⟨h,‹_›⟩
theorem hm_F {w:Wd} (ok:w.Ok):Same w.F (hm w):=fun a o h=>Y4 (ok.sub a o h) fun z=>by rw [ok.nf a z] at h; cases h
theorem C9d {w w':Wd} (l:Lw w w'):Same (hm w) (hm w'):=fun a o h=>by
 obtain ⟨h1,h2⟩:=C1k h;exact Y4 (l.h _ _ h1 h2) (l.nm (by rw [h1]; simp) h2)
theorem Tre.den {K:Frag} {w:Wd} (ok:w.Ok):∀ {t:OT} {vs:List V},Tre K w t vs->(∀ a ∈ t.fp,¬ w.M a)->DenAll K (hm w) vs t.dat
 | .leaf _,_,⟨_,e,h⟩,_=>by rw [e]; exact .cons (Den.same (hm_F ok) h) .nil
 | .nd true a _,_,⟨e,_,h,k⟩,n=>by rw [e]; exact .cons (.lst (SqL.of (Y4 h (n a (by simp [OT.fp])))) (Tre.den ok k fun q hq=>n q (by simp [OT.fp,hq]))) .nil
 | .nd false a _,_,⟨e,_,h,k⟩,n=>by rw [e]; exact .cons (.tup (SqD.of (Y4 h (n a (by simp [OT.fp])))) (Tre.den ok k fun q hq=>n q (by simp [OT.fp,hq]))) .nil
 | .nil,_,e,_=>by rw [show _=[] from e]; exact .nil
 | .cons _ _,_,⟨v,r,e,h,t⟩,n=>by
  rw [e];exact (Tre.den ok h fun q hq=>n q (by simp [OT.fp,hq])).app (vs:=[v]) (us:=r) (Tre.den ok t fun q hq=>n q (by simp [OT.fp,hq]))
def VH (K:Frag) (w:Wd) (v:V) (x:PyData):Prop:=Den K (hm w) v x
theorem VR.vh {c:Ct} {w:Wd} {v:V} {t:OT} {x:PyData} (ok:w.Ok) (h:VR c w v (.tr t)) (e:t.dat=[x]):VH c.K w v x:=by
 have:=h.1.den ok fun a ha=>(h.2.1 a ha).2.2.1;rw [e] at this;cases this with | cons a _=>exact a
theorem VV.vh {K:Frag} {w:Wd} {v:V} {x:PyData} (ok:w.Ok) (h:VV K w v x):VH K w v x:=by
 rcases h with h | ⟨l,vs,xs,rfl,rfl,h1,h2,h3⟩
 ·exact Den.same (hm_F ok) h
 ·exact .lst (SqL.of (Y4 h1 h2)) (DenAll.same (hm_F ok) h3)
class RH (K:Frag) (te:TE) (pd:outParam PDt):Prop where
 ok:∀ (c:Ct) (w:Wd) (env:PEnv) (σ:St) (Qp:PyData->PEnv->Prop) (Q:VK),c.K=K->EnvOk c w env σ->pd env Qp->(∀ v x env' w',EnvOk c w' env' σ->Lw w w'->VH K w' v x->Qp x env'->Q v w'.H)->te σ w.H Q
def C3n (i:Nat) (env:PEnv) (Q:PyData->PEnv->Prop):Prop:=match env[i]? with
 | some (some (.d x))=>Q x env
 | some (some (.own xs))=>Q (.list xs) env
 | some (some (.bor xs))=>Q (.list xs) env
 | some (some (.tr t))=>∃ x,t.dat=[x]/\Q x env
 | _=>False
instance rh_var {K:Frag} {i:Nat}:RH K (tVar i) (C3n i) where
 ok:=by
  rintro c w env σ Qp Q rfl E p k;unfold C3n at p;split at p
  ·rename_i x e;obtain ⟨v,h1,h2⟩:=E.at' i _ e;exact ⟨v,h1,k v _ env w E (Lw.refl w) (Den.same (hm_F E.wok) h2) p⟩
  ·rename_i xs e;obtain ⟨v,h1,l,vs,e',g1,g2,g3,g4,g5⟩:=E.at' i _ e;exact ⟨v,h1,k v _ env w E (Lw.refl w) (VV.vh E.wok (.inr ⟨l,vs,xs,e',rfl,g1,g3,g5⟩)) p⟩
  ·rename_i xs e;obtain ⟨v,h1,h2⟩:=E.at' i _ e;exact ⟨v,h1,k v _ env w E (Lw.refl w) ((h2.vv E.le0).vh E.wok) p⟩
  ·rename_i t e;obtain ⟨x,e1,q⟩:=p;obtain ⟨v,h1,h2⟩:=E.at' i _ e;exact ⟨v,h1,k v _ env w E (Lw.refl w) (h2.vh E.wok e1) q⟩
  ·exact p.elim
def C7w (psp:PSp) (pa pb:PDt) (env:PEnv) (Q:SV->PEnv->Prop):Prop:=pa env fun x e=>pb e fun y e2=>psp [.d x,.d y] fun s=>∃ b,s=.d (.bool b)/\Q (.d (.bool b)) e2
def Own (c:Ct) (w:Wd) (t:OT):Prop:=(∀ a ∈ t.fp,w.H a≠none/\w.F a=none/\¬ w.M a/\c.w0.H a=none)/\t.fp.Nodup
def NewT (c:Ct) (env:PEnv) (σ:St) (t:OT):Prop:=∀ a ∈ t.fp,(∀ (j:Nat) s u,env[j]?=some (some s)->σ[j]?=some (some u)->¬ s.foot u a)/\¬ c.Z a
def SV.ot (s:SV) (k:OT->Prop):Prop:=match s with
 | .d x=>k (.leaf x)
 | .own xs=>∀ a,k (.nd true a (C6 xs))
 | .tr t=>k t
 | _=>False
theorem Res.ot {c:Ct} {w w1:Wd} {env:PEnv} {σ:St} {v:V} {s:SV} {k:OT->Prop} (R:Res c w env σ w1 v s) (h:s.ot k):∃ t,Tre c.K w1 t [v]/\Own c w1 t/\NewT c env σ t/\k t:=by
 obtain ⟨E,lw,val,new,_⟩:=R;cases s with
 | d x=>exact ⟨.leaf x,⟨v,rfl,val⟩,⟨fun a z=>(nomatch z),List.nodup_nil⟩,fun a z=>(nomatch z),h⟩
 | own xs =>
  obtain ⟨l,vs,rfl,h1,h2,h3,h4,h5⟩:=val;have one:∀ a,a ∈ (OT.nd true l (C6 xs)).fp->a=l:=fun a ha=>by
   rw [show (OT.nd true l (C6 xs)).fp=l :: (C6 xs).fp from rfl,X9] at ha;simpa using ha
  refine ⟨.nd true l (C6 xs),⟨rfl,vs,h1,Z8 h5⟩,⟨fun a ha=>?_,by show (l :: (C6 xs).fp).Nodup; rw [X9]; simp⟩,fun a ha=>?_,h l⟩
  ·rw [one a ha]; exact ⟨by rw [h1]; simp,h2,h3,h4⟩
  ·rw [one a ha]; exact new l rfl
 | bor xs=>exact (show False from h).elim
 | st=>exact (show False from h).elim
 | tr t=>exact ⟨t,val.1,val.2,new,h⟩
 | bt t=>exact (show False from h).elim
 | al t=>exact (show False from h).elim
 | dk t=>exact (show False from h).elim
 | dl t u=>exact (show False from h).elim
theorem VR.reZ {K:Frag} {w0 w:Wd} {Z Z':Addr->Prop} {v:V}:∀ {s:SV},VR ⟨K,w0,Z⟩ w v s->VR ⟨K,w0,Z'⟩ w v s
 | .d _,h=>h
 | .own _,h=>h
 | .bor _,h=>h
 | .st,h=>h
 | .tr _,h=>h
 | .bt _,h=>h
 | .al _,h=>h
 | .dk _,h=>h
 | .dl _ _,h=>h
def Ct.with (c:Ct) (t:OT):Ct:=⟨c.K,c.w0,fun a=>c.Z a\/a ∈ t.fp⟩
def C7d (env:PEnv) (Q:OT->PEnv->Prop):Prop:=Q .nil env
def B96 (pe:PX) (pr:PEnv->(OT->PEnv->Prop)->Prop) (env:PEnv) (Q:OT->PEnv->Prop):Prop:=pe env fun s e1=>s.ot fun t=>pr e1 fun r e2=>(∀ a ∈ r.fp,a ∉ t.fp)->Q (.cons t r) e2
def C63 (b:Bool) (pa:PEnv->(OT->PEnv->Prop)->Prop) (env:PEnv) (Q:SV->PEnv->Prop):Prop:=pa env fun t e=>t.len<=1000/\∀ a,a ∉ t.fp->Q (.tr (.nd b a t)) e
def asTr (o:Option (Option SV)) (k:OT->Prop):Prop:=match o with
 | some (some (.tr t))=>k t
 | _=>False
def pKid (i:Nat) (n:Int) (env:PEnv) (Q:PyData->PEnv->Prop):Prop:=asTr env[i]? fun t=>∃ (m:Nat) (b:Bool) (a a':Addr) (ks:OT) (xs:LP),n=m/\t=.nd b a ks/\ks.kid m=some (.nd true a' (C6 xs))/\Q (.list xs) env
def B16 (i:Nat) (n:Int) (D:PEnds) (env:PEnv):Prop:=asTr env[i]? fun t=>∃ (m:Nat) (b:Bool) (a a':Addr) (ks ls:OT),n=m/\t=.nd b a ks/\ks.kid m=some (.nd true a' ls)/\D.nx (env.set i (some (.tr (OT.put a' .nil t))))
end Pu
namespace L2
open PySem PySem.Spec PyProof.Rows
section
variable {X:Cx} {e:Expr}
end
end L2
namespace Pu
open PySem L2 My Prf
def SV.asH (s:SV) (k:PyData->Prop):Prop:=match s with
 | .d x=>k x
 | .own xs=>k (.list xs)
 | .tr t=>∃ x,t.dat=[x]/\k x
 | _=>False
def C3j (pe:PX) (env:PEnv) (Q:PyData->PEnv->Prop):Prop:=pe env fun s e=>s.asH fun x=>Q x e
instance (priority:=200) rh_re {K:Frag} {te:TE} {pe:PX} [h:RE K te pe]:RH K te (C3j pe) where
 ok:=by
  rintro c w env σ Qp Q rfl E p k;refine h.ok c w env σ _ Q rfl E p fun v s env' w' R q=>?_;have E':=R.ev;cases s with
  | d x=>exact k v x env' w' E' R.lw (Den.same (hm_F E'.wok) R.val) q
  | own xs =>
   obtain ⟨l,vs,e',g1,g2,g3,g4,g5⟩:=R.val;exact k v _ env' w' E' R.lw (VV.vh E'.wok (.inr ⟨l,vs,xs,e',rfl,g1,g3,g5⟩)) q
  | tr t =>
   obtain ⟨x,e,q⟩:=q;exact k v x env' w' E' R.lw (VR.vh E'.wok R.val e) q
  | bor xs=>exact (show False from q).elim
  | bt t=>exact (show False from q).elim
  | al t=>exact (show False from q).elim
  | dk t=>exact (show False from q).elim
  | dl t u=>exact (show False from q).elim
  | st=>exact (show False from q).elim
theorem VR.btv {c:Ct} {w:Wd} {v:V} {t:OT} (l:Le c.w0 w) (h:VR c w v (.bt t)):TV c.K w v t:=by
 have lw:Lw ⟨c.w0.M,c.w0.H,w.F⟩ w:=⟨Same.refl _,l.h,l.m,l.mn,l.dom⟩;exact ⟨h.1.mono lw h.2,fun a ha=>l.nm (h.1.has a ha) (h.2 a ha)⟩
def pTr (pe:PX) (env:PEnv) (Q:OT->PEnv->Prop):Prop:=pe env fun s e=>s.ot fun t=>Q t e
def pTrV (i:Nat) (env:PEnv) (Q:OT->PEnv->Prop):Prop:=match env[i]? with
 | some (some (.d x))=>Q (.leaf x) env
 | some (some (.tr t))=>Q t env
 | some (some (.bt t))=>Q t env
 | _=>False
def B98 (pb:PEnv->(OT->PEnv->Prop)->Prop) (pr:PAs) (env:PEnv) (Q:List SV->PEnv->Prop):Prop:=pb env fun t e1=>pr e1 fun as e2=>Q (.bt t :: as) e2
def OT.lvs:OT->Option LP
 | .nil=>some []
 | .cons (.leaf x) t=>t.lvs.map (x :: ·)
 | _=>none
theorem A0m:∀ xs,(C6 xs).lvs=some xs
 | []=>rfl
 | x :: r=>by show (C6 r).lvs.map _=_; rw [A0m r]; rfl
def OT.sv:OT->SV
 | .leaf (.list xs)=>.bor xs
 | .leaf x=>.d x
 | .nd true a k=>match k.lvs with
  | some xs=>.bor xs
  | none=>.bt (.nd true a k)
 | t=>.bt t
theorem A1z {a:Addr} {xs:LP}:OT.sv (.nd true a (C6 xs))=.bor xs:=by show (match (C6 xs).lvs with | some xs=>SV.bor xs | none=>_)=_; rw [A0m]
def OT.pair:OT->Option (OT × OT)
 | .nd false _ (.cons u (.cons v .nil))=>some (u,v)
 | .leaf (.tuple [x,y])=>some (.leaf x,.leaf y)
 | _=>none
def pUnp (i a b:Nat) (pr:LP->PEnv->(PEnv->Prop)->Prop) (D:PEnds) (env:PEnv):Prop:=match env[i]? with
 | some (some (.bt t))=>∃ u v,t.pair=some (u,v)/\D.nx ((env.set a (some u.sv)).set b (some v.sv))
 | some (some (.d x))=>qTup 2 pr x env D.nx
 | _=>False
def D03 (i:Nat) (n:Int) (j:Nat) (D:PEnds) (env:PEnv):Prop:=match env[i]? with
 | some (some (.bt t))=>∃ u v,t.pair=some (u,v)/\((n=0/\D.nx (env.set j (some u.sv)))\/(n=1/\D.nx (env.set j (some v.sv))))
 | _=>False
end Pu
namespace Pu
open PySem L2 My Prf
theorem B0b {pr:LP->PEnv->(PEnv->Prop)->Prop} {q:Rat} {env:PEnv} {Q:PEnv->Prop}:qTup 2 pr (dq q) env Q=pr [.int q.num,.int q.den] env Q:=by
 unfold dq; rw [S2]; exact propext ⟨fun h=>h.2,fun h=>⟨rfl,h⟩⟩
theorem B5a (q:Rat):PyData.tuple [.int (-q.num),.int q.den]=dq (-q):=rfl
end Pu
namespace Pu
open PySem L2 My Prf
section
variable {x y:PyData} {xs ys:LP} {i j:Nat} {env e:PEnv} {s:SV} {t:OT}
theorem C97 {k:PyData->Prop}:(SV.d x).asD k=k x:=rfl
theorem C96 {k:PyData->Prop}:(SV.own xs).asD k=k (.list xs):=rfl
def oVar (o:Option (Option SV)) (i:Nat) (env:PEnv) (Q:SV->PEnv->Prop):Prop:=match o with
 | some (some (.d x))=>Q (.d x) env
 | some (some (.own xs))=>Q (.d (.list xs)) (env.set i (some (.d (.list xs))))
 | some (some .st)=>Q .st env
 | _=>False
theorem B9j {Q:SV->PEnv->Prop}:pVar i env Q=oVar env[i]? i env Q:=rfl
theorem C0o {Q:SV->PEnv->Prop}:oVar (some (some (.d x))) i env Q=Q (.d x) env:=rfl
theorem C0n {Q:SV->PEnv->Prop}:oVar (some (some (.own xs))) i env Q=Q (.d (.list xs)) (env.set i (some (.d (.list xs)))):=rfl
theorem C0m {Q:SV->PEnv->Prop}:oVar (some (some .st)) i env Q=Q .st env:=rfl
def B7h (o:Option (Option SV)) (env:PEnv) (Q:PyData->PEnv->Prop):Prop:=match o with
 | some (some (.d x))=>Q x env
 | some (some (.own xs))=>Q (.list xs) env
 | some (some (.bor xs))=>Q (.list xs) env
 | _=>False
theorem B09 {Q:PyData->PEnv->Prop}:C3m i env Q=B7h env[i]? env Q:=rfl
theorem B2u {Q:PyData->PEnv->Prop}:B7h (some (some (.d x))) env Q=Q x env:=rfl
theorem B2t {Q:PyData->PEnv->Prop}:B7h (some (some (.own xs))) env Q=Q (.list xs) env:=rfl
theorem B2v {Q:PyData->PEnv->Prop}:B7h (some (some (.bor xs))) env Q=Q (.list xs) env:=rfl
theorem pI_i {C:Int->Int->Prop} {gd:Int->Int->PyData} {i j:Int} {Q:SV->Prop}:pI C gd (.int i) (.int j) Q=(C i j/\Q (.d (gd i j))):=rfl
theorem C7j {gd:Int->Int->PyData} {i j:Int} {Q:SV->Prop}:pI0 gd (.int i) (.int j) Q=Q (.d (gd i j)):=rfl
theorem pU_i {gd:Int->PyData} {i:Int} {Q:SV->Prop}:pU gd (.int i) Q=Q (.d (gd i)):=rfl
theorem C0h {i:Int} {Q:SV->Prop}:pAbs [.int i] Q=Q (.d (.int (if i < 0 then -i else i))):=rfl
theorem B9r {i j:Int} {Q:SV->Prop}:pMax [.int i,.int j] Q=Q (.d (.int (if j > i then j else i))):=rfl
theorem B9q {i j:Int} {Q:SV->Prop}:pMin [.int i,.int j] Q=Q (.d (.int (if j < i then j else i))):=rfl
theorem B93 {i:Int} {Q:SV->Prop}:pInt [.int i] Q=Q (.d (.int i)):=rfl
theorem B94 {b:Bool} {Q:SV->Prop}:pInt [.bool b] Q=Q (.d (.int (if b then 1 else 0))):=rfl
theorem A6i {Q:SV->Prop}:B9s [.list ys] Q=Q (.own ys):=rfl
theorem A6h {Q:SV->Prop}:B9s [.tuple ys] Q=Q (.own ys):=rfl
def oKit (o:Option Bool) (Q:SV->Prop):Prop:=match o with
 | some b=>Q (.d (.bool b))
 | none=>False
theorem B92 {c:String} {pa:PDt} {Q:SV->PEnv->Prop}:pIsi c pa env Q=pa env fun x e=>oKit (kitB (tyD x) c) fun s=>Q s e:=rfl
theorem B1y {cs:List String} {pa:PDt} {Q:SV->PEnv->Prop}:D00 cs pa env Q=pa env fun x e=>cs.length<=1000/\oKit (A1m (tyD x) cs) fun s=>Q s e:=rfl
theorem C0w {b:Bool} {Q:SV->Prop}:oKit (some b) Q=Q (.d (.bool b)):=rfl
theorem C98 {b:Bool} {k:Bool->Prop}:asB (.bool b) k=k b:=rfl
theorem C90 {k:LP->Prop}:asL (.list xs) k=k xs:=rfl
theorem C1i {k:Prop}:isSt (some (some .st)) k=k:=rfl
theorem B8j {i:Int} {k:Int->Prop}:asI (.int i) k=k i:=rfl
def B29 (o:Option (Option SV)) (D:PEnds) (env:PEnv):Prop:=match o with
 | some (some (.bor _))=>False
 | some (some (.bt _))=>False
 | some (some (.al _))=>False
 | some (some s)=>D.rt s env
 | _=>False
theorem B1f {D:PEnds}:C3q i D env=B29 env[i]? D env:=rfl
theorem B28 {D:PEnds}:B29 (some (some (.d x))) D env=D.rt (.d x) env:=rfl
theorem B27 {D:PEnds}:B29 (some (some (.own xs))) D env=D.rt (.own xs) env:=rfl
theorem B26 {D:PEnds}:B29 (some (some .st)) D env=D.rt .st env:=rfl
theorem B25 {D:PEnds}:B29 (some (some (.tr t))) D env=D.rt (.tr t) env:=rfl
theorem A57 {Q:PEnv->Prop}:qNil [] env Q=Q env:=rfl
theorem A07 {pg:PyData->PEnv->(PEnv->Prop)->Prop} {pr:LP->PEnv->(PEnv->Prop)->Prop} {Q:PEnv->Prop}:C2w pg pr (x :: xs) env Q=pg x env fun e=>pr xs e Q:=rfl
def oPar (i j:Nat) (xs:LP) (D:PEnds) (e:PEnv):Prop:=match xs with
 | [x,y]=>D.nx ((e.set i (some (.d x))).set j (some (.d y)))
 | _=>False
theorem B9p {pa:PAr} {D:PEnds}:pPar i j pa D env=pa env fun xs e=>oPar i j xs D e:=rfl
theorem C0u {D:PEnds}:oPar i j [x,y] D e=D.nx ((e.set i (some (.d x))).set j (some (.d y))):=rfl
theorem B5s {k:LP->Prop}:N9 (some (some (.own xs))) k=k xs:=rfl
def A6x (o:Option (Option SV)) (i:Nat) (env:PEnv) (Q:LP->PEnv->Prop):Prop:=match o with
 | some (some (.d x))=>V2 x fun xs=>Q xs env
 | some (some (.own xs))=>Q xs (env.set i (some (.d (.list xs))))
 | some (some (.bor xs))=>Q xs env
 | _=>False
theorem A6m {Q:LP->PEnv->Prop}:B1w i env Q=A6x env[i]? i env Q:=rfl
theorem A6v {Q:LP->PEnv->Prop}:A6x (some (some (.d x))) i env Q=V2 x fun xs=>Q xs env:=rfl
theorem A6u {Q:LP->PEnv->Prop}:A6x (some (some (.own xs))) i env Q=Q xs (env.set i (some (.d (.list xs)))):=rfl
theorem A6w {Q:LP->PEnv->Prop}:A6x (some (some (.bor xs))) i env Q=Q xs env:=rfl
def C8f (xs:LP) (Q:LP->Prop):Prop:=match xs with
 | [.int j]=>(-(2 ^ 62)<=j/\j < 2 ^ 62)/\Q (rngD 0 j.toNat)
 | _=>False
theorem B1e {pa:PAr} {Q:LP->PEnv->Prop}:C66 pa env Q=pa env fun xs e=>C8f xs fun ys=>Q ys e:=rfl
theorem B24 {j:Int} {Q:LP->Prop}:C8f [.int j] Q=((-(2 ^ 62)<=j/\j < 2 ^ 62)/\Q (rngD 0 j.toNat)):=rfl
def C8e (xs:LP) (Q:LP->Prop):Prop:=match xs with
 | [.int i,.int j]=>(-(2 ^ 62)<=i/\i < 2 ^ 62/\-(2 ^ 62)<=j/\j < 2 ^ 62)/\Q (rngD i (j - i).toNat)
 | _=>False
theorem B1d {pa:PAr} {Q:LP->PEnv->Prop}:C65 pa env Q=pa env fun xs e=>C8e xs fun ys=>Q ys e:=rfl
theorem B23 {i j:Int} {Q:LP->Prop}:C8e [.int i,.int j] Q=((-(2 ^ 62)<=i/\i < 2 ^ 62/\-(2 ^ 62)<=j/\j < 2 ^ 62)/\Q (rngD i (j - i).toNat)):=rfl
def C8d (xs:LP) (Q:LP->Prop):Prop:=match xs with
 | [.int i,.int j,.int k]=>k=-1/\((-(2 ^ 61)<=i/\i < 2 ^ 61)/\-(2 ^ 61)<=j/\j < 2 ^ 61)/\Q (dwnD i (i - j).toNat)
 | _=>False
theorem B1c {pa:PAr} {Q:LP->PEnv->Prop}:D0y pa env Q=pa env fun xs e=>C8d xs fun ys=>Q ys e:=rfl
theorem B22 {i j k:Int} {Q:LP->Prop}:C8d [.int i,.int j,.int k] Q=(k=-1/\((-(2 ^ 61)<=i/\i < 2 ^ 61)/\-(2 ^ 61)<=j/\j < 2 ^ 61)/\Q (dwnD i (i - j).toNat)):=rfl
theorem C0c {Q:SV->Prop}:pCat (.list xs) (.list ys) Q=(xs.length + ys.length<=1000000/\Q (.own (xs++ys))):=rfl
theorem C0g {Q:SV->Prop}:pAll [.list ys] Q=∃ bs,blsD ys=some bs/\Q (.d (.bool (bs.all id))):=rfl
theorem C0f {Q:SV->Prop}:pAny [.list ys] Q=∃ bs,blsD ys=some bs/\Q (.d (.bool (bs.any id))):=rfl
def B7j (o:Option (Option SV)) (i:Nat) (env:PEnv) (Q:LP->PEnv->Prop):Prop:=match o with
 | some (some (.d x))=>asL x fun xs=>Q xs env
 | some (some (.own xs))=>Q xs (env.set i (some (.d (.list xs))))
 | some (some (.bor xs))=>Q xs env
 | _=>False
theorem B1l {Q:LP->PEnv->Prop}:C3x i env Q=B7j env[i]? i env Q:=rfl
theorem B3e {Q:LP->PEnv->Prop}:B7j (some (some (.d x))) i env Q=asL x fun xs=>Q xs env:=rfl
theorem B3d {Q:LP->PEnv->Prop}:B7j (some (some (.own xs))) i env Q=Q xs (env.set i (some (.d (.list xs)))):=rfl
theorem B3f {Q:LP->PEnv->Prop}:B7j (some (some (.bor xs))) i env Q=Q xs env:=rfl
def oZip (xss:List LP) (Q:LP->Prop):Prop:=match xss with
 | [xs,ys]=>Q (zipD xs ys)
 | _=>False
theorem B9i {pa:PEnv->(List LP->PEnv->Prop)->Prop} {Q:LP->PEnv->Prop}:pZip pa env Q=pa env fun xss e=>oZip xss fun ys=>Q ys e:=rfl
theorem C0l {Q:LP->Prop}:oZip [xs,ys] Q=Q (zipD xs ys):=rfl
def C8i (xss:List LP) (Q:LP->Prop):Prop:=match xss with
 | [xs]=>Q (A1o xs)
 | _=>False
theorem B11 {pa:PEnv->(List LP->PEnv->Prop)->Prop} {Q:LP->PEnv->Prop}:C7n pa env Q=pa env fun xss e=>C8i xss fun ys=>Q ys e:=rfl
theorem B3i {Q:LP->Prop}:C8i [xs] Q=Q (A1o xs):=rfl
def B20 (o:Option (Option SV)) (env:PEnv) (Q:PyData->PEnv->Prop):Prop:=match o with
 | some (some (.d x))=>Q x env
 | some (some (.own xs))=>Q (.list xs) env
 | some (some (.bor xs))=>Q (.list xs) env
 | some (some (.tr t))=>∃ x,t.dat=[x]/\Q x env
 | _=>False
theorem B1a {Q:PyData->PEnv->Prop}:C3n i env Q=B20 env[i]? env Q:=rfl
theorem B2y {Q:PyData->PEnv->Prop}:B20 (some (some (.d x))) env Q=Q x env:=rfl
theorem B2x {Q:PyData->PEnv->Prop}:B20 (some (some (.own xs))) env Q=Q (.list xs) env:=rfl
theorem B2z {Q:PyData->PEnv->Prop}:B20 (some (some (.bor xs))) env Q=Q (.list xs) env:=rfl
theorem B2w {Q:PyData->PEnv->Prop}:B20 (some (some (.tr t))) env Q=∃ x,t.dat=[x]/\Q x env:=rfl
theorem ot_d {k:OT->Prop}:(SV.d x).ot k=k (.leaf x):=rfl
theorem ot_o {k:OT->Prop}:(SV.own xs).ot k=∀ a,k (.nd true a (C6 xs)):=rfl
theorem ot_t {k:OT->Prop}:(SV.tr t).ot k=k t:=rfl
theorem C1s {k:OT->Prop}:asTr (some (some (.tr t))) k=k t:=rfl
theorem C93 {k:PyData->Prop}:(SV.d x).asH k=k x:=rfl
theorem C92 {k:PyData->Prop}:(SV.own xs).asH k=k (.list xs):=rfl
theorem C91 {k:PyData->Prop}:(SV.tr t).asH k=∃ x,t.dat=[x]/\k x:=rfl
def oTrV (o:Option (Option SV)) (env:PEnv) (Q:OT->PEnv->Prop):Prop:=match o with
 | some (some (.d x))=>Q (.leaf x) env
 | some (some (.tr t))=>Q t env
 | some (some (.bt t))=>Q t env
 | _=>False
theorem B9m {Q:OT->PEnv->Prop}:pTrV i env Q=oTrV env[i]? env Q:=rfl
theorem C0s {Q:OT->PEnv->Prop}:oTrV (some (some (.d x))) env Q=Q (.leaf x) env:=rfl
theorem C0r {Q:OT->PEnv->Prop}:oTrV (some (some (.tr t))) env Q=Q t env:=rfl
theorem C0t {Q:OT->PEnv->Prop}:oTrV (some (some (.bt t))) env Q=Q t env:=rfl
def oUnp (o:Option (Option SV)) (a b:Nat) (pr:LP->PEnv->(PEnv->Prop)->Prop) (D:PEnds) (env:PEnv):Prop:=match o with
 | some (some (.bt t))=>∃ u v,t.pair=some (u,v)/\D.nx ((env.set a (some u.sv)).set b (some v.sv))
 | some (some (.d x))=>qTup 2 pr x env D.nx
 | _=>False
theorem B9k {a b:Nat} {pr:LP->PEnv->(PEnv->Prop)->Prop} {D:PEnds}:pUnp i a b pr D env=oUnp env[i]? a b pr D env:=rfl
theorem C0q {a b:Nat} {pr:LP->PEnv->(PEnv->Prop)->Prop} {D:PEnds}:oUnp (some (some (.bt t))) a b pr D env=∃ u v,t.pair=some (u,v)/\D.nx ((env.set a (some u.sv)).set b (some v.sv)):=rfl
theorem C0p {a b:Nat} {pr:LP->PEnv->(PEnv->Prop)->Prop} {D:PEnds}:oUnp (some (some (.d x))) a b pr D env=qTup 2 pr x env D.nx:=rfl
def C8k (o:Option (Option SV)) (n:Int) (j:Nat) (D:PEnds) (env:PEnv):Prop:=match o with
 | some (some (.bt t))=>∃ u v,t.pair=some (u,v)/\((n=0/\D.nx (env.set j (some u.sv)))\/(n=1/\D.nx (env.set j (some v.sv))))
 | _=>False
theorem B2a {n:Int} {D:PEnds}:D03 i n j D env=C8k env[i]? n j D env:=rfl
theorem B3k {n:Int} {D:PEnds}:C8k (some (some (.bt t))) n j D env=∃ u v,t.pair=some (u,v)/\((n=0/\D.nx (env.set j (some u.sv)))\/(n=1/\D.nx (env.set j (some v.sv)))):=rfl
class Box (α:Type) where
 f:α->Prop
def hold {α:Type} [b:Box α] (x:α):Prop:=b.f x
theorem A7f {α:Type} {f:α->Prop} {x:α}:@hold α ⟨f⟩ x=f x:=rfl
theorem B19 {psp:PSp} {pa:PAs} {env:PEnv} {Q:SV->PEnv->Prop}:C7x psp pa env Q=pa env fun as e=>psp as (@hold SV ⟨fun s=>Q s e⟩):=rfl
theorem A6q {psp:PSp} {pa pb:PDt} {env:PEnv} {Q:SV->PEnv->Prop}:C7w psp pa pb env Q=pa env fun x e=>pb e fun y e2=>psp [.d x,.d y] (@hold SV ⟨fun s=>∃ b,s=.d (.bool b)/\Q (.d (.bool b)) e2⟩):=rfl
theorem B9u {xs:LP} {i:Int} {Q:SV->Prop}:pIx (.list xs) (.int i) Q=pGet xs i (@hold SV ⟨Q⟩):=rfl
theorem B9t {xs:LP} {i:Int} {Q:SV->Prop}:pIx (.tuple xs) (.int i) Q=pGet xs i (@hold SV ⟨Q⟩):=rfl
theorem B15 {pi:PAr} {pg:PyData->PEnv->(PEnv->Prop)->Prop} {pt:PTt} {pd:PDt} {cap:List (Option Nat)} {env:PEnv} {Q:SV->PEnv->Prop}:C7s pi pg pt pd cap env Q=pi env fun xs e=>xs.length < 1000000/\O5 xs pg pt pd (F5 cap e) (@hold LP ⟨fun ys=>Q (.own ys) e⟩):=rfl
theorem A0h {pi:PAr} {pg:PyData->PEnv->(PEnv->Prop)->Prop} {pt:PTt} {pd:PDt} {cap:List (Option Nat)} {i:Nat} {D:PEnds} {env:PEnv}:A6g pi pg pt pd cap i D env=pi env fun xs e=>xs.length < 1000000/\O5 xs pg pt pd (F5 cap e) (@hold LP ⟨fun ys=>D.nx (e.set i (some (.own ys)))⟩):=rfl
end
end Pu
namespace L2
open PySem PySem.Spec PyProof.Rows
section
variable {X:Cx}
def rInD (K:PySem.W.Frag) (neg:Bool):R2:=fun x y H Q=>∃ dx dy xs,Den K H x dx/\Den K H y dy/\(dy=.list xs\/dy=.tuple xs)/\PyData.canLayAll0 xs=true/\dx.canLay0=true/\dx.depth<=60/\Q (.bl (if neg then !(xs.any fun z=>z.eqv dx) else xs.any fun z=>z.eqv dx)) H
theorem C74 (hu:X.A.units + 64 < cLine):OpR X (compareOp .In) (rInD X.K false):=by
 intro pins s σ H x y v u Q I rx ry h;obtain ⟨dx,dy,xs,h1,h2,h3,c1,c2,hd,q⟩:=h;obtain ⟨as,r1⟩:=h1.reads I rx c2;obtain ⟨bs,r2⟩:=h2.reads I ry (by rcases h3 with rfl | rfl <;> exact c1)
 rcases h3 with rfl | rfl
 ·exact PySem.SeqAt.in_list_reads r2 r1 c1 c2 (by omega) ⟨.bl _,H,I,rfl,q⟩
 ·exact PySem.SeqAt.in_tuple_reads r2 r1 c1 c2 (by omega) ⟨.bl _,H,I,rfl,q⟩
theorem B2c (hu:X.A.units + 64 < cLine):OpR X (compareOp .NotIn) (rInD X.K true):=by
 intro pins s σ H x y v u Q I rx ry h;obtain ⟨dx,dy,xs,h1,h2,h3,c1,c2,hd,q⟩:=h;obtain ⟨as,r1⟩:=h1.reads I rx c2;obtain ⟨bs,r2⟩:=h2.reads I ry (by rcases h3 with rfl | rfl <;> exact c1)
 rcases h3 with rfl | rfl
 ·exact PySem.SeqAt.notIn_list_reads r2 r1 c1 c2 (by omega) ⟨.bl _,H,I,rfl,q⟩
 ·exact PySem.SeqAt.notIn_tuple_reads r2 r1 c1 c2 (by omega) ⟨.bl _,H,I,rfl,q⟩
theorem B2e {K:PySem.W.Frag} (h:X.K=K) (hu:X.A.units + 64 < cLine):OpR X (compareOp .In) (rInD K false):=by subst h; exact C74 hu
theorem A8j {K:PySem.W.Frag} (h:X.K=K) (hu:X.A.units + 64 < cLine):OpR X (compareOp .NotIn) (rInD K true):=by subst h; exact B2c hu
end
end L2
namespace Pu
open PySem L2 My Prf
def pIn (neg:Bool) (x y:PyData) (Q:SV->Prop):Prop:=V2 y fun xs=>PyData.canLayAll0 xs=true/\x.canLay0=true/\x.depth<=60/\Q (.d (.bool (if neg then !(xs.any fun z=>z.eqv x) else xs.any fun z=>z.eqv x)))
instance ro_in {K:Frag} {neg:Bool}:RO K (rInD K neg) (pIn neg) where
 ok:=by
  rintro c w env σ x y dx dy Qp Q rfl E vx vy p k;unfold pIn V2 at p;split at p
  ·rename_i xs;exact ⟨dx,_,xs,vx.den E.wok,vy.den E.wok,.inl rfl,p.1,p.2.1,p.2.2.1,k _ _ w (Res.data E (.bl _)) p.2.2.2⟩
  ·rename_i xs;exact ⟨dx,_,xs,vx.den E.wok,vy.den E.wok,.inr rfl,p.1,p.2.1,p.2.2.1,k _ _ w (Res.data E (.bl _)) p.2.2.2⟩
  ·exact p.elim
theorem hm_H {w:Wd}:Same (hm w) w.H:=fun _ _ h=>(C1k h).1
instance (priority:=high) re_neH {K:Frag} {ta tb:TE} {pa pb:PDt} [ha:RH K ta pa] [hb:RH K tb pb]:RE K (tOp (rNeD K) ta tb) (pOp pNeD pa pb) where
 ok:=by
  rintro c w env σ Qp Q rfl E p k;refine ha.ok c w env σ _ _ rfl E p fun x dx e1 w1 E1 l1 v1 q1=>?_;refine hb.ok c w1 e1 σ _ _ rfl E1 q1 fun y dy e2 w2 E2 l2 v2 q2=>?_;have v1':VH c.K w2 x dx:=Den.same (C9d l2) v1;exact ⟨dx,dy,Den.same hm_H v1',Den.same hm_H v2,q2.1,q2.2.1,q2.2.2.1,k _ _ e2 w2 ((Res.data E2 (.bl _)).pre (l1.trans l2)) q2.2.2.2⟩
instance (priority:=high) re_eqH {K:Frag} {ta tb:TE} {pa pb:PDt} [ha:RH K ta pa] [hb:RH K tb pb]:RE K (tOp (rEqD K) ta tb) (pOp pEqD pa pb) where
 ok:=by
  rintro c w env σ Qp Q rfl E p k;refine ha.ok c w env σ _ _ rfl E p fun x dx e1 w1 E1 l1 v1 q1=>?_;refine hb.ok c w1 e1 σ _ _ rfl E1 q1 fun y dy e2 w2 E2 l2 v2 q2=>?_;have v1':VH c.K w2 x dx:=Den.same (C9d l2) v1;exact ⟨dx,dy,Den.same hm_H v1',Den.same hm_H v2,q2.1,q2.2.1,q2.2.2.1,k _ _ e2 w2 ((Res.data E2 (.bl _)).pre (l1.trans l2)) q2.2.2.2⟩
def C0x (o:Option (Option SV)) (n:Int) (env:PEnv) (Q:LP->PEnv->Prop):Prop:=match o with
 | some (some (.bt t))=>∃ u v xs,t.pair=some (u,v)/\n=1/\v.sv=.bor xs/\Q xs env
 | _=>False
def B91 (i:Nat) (n:Int) (env:PEnv) (Q:LP->PEnv->Prop):Prop:=C0x env[i]? n env Q
theorem A6y {t:OT} {n:Int} {env:PEnv} {Q:LP->PEnv->Prop}:C0x (some (some (.bt t))) n env Q=∃ u v xs,t.pair=some (u,v)/\n=1/\v.sv=.bor xs/\Q xs env:=rfl
theorem EnvOk.take {c:Ct} {w:Wd} {env:PEnv} {σ:St} {i:Nat} {s:SV} (E:EnvOk c w env σ) (h:env[i]?=some (some s)) (hr:s.isRes=true):∃ v,σ[i]?=some (some v)/\Res c w (env.set i none) σ w v s:=by
 obtain ⟨v,hv,hV⟩:=E.at' i _ h;have up:∀ {j:Nat} {t:SV},(env.set i none)[j]?=some (some t)->i≠j/\env[j]?=some (some t):=by
  intro j t q;rw [List.getElem?_set] at q;split at q
  ·split at q <;> cases q
  ·rename_i z; exact ⟨z,q⟩
 have E':EnvOk c w (env.set i none) σ:=⟨E.wok,E.le0,by simpa using E.len,fun j s q=>E.at' j s (up q).2,fun j k s t v u a q1 q2=>E.own j k s t v u a (up q1).2 (up q2).2,E.zf,fun a j t u za q=>E.zo a j t u za (up q).2⟩;exact ⟨v,hv,E',Lw.refl w,hV,fun a f=>⟨fun j t u q z g=>(up q).1 (E.own i j _ _ _ _ a h (up q).2 hv z f g),fun za=>E.zo a i _ _ za h hv f⟩,hr⟩
def B7i (o:Option (Option SV)) (i:Nat) (env:PEnv) (k:OT->PEnv->Prop):Prop:=match o with
 | some (some (.d x))=>k (.leaf x) env
 | some (some (.own xs))=>∀ a,k (.nd true a (C6 xs)) (env.set i none)
 | some (some (.tr t))=>k t (env.set i none)
 | _=>False
theorem B3c {x:PyData} {i:Nat} {env:PEnv} {k:OT->PEnv->Prop}:B7i (some (some (.d x))) i env k=k (.leaf x) env:=rfl
theorem B3b {xs:LP} {i:Nat} {env:PEnv} {k:OT->PEnv->Prop}:B7i (some (some (.own xs))) i env k=∀ a,k (.nd true a (C6 xs)) (env.set i none):=rfl
theorem B3a {t:OT} {i:Nat} {env:PEnv} {k:OT->PEnv->Prop}:B7i (some (some (.tr t))) i env k=k t (env.set i none):=rfl
def B97 (i:Nat) (pr:PEnv->(OT->PEnv->Prop)->Prop) (env:PEnv) (Q:OT->PEnv->Prop):Prop:=B7i env[i]? i env fun t e1=>pr e1 fun r e2=>(∀ a ∈ r.fp,a ∉ t.fp)->Q (.cons t r) e2
def C7h (i:Nat) (n:Int) (env:PEnv) (Q:SV->PEnv->Prop):Prop:=asTr env[i]? fun t=>∃ (m:Nat) (b:Bool) (a:Addr) (ks:OT) (x:PyData),n=m/\t=.nd b a ks/\ks.kid m=some (.leaf x)/\Q (.d x) env
end Pu
namespace L2
open PySem PySem.Spec PyProof.Rows
section
variable {X:Cx} {tg:Expr}
def Its (x:Str):It:=⟨fun i _=>i < x.cps.size,fun i H v H'=>H'=H/\∃ c,x.cps[i]?=some c/\v=.str ⟨#[c]⟩,fun i _=>x.cps.size<=i⟩
theorem A9h {P:Program} {w:World} {K:PySem.W.Frag} {tg:Expr} (it:Addr) (x:Str) (t:Tok):Turn P w K tg (Its x) [it] it (fun i h=>h.IsStrIter it "str_ascii_iterator" x t i) where
 mem:=by simp
 obj:=fun i h st b hb=>by
  have e:b=it:=by simpa using hb
  subst e;obtain ⟨o,e,c,d⟩:=st;exact ⟨o,e,fun v z=>by rw [d] at z; cases z⟩
 keep:=fun i h h' ⟨o,e,c,d⟩ k=>⟨o,k it (by simp) o e,c,d⟩
 item:=by
  intro X hP hw hK hc i pins s σ H E I hf st hg;subst hP hw hK;have hg:i < x.cps.size:=hg;obtain ⟨f0,f1,f2,f3,f4,f5⟩:=hf it (by simp);refine wpAny_pyNext_ascii_item (c:=x.cps[i]) st (Array.getElem?_eq_getElem hg) fun h' st' sb=>?_;have I1:Inv X pins σ H { s with heap:=h',toks:=s.toks + 1 }:=I.turned (t':=s.toks + 1) (fun b o hb e=>(sb.2 b hb).trans e) f0 f1 f3 f4 f5;obtain ⟨o,e,c,d⟩:=id st';exact ⟨_,rfl,B40 (s:={ s with heap:=h',toks:=s.toks + 1 }) e c d (by decide) ⟨.str ⟨#[x.cps[i]]⟩,H,I1,⟨_,rfl⟩,⟨rfl,_,Array.getElem?_eq_getElem hg,rfl⟩,st',fun b hb=>(hf b hb).1⟩⟩
 done:=by
  intro X hP hw hK hc i pins s σ H E I hf st hg;subst hP hw hK;have hg:x.cps.size<=i:=hg;obtain ⟨f0,f1,f2,f3,f4,f5⟩:=hf it (by simp);exact wpAny_pyNext_ascii_end (I.ok.hd hc) st (Array.getElem?_eq_none hg) fun h' eb=>⟨rfl,I.turned (t':=s.toks) (fun b o hb e=>eb b o hb e) f0 f1 f3 f4 f5⟩
 self:=fun _ _ _ _ _ st h=>wpAny_pyIter_striter_ascii st h
theorem A9g {P:Program} {w:World} {K:PySem.W.Frag} {tg:Expr} (it:Addr) (x:Str) (t:Tok):Turn P w K tg (Its x) [it] it (fun i h=>h.IsStrIter it "str_iterator" x t i) where
 mem:=by simp
 obj:=fun i h st b hb=>by
  have e:b=it:=by simpa using hb
  subst e;obtain ⟨o,e,c,d⟩:=st;exact ⟨o,e,fun v z=>by rw [d] at z; cases z⟩
 keep:=fun i h h' ⟨o,e,c,d⟩ k=>⟨o,k it (by simp) o e,c,d⟩
 item:=by
  intro X hP hw hK hc i pins s σ H E I hf st hg;subst hP hw hK;have hg:i < x.cps.size:=hg;obtain ⟨f0,f1,f2,f3,f4,f5⟩:=hf it (by simp);refine wpAny_pyNext_wide_item (c:=x.cps[i]) st (Array.getElem?_eq_getElem hg) fun h' st' sb=>?_;have I1:Inv X pins σ H { s with heap:=h',toks:=s.toks + 1 }:=I.turned (t':=s.toks + 1) (fun b o hb e=>(sb.2 b hb).trans e) f0 f1 f3 f4 f5;obtain ⟨o,e,c,d⟩:=id st';exact ⟨_,rfl,B40 (s:={ s with heap:=h',toks:=s.toks + 1 }) e c d (by decide) ⟨.str ⟨#[x.cps[i]]⟩,H,I1,⟨_,rfl⟩,⟨rfl,_,Array.getElem?_eq_getElem hg,rfl⟩,st',fun b hb=>(hf b hb).1⟩⟩
 done:=by
  intro X hP hw hK hc i pins s σ H E I hf st hg;subst hP hw hK;have hg:x.cps.size<=i:=hg;obtain ⟨f0,f1,f2,f3,f4,f5⟩:=hf it (by simp);exact wpAny_pyNext_wide_end (I.ok.hd hc) st (Array.getElem?_eq_none hg) fun h' eb=>⟨rfl,I.turned (t':=s.toks) (fun b o hb e=>eb b o hb e) f0 f1 f3 f4 f5⟩
 self:=fun _ _ _ _ _ st h=>wpAny_pyIter_striter_wide st h
def iStr (tl:TE):TI:=fun σ H R=>tl σ H fun x H1=>∃ z,x=.str z/\R (Its z) H1
theorem C6o {l:Expr} {tl:TE} (hl:PE X l tl):PI X tg l (iStr tl):=by
 intro pins s σ H R I h;refine thn (hl pins s σ H _ I h) fun v s1 ⟨x,H1,I1,r1,q1⟩=>?_;obtain ⟨z,rfl,q⟩:=q1;obtain ⟨t,rfl⟩:=r1;refine wpAny_pyIter_strU ?_;have fp:∀ b ∈ [s1.heap.objs.size],FpOk X pins H1 b:=fun b hb=>by
  have e:b=s1.heap.objs.size:=by simpa using hb
  subst e;exact I1.fpOk (Zv _) (I1.hok.fresh (Zv _))
 by_cases ha:(z.cps.all fun x=>decide (x < 128))=true
 ·have ty:strIterType z="str_ascii_iterator":=by unfold strIterType; rw [if_pos ha]
  rw [ty];exact ⟨s1.heap.objs.size,[s1.heap.objs.size],_,_,H1,rfl,I1.kept (t':=s1.toks) fun b o e=>Heap.get?_push_of_some _ e,A9h _ z t,⟨_,Heap.get?_push_size _ rfl,rfl,rfl⟩,fp,q⟩
 ·have ty:strIterType z="str_iterator":=by unfold strIterType; rw [if_neg ha]
  rw [ty];exact ⟨s1.heap.objs.size,[s1.heap.objs.size],_,_,H1,rfl,I1.kept (t':=s1.toks) fun b o e=>Heap.get?_push_of_some _ e,A9g _ z t,⟨_,Heap.get?_push_size _ rfl,rfl,rfl⟩,fp,q⟩
def rS (g:Str->Str->V):R2:=fun x y H Q=>∃ i j,x=.str i/\y=.str j/\Q (g i j) H
def A98:R2:=fun x y H Q=>∃ i j,x=.str i/\y=.str j/\i.length + j.length<=90000/\Q (.str (i++j)) H
theorem C5:OpR X (binaryOp .Add) A98:=by
 intro pins s σ H x y v u Q I rx ry h;obtain ⟨i,j,rfl,rfl,l,q⟩:=h;exact A8l pins s σ H _ _ v u Q I rx ry ⟨i,j,rfl,rfl,Zx l (by rw [sizeLine_eq]; decide),q⟩
def C2q (K:PySem.W.Frag):List V->Hp->VK->Prop:=fun xs H Q=>(∃ p ys,xs=[.ref p]/\(SqL K H p ys\/SqT K H p ys)/\Q (.int ys.length) H)\/∃ z,xs=[.str z]/\z.length<=sizeLine/\Q (.int z.length) H
theorem A80 {K:PySem.W.Frag} (h:X.K=K):CallR X (.builtin "len") (C2q K):=by subst h; exact call_len_seq.or A3v
theorem A10:∀ {zs:List Str} {its:List Value},Vals (zs.map V.str) its->∃ l:List (Str × Tok),its=strValues l/\l.map (·.1)=zs
 | [],_,.nil=>⟨[],rfl,rfl⟩
 | z :: zs,_,.cons r t=>by
  obtain ⟨k,rfl⟩:=r;obtain ⟨l,rfl,e⟩:=A10 (zs:=zs) t;exact ⟨(z,k) :: l,rfl,by rw [List.map_cons,e]⟩
theorem A7j (k:Nat):∀ (zs:List Str) (a:Nat),List.foldl (fun x1 (x2:Str)=>x1 + x2.length + k) a zs=a + (zs.map fun z=>z.length + k).sum
 | [],a=>by simp
 | z :: zs,a=>by rw [List.foldl_cons,A7j k zs,List.map_cons,List.sum_cons]; omega
theorem A3g (k:Array Nat):∀ (ps:List Str) (a:Array Nat),(List.foldl (fun acc (p:Str)=>acc++k++p.cps) a ps).size=a.size + (ps.map fun z=>z.length + k.size).sum
 | [],a=>by simp
 | p :: ps,a=>by
  rw [List.foldl_cons,A3g k ps,List.map_cons,List.sum_cons,Array.size_append,Array.size_append];show a.size + k.size + p.cps.size + _=a.size + (p.cps.size + k.size + _);omega
theorem B7v {sep:Str}:∀ {zs:List Str},(sep.join zs).length<=(zs.map fun z=>z.length + sep.length).sum:=by
 intro zs;rw [<- StrLaws.glued_eq_join];cases zs with
 | nil=>exact Zv _
 | cons z r =>
  show (List.foldl (fun acc (p:Str)=>acc++sep.cps++p.cps) z.cps r).size<=_;rw [A3g,List.map_cons,List.sum_cons];show z.cps.size + (r.map fun z=>z.length + sep.cps.size).sum<=z.cps.size + sep.cps.size + (r.map fun z=>z.length + sep.cps.size).sum;omega
theorem B3v:90000<=sizeLine:=by rw [sizeLine_eq]; decide
end
end L2
namespace L2
open PySem PySem.Spec PyProof.Rows
section
variable {X:Cx} {tg:Expr} {pos:Pos}
theorem C2s {l:Expr} {tl:TE} (hl:QE X l tl):QI X tg l (iStr tl):=⟨C6o hl.out⟩
end
end L2
namespace Pu
open PySem L2 My Prf
def asS (x:PyData) (k:Str->Prop):Prop:=match x with
 | .str z=>k z
 | _=>False
theorem B8i {z:Str} {k:Str->Prop}:asS (.str z) k=k z:=rfl
theorem VV.strE {K:Frag} {w:Wd} {v:V} {z:Str} (h:VV K w v (.str z)):v=.str z:=by
 rcases h with h | ⟨l,vs,xs,e,e',_⟩
 ·cases h; rfl
 ·cases e'
def sgn (c:Nat):PyData:=.str ⟨#[c]⟩
def A9w (z:Str):LP:=z.cps.toList.map sgn
def B1x (pd:PDt) (env:PEnv) (Q:LP->PEnv->Prop):Prop:=pd env fun x e=>asS x fun z=>Q (A9w z) e
instance ri_str {K:Frag} {tl:TE} {pd:PDt} [hl:RW K tl pd]:RI K (iStr tl) (B1x pd) where
 ok:=by
  rintro c w env σ Qp R rfl E p k;refine hl.ok c w env σ _ _ rfl E p fun v x e1 w1 E1 l1 d1 q1=>?_;unfold asS at q1;split at q1
  ·rename_i z;refine ⟨z,d1.strE,k _ _ e1 w1 E1 l1 (fun w' ok l s=>?_) q1⟩;have hl:(A9w z).length=z.cps.size:=by unfold A9w; rw [Zl,Array.length_toList]
   refine ⟨fun i hi=>by rw [hl] at hi; exact hi,by rw [hl]; exact Zv _,fun i v H' y hi=>?_⟩;obtain ⟨e,cc,h1,rfl⟩:=y;refine ⟨w',sgn cc,e.symm,ok,Le.refl w',?_,.str _⟩;unfold A9w;rw [Zh,Array.getElem?_toList,h1]; rfl
  ·exact q1.elim
class SGS (g:Str->Str->V) (gd:outParam (Str->Str->PyData)):Prop where
 ok:∀ i j K F,Den K F (g i j) (gd i j)
instance sgs_bl {f:Str->Str->Bool}:SGS (fun i j=>.bl (f i j)) (fun i j=>.bool (f i j)):=⟨fun _ _ _ _=>.bl _⟩
def pS (gd:Str->Str->PyData) (x y:PyData) (Q:SV->Prop):Prop:=asS x fun i=>asS y fun j=>Q (.d (gd i j))
instance ro_S {K:Frag} {g:Str->Str->V} {gd:Str->Str->PyData} [s:SGS g gd]:RO K (rS g) (pS gd) where
 ok:=by
  rintro c w env σ x y dx dy Qp Q rfl E vx vy p k;unfold pS asS at p;split at p
  ·split at p
   ·exact ⟨_,_,vx.strE,vy.strE,k _ _ w (Res.data E (s.ok _ _ _ _)) p⟩
   ·exact p.elim
  ·exact p.elim
def B7a (x y:PyData) (Q:SV->Prop):Prop:=asS x fun i=>asS y fun j=>i.length + j.length<=90000/\Q (.d (.str (i++j)))
instance ro_catS {K:Frag}:RO K A98 B7a where
 ok:=by
  rintro c w env σ x y dx dy Qp Q rfl E vx vy p k;unfold B7a asS at p;split at p
  ·split at p
   ·exact ⟨_,_,vx.strE,vy.strE,p.1,k _ _ w (Res.data E (.str _)) p.2⟩
   ·exact p.elim
  ·exact p.elim
def C7k (z:Str) (i:Int) (Q:SV->Prop):Prop:=∃ c,atI z.cps.toList i=some c/\Q (.d (sgn c))
def pIx2 (x y:PyData) (Q:SV->Prop):Prop:=match x with
 | .str z=>asI y fun i=>z.length<=90000/\C7k z i Q
 | x=>pIx x y Q
theorem B9y {xs:LP} {y:PyData} {Q:SV->Prop}:pIx2 (.list xs) y Q=pIx (.list xs) y Q:=rfl
theorem B9v {xs:LP} {y:PyData} {Q:SV->Prop}:pIx2 (.tuple xs) y Q=pIx (.tuple xs) y Q:=rfl
theorem B9x {q:Rat} {y:PyData} {Q:SV->Prop}:pIx2 (dq q) y Q=pIx (dq q) y Q:=rfl
theorem B9z {q:Rat × Rat} {y:PyData} {Q:SV->Prop}:pIx2 (dcn q) y Q=pIx (dcn q) y Q:=rfl
theorem B9w {z:Str} {i:Int} {Q:SV->Prop}:pIx2 (.str z) (.int i) Q=(z.length<=90000/\C7k z i Q):=rfl
instance (priority:=high) ro_ix2 {K:Frag}:RO K (rIx K) pIx2 where
 ok:=by
  rintro c w env σ x y dx dy Qp Q rfl E vx vy p k;unfold pIx2 at p;split at p
  ·unfold asI at p;split at p
   ·obtain ⟨hl,cc,h1,q⟩:=p;exact .inr (.inr ⟨_,_,cc,vx.strE,vy.intE,Zx hl B3v,h1,k _ _ w (Res.data E (.str _)) q⟩)
   ·exact p.elim
  ·exact ro_ix.ok c w env σ x y dx dy Qp Q rfl E vx vy p k
def A8i (xs:LP) (Q:SV->Prop):Prop:=match xs with
 | [.list ys]=>Q (.d (.int ys.length))
 | [.tuple ys]=>Q (.d (.int ys.length))
 | [.str z]=>z.length<=90000/\Q (.d (.int z.length))
 | _=>False
theorem B1r {ys:LP} {Q:SV->Prop}:A8i [.list ys] Q=Q (.d (.int ys.length)):=rfl
theorem B1o {ys:LP} {Q:SV->Prop}:A8i [.tuple ys] Q=Q (.d (.int ys.length)):=rfl
theorem B1q {q:Rat} {Q:SV->Prop}:A8i [dq q] Q=Q (.d (.int 2)):=rfl
theorem B1p {z:Str} {Q:SV->Prop}:A8i [.str z] Q=(z.length<=90000/\Q (.d (.int z.length))):=rfl
instance rb_len2 {K:Frag}:RB K (C2q K) A8i where
 ok:=by
  rintro c w env σ vs xs Qp Q rfl E vv p k;unfold A8i at p;split at p
  ·cases vv with | cons h t=>cases t; obtain ⟨a,us,e,h1,h2⟩:=h.lst E.wok; exact .inl ⟨a,us,by rw [e],.inl h1,by rw [h2.len]; exact k _ _ w (Res.data E (.int _)) p⟩
  ·cases vv with | cons h t=>cases t; obtain ⟨a,us,e,h1,h2⟩:=h.tup E.wok; exact .inl ⟨a,us,by rw [e],.inr h1,by rw [h2.len]; exact k _ _ w (Res.data E (.int _)) p⟩
  ·cases vv with | cons h t=>cases t; exact .inr ⟨_,by rw [h.strE],Zx p.1 B3v,k _ _ w (Res.data E (.int _)) p.2⟩
  ·exact p.elim
def A0z:LP->Option (List Str)
 | []=>some []
 | .str z :: r=>(A0z r).map (z :: ·)
 | _=>none
theorem A11 {K:Frag} {F:Hpp}:∀ {vs:List V} {xs:LP} {zs:List Str},DenAll K F vs xs->A0z xs=some zs->vs=zs.map V.str
 | _,_,zs,.nil,h=>by cases h; rfl
 | _,x :: r,zs,.cons d t,h=>by
  cases d with
  | str z =>
   have h:(A0z r).map (z :: ·)=some zs:=h;cases q:A0z r with
   | none=>rw [q] at h; cases h
   | some ys=>rw [q] at h; cases h; rw [A11 t q]; rfl
  | non=>cases h
  | bl=>cases h
  | int=>cases h
  | lst=>cases h
  | tup=>cases h
  | dct=>cases h
def C7i (po pa:PDt) (env:PEnv) (Q:SV->PEnv->Prop):Prop:=po env fun x e=>asS x fun sep=>pa e fun y e2=>asL y fun ys=>∃ zs,A0z ys=some zs/\(zs.map fun z=>z.length + sep.length).sum<=1000/\Q (.d (.str (sep.join zs))) e2
def C62 (pd:PDt) (i:Nat) (pi:PDt) (D:PEnds) (env:PEnv):Prop:=pd env fun x e=>N9 e[i]? fun _=>pi e fun y e2=>asI y fun n=>N9 e2[i]? fun xs=>∃ j,ixN xs.length n=some j/\D.nx (e2.set i (some (.own (xs.set j x))))
def C7p (env:PEnv) (Q:SV->PEnv->Prop):Prop:=Q (.d (.dict [])) env
def B95 (key:Key) (y:V) (env:PEnv) (Q:SV->PEnv->Prop):Prop:=Q (.d (.dict [C4n (key,y)])) env
theorem B4h:kitB "int" "int"=some true:=by decide +kernel
theorem B4i:kitB "int" "bool"=some false:=by decide +kernel
theorem B4f:kitB "int" "tuple"=some false:=by decide +kernel
theorem B4g:kitB "int" "str"=some false:=by decide +kernel
theorem B4p:kitB "bool" "int"=some true:=by decide +kernel
theorem B4q:kitB "bool" "bool"=some true:=by decide +kernel
theorem B4n:kitB "bool" "tuple"=some false:=by decide +kernel
theorem B4o:kitB "bool" "str"=some false:=by decide +kernel
theorem B39:kitB "NoneType" "int"=some false:=by decide +kernel
theorem B4a:kitB "NoneType" "bool"=some false:=by decide +kernel
theorem B37:kitB "NoneType" "tuple"=some false:=by decide +kernel
theorem B38:kitB "NoneType" "str"=some false:=by decide +kernel
theorem B35:kitB "str" "int"=some false:=by decide +kernel
theorem B36:kitB "str" "bool"=some false:=by decide +kernel
theorem B33:kitB "str" "tuple"=some false:=by decide +kernel
theorem B34:kitB "str" "str"=some true:=by decide +kernel
theorem B4d:kitB "list" "int"=some false:=by decide +kernel
theorem B4e:kitB "list" "bool"=some false:=by decide +kernel
theorem B4b:kitB "list" "tuple"=some false:=by decide +kernel
theorem B4c:kitB "list" "str"=some false:=by decide +kernel
theorem B31:kitB "tuple" "int"=some false:=by decide +kernel
theorem B32:kitB "tuple" "bool"=some false:=by decide +kernel
theorem B3z:kitB "tuple" "tuple"=some true:=by decide +kernel
theorem B30:kitB "tuple" "str"=some false:=by decide +kernel
theorem B4l:kitB "dict" "int"=some false:=by decide +kernel
theorem B4m:kitB "dict" "bool"=some false:=by decide +kernel
theorem B4j:kitB "dict" "tuple"=some false:=by decide +kernel
theorem B4k:kitB "dict" "str"=some false:=by decide +kernel
theorem A5o {kvs:List (PyData × PyData)}:tyD (.dict kvs)="dict":=rfl
def B17 (pr pr':PyData->PyData->(SV->Prop)->Prop) (pa pb pc:PDt) (env:PEnv) (Q:SV->PEnv->Prop):Prop :=
 pa env fun x e1=>pb e1 fun y e2=>pr x y fun s=>s.asD fun b=>asB b fun k=>if k=true then pc e2 fun z e3=>pr' y z fun s2=>Q s2 e3 else Q (.d (.bool false)) e2
instance re_chain {K:Frag} {r r':R2} {ta tb tc:TE} {pr pr':PyData->PyData->(SV->Prop)->Prop} {pa pb pc:PDt} [h:RO K r pr] [h':RO K r' pr'] [ha:RW K ta pa] [hb:RW K tb pb] [hc:RW K tc pc]:RE K (A9p r r' ta tb tc) (B17 pr pr' pa pb pc) where
 ok:=by
  rintro c w env σ Qp Q rfl E p k;refine ha.ok c w env σ _ _ rfl E p fun x dx e1 w1 E1 l1 v1 q1=>?_;refine hb.ok c w1 e1 σ _ _ rfl E1 q1 fun y dy e2 w2 E2 l2 v2 q2=>?_;refine h.ok c w2 e2 σ x y dx dy _ _ rfl E2 (v1.mono l2) v2 q2 fun v s w3 R q3=>?_;cases s with
  | d b =>
   cases b with
   | bool b =>
    have ev:v=.bl b:=Den.blE R.val;refine ⟨b,ev,?_⟩;cases b with
    | true =>
     refine hc.ok c w3 e2 σ _ _ rfl R.ev q3 fun z dz e3 w4 E4 l4 v4 q4=>?_;exact h'.ok c w4 e3 σ y z dy dz _ _ rfl E4 ((v2.mono R.lw).mono l4) v4 q4 fun v s w' R' q=>k v s e3 w' (R'.pre (l1.trans (l2.trans (R.lw.trans l4)))) q
    | false=>exact k _ _ e2 w3 ((Res.data R.ev (.bl _)).pre (l1.trans (l2.trans R.lw))) q3
   | _=>exact (show False from q3).elim
  | own xs=>exact (show False from q3).elim
  | bor xs=>exact (show False from q3).elim
  | st=>exact (show False from q3).elim
  | tr t=>exact (show False from q3).elim
  | bt t=>exact (show False from q3).elim
  | al t=>exact (show False from q3).elim
  | dk t=>exact (show False from q3).elim
  | dl t u=>exact (show False from q3).elim
end Pu
namespace L2
open PySem PySem.Spec PyProof.Rows
section
variable {prog:Program} {w:World} {A:Around} {E:Value->Shared->Prop} {h:Heap} {g:Array GenState} {d:Drawn} {t:Nat} {os:OsState} {a C:Addr} {o:Obj} {vs:Array Value} {K:PySem.W.Frag}
structure ExK (K:PySem.W.Frag) (C:Addr):Prop where
 ga:PySem.W.findIn K (.ref C) "__getattribute__"=some (some (.builtin "BaseException.__getattribute__"))
 gn:PySem.W.findIn K (.ref C) "__getattr__"=some none
 gc:PySem.W.findIn K (.ref C) "__class__"=some (some (.builtin "object.__class__"))
 sb:PySem.W.subIn K (.ref C) (.type "BaseException")=some true
 so:PySem.W.subIn K (.ref C) (.type "object")=some true
theorem C46 {R:Result->Shared->Prop} (X:K.In h) (k:ExK K C) (hx:h.get? a=some o) (hc:o.cls=.ref C) (hq:R (.ok (.ret (.ref C))) ⟨h,g,d,t,os⟩) :
  codeAny (model prog w) A (.call (.builtin "getset_descriptor.__get__") ⟨[.builtin "object.__class__",.ref a,.ref C],[]⟩) R ⟨h,g,d,t,os⟩:=by
 have yT:(⟨h,g,d,t,os⟩:Shared).TypeIs (.builtin "object.__class__") "getset_descriptor":=F.typeOf_object_class;have LO:=PySem.W.looks_subIn (M:=model prog w) X k.so;have ow:(".".intercalate ("object.__class__".cutAt '.').dropLast)="object":=F.owner_object_class;refine codeAny_call_builtin F.slot_gs_get.plain F.entry_gs_get (F.slot_gs_get.check _ _ _ _ _ _ _ _ (yT) (F.args_gs_get _ _ _) ?_)
 repeat (any_goals (first | assumption | (with_reducible refine wpAny_loadPart_at hx ?_; rw [hc]) | (rw [ow]; with_reducible refine LO.at ?_) | with_reducible refine LO.at ?_ | wp_step))
 refine ⟨Code.quiet_builtin _ (by decide +kernel),codeAny_builtin (F.entry_object_class) ?_⟩
 repeat (any_goals (first | assumption | (with_reducible refine wpAny_loadPart_at hx ?_; rw [hc]) | wp_step))
theorem B51 {tk:Tok} {Q:Fin->Shared->Prop} (X:K.In h) (k:ExK K C) (hx:h.get? a=some o) (hc:o.cls=.ref C) (hq:Q (.done (.ret (.ref C))) ⟨h,g,d,t,os⟩) :
  wpAny (model prog w) A (Builtin.«object.__getattribute__» ⟨[.ref a,.str "__class__" tk],[]⟩) Q E ⟨h,g,d,t,os⟩:=by
 have yT:(⟨h,g,d,t,os⟩:Shared).TypeIs (.builtin "object.__class__") "getset_descriptor":=F.typeOf_object_class;have LC:=PySem.W.looks_findIn (M:=model prog w) X k.gc;have u5:=F.typeOf_object_class;have u6:=F.slot_gs_get.lookup;have u7:=F.slot_gs_set.lookup
 repeat (any_goals (first | assumption | (with_reducible refine wpAny_loadPart_at hx ?_; rw [hc]) | with_reducible refine LC.at ?_ | wp_step))
 refine C46 X k hx hc ?_
 repeat (any_goals first | assumption | wp_step)
theorem B52 {M:Model} {nameV:Value} {Q:Unit->Shared->Prop} (X:K.In h) (k:ExK K C) (hx:h.get? a=some o) (hc:o.cls=.ref C) (hq:Q () ⟨h,g,d,t,os⟩) :
  wpAny M A (checkBuiltinCall "BaseException.__getattribute__" ⟨[.ref a,nameV],[]⟩) Q E ⟨h,g,d,t,os⟩:=by
 have k1:builtinKind "BaseException.__getattribute__"=some .slot:=by decide +kernel
 have k2:splitId "BaseException.__getattribute__"=some ("BaseException","__getattribute__"):=by decide +kernel
 have LB:=PySem.W.looks_subIn (M:=M) X k.sb;have u0:=F.args_bexc_ga (.ref a) nameV;simp only [checkBuiltinCall,k1,k2];refine wpAny_bind ?_;unfold isInstance
 repeat (first | (with_reducible refine wpAny_loadPart_at hx ?_; rw [hc]) | with_reducible refine LB.at ?_ | wp_step)
 exact hq
theorem D0c {tk:Tok} {Q:Value->Shared->Prop} (X:K.In h) (k:ExK K C) (hx:h.get? a=some o) (hc:o.cls=.ref C) (hq:Q (.ref C) ⟨h,g,d,t,os⟩) :
  wpAny (model prog w) A (getAttrBy (.ref a) (.str "__class__" tk) false) Q E ⟨h,g,d,t,os⟩:=by
 have u3:=F.attrBase_ValueError.ga.bind (.ref a);have LG:=PySem.W.looks_findIn (M:=model prog w) X k.ga;have LN:=PySem.W.looks_findIn (M:=model prog w) X k.gn;have z2:(Value.builtin "BaseException.__getattribute__" == Value.builtin "object.__getattribute__")=false:=by decide +kernel
 have z1:(onTheHeap (Value.ref C) && Value.builtin "BaseException.__getattribute__" == Value.builtin "object.__getattribute__")=false:=by rw [z2]; rfl
 repeat (any_goals (first | assumption | (with_reducible refine wpAny_loadPart_at hx ?_; rw [hc]) | with_reducible refine LG.at ?_ | with_reducible refine LN.at ?_ | wp_step))
 refine codeAny_call_builtin F.attrBase_ValueError.ga.plain F.entry_bexc_ga (B52 X k hx hc (B51 X k hx hc ?_))
 repeat (any_goals first | assumption | wp_step)
theorem C1t {Q:Option Value->Shared->Prop} (X:K.In h) (k:ExK K C) (hx:h.get? a=some o) (hc:o.cls=.ref C) (hq:Q (some (.ref C)) ⟨h,g,d,t + 1,os⟩):wpAny (model prog w) A (getAttr? (.ref a) "__class__") Q E ⟨h,g,d,t,os⟩:=by
 unfold getAttr? getAttrBy?
 repeat (any_goals (first | assumption | with_reducible apply D0c X k hx hc | wp_step))
def ExAt (a C:Addr) (h:Heap):Prop:=∃ o,h.get? a=some o/\o.cls=.ref C
theorem ExAt.ty {M:Model} (p:ExAt a C h):PySem.W.Looks M h (typeOf (.ref a)) (.ref C):=by
 obtain ⟨o,e,q⟩:=p;rw [<- q];exact (PySem.W.Looks.ld e).andThen .now
theorem B7r (k:ExK K C) (it:∀ (M:Model) (h:Heap),K.In h->PySem.W.Looks M h (isType (.ref C)) true) (ne:∀ o,K.lookup C=some o->o.cls≠.type "tuple") (hl:(K.lookup C).isSome=true):PySem.W.KitX K (.ref a) (.ref C) (ExAt a C) where
 ty:=fun _ _ _ p=>p.ty
 it:=fun M h X _=>it M h X
 ne:=fun h tp dd its n sl X e=>Bool.eq_false_iff.mpr fun q=>by
  have z:C=tp:=Value.ref.inj (beq_iff_eq.mp q);subst z;obtain ⟨o,ho⟩:=Option.isSome_iff_exists.mp hl;have:=X _ _ ho;rw [e] at this; cases this;exact ne _ ho rfl
 ca:=fun {_ _ _ _ _ s} X p q=>by
  obtain ⟨h,g,d,t,os⟩:=s;obtain ⟨o,e,z⟩:=p;exact C1t X k e z q
end
end L2
namespace L2
open PySem PySem.Spec PyProof.Rows
structure Fly (P:Program) (w:World) (outer:List Env) (H:Hp) (s s':Shared) (a:Addr) (cls a0:Value) (H':Hp) (B:Heap):Prop where
 os:s'.os=s.os
 bare:AllBare s'.gens
 fly:Heap.FlyingW B outer a cls a0 s'.heap
 hok:HOk P w H' B
 keep:∀ b o,s.heap.get? b=some o->H b=none->b ∉ frs outer->B.get? b=some o
 slot:∀ b o,s.heap.get? b=some o->H b=none->b ∈ frs outer->∃ sl,s'.heap.get? b=some { o with slots:=sl }
 free:∀ b o,s.heap.get? b=some o->H b=none->H' b=none
 there:∀ b o,s.heap.get? b=some o->b ∉ frs outer->∃ o',B.get? b=some o'
 tups:∀ b xs,H b=some (.tup xs)->H' b=some (.tup xs)
 frzs:∀ b o u,H b=some (.frz o u)->H' b=some (.frz o u)
 tbls:∀ b ps,H b=some (.tbl ps)->∃ more,H' b=some (.tbl (ps++more))
def CX1 (P:Program) (w:World):CXT:=fun outer H s E e s'=>∃ (a:Addr) (cls a0:Value) (H':Hp) (B:Heap),e=.ref a/\Fly P w outer H s s' a cls a0 H' B/\E cls none H'
section
variable {P:Program} {w:World} {outer:List Env} {H H':Hp} {s s':Shared} {a:Addr} {cls a0:Value} {B:Heap}
theorem Fly.un (F:Fly P w outer H s s' a cls a0 H' B):Un (frs outer) [] H H' s.heap s'.heap where
 keep:=fun b o e n hb _=>F.fly.1 b o (F.keep b o e n hb)
 slot:=fun b o e n hb _=>F.slot b o e n hb
 free:=fun b o e n _=>F.free b o e n
 there:=fun b o e _=>by
  by_cases hb:b ∈ frs outer
  ·obtain ⟨_,o',ho,_⟩:=F.fly.2.2.1.mem hb;exact ⟨o',ho⟩
  ·obtain ⟨o',ho⟩:=F.there b o e hb;exact ⟨o',F.fly.1 b o' ho⟩
 tups:=F.tups
 frzs:=F.frzs
 tbls:=F.tbls
theorem Fly.step {h':Heap} (F:Fly P w outer H s s' a cls a0 H' B) (hf:Heap.FlyingW B outer a cls a0 h') (hs:s'.heap.UpToSlots h'):Fly P w outer H s { s' with heap:=h' } a cls a0 H' B :=
 ⟨F.os,F.bare,hf,F.hok,F.keep,fun b o e n hb=>by
  obtain ⟨sl,e1⟩:=F.slot b o e n hb;obtain ⟨_,o',ho,hn⟩:=F.fly.2.2.1.mem hb;rw [e1] at ho; cases ho;obtain ⟨sl2,e2⟩:=hs b _ e1 hn;exact ⟨sl2,e2⟩,F.free,F.there,F.tups,F.frzs,F.tbls⟩
theorem B2s {h:Heap} {o:HO} (x:ObjOk P w H h a o):∃ ob,h.get? a=some ob:=by
 cases o with
 | lst xs=>obtain ⟨_,_,_,_,e⟩:=x; exact ⟨_,e⟩
 | tup xs=>obtain ⟨_,_,_,o,e,_⟩:=x; exact ⟨_,e⟩
 | dK kvs=>obtain ⟨_,_,_,_,o,_,_,e,_⟩:=x; exact ⟨_,e⟩
 | dT kvs=>obtain ⟨_,_,_,_,o,_,_,e,_⟩:=x; exact ⟨_,e⟩
 | set S n=>obtain ⟨o,_,_,_,e,_⟩:=x; exact ⟨_,e⟩
 | ins C dx fs=>obtain ⟨_,_,_,e,_⟩:=x; exact ⟨_,e⟩
 | own y=>exact x
 | xd fs=>obtain ⟨_,⟨_,_,_,e,_⟩,_⟩:=x; exact ⟨_,e⟩
 | rng lo hi=>obtain ⟨_,_,_,e⟩:=x; exact ⟨_,e⟩
 | frz ob u=>obtain ⟨e,_⟩:=x; exact ⟨_,e⟩
 | tbl ps=>exact ⟨_,x⟩
 | met f y=>exact ⟨_,x⟩
 | ext φ=>exact x.2.1
theorem Fly.new (F:Fly P w outer H s s' a cls a0 H' B):H' a=none:=by
 cases q:H' a with
 | none=>rfl
 | some o =>
  obtain ⟨ob,e⟩:=B2s (F.hok a o q);rw [F.fly.2.1] at e; cases e
end
section
variable {P:Program} {w:World} {K:PySem.W.Frag} {mg:Str->Option Value} {base:Heap} {N:List Str} {qual:Str} {scope:Scope} {f:Addr} {cd:Value} {A:Around} {outer:List Env} {s0:Shared} {H0:Hp} {E:XK}
theorem A28 {X:Cx} {pins:List (Addr × Obj)} {σ:St} {H:Hp} {s:Shared} (I:Inv X pins σ H s) {b:Addr} {o:Obj} (e:X.s₀.heap.get? b=some o) (hb:b ∉ X.fs):b ∉ frs X.stack:=fun z=>by
 rcases List.mem_cons.mp (I.stkSub b z) with q | q
 ·exact Nat.ne_of_lt (Nat.lt_of_lt_of_le (Heap.lt_size e) I.ok.above) q
 ·exact hb q
end
end L2
namespace L2
open PySem PySem.Spec PyProof.Rows
def A89:List Value:=[.type "ValueError",.type "Exception",.type "BaseException",.type "object"]
section
variable {X:Cx} {E:XK} {x:Str} {C:Addr} {pos np cpos:Pos} {e:Expr} {es:List Expr} {t:TA}
end
abbrev Cx.held (X:Cx) (a:Addr) (oe:Obj):Cx:={ X with A:=X.A.mark (some (.ref a)),calm:=false,pn:=(a,oe) :: X.pn,xe:=fun _ _=>False }
section
variable {X:Cx} {pins:List (Addr × Obj)} {σ:St} {H:Hp} {s:Shared} {a:Addr} {oe:Obj}
theorem Cx.Ok.held (ok:X.Ok):(X.held a oe).Ok :=
 ⟨ok.mod,ok.kind,ok.glob,ok.blt,ok.above,ok.inj,ok.has,ok.cab,fun z=>(by cases z),ok.frames,ok.stk,ok.exf,ok.bs,ok.bsz,ok.noex,ok.exfs,ok.funs,ok.frf⟩
theorem Inv.hold (I:Inv X pins σ H s) (e:s.heap.get? a=some oe) (n:H a=none) (nl:a≠X.env.locals) (nf:a ∉ X.fs) (nc:∀ v,oe.data≠.cell v):Inv (X.held a oe) pins σ H s :=
 ⟨I.ok.held,I.os,I.bare,I.base,I.loc,I.cell,I.free,I.freeC,fun p hp=>by
  rcases List.mem_cons.mp (show p ∈ (a,oe) :: (X.pn++pins) from hp) with q | q
  ·subst q; exact ⟨e,n,nl,nf,nc⟩
  ·exact I.pin p q,I.hok,I.len⟩
theorem Inv.loose (I:Inv (X.held a oe) pins σ H s) (ok:X.Ok):Inv X pins σ H s :=
 ⟨ok,I.os,I.bare,I.base,I.loc,I.cell,I.free,I.freeC,fun p hp=>I.pin p (Zr _ hp),I.hok,I.len⟩
theorem B4z {i:Nat} {n:Str} {pos:Pos} {M:Model} {A:Around} {E:Value->Shared->Prop} {Q:Unit->Shared->Prop} (I:Inv X pins σ H s) (hN:X.N.Nodup) (hi:X.N[i]?=some n) (hk:X.env.scope.names.lookup n=some .local)
  (h:∀ s',Inv X pins (σ.set i none) H s'->Q () s'):wpAny M A (do bindName X.env n .none; unbindBehindTheSuite X.env n pos) Q E s:=by
 obtain ⟨m,hn,hl⟩:=id I.loc;have his:i < σ.length:=by rw [I.len]; exact (Zs hi).1
 refine wpAny_nameGoes_keeps hk hn (by rw [I.ok.kind]; rfl) fun h' v hn' hs=>h _ ?_;obtain ⟨oo,_,_,hoo,_⟩:=id hn;have ne:∀ b o,X.s₀.heap.get? b=some o->b≠X.env.locals:=fun b o e=>Nat.ne_of_lt (Nat.lt_of_lt_of_le (Heap.lt_size e) I.ok.above);refine ⟨I.ok,I.os,I.bare,⟨fun b o e z hb hx=>(hs.2 b (ne b o e)).trans (I.base.keep b o e z hb hx),fun b o e z hb hx=>?_,I.base.free,fun b o e hx=>?_,I.base.tups,I.base.frzs,I.base.tbls⟩,⟨_,hn',fun j y v2 e1 e2 e3=>?_⟩,fun y c e=>?_,I.free,I.freeC,fun p hp=>?_,fun b ob e=>?_,by simpa using I.len⟩
 ·obtain ⟨sl,e1⟩:=I.base.slot b o e z hb hx;exact ⟨sl,(hs.2 b (ne b o e)).trans e1⟩
 ·obtain ⟨o',e1⟩:=I.base.there b o e hx;exact ⟨o',(hs.2 b (ne b o e)).trans e1⟩
 ·by_cases hj:j=i
  ·subst hj;rw [List.getElem?_set_self his] at e2;cases e2
  ·rw [List.getElem?_set_ne (Ne.symm hj)] at e2;obtain ⟨u2,r2,q⟩:=hl j y v2 e1 e2 e3;refine ⟨u2,r2,?_⟩;rcases q with ⟨k,e⟩ | ⟨k,c,e,zz⟩
   ·refine .inl ⟨k,?_⟩;have:y≠n:=fun e=>hj (A1k hN e1 (e ▸ hi));simp [this,e]
   ·exact .inr ⟨k,c,e,zz.sameBut hs (I.cne y c e)⟩
 ·obtain ⟨w2,z⟩:=I.cell y c e;exact ⟨w2,z.sameBut hs (I.cne y c e)⟩
 ·obtain ⟨e,z,nl,nf,d⟩:=I.pin p hp;exact ⟨(hs.2 p.1 nl).trans e,z,nl,nf,d⟩
 ·refine (I.hok b ob e).stay (fun c w2 hc q=>(hs.2 c ?_).trans q) (fun _ q=>q) fun _ _ q=>q;rintro rfl;rcases hc with rfl | hc
  ·rw [I.free] at e; cases e
  ·rw [I.free] at hc; cases hc
end
end L2
namespace L2
open PySem PySem.Spec PyProof.Rows
section
variable {P:Program} {w:World} {outer:List Env} {H H':Hp} {s s':Shared} {a:Addr} {cls a0:Value} {B:Heap}
theorem Fly.hok2 (F:Fly P w outer H s s' a cls a0 H' B):HOk P w H' s'.heap:=fun b o e=>(F.hok b o e).stay (fun c v _ z=>F.fly.1 c v z) (fun _ z=>z) fun _ _ z=>z
end
section
variable {X:Cx} {pins:List (Addr × Obj)} {σ:St} {H H':Hp} {s s':Shared} {a:Addr} {cls a0:Value} {B:Heap}
theorem Fly.inv (F:Fly X.prog X.w X.stack H s s' a cls a0 H' B) (I:Inv X pins σ H s):Inv X pins σ H' s' :=
 I.call' (ch:=[]) F.os F.un F.hok2 F.bare fun b z=>absurd z (by simp)
theorem Fly.hold (F:Fly X.prog X.w X.stack H s s' a cls a0 H' B) (I:Inv X pins σ H s):∃ oe,s'.heap.get? a=some oe/\oe.cls=cls/\Inv (X.held a oe) pins σ H' s':=by
 obtain ⟨oe,vs,e1,e2,e3,_⟩:=F.fly.first;have I2:=F.inv I;refine ⟨oe,e1,e2,I2.hold e1 F.new (fun z=>?_) (fun z=>?_) fun v q=>by rw [e3] at q; cases q⟩
 ·obtain ⟨m,⟨o,es,ep,ho,hd,_⟩,_⟩:=I2.loc;rw [<- z,e1] at ho; cases ho; rw [e3] at hd; cases hd
 ·obtain ⟨_,o',ho,hn⟩:=I2.funs.mem z;rw [e1] at ho; cases ho; exact hn _ e3
end
section
variable {X:Cx} {k i:Nat} {f C CH:Addr} {fd:FuncData} {ps:List Str} {sp:Sp} {x xh n:Str} {p pos pos2 pos3 pos4 pos5:Pos} {e:Expr} {es:List Expr} {t:TA} {b0:Stmt} {suite:List Stmt} {b:Bool}
end
end L2
namespace L2
open PySem PySem.Spec PyProof.Rows
def tKE (i:Nat) (a:Addr) (b:Bool):TE:=fun σ H Q=>σ[i]?=some (some (.ref a))/\∀ H3,Same H H3->Q (.bl b) H3
structure ExC (K:PySem.W.Frag) (C:Addr):Prop where
 k:ExK K C
 hd:PySem.W.hasDictIn K C=true
 ne:∀ o,K.lookup C=some o->o.cls≠.type "tuple"
 hl:(K.lookup C).isSome=true
theorem ExC.kit {K:PySem.W.Frag} {C a:Addr} (c:ExC K C):PySem.W.KitX K (.ref a) (.ref C) (ExAt a C) :=
 B7r c.k (fun M h X=>PySem.W.mc_isType (s:=⟨h,#[],{},0,{}⟩) X c.hd) c.ne c.hl
section
variable {X:Cx} {a C:Addr} {oe:Obj} {i:Nat} {b:Bool}
inductive ClV:V->Value->Prop
 | own (c:Addr):ClV (.ref c) (.ref c)
 | ty (c:String):ClV (.ty c) (.type c)
theorem ClV.get {c:V} {u cv:Value} (h:ClV c cv) (r:RelV c u):u=cv:=by
 cases h with
 | own c=>exact r
 | ty c=>exact r
inductive ClVs:List V->List Value->Prop
 | nil:ClVs [] []
 | cons {c:V} {cv:Value} {r:List V} {s:List Value}:ClV c cv->ClVs r s->ClVs (c :: r) (cv :: s)
theorem ClVs.get:∀ {cs:List V} {us cvs:List Value},ClVs cs cvs->Vals cs us->us=cvs
 | [],_,_,.nil,.nil=>rfl
 | _ :: _,_,_,.cons h t,.cons r s=>by rw [h.get r,t.get s]
theorem Inv.held_at {pins:List (Addr × Obj)} {σ:St} {H:Hp} {s:Shared} (I:Inv (X.held a oe) pins σ H s) (e:oe.cls=.ref C):ExAt a C s.heap :=
 ⟨oe,(I.pin (a,oe) (Zt _ Zy)).1,e⟩
theorem B71 (e:oe.cls=.ref C) (xc:ExC X.K C):CallR (X.held a oe) (.builtin "isinstance") (fun xs H Q=>∃ c cv b,xs=[.ref a,c]/\ClV c cv/\PySem.W.kitOne X.K (.ref C) cv=some b/\Q (.bl b) H):=by
 rintro pins s σ H xs us Q I r ⟨c,cv,b,rfl,hc,hk,q⟩;obtain ⟨u,v,rfl,ru,rv⟩:=Vals.two r;cases (show u=Value.ref a from ru);cases hc.get rv;exact PySem.W.kia_one xc.kit I.kIn (I.held_at e) hk (fun z=>nomatch z) fun tk=>⟨.bl b,H,I.tok tk,rfl,q⟩
structure KE (X:Cx) (i:Nat) (a:Addr) (e:Expr) (b:Bool):Prop where
 out:PE X e (tKE i a b)
structure KC (X:Cx) (e:Expr) (cv:Value):Prop where
 out:∃ c,ClV c cv/\PE X e (tC c)
theorem C1h {x:Str} {D:Addr} {pos:Pos} (hg:Gl X x) (hm:X.mg x=some (.ref D)) (hd:(x == ("__debug__":Str))=false:=by decide):KC X (.Name x pos) (.ref D):=⟨_,.own D,B0w hg hm rfl hd⟩
theorem D1b {x:Str} {c:String} {pos:Pos} (hg:Gl X x) (hm:X.mg x=none) (hv:bootBuiltins x=some (.type c)) (hn:x≠"__name__":=by decide) (hd:(x == ("__debug__":Str))=false:=by decide):KC X (.Name x pos) (.type c):=⟨_,.ty c,B0x hg hm hv rfl hn hd⟩
theorem B0v {e:Expr} {t t':TE} (h:PE X e t) (k:∀ σ H Q,t' σ H Q->t σ H Q):PE X e t':=fun pins s σ H Q I q=>h pins s σ H Q I (k _ _ _ q)
theorem C4f {n:Str} {ec:Expr} {cv:Value} {p p1 pos:Pos} (he:oe.cls=.ref C) (xc:ExC X.K C) (hg:Gl X "isinstance") (hm:X.mg "isinstance"=none) (hi:X.N[i]?=some n) (hl:Vis X.env.scope n) (hc:KC (X.held a oe) ec cv) (hk:PySem.W.kitOne X.K (.ref C) cv=some b)
  (hd:(n == ("__debug__":Str))=false:=by decide) (hcd:(n == ("__classdict__":Str))=false:=by decide) (hs1:starEach [.Name n p1,ec] X.env=(false,eval (.Name n p1) X.env) :: starEach [ec] X.env:=by rfl) (hs2:starEach [ec] X.env=(false,eval ec X.env) :: starEach [] X.env:=by rfl) (hpl:(backTo pos (starEach [ec] X.env)).any (·.1)=false:=by rfl) :
  KE (X.held a oe) i a (.Call (.Name "isinstance" p) [.Name n p1,ec] [] pos) b:=by
 obtain ⟨c,h1,h2⟩:=hc.out;refine ⟨B0v (A1d (X:=X.held a oe) (B71 he xc) hg hm (by rfl) (pa_cons (A2p hi hl hd hcd) (pa_cons h2 pa_nil hs2) hs1) (by decide) (by decide) hs1 hpl) fun σ H Q q=>?_⟩;exact ⟨_,q.1,c,cv,b,rfl,h1,hk,q.2 _ fun _ _ z=>z⟩
theorem C1g {e e2:Expr} {rest:List Expr} {c d:Bool} {pos:Pos} (h:KE X i a e b) (h2:KE X i a (.BoolOp .And (e2 :: rest) pos) c) (hd:(b && c)=d:=by rfl):KE X i a (.BoolOp .And (e :: e2 :: rest) pos) d:=by
 subst hd;exact ⟨B0v (B9h h.out h2.out) fun σ H Q q=>⟨q.1,fun H3 z=>⟨b,rfl,by
  cases b with
  | true=>exact ⟨q.1,fun H4 z4=>q.2 H4 (z.trans z4)⟩
  | false=>exact q.2 H3 z⟩⟩⟩
theorem C86 {e:Expr} {op} {pos:Pos} (h:KE X i a e b):KE X i a (.BoolOp op [e] pos) b:=⟨B9e h.out⟩
end
end L2
namespace L2
open PySem PySem.Spec PyProof.Rows
section
variable {X:Cx}
theorem A0e {st:Stmt} {t:TS} (h:QS X.nox st t):QS X st t:=⟨fun pins s σ H D I hw =>
 wpAny_mono (h.out pins s σ H D (I.wish _) hw) (fun _ _ q=>q.unwish) fun _ _ z=>False.elim z⟩
theorem A0d {e:Expr} {t:TT} (h:QT X.nox e t):QT X e t:=⟨h.out.nox⟩
variable {k i:Nat} {f C CH:Addr} {fd:FuncData} {ps:List Str} {sp:Sp} {x xh n:Str} {p pos pos2 pos3 pos4 pos5:Pos} {e:Expr} {es:List Expr} {t:TA} {b0:Stmt} {suite:List Stmt} {b:Bool}
end
end L2
namespace Pu
open PySem PySem.Spec PyProof.Rows L2 My Prf
class RSX (K:Frag) (w0:Wd) (ts:TS) (ps:outParam PSt):Prop where
 ok:∀ (c:Ct) (w:Wd) (env:PEnv) (σ:L2.St) (Dp:PEnds) (D:Ends),c.K=K->c.w0=w0->EnvOk c w env σ->EndsOk c w Dp D->ps Dp env->ts D σ w.H
instance (priority:=low) rsx_of {K:Frag} {w0:Wd} {ts:TS} {ps:PSt} [h:RS K ts ps]:RSX K w0 ts ps:=⟨fun c w env σ Dp D e _=>h.ok c w env σ Dp D e⟩
instance rsx_seq {K:Frag} {w0:Wd} {t u:TS} {p q:PSt} [ht:RSX K w0 t p] [hu:RSX K w0 u q]:RSX K w0 (tSeq t u) (pSeq p q) where
 ok:=by
  rintro c w env σ Dp D rfl rfl E h pr;refine ht.ok c w env σ { Dp with nx:=q Dp } _ rfl rfl E ⟨fun e1 σ1 w1 E1 s1 n1=>?_,h.rt,h.bk,h.ct⟩ pr;exact hu.ok c w1 e1 σ1 Dp D rfl rfl E1 (h.on s1) n1
instance rsx_if {K:Frag} {w0:Wd} {tt:TT} {t u:TS} {pt:PTt} {p q:PSt} [hc:RT K tt pt] [ht:RSX K w0 t p] [hu:RSX K w0 u q]:RSX K w0 (tIfS tt t u) (pIf pt p q) where
 ok:=by
  rintro c w env σ Dp D rfl rfl E h pr;refine hc.ok c w env σ _ _ rfl E pr fun b e1 w1 E1 l1 q1=>?_;cases b with
  | true=>exact ht.ok c w1 e1 σ Dp D rfl rfl E1 (h.on l1.f) q1
  | false=>exact hu.ok c w1 e1 σ Dp D rfl rfl E1 (h.on l1.f) q1
theorem C9j {K:Frag} {w:Wd} {ts:TS} {ps:PSt} [hs:RSX K w ts ps] {md:List Md} {vs:List V} {as:List SV} {D:Ends} {N:List Str} (ok:w.Ok) (a:Args K w md vs as)
  (hb:ps ⟨fun _=>False,fun _ _=>False,fun _=>False,fun _=>False⟩ (as.map some++List.replicate (N.length - md.length) none)):ts D (L2.start N vs) w.H:=by
 obtain ⟨hl,hat⟩:=L8 a;have look:∀ (i:Nat) s,(as.map some++List.replicate (N.length - md.length) none)[i]?=some (some s)->as[i]?=some s:=fun i s e=>by
  rw [List.getElem?_append] at e;split at e
  ·rw [Zh] at e;cases q:as[i]? with
   | none=>rw [q] at e; cases e
   | some t=>rw [q] at e; cases e; rfl
  ·rw [List.getElem?_replicate] at e;split at e <;> cases e
 refine hs.ok ⟨K,w,noZ⟩ w (as.map some++List.replicate (N.length - md.length) none) (L2.start N vs) ⟨fun _=>False,fun _ _=>False,fun _=>False,fun _=>False⟩ D rfl rfl ⟨ok,Le.refl w,by simp [L2.start,hl,a.len],fun i s e=>?_,fun i j s t v u a e _ _ _ f=>absurd f ((hat i _ (look i _ e)).2 v a),fun a z=>z.elim,fun a j t u z=>z.elim⟩ ⟨fun _ _ _ _ _ z=>z.elim,fun _ _ _ _ _ _ _ _ z=>z.elim,fun _ _ _ _ _ z=>z.elim,fun _ _ _ _ _ z=>z.elim⟩ hb;obtain ⟨⟨v,h1,h2⟩,_⟩:=hat i s (look i s e);refine ⟨v,?_,h2⟩;unfold L2.start;rw [List.getElem?_append_left (by rw [Zl]; exact (Zs h1).1),Zh,h1]; rfl
end Pu
namespace L2
open PySem PySem.Spec PyProof.Rows
theorem A2b {X:Cx} {st:List Stmt}:QSs X st A5r:=⟨fun _ _ _ _ _ _ q=>q.elim⟩
theorem ExC.of {K:PySem.W.Frag} {C:Addr} (ga:PySem.W.findIn K (.ref C) "__getattribute__"=some (some (.builtin "BaseException.__getattribute__"))) (gn:PySem.W.findIn K (.ref C) "__getattr__"=some none)
  (gc:PySem.W.findIn K (.ref C) "__class__"=some (some (.builtin "object.__class__"))) (sb:PySem.W.subIn K (.ref C) (.type "BaseException")=some true) (so:PySem.W.subIn K (.ref C) (.type "object")=some true)
  (hd:PySem.W.hasDictIn K C=true) (ty:(K.lookup C).map (·.cls)=some (.type "type")):ExC K C :=
 ⟨⟨ga,gn,gc,sb,so⟩,hd,(fun o e z=>by rw [e] at ty; simp only [Option.map_some,Option.some.injEq] at ty; rw [ty] at z; exact absurd (Value.type.inj z) (by decide)),(by
  cases q:K.lookup C with
  | none=>rw [q] at ty; cases ty
  | some o=>rfl)⟩
theorem us0:∀ {us:List Value},us.length=0->us=[]
 | [],_=>rfl
theorem usS {n:Nat}:∀ {us:List Value},us.length=n + 1->∃ a r,us=a :: r/\r.length=n
 | a :: r,h=>⟨a,r,rfl,Nat.succ.inj h⟩
theorem us1 {us:List Value} (h:us.length=1):∃ a,us=[a]:=by
 obtain ⟨a,r,e,k⟩:=usS h;exact ⟨a,by rw [e,us0 k]⟩
theorem us2 {us:List Value} (h:us.length=2):∃ a b,us=[a,b]:=by
 obtain ⟨a,r,e,k⟩:=usS h; obtain ⟨b,z⟩:=us1 k; exact ⟨a,b,by rw [e,z]⟩
theorem us3 {us:List Value} (h:us.length=3):∃ a b c,us=[a,b,c]:=by
 obtain ⟨a,r,e,k⟩:=usS h; obtain ⟨b,c,z⟩:=us2 k; exact ⟨a,b,c,by rw [e,z]⟩
end L2
namespace L2
open PySem PySem.Spec PyProof.Rows
section
variable {X:Cx}
theorem C35:OpR X (binaryOp .Mult) rRep:=C70
end
end L2
namespace Pu
open PySem L2 My Prf
theorem B5h {K:Frag} {F:Hpp} {vs:List V} {xs:LP} (d:DenAll K F vs xs):∀ k:Nat,DenAll K F (List.replicate k vs).flatten (List.replicate k xs).flatten
 | 0=>.nil
 | k + 1=>by rw [List.replicate_succ,List.replicate_succ,List.flatten_cons,List.flatten_cons]; exact d.app (B5h d k)
def pRep (pe:PX) (pb:PDt) (env:PEnv) (Q:SV->PEnv->Prop):Prop:=pe env fun s e=>∃ xs,s=.own xs/\pb e fun y e2=>∃ n:Int,y=.int n/\0<=n/\n<=1000/\xs.length<=1000/\Q (.own (List.replicate n.toNat xs).flatten) e2
instance re_rep {K:Frag} {ta tb:TE} {pe:PX} {pb:PDt} [ha:RE K ta pe] [hb:RW K tb pb]:RE K (tOp rRep ta tb) (pRep pe pb) where
 ok:=by
  rintro c w env σ Qp Q rfl E p k;refine ha.ok c w env σ _ _ rfl E p fun v s e1 w1 R1 q1=>?_;obtain ⟨xs,rfl,q1⟩:=q1;obtain ⟨E1,l1,⟨l,vs,rfl,h1,h2,h3,h4,h5⟩,_,_⟩:=R1;refine hb.ok c w1 e1 σ _ _ rfl E1 q1 fun u y e2 w2 E2 l2 v2 q2=>?_;obtain ⟨n,rfl,n0,n1,hx,q2⟩:=q2;have hl:=h5.len;have hn:n.toNat<=1000:=by omega
  refine ⟨l,n,vs,rfl,v2.intE,l2.h _ _ h1 h3,by omega,by omega,?_,fun p hp=>k _ _ e2 _ ((Res.lst E2 hp (B5h (DenAll.same l2.f h5) _)).pre (l1.trans l2)) q2⟩;have:vs.length * n.toNat<=1000 * 1000:=Nat.mul_le_mul (by omega) hn;exact Zx this (by decide)
def B2b (i j:Nat) (pd:PDt) (D:PEnds) (env:PEnv):Prop:=i≠j/\N9 env[i]? fun _=>N9 env[j]? fun _=>pd env fun x e=>N9 e[i]? fun xs=>N9 e[j]? fun ys=>∃ (k:Nat) (y:PyData),x=.int k/\ys[k]?=some y/\xs.length < 1000000/\ys.length < 1000000/\D.nx ((e.set j (some (.own (ys.eraseIdx k)))).set i (some (.own (xs++[y]))))
end Pu
namespace L2
open PySem PySem.Spec PyProof.Rows
section
variable {prog:Program} {w:World} {A:Around} {E:Value->Shared->Prop} {s:Shared}
end
section
variable {prog:Program} {w:World} {A:Around} {E:Value->Shared->Prop} {s:Shared} {R:Result->Shared->Prop} {us vs:Array Value}
end
section
variable {prog:Program} {w:World} {A:Around} {E:Value->Shared->Prop} {s:Shared} {us vs:Array Value}
end
section
variable {X:Cx} {pins:List (Addr × Obj)} {σ:St} {H:Hp} {s:Shared}
end
section
variable {X:Cx}
end
end L2
namespace Pu
open PySem L2 My Prf
def B1k (pa:PEnv->(List LP->PEnv->Prop)->Prop) (env:PEnv) (Q:SV->PEnv->Prop):Prop:=pa env fun xss e=>∃ xs ys,xss=[xs,ys]/\xs.length<=1000/\Q (.own (zipD xs ys)) e
end Pu
namespace L2
open PySem PySem.Spec PyProof.Rows
section
variable {X:Cx}
end
end L2
namespace Pu
open PySem L2 My Prf
def pIdx (po pa:PDt) (env:PEnv) (Q:SV->PEnv->Prop):Prop:=po env fun x e=>asL x fun xs=>pa e fun d e2=>PyData.canLayAll0 xs=true/\d.canLay0=true/\d.depth<=60/\xs.length<=1000/\∃ j:Nat,xs.findIdx? (fun z=>z.eqv d)=some j/\Q (.d (.int (j:Int))) e2
end Pu
namespace L2
open PySem PySem.Spec PyProof.Rows
def C2h (d:PyData):Prop:=(d.canLay0=true/\d.showable=true/\d.hasDict=false\/d=.dict [])/\d.depth<=60/\d.shown.length<=sizeLine
section
variable {X:Cx}
end
end L2
namespace Pu
open PySem L2 My Prf
def C68 (pa:PDt) (env:PEnv) (Q:SV->PEnv->Prop):Prop:=pa env fun d e=>C2h d/\Q (.d (.str d.shown)) e
end Pu
namespace L2
open PySem PySem.Spec PyProof.Rows
def C5c (n:Nat) (i j:Int):List Nat:=sliceRange (sliceBounds (some i) none (some j) n).1 (sliceBounds (some i) none (some j) n).2.1 (sliceBounds (some i) none (some j) n).2.2
section
variable {X:Cx}
end
end L2
namespace Pu
open PySem L2 My Prf
def D0f (xs:LP) (i j:Int):LP:=(C5c xs.length i j).filterMap (xs[·]?)
def C61 (pe pl ps:PDt) (env:PEnv) (Q:SV->PEnv->Prop):Prop:=pe env fun x e1=>asL x fun xs=>pl e1 fun y e2=>asI y fun i=>ps e2 fun z e3=>asI z fun j=>j≠0/\Q (.own (D0f xs i j)) e3
end Pu
namespace L2
open PySem PySem.Spec PyProof.Rows
end L2
namespace Pu
open PySem L2 My Prf
def B9l (pa:PEnv->(List LP->PEnv->Prop)->Prop) (env:PEnv) (Q:SV->PEnv->Prop):Prop:=pa env fun xss e=>∃ xs,xss=[xs]/\Q (.d (.tuple xs)) e
end Pu
namespace L2
open PySem PySem.Spec PyProof.Rows
def told:PyData->Str
 | .str z=>z
 | d=>d.shown
section
variable {X:Cx}
end
end L2
namespace Pu
open PySem L2 My Prf
def pStr (pa:PDt) (env:PEnv) (Q:SV->PEnv->Prop):Prop:=pa env fun d e=>C2h d/\Q (.d (.str (told d))) e
end Pu
namespace L2
open PySem PySem.Spec PyProof.Rows
mutual
def lay1:PyData->Bool
 | .list xs=>C4e xs
 | .tuple xs=>C4e xs
 | .dict kvs=>kvs.isEmpty
 | .str x=>PyData.strOk x
 | _=>true
def C4e:LP->Bool
 | []=>true
 | x :: r=>lay1 x && C4e r
end
section
variable {X:Cx} {pins:List (Addr × Obj)} {σ:St} {H:Hp} {s:Shared}
end
end L2
namespace L2
open PySem PySem.Spec PyProof.Rows
def C5p (d:PyData):Prop:=(lay1 d=true/\d.showable=true)/\d.depth<=60/\d.shown.length<=sizeLine
section
variable {X:Cx}
end
end L2
namespace Pu
open PySem L2 My Prf
def C60 (pa:PDt) (env:PEnv) (Q:SV->PEnv->Prop):Prop:=pa env fun d e=>C5p d/\Q (.d (.str (told d))) e
end Pu
namespace L2
open PySem PySem.Spec PyProof.Rows
end L2
namespace Pu
open PySem L2 My Prf
def D02 (x y:PyData) (Q:SV->Prop):Prop:=match x,y with
 | .tuple (x :: xs),.tuple (y :: ys)=>xs.length + ys.length<=1000/\Q (.d (.tuple (x :: xs++y :: ys)))
 | _,_=>False
theorem B18 {x y:PyData} {xs ys:LP} {Q:SV->Prop}:D02 (.tuple (x :: xs)) (.tuple (y :: ys)) Q=(xs.length + ys.length<=1000/\Q (.d (.tuple (x :: xs++y :: ys)))):=rfl
end Pu
namespace L2
open PySem PySem.Spec PyProof.Rows
section
variable {prog:Program} {w:World} {A:Around} {E:Value->Shared->Prop}
end
end L2
namespace Pu
open PySem L2 My Prf
def qLsU (n:Nat) (pr:LP->PEnv->(PEnv->Prop)->Prop) (x:PyData) (env:PEnv) (Q:PEnv->Prop):Prop:=match x with
 | .list xs=>xs.length=n/\pr xs env Q
 | _=>False
theorem B9b {n:Nat} {pr:LP->PEnv->(PEnv->Prop)->Prop} {xs:LP} {env:PEnv} {Q:PEnv->Prop}:qLsU n pr (.list xs) env Q=(xs.length=n/\pr xs env Q):=rfl
def C7y (pd:PDt) (n:Nat) (pr:LP->PEnv->(PEnv->Prop)->Prop) (D:PEnds) (env:PEnv):Prop:=pd env fun x e=>qLsU n pr x e D.nx
end Pu
namespace L2
open PySem PySem.Spec PyProof.Rows
section
variable {M:Model} {A:Around} {E:Value->Shared->Prop} {s:Shared}
theorem B7n {B:Heap} {l:List Env} {x:Addr} {c z fl:Value} {fo:Option Addr} {Q:Unit->Shared->Prop} (m1:B.StaysIn s.heap) (m2:s.heap.FunFrames B l) (m3:s.heap.TracedAtW B x c z fl)
  (k:∀ g,B.StaysIn g->g.FunFrames B l->(∃ fl2,g.TracedAtW B x c z fl2)->s.heap.UpToSlots g->Q () { s with heap:=g }):wpAny M A (setFlight (.ref x) fo) Q E s:=by
 obtain ⟨ox,us,T,ot,ws,e1,e2,e3,e4,e5,e6,e7,e8,e9⟩:=m3;have off:∀ b,b≠T->(s.heap.update T (Obj.mapFields (·.setIfInBounds 3 (fo.elim Value.none fun f=>rawInt f)))).get? b=s.heap.get? b:=fun b q=>Heap.get?_update_other _ _ (Ne.symm q);have nT:∀ b o,s.heap.get? b=some o->(∀ v,o.data≠.fields v)->b≠T:=fun b o q n z=>by
  rw [z,e7] at q; cases q; exact n ws e8
 have i3:3 < ws.size:=(Array.getElem?_eq_some_iff.mp e9).1;unfold setFlight;refine wpAny_bind (wpAny_field e1 e3 e4 ?_);rw [if_pos (by simp:(Value.ref T != Value.none)=true)];refine wpAny_setField e7 e8 i3 (k _ (fun b o q=>(off b fun z=>by rw [z,e5] at q; cases q).trans (m1 b o q)) (m2.of_keeps fun b o q n=>⟨o,(off b (nT b o q n)).trans q,rfl⟩) ?_ fun b o q n=>⟨o.slots,(off b (nT b o q n)).trans q⟩);exact ⟨_,ox,us,T,_,_,(off x (Ne.symm e6)).trans e1,e2,e3,e4,e5,e6,Heap.get?_update_self _ e7 (Obj.isFreed_of_fields (Obj.data_mapFields e8 _)),Obj.data_mapFields e8 _,by simp [i3]; rfl⟩
theorem A8w {B:Heap} {env:Env} {outer:List Env} {L x:Addr} {c z fl:Value} {Q:Unit->Shared->Prop} (hA:A.frames=some (env :: outer)) (hL:env.frame=some L) (m1:B.StaysIn s.heap) (m0:B.get? x=none) (m2:s.heap.FunFrames B (env :: outer)) (m3:s.heap.TracedAtW B x c z fl)
  (k:∀ g,Heap.FlyingW B outer x c z g->s.heap.UpToSlots g->Q () { s with heap:=g }):wpAny M A (leaving env (.ref x)) Q E s:=by
 by_cases hm:(fl == rawInt L)=true
 ·have hm:fl=rawInt L:=by simpa using hm
  subst hm;unfold leaving;refine wpAny_bind (wpAny_noteFrame_againW hL m3 (wpAny_landsW ⟨m1,m0,m2,m3⟩ fun g ⟨y1,y2,⟨_,_,y3⟩,y4⟩ u=>k g ⟨y1,y2,y3,y4⟩ u))
 ·obtain ⟨ox,us,T,ot,ws,e1,⟨rfl,e2⟩,e3,e4,e5,e6,e7,e8,e9⟩:=m3;have off:∀ b,b≠T->(s.heap.update T (Obj.mapFields (·.setIfInBounds 3 .none))).get? b=s.heap.get? b:=fun b q=>Heap.get?_update_other _ _ (Ne.symm q);have nT:∀ b o,s.heap.get? b=some o->(∀ v,o.data≠.fields v)->b≠T:=fun b o q n z=>by
   rw [z,e7] at q; cases q; exact n ws e8
  unfold leaving noteFrame;simp only [hL];refine wpAny_bind (wpAny_bind (wpAny_field e1 e3 e4 ?_));rw [if_pos (by simp:(Value.ref T != Value.none)=true)];refine wpAny_bind (wpAny_field e7 e8 e9 ?_);rw [if_neg hm];refine wpAny_bind (wpAny_setField e7 e8 (Array.getElem?_eq_some_iff.mp e9).1 ?_);refine wpAny_newEntryW hA (m2.of_keeps fun b o q n=>⟨o,(off b (nT b o q n)).trans q,rfl⟩) hL ((off x (Ne.symm e6)).trans e1) (fun b o q=>(off b fun z=>by rw [z,e5] at q; cases q).trans (m1 b o q)) m0 e3 (Array.getElem?_eq_some_iff.mp e4).1 e2 ?_;rintro g ⟨y1,⟨_,_,y2⟩,y3,y4⟩;exact k g ⟨y1,m0,y2,y3⟩ fun b o q n=>y4 b o ((off b (nT b o q n)).trans q) n
end
section
variable {P:Program} {w:World} {K:PySem.W.Frag} {mg:Str->Option Value} {base:Heap} {N:List Str} {qual:Str} {scope:Scope} {f:Addr} {cd:Value} {A:Around} {outer:List Env} {s0:Shared} {H0:Hp} {E:XK}
end
end L2
namespace L2
open PySem PySem.Spec PyProof.Rows
def bx (X:Cx) (scope:Scope) (cl:List (Str × Addr)) (N':List Str) (s3:Shared) (H3:Hp) (fp:List Addr) (E0:XK):Value->Shared->Prop:=fun e s'=>∃ pl σ H s,Inv (X.block scope cl N' s3 H3 fp) pl σ H s/\CX1 X.prog X.w X.stack H s E0 e s'
section
variable {X:Cx} {scope:Scope} {cl:List (Str × Addr)} {N':List Str} {cap:List (Option Nat)} {elt tg iter:Expr} {ifs:List Expr} {wi:TI} {g:TG} {tt:TT} {te:TE} {pos:Pos}
end
section
variable {P:Program} {w:World} {K:PySem.W.Frag} {mg:Str->Option Value} {base:Heap} {N:List Str} {qual:Str} {dsc:Scope} {f:Addr} {cd:Value} {A:Around} {outer:List Env} {s0:Shared} {H0:Hp} {E:XK}
variable {scope:Scope} {cl:List (Str × Addr)} {N':List Str} {cap:List (Option Nat)} {elt tg iter:Expr} {ifs:List Expr} {wi:TI} {g:TG} {tt:TT} {te:TE} {pos:Pos}
end
end L2
namespace L2
open PySem PySem.Spec PyProof.Rows
def tEor (t u:TE):TE:=fun σ H Q=>t σ H Q\/u σ H Q
section
variable {X:Cx} {e:Expr} {t u:TE}
theorem D0n (h:QE X e t) (h2:QE X e u):QE X e (tEor t u):=⟨fun pins s σ H Q I hw=>hw.elim (h.out pins s σ H Q I) (h2.out pins s σ H Q I)⟩
end
section
variable {P:Program} {w:World} {K:PySem.W.Frag} {mg:Str->Option Value} {base:Heap} {N:List Str} {qual:Str} {dsc:Scope} {f:Addr} {cd:Value} {A:Around} {outer:List Env} {s0:Shared} {H0:Hp} {E:XK}
variable {scope:Scope} {cl:List (Str × Addr)} {N':List Str} {cap:List (Option Nat)} {elt tg iter:Expr} {ifs:List Expr} {wi:TI} {g:TG} {tt:TT} {te:TE} {pos:Pos}
end
end L2
namespace Pu
open PySem PySem.Spec PyProof.Rows L2 My Prf
end Pu
namespace L2
open PySem PySem.Spec PyProof.Rows
def A96:R2:=fun x y H Q=>∃ i n,x=.str i/\y=.int n/\(0<=n/\n<=100)/\i.length<=100/\Q (.str (Txt.mul i n)) H
theorem C8q {x:Str} {n:Int} (h0:0<=n) (h1:n<=100) (h:x.length<=100):MulOk x n:=by
 refine ⟨?_,fun hn _=>?_,fun hn _=>?_⟩
 ·rw [Bool.or_eq_false_iff];exact ⟨Zd (by omega),Zd (by omega)⟩
 ·have hp:0 < n:=by omega
  have h2:100 * n<=2 ^ 63 - 1:=by omega
  have h3:(100:Int)<=(2 ^ 63 - 1) / n:=Int.le_ediv_of_mul_le hp h2;omega
 ·have h2:x.length * n.toNat<=100 * 100:=Nat.mul_le_mul h (by omega);have h3:100 * 100<=sizeLine:=by rw [sizeLine_eq]; decide
  show decide _=false;exact Zd (by omega)
theorem A4v {X:Cx}:OpR X (binaryOp .Mult) A96:=by
 intro pins s σ H x y v u Q I rx ry h;obtain ⟨i,n,rfl,rfl,⟨h0,h1⟩,h2,q⟩:=h;obtain ⟨t,rfl⟩:=rx;obtain ⟨t2,rfl⟩:=ry;exact PySem.SB.mul (C8q h0 h1 h2) fun t' k=>⟨.str _,H,I.tok _,⟨t',rfl⟩,q⟩
end L2
namespace Pu
open PySem L2 My Prf
def C3w (x y:PyData) (Q:SV->Prop):Prop:=asS x fun i=>asI y fun n=>(0<=n/\n<=100)/\i.length<=100/\Q (.d (.str (Txt.mul i n)))
theorem B1j {i:Str} {n:Int} {Q:SV->Prop}:C3w (.str i) (.int n) Q=((0<=n/\n<=100)/\i.length<=100/\Q (.d (.str (Txt.mul i n)))):=rfl
instance ro_mulS {K:Frag}:RO K A96 C3w where
 ok:=by
  rintro c w env σ x y dx dy Qp Q rfl E vx vy p k;unfold C3w asS at p;split at p
  ·unfold asI at p;split at p
   ·exact ⟨_,_,vx.strE,vy.intE,p.1,p.2.1,k _ _ w (Res.data E (.str _)) p.2.2⟩
   ·exact p.elim
  ·exact p.elim
end Pu
namespace L2
open PySem PySem.Spec PyProof.Rows
section
variable {pg:Program} {wo:World} {ar:Around} {xe:Value->Shared->Prop} {st:Shared}
end
end L2
namespace Pu
open PySem L2 My Prf
def pSlT (pa:PDt) (pl ph:PEnv->(Option Int->PEnv->Prop)->Prop) (env:PEnv) (Q:SV->PEnv->Prop):Prop:=pa env fun x e=>pl e fun lo e1=>ph e1 fun hi e2=>∃ (xs:LP) (b:Nat),x=.tuple xs/\lo=none/\hi=some (b:Int)/\Q (.d (.tuple (xs.take b))) e2
end Pu
namespace Pu
open PySem L2 My Prf
def OT.part:OT->Int->Option OT
 | .leaf (.tuple xs),i=>(L2.atI xs i).map .leaf
 | .leaf (.list xs),i=>(L2.atI xs i).map .leaf
 | .nd _ _ k,i=>(ixN k.len i).bind k.kid
 | _,_=>none
def C38 (o:Option (Option SV)) (env:PEnv) (Q:OT->PEnv->Prop):Prop:=match o with
 | some (some (.bt t))=>Q t env
 | some (some (.d x))=>Q (.leaf x) env
 | _=>False
def C7f (i:Nat) (env:PEnv) (Q:OT->PEnv->Prop):Prop:=C38 env[i]? env Q
theorem B3h {t:OT} {env:PEnv} {Q:OT->PEnv->Prop}:C38 (some (some (.bt t))) env Q=Q t env:=rfl
theorem B3g {x:PyData} {env:PEnv} {Q:OT->PEnv->Prop}:C38 (some (some (.d x))) env Q=Q (.leaf x) env:=rfl
def pPth (pb:PEnv->(OT->PEnv->Prop)->Prop) (pi:PDt) (env:PEnv) (Q:OT->PEnv->Prop):Prop:=pb env fun t e1=>pi e1 fun y e2=>asI y fun n=>∃ u,t.part n=some u/\Q u e2
def OT.vw (t:OT) (k:PyData->Prop):Prop:=match t with
 | .leaf x=>k x
 | t=>∃ xs,t.sv=.bor xs/\k (.list xs)
theorem A87 {x:PyData} {k:PyData->Prop}:OT.vw (.leaf x) k=k x:=rfl
def pVw (pb:PEnv->(OT->PEnv->Prop)->Prop) (env:PEnv) (Q:PyData->PEnv->Prop):Prop:=pb env fun t e=>t.vw fun x=>Q x e
def OT.lf (t:OT) (k:PyData->Prop):Prop:=match t with
 | .leaf x=>k x
 | _=>False
theorem B3w {x:PyData} {k:PyData->Prop}:OT.lf (.leaf x) k=k x:=rfl
def pLf (pb:PEnv->(OT->PEnv->Prop)->Prop) (env:PEnv) (Q:SV->PEnv->Prop):Prop:=pb env fun t e=>t.lf fun x=>Q (.d x) e
def pBr (pb:PEnv->(OT->PEnv->Prop)->Prop) (env:PEnv) (Q:LP->PEnv->Prop):Prop:=pb env fun t e=>∃ xs,t.sv=.bor xs/\Q xs e
end Pu
namespace L2
open PySem PySem.Spec PyProof.Rows
end L2
namespace Pu
open PySem L2 My Prf
def Mut (K:Frag) (w:Wd) (l:Addr) (xs:LP):Prop:=∃ vs,w.H l=some (.lst vs)/\w.F l=none/\¬ w.M l/\DenAll K w.F vs xs
abbrev PMu:=LP->LP->LP->(PyData->LP->LP->Prop)->Prop
def C9i (nd:Nat) (p q:Addr) (Qp:PyData->LP->LP->Prop) (x:PyData) (e:PEnv):Prop:=∃ ys zs,e[nd]?=some (some (.tr (.nd true p (C6 ys))))/\e[nd + 1]?=some (some (.tr (.nd true q (C6 zs))))/\Qp x ys zs
def rtMu (nd:Nat) (p q:Addr) (Qp:PyData->LP->LP->Prop) (s:SV) (e:PEnv):Prop:=match s with
 | .d x=>C9i nd p q Qp x e
 | _=>False
theorem B84 {nd:Nat} {p q:Addr} {Qp:PyData->LP->LP->Prop} {x:PyData} {e:PEnv}:rtMu nd p q Qp (.d x) e=C9i nd p q Qp x e:=rfl
def oMu (o:Option (Option SV)) (k:Addr->LP->Prop):Prop:=match o with
 | some (some (.tr t))=>∃ a xs,t=.nd true a (C6 xs)/\k a xs
 | _=>False
theorem D05 {a:Addr} {xs:LP} {k:Addr->LP->Prop} (h:k a xs):oMu (some (some (.tr (.nd true a (C6 xs))))) k:=⟨a,xs,rfl,h⟩
theorem A8v {xs ys:LP} (h:C6 xs=C6 ys):xs=ys:=by
 have:=congrArg OT.dat h
 rwa [U5,U5] at this
theorem C8h {a:Addr} {xs:LP} {k:Addr->LP->Prop}:oMu (some (some (.tr (.nd true a (C6 xs))))) k=k a xs :=
 propext ⟨fun ⟨_,_,e,h⟩=>by
  have e1:=(OT.nd.inj e).2.1;have e2:=A8v (OT.nd.inj e).2.2;subst e1; subst e2; exact h,D05⟩
def pMuV (i:Nat) (env:PEnv) (Q:PyData->PEnv->Prop):Prop:=oMu env[i]? fun _ xs=>Q (.list xs) env
def B9n (pd:PDt) (i:Nat) (pi:PDt) (D:PEnds) (env:PEnv):Prop:=pd env fun x e=>oMu e[i]? fun _ _=>pi e fun y e2=>asI y fun n=>oMu e2[i]? fun a xs=>∃ j,ixN xs.length n=some j/\D.nx (e2.set i (some (.tr (.nd true a (C6 (xs.set j x))))))
def is2 (o o':Option (Option SV)) (k:Prop):Prop:=match o,o' with
 | some (some (.own _)),some (some (.own _))=>k
 | _,_=>False
theorem C9a {xs ys:LP} {k:Prop}:is2 (some (some (.own xs))) (some (some (.own ys))) k=k:=rfl
def pA2 (i j:Nat) (env:PEnv) (Q:LP->Nat->Nat->PEnv->Prop):Prop:=is2 env[i]? env[j]? (Q [] i j env)
def pC2 (pd:PDt) (pr:PEnv->(LP->Nat->Nat->PEnv->Prop)->Prop) (env:PEnv) (Q:LP->Nat->Nat->PEnv->Prop):Prop:=pd env fun x e1=>pr e1 fun xs i j e2=>Q (x :: xs) i j e2
def own2 (o o':Option (Option SV)) (k:LP->LP->Prop):Prop:=match o,o' with
 | some (some (.own xs)),some (some (.own ys))=>k xs ys
 | _,_=>False
theorem C0i {xs ys:LP} {k:LP->LP->Prop}:own2 (some (some (.own xs))) (some (some (.own ys))) k=k xs ys:=rfl
def pMu (psp:PMu) (pa:PEnv->(LP->Nat->Nat->PEnv->Prop)->Prop) (env:PEnv) (Q:PyData->PEnv->Prop):Prop:=pa env fun xs i j e=>i≠j/\own2 e[i]? e[j]? fun ys zs=>psp xs ys zs fun x ys' zs'=>Q x ((e.set i (some (.own ys'))).set j (some (.own zs')))
def C0e (psp:PMu) (pa:PEnv->(LP->Nat->Nat->PEnv->Prop)->Prop) (m:Nat) (D:PEnds) (env:PEnv):Prop:=pMu psp pa env fun x e=>D.nx (e.set m (some (.d x)))
def B12 (psp:PMu) (pa:PEnv->(LP->Nat->Nat->PEnv->Prop)->Prop) (D:PEnds) (env:PEnv):Prop:=pMu psp pa env fun _ e=>D.nx e
end Pu
namespace L2
open PySem PySem.Spec PyProof.Rows
end L2
namespace Pu
open PySem L2 My Prf
def C0a (i:Nat) (pg:PyData->PEnv->(PEnv->Prop)->Prop) (pt:PTt) (pd:PDt) (cap:List (Option Nat)) (env:PEnv) (Q:SV->PEnv->Prop):Prop:=N9 env[i]? fun xs=>xs.length < 1000000/\O5 xs pg pt pd (F5 cap env) fun ys=>Q (.own ys) env
def A2u (i:Nat) (pg:PyData->PEnv->(PEnv->Prop)->Prop) (pt:PTt) (pd:PDt) (cap:List (Option Nat)) (j:Nat) (D:PEnds) (env:PEnv):Prop:=N9 env[i]? fun xs=>xs.length < 1000000/\O5 xs pg pt pd (F5 cap env) fun ys=>D.nx (env.set j (some (.own ys)))
end Pu
namespace L2
open PySem PySem.Spec PyProof.Rows
end L2
namespace Pu
open PySem L2 My Prf
def OT.setK:OT->Nat->OT->OT
 | .cons _ t,0,x=>.cons x t
 | .cons h t,n + 1,x=>.cons h (t.setK n x)
 | t,_,_=>t
structure Sub (K:Frag) (w:Wd) (T u:OT) (r:OT->OT) (v0 v:V):Prop where
 tre:Tre K w u [v]
 re:∀ (w':Wd) x,(∀ a o,w.H a=some o->a ∉ u.fp->w'.H a=some o)->Same w.F w'.F->Tre K w' x [v]->Tre K w' (r x) [v0]
 fp:∃ A B,T.fp=A++u.fp++B/\∀ x,(r x).fp=A++x.fp++B
def D07 (T:OT) (k:OT->(OT->OT)->Prop):Prop:=k T fun x=>x
def mIx (pm:OT->(OT->(OT->OT)->Prop)->Prop) (n:Int) (T:OT) (k:OT->(OT->OT)->Prop):Prop:=pm T fun t r=>∃ b a ks j u,t=.nd b a ks/\ixN ks.len n=some j/\ks.kid j=some u/\k u fun x=>r (.nd b a (ks.setK j x))
def isLs (u:OT) (k:Addr->LP->Prop):Prop:=∃ a xs,u=.nd true a (C6 xs)/\k a xs
def D01 (i:Nat) (pm:OT->(OT->(OT->OT)->Prop)->Prop) (D:PEnds) (env:PEnv):Prop:=asTr env[i]? fun T=>pm T fun u r=>isLs u fun a _=>D.nx (env.set i (some (.tr (r (.nd true a .nil)))))
def oInt (o:Option (Option SV)) (k:Int->Prop):Prop:=match o with
 | some (some (.d (.int n)))=>k n
 | _=>False
theorem C0y {n:Int} {k:Int->Prop}:oInt (some (some (.d (.int n)))) k=k n:=rfl
def OT.slot:OT->SV
 | .leaf x=>.d x
 | .nd true a k=>match k.lvs with
  | some xs=>.own xs
  | none=>.tr (.nd true a k)
 | t=>.tr t
def tUn (te:TE):TE:=te
def kids:List OT->OT
 | []=>.nil
 | t :: r=>.cons t (kids r)
theorem J7 {t:OT}:∀ {ts:List OT},(kids (ts++[t])).fp=(kids ts).fp++t.fp
 | []=>by show t.fp++[]=[]++t.fp; simp
 | s :: r=>by show s.fp++(kids (r++[t])).fp=(s.fp++(kids r).fp)++t.fp; rw [J7]; simp
theorem Tre.snoc {K:Frag} {w:Wd} {t:OT} {v:V} (h:Tre K w t [v]):∀ {ts:List OT} {vs:List V},Tre K w (kids ts) vs->Tre K w (kids (ts++[t])) (vs++[v])
 | [],_,e=>by cases (show _=[] from e); exact ⟨v,[],rfl,h,rfl⟩
 | _ :: _,_,⟨x,r,rfl,hx,hr⟩=>⟨x,r++[v],rfl,hx,Tre.snoc h hr⟩
def B67 (xs:LP) (pg:PyData->PEnv->(PEnv->Prop)->Prop) (pt:PTt) (pe:PX) (e0:PEnv) (Fin:List OT->Prop):Prop :=
 ∃ Pv:Nat->PEnv->List OT->Prop,Pv 0 e0 []/\(∀ i x e ys,xs[i]?=some x->Pv i e ys->pg x e fun e2=>pt e2 fun b e3=>if b=true then pe e3 fun s e4=>s.ot fun t=>Pv (i + 1) e4 (ys++[t]) else Pv (i + 1) e3 ys)/\∀ e ys,Pv xs.length e ys->Fin ys
def OT.tup (a:Addr) (k:OT):SV:=match k.lvs with
 | some xs=>.d (.tuple xs)
 | none=>.tr (.nd false a k)
end Pu
namespace L2
open PySem PySem.Spec PyProof.Rows
section
variable {X:Cx} {e:Expr}
end
end L2
namespace Pu
open PySem L2 My Prf
end Pu
namespace L2
open PySem PySem.Spec PyProof.Rows
section
variable {X:Cx} {e:Expr}
end
end L2
namespace L2
open PySem PySem.Spec PyProof.Rows
section
variable {X:Cx} {tg:Expr}
def C5b (i j k:Int):Nat:=if i < j then ((j - i - 1) / k + 1).toNat else 0
end
end L2
namespace Pu
open PySem L2 My Prf
def stpD (lo st:Int) (n:Nat):LP:=(List.range n).map fun k:Nat=>PyData.int (lo + (k:Nat) * st)
def C8c (xs:LP) (Q:LP->Prop):Prop:=match xs with
 | [.int i,.int j,.int k]=>((0<=i/\i<=1000)/\(0<=j/\j<=1000)/\0 < k/\k<=1000)/\Q (stpD i k (C5b i j k))
 | _=>False
theorem B21 {i j k:Int} {Q:LP->Prop}:C8c [.int i,.int j,.int k] Q=(((0<=i/\i<=1000)/\(0<=j/\j<=1000)/\0 < k/\k<=1000)/\Q (stpD i k (C5b i j k))):=rfl
def C64 (pa:PAr) (env:PEnv) (Q:LP->PEnv->Prop):Prop:=pa env fun xs e=>C8c xs fun ys=>Q ys e
def C7b (i j:Nat) (D:PEnds) (env:PEnv):Prop:=N9 env[j]? fun ys=>∃ y r,ys=y :: r/\D.nx ((env.set j (some (.own r))).set i (some (.d y)))
def B1g (i j a b:Nat) (D:PEnds) (env:PEnv):Prop:=a≠b/\N9 env[a]? fun xs=>N9 env[b]? fun ys=>∃ x r y t,xs=x :: r/\ys=y :: t/\D.nx ((((env.set a (some (.own r))).set b (some (.own t))).set i (some (.d x))).set j (some (.d y)))
def C7c (i j:Nat) (pa:PEnv->(OT->PEnv->Prop)->Prop) (D:PEnds) (env:PEnv):Prop:=pa env fun t e=>∃ a b xs ys,t=.cons (.nd true a (C6 xs)) (.cons (.nd true b (C6 ys)) .nil)/\i≠j/\D.nx ((e.set i (some (.own xs))).set j (some (.own ys)))
def OT.lks:OT->Bool
 | .nil=>true
 | .cons (.nd true _ _) t=>t.lks
 | _=>false
def B10 (i j:Nat) (D:PEnds) (env:PEnv):Prop:=asTr env[i]? fun t=>i≠j/\j < env.length/\∃ a ks,t=.nd true a ks/\ks.lks=true/\D.nx ((env.set i none).set j none)
def A4u (pe:PX) (pr:PAs) (env:PEnv) (Q:List SV->PEnv->Prop):Prop:=pe env fun s e1=>isSt (some (some s)) (pr e1 fun as e2=>Q (.st :: as) e2)
instance (priority:=low) ram_stE {K:Frag} {md:List Md} {te:TE} {tr:TA} {pe:PX} {pr:PAs} [he:RE K te pe] [hr:RAm K md tr pr]:RAm K (.st :: md) (J3 te tr) (A4u pe pr) where
 ok:=by
  rintro c w env σ Qp Q rfl E p k;refine he.ok c w env σ _ _ rfl E p fun v s e1 w1 R q1=>?_;unfold isSt at q1;split at q1
  ·rename_i e;cases e;refine hr.ok c w1 e1 σ _ _ rfl R.ev q1 fun vs xs e2 w2 E2 l2 v2 q2=>?_;obtain ⟨q,e',hm⟩:=R.val;exact k _ _ e2 w2 E2 (R.lw.trans l2) (.st ⟨q,e',l2.m _ hm⟩ v2) q2
  ·exact q1.elim
def B9o (pa:PDt) (env:PEnv) (Q:SV->PEnv->Prop):Prop:=pa env fun d e=>C2h d/\Q (.d (.str d.shown)) e
end Pu
namespace L2
open PySem
end L2
namespace L2
open PySem PySem.Spec PyProof.Rows
section
variable {X:Cx} {pos:Pos}
end
end L2
namespace Pu
open PySem L2 My Prf
def pDN (kvs:List (Key × V)) (env:PEnv) (Q:SV->PEnv->Prop):Prop:=Q (.d (.dict (kvs.map C4n))) env
def C4c:List (PyData × PyData)->Str->Option PyData
 | [],_=>none
 | (.str x,z) :: r,s=>if x=s then some z else C4c r s
 | _ :: r,s=>C4c r s
def pDk (pa pb:PDt) (env:PEnv) (Q:SV->PEnv->Prop):Prop:=pa env fun x e=>pb e fun y e2=>∃ ds s t,x=.dict ds/\y=.str s/\C4c ds s=some (.str t)/\Q (.d (.str t)) e2
end Pu
namespace Pu
open PySem L2 My Prf
end Pu
namespace L2
open PySem PySem.Spec PyProof.Rows
section
variable {X:Cx} {e:Expr}
end
end L2
namespace L2
open PySem PySem.Spec PyProof.Rows
section
variable {κ:Type} [DecidableEq κ]
def valV (kvs:List (κ × V)) (k:κ):Option V:=(kvs.find? fun kv=>decide (kv.1=k)).map (·.2)
def putK (kvs:List (κ × V)) (k:κ) (v:V):List (κ × V) :=
 if (kvs.any fun kv=>decide (kv.1=k))=true then kvs.map (fun kv=>if kv.1=k then (kv.1,v) else kv) else kvs++[(k,v)]
theorem A0u {p:κ × V} {r:List (κ × V)} {k:κ} (e:p.1=k):valV (p :: r) k=some p.2:=by simp [valV,List.find?_cons,e]
theorem A0v {p:κ × V} {r:List (κ × V)} {k:κ} (e:¬ p.1=k):valV (p :: r) k=valV r k:=by simp [valV,List.find?_cons,e]
theorem A5k (k:κ):∀ kvs:List (κ × V),(kvs.any fun kv=>decide (kv.1=k))=(valV kvs k).isSome
 | []=>rfl
 | p :: r=>by
  rw [List.any_cons];by_cases e:p.1=k
  ·simp only [A0u e,Zk e,Bool.true_or,Option.isSome_some]
  ·rw [A0v e,Zd e,Bool.false_or]; exact A5k k r
theorem A42 (kvs:List (κ × V)) (k:κ) (v:V):(putK kvs k v).length<=kvs.length + 1:=by
 unfold putK;split
 ·rw [Zl]; omega
 ·rw [Ze,List.length_cons,List.length_nil]; omega
theorem B6q {kvs:List (κ × V)} {k:κ} (v:V) (h:valV kvs k=none):putK kvs k v=kvs++[(k,v)]:=by
 unfold putK;rw [A5k,h];exact if_neg (by decide)
theorem KV.val {kvs:List (κ × V)} {vs:List (κ × Value)} (r:KV kvs vs) (k:κ):RelO (valV kvs k) (valueAt vs k):=by
 unfold KV at r;induction r with
 | nil=>exact True.intro
 | @cons p q ps qs h t ih =>
  obtain ⟨h1,h2⟩:=h;by_cases e:p.1=k
  ·have e':q.1=k:=h1.symm.trans e;have b:valueAt (q :: qs) k=some q.2:=by simp [valueAt,List.find?_cons,e']
   rw [A0u e,b]; exact h2
  ·have e':¬ q.1=k:=fun z=>e (h1.trans z);have b:valueAt (q :: qs) k=valueAt qs k:=by simp [valueAt,List.find?_cons,e']
   rw [A0v e,b]; exact ih
theorem KV.any {kvs:List (κ × V)} {vs:List (κ × Value)} (r:KV kvs vs) (k:κ):(kvs.any fun kv=>decide (kv.1=k))=vs.any fun kv=>decide (kv.1=k):=by
 unfold KV at r;induction r with
 | nil=>rfl
 | cons h t ih=>rw [List.any_cons,List.any_cons,ih,h.1]
theorem KV.repl {kvs:List (κ × V)} {vs:List (κ × Value)} (r:KV kvs vs) (k:κ) {y:V} {u:Value} (ry:RelV y u) :
  KV (kvs.map fun kv=>if kv.1=k then (kv.1,y) else kv) (vs.map fun kv=>if kv.1=k then (kv.1,u) else kv):=by
 unfold KV at r ⊢;induction r with
 | nil=>exact .nil
 | @cons p q ps qs h t ih =>
  rw [List.map_cons,List.map_cons];refine .cons ?_ ih;obtain ⟨h1,h2⟩:=h;by_cases e:p.1=k
  ·rw [if_pos e,if_pos (h1.symm.trans e)]; exact ⟨h1,ry⟩
  ·rw [if_neg e,if_neg (fun z=>e (h1.trans z))]; exact ⟨h1,h2⟩
theorem KV.put {kvs:List (κ × V)} {vs:List (κ × Value)} (r:KV kvs vs) (k:κ) {y:V} {u:Value} (ry:RelV y u):KV (putK kvs k y) (stored vs k u):=by
 unfold putK stored;rw [r.any k];by_cases e:(vs.any fun kv=>decide (kv.1=k))=true
 ·rw [if_pos e,if_pos e]; exact r.repl k ry
 ·rw [if_neg e,if_neg e]; exact Paired.snoc r ⟨rfl,ry⟩
theorem KV.length {kvs:List (κ × V)} {vs:List (κ × Value)} (r:KV kvs vs):kvs.length=vs.length:=Paired.length r
end
theorem C4g {P:Program} {w:World} {k:Key} {u:Value} (r:RelV (kV k) u):(I0 P w).is k u=true:=by
 cases k with
 | inl i=>obtain ⟨t,e⟩:=(show ∃ t,u=Value.int i t from r); subst e; exact A4z P w i t
 | inr x=>obtain ⟨t,e⟩:=(show ∃ t,u=Value.str x t from r); subst e; exact A4y P w x t
theorem A3b {P:Program} {w:World}:∀ {ks:List Key} {us:List Value},Vals (ks.map kV) us->ItemsAre (I0 P w) ks us
 | [],_,r=>by rw [List.map_nil] at r; cases r; exact .nil
 | k :: ks,_,r=>by
  rw [List.map_cons] at r;cases r with
  | cons h t=>exact .cons (C4g h) (A3b t)
abbrev KTb (H:Hp):List (List Key × V)->List (List Key × Addr × Value)->Prop:=Paired fun p q=>p.1=q.1/\H q.2.1=some (.tup (p.1.map kV))/\RelV p.2 q.2.2
theorem KTb.val {H:Hp} {kvs:List (List Key × V)} {xs:List (List Key × Addr × Value)} (r:KTb H kvs xs) (k:List Key):RelO (valV kvs k) ((atKey xs k).map (·.2)):=by
 induction r with
 | nil=>exact True.intro
 | @cons p q ps qs h t ih =>
  obtain ⟨h1,_,h2⟩:=h;by_cases e:p.1=k
  ·have e':q.1=k:=h1.symm.trans e;have b:atKey (q :: qs) k=some q.2:=by simp [atKey,List.find?_cons,e']
   rw [A0u e,b]; exact h2
  ·have e':¬ q.1=k:=fun z=>e (h1.trans z);have b:atKey (q :: qs) k=atKey qs k:=by simp [atKey,List.find?_cons,e']
   rw [A0v e,b]; exact ih
section
variable {P:Program} {w:World} {H:Hp} {h:Heap} {a:Addr}
theorem C2l {u:HO} (ok:HOk P w H h) (e:Rd H a u):ObjOk P w H h a u:=e.ok ok
theorem C4p {kvs:List (Key × V)} (ok:HOk P w H h) (e:Rd H a (.dK kvs)):kvs.length<=sizeLine/\(a == sysModules)=false/\∃ vs,KV kvs vs/\h.DictOf (I0 P w) a vs :=
 show ObjOk P w H h a (.dK kvs) from C2l ok e
theorem D1d {kvs:List (Key × V)} (ok:HOk P w H h) (e:H a=some (.dK kvs)):kvs.length<=sizeLine/\(a == sysModules)=false/\∃ vs,KV kvs vs/\h.DictOf (I0 P w) a vs:=C4p ok (.inl e)
theorem C1e {ks:List Key} (ok:HOk P w H h) (e:H a=some (.tup (ks.map kV))):(tupleKind (I0 P w)).is h ks a:=by
 obtain ⟨_,its,r,o,h1,h2,n,h3⟩:=(show ObjOk P w H h a (.tup (ks.map kV)) from ok a _ e);exact ⟨o,its.toArray,n,h1,h2,h3,by simpa using A3b r⟩
theorem C9k {kvs:List (List Key × V)} (ok:HOk P w H h) (e:Rd H a (.dT kvs)):kvs.length<=sizeLine/\(a == sysModules)=false /\
  ∃ xs,KTb H kvs xs/\h.DictOfH (tupleKind (I0 P w)) a xs:=by
 obtain ⟨z,y,xs,r,o,es,ep,h1,h2,h3,h4,h5⟩:=(show ObjOk P w H h a (.dT kvs) from C2l ok e);refine ⟨z,y,xs,r,o,es,ep,h1,h2,h3,h4,fun x hx=>?_,h5⟩;have all:∀ {l:List (List Key × V)} {m:List (List Key × Addr × Value)},KTb H l m->∀ x ∈ m,(tupleKind (I0 P w)).is h x.1 x.2.1:=by
  intro l m q;induction q with
  | nil=>intro x hx; exact nomatch hx
  | @cons p q ps qs hq t ih =>
   intro x hx;rcases List.mem_cons.mp hx with e | hx
   ·subst e;exact C1e ok (by rw [<- hq.1]; exact hq.2.1)
   ·exact ih x hx
 exact all r x hx
end
def DGet (H:Hp) (a:Addr) (y:V) (r:Option V):Prop :=
 (∃ kvs k,Rd H a (.dK kvs)/\y=kV k/\r=valV kvs k)\/∃ kvs k b,Rd H a (.dT kvs)/\y=.ref b/\H b=some (.tup (k.map kV))/\r=valV kvs k
theorem DGet.k {H:Hp} {a:Addr} {kvs:List (Key × V)} {k:Key} (e:H a=some (.dK kvs)):DGet H a (kV k) (valV kvs k):=.inl ⟨kvs,k,.inl e,rfl,rfl⟩
section
variable {X:Cx} {pins:List (Addr × Obj)} {σ:St} {H:Hp} {s:Shared} {a:Addr} {y v:V} {u r:Value} {o:Option V} {A:Around} {E:Value->Shared->Prop}
theorem Inv.big (I:Inv X pins σ H s):sysModules < s.heap.objs.size:=by
 have h:mainGlobals < s.heap.objs.size:=(I.mod.glob.keeps I.bk).lt;exact Nat.lt_trans (by decide) h
theorem B5j {Q:Value->Shared->Prop} (hu:A.units + 1 < cLine) (I:Inv X pins σ H s) (g:DGet H a y (some v)) (ry:RelV y u) (h:∀ w' s',Inv X pins σ H s'->RelV v w'->Q w' s') :
  wpAny (model X.prog X.w) A (getItem (.ref a) u) Q E s:=by
 rcases g with ⟨kvs,k,e,ey,l⟩ | ⟨kvs,k,b,e,ey,eb,l⟩
 ·subst ey;obtain ⟨z,hd,vs,rel,dd⟩:=C4p I.hok e;obtain ⟨w',hw,rw'⟩:=RelO.some_of (v:=v) (o:=valueAt vs k) (by rw [l]; exact rel.val k);exact wpAny_getItem_of (C4g ry) dd.mapOf hw (h w' _ (I.tok _) rw')
 ·subst ey;cases (show u=Value.ref b from ry);obtain ⟨z,hd,xs,rel,dd⟩:=C9k I.hok e;obtain ⟨w',hw,rw'⟩:=RelO.some_of (v:=v) (o:=(atKey xs k).map (·.2)) (by rw [l]; exact rel.val k);obtain ⟨p,hp,hp2⟩:=Zo hw;refine wpAny_getItem_heap (tupleKind_room_in1 hu) (C1e I.hok eb) dd hp ?_;rw [hp2];exact h w' _ (I.tok _) rw'
theorem C4t {h':Heap} {t':Nat} {ob:HO} (I:Inv X pins σ H s) (mu:Mut (H a)) (hs:Heap.SameBut a s.heap h') (he:∃ q,h'.get? a=some q) (new:ObjOk X.prog X.w (upd H a ob) h' a ob) :
  Inv X pins σ (upd H a ob) { s with heap:=h',toks:=t' } :=
 I.write (x:=a) (e:=a) mu (.inl rfl) (fun b q hb z=>(hs.2 b hb).trans z) he new
theorem C9l {P:Program} {w:World} {H':Hp} {h':Heap} {kvs:List (Key × V)} {vs:List (Key × Value)} (z:kvs.length<=sizeLine) (hd:(a == sysModules)=false) (rel:KV kvs vs) (dd:h'.DictOf (I0 P w) a vs) :
  ObjOk P w H' h' a (.dK kvs):=⟨z,hd,vs,rel,dd⟩
end
section
variable {X:Cx} {pins:List (Addr × Obj)} {σ:St} {H:Hp} {s:Shared} {a:Addr} {kvs:List (Key × V)} {k:Key} {u:Value} {A:Around} {E:Value->Shared->Prop}
end
def NoSl (i:Expr):Prop:=∀ ov iv,subscripted i false ov iv=operate [ov,iv] (getItem ov iv)
theorem C18 {prog:Program} {w:World} {A:Around} {E:Value->Shared->Prop} {s:Shared} {env:Env} {value slice:Expr} {pos:Pos} {T id:String} {Q:Value->Shared->Prop}
  (hl:typeLookup (.type T) "__getitem__"=pure (some (.builtin id))) (hs:NoSl slice)
  (h:wpAny (model prog w) A (eval value env) (fun o s₁=>wpAny (model prog w) A (eval slice env) (fun i s₂=>s₂.TypeIs o T/\wpAny (model prog w) A (getItem o i) Q E s₂) E s₁) E s) :
  wpAny (model prog w) A (eval (.Subscript value slice pos) env) Q E s:=by
 refine Subscript_ (wpAny_mono h (fun o s₁ h₁=>wpAny_mono h₁ (fun i s₂ h₂=>?_) fun _ _ x=>x) fun _ _ x=>x);obtain ⟨hT,h₂⟩:=h₂;unfold subscriptTail;refine wpAny_bind ?_;rw [getitemInPython_of_ne hT.not_modules];refine wpAny_bind (wpAny_specialOf hT hl ?_);have fin:wpAny (model prog w) A (subscripted slice false o i) (fun r s₃=>wpAny (model prog w) A (letTemporaryGo value o r >>= fun _=>pure r) Q E s₃) E s₂:=by
  rw [hs o i];exact wpAny_operating (wpAny_mono h₂ (fun r s₃ h₃=>wpAny_bind (wpAny_letTemporaryGo (wpAny_pure h₃))) fun _ _ x=>x)
 first
  | exact wpAny_pure (wpAny_bind fin)
  | exact wpAny_bind (wpAny_pure (wpAny_bind fin))
  | exact wpAny_bind fin
theorem A47 {X:Cx} {pins:List (Addr × Obj)} {σ:St} {H:Hp} {s:Shared} {a:Addr} {y:V} {o:Option V} (I:Inv X pins σ H s) (g:DGet H a y o):s.TypeIs (.ref a) "dict":=by
 rcases g with ⟨kvs,k,e,_,_⟩ | ⟨kvs,k,b,e,_,_,_⟩
 ·obtain ⟨_,_,vs,_,dd⟩:=C4p I.hok e;exact dd.typeIs
 ·obtain ⟨_,_,xs,_,dd⟩:=C9k I.hok e;exact dd.typeIs
def A9o (td ty:TE):TE:=fun σ H Q=>td σ H fun x H1=>ty σ H1 fun y H2=>∃ a v,x=.ref a/\DGet H2 a y (some v)/\Q v H2
section
variable {X:Cx} {o i e value:Expr} {pos pos' tpos:Pos} {td ty tv:TE}
theorem C3g (hu:X.A.units + 1 < cLine) (ho:PE X o td) (hi:PE X i ty) (hs:NoSl i):PE X (.Subscript o i pos) (A9o td ty):=by
 intro pins s σ H Q I h;refine C18 PySem.F.slot_dict_getitem.lookup hs (thn (ho pins s σ H _ I h) fun u s1 ⟨x,H1,I1,rx,q1⟩=>thn (hi pins s1 σ H1 _ I1 q1) fun iv s2 ⟨y,H2,I2,ry,a,v,ex,g,q2⟩=>?_);subst ex;obtain rfl:u=Value.ref a:=rx;exact ⟨A47 I2 g,B5j hu I2 g ry fun w' s3 I3 rw'=>⟨v,H2,I3,rw',q2⟩⟩
end
theorem B7z {P:Program} {w:World} {H:Hp} (h:Heap) (hb:sysModules < h.objs.size):ObjOk P w H (h.push { cls:=.type "dict",data:=.dict #[] }) h.objs.size (.dK []) :=
 ⟨Nat.zero_le _,beq_eq_false_iff_ne.mpr (Ne.symm (Nat.ne_of_lt hb)),[],.nil,Heap.DictOf.new h⟩
section
variable {X:Cx} {pos:Pos}
end
def A9n:List (TE × TE)->St->Hp->(List (V × V)->Hp->Prop)->Prop
 | [],_,H,Q=>Q [] H
 | (tk,tv) :: r,σ,H,Q=>tk σ H fun x H1=>tv σ H1 fun y H2=>A9n r σ H2 fun ps H3=>Q ((x,y) :: ps) H3
abbrev VVd:List (V × V)->List (Value × Value)->Prop:=Paired fun p q=>RelV p.1 q.1/\RelV p.2 q.2
def PPs (X:Cx) (pos:Pos) (keys:List (Option Expr)) (values:List Expr) (trs:List (TE × TE)):Prop :=
 ∀ (pins:List (Addr × Obj)) (s:Shared) (σ:St) (H:Hp) (Q:List (V × V)->Hp->Prop),Inv X pins σ H s->A9n trs σ H Q ->
  wpAny (model X.prog X.w) X.A (evalPairs (pairTrees keys values X.env pos)) (fun vs s'=>∃ ps H',Inv X pins σ H' s'/\VVd ps vs/\Q ps H') X.xe s
theorem C27 {X:Cx} {pos:Pos}:PPs X pos [] [] []:=fun pins s σ H Q I h=>pairTrees_nil_walk ⟨[],H,I,.nil,h⟩
theorem B6w {X:Cx} {pos:Pos} {k v:Expr} {ks:List (Option Expr)} {vs:List Expr} {tk tv:TE} {trs:List (TE × TE)} (hk:PE X k tk) (hv:PE X v tv) (hr:PPs X pos ks vs trs) :
  PPs X pos (some k :: ks) (v :: vs) ((tk,tv) :: trs):=fun pins s σ H Q I h =>
 pairTrees_cons_walk (thn (hk pins s σ H _ I h) fun u s1 ⟨x,H1,I1,rx,q1⟩=>thn (hv pins s1 σ H1 _ I1 q1) fun w2 s2 ⟨y,H2,I2,ry,q2⟩ =>
  thn (hr pins s2 σ H2 _ I2 q2) fun ws s3 ⟨ps,H3,I3,rel,q3⟩=>⟨(x,y) :: ps,H3,I3,.cons ⟨rx,ry⟩ rel,q3⟩)
def V0 (kvs more:List (Key × V)):List (Key × V):=more.foldl (fun acc kv=>putK acc kv.1 kv.2) kvs
theorem KV.merge:∀ {more:List (Key × V)} {rs:List (Key × Value)} {kvs:List (Key × V)} {vs:List (Key × Value)},KV more rs->KV kvs vs->KV (V0 kvs more) (merged vs rs):=by
 intro more rs kvs vs r;unfold KV at r;induction r generalizing kvs vs with
 | nil=>intro q; exact q
 | @cons p q ps qs h t ih =>
  intro r0;have e:KV (putK kvs p.1 p.2) (stored vs q.1 q.2):=by
   have:=r0.put p.1 h.2;rw [<- h.1]; exact this
  exact ih e
theorem S7:∀ (more kvs:List (Key × V)),(V0 kvs more).length<=kvs.length + more.length
 | [],kvs=>by show kvs.length<=kvs.length + 0; omega
 | p :: r,kvs=>by
  have h1:=S7 r (putK kvs p.1 p.2);have h2:=A42 kvs p.1 p.2;show (V0 (putK kvs p.1 p.2) r).length<=_;rw [List.length_cons]; omega
theorem A0p {P:Program} {w:World}:∀ {kvs:List (Key × V)} {ws:List (Value × Value)},VVd (kvs.map fun kv=>(kV kv.1,kv.2)) ws->∃ rs,Carries (I0 P w) ws rs/\KV kvs rs
 | [],_,r=>by rw [List.map_nil] at r; cases r; exact ⟨[],True.intro,.nil⟩
 | p :: kvs,_,r=>by
  rw [List.map_cons] at r;cases r with
  | @cons a b as bs h t =>
   obtain ⟨rs,c,q⟩:=A0p (P:=P) (w:=w) t;obtain ⟨b1,b2⟩:=b;exact ⟨(p.1,b2) :: rs,⟨C4g h.1,rfl,c⟩,.cons ⟨rfl,h.2⟩ q⟩
def C15 (trs:List (TE × TE)):TE:=fun σ H Q=>∀ p,H p=none->A9n trs σ (upd H p (.dK [])) fun ps H2=>H2 p=some (.dK [])/\∃ kvs:List (Key × V),ps=kvs.map (fun kv=>(kV kv.1,kv.2))/\kvs.length<=15/\Q (.ref p) (upd H2 p (.dK (V0 [] kvs)))
theorem C3f {X:Cx} {pos:Pos} {keys:List (Option Expr)} {values:List Expr} {trs:List (TE × TE)} (h:PPs X pos keys values trs) (hall:keys.all (·.isSome)=true) (hl:keys.length=values.length) (h0:keys≠[])
  (h15:keys.length<=15):PE X (.Dict keys values pos) (C15 trs):=by
 intro pins s σ H Q I q;have hn:=I.hok.fresh (Zv s.heap.objs.size);have I1:=I.laid (a:=s.heap.objs.size) (o:=.dK []) (h':=s.heap.push { cls:=.type "dict",data:=.dict #[] }) (t':=s.toks) (fun _ _ q=>Heap.get?_push_of_some _ q) (Zv _) (B7z s.heap I.big);refine wpAny_Dict_walk (knd:=I0 X.prog X.w) hall hl h0 h15 (thn (h pins _ σ _ _ I1 (q _ hn)) fun ws s2 ⟨ps,H2,I2,rel,e,kvs,ep,lk,q2⟩=>?_);subst ep;obtain ⟨rs,c,rk⟩:=A0p (P:=X.prog) (w:=X.w) rel;obtain ⟨z,hd,vs0,r0,dd⟩:=D1d I2.hok e;cases r0;refine ⟨rs,c,dd,fun h' dd' hs=>⟨.ref s.heap.objs.size,_,?_,rfl,q2⟩⟩;have hz:(V0 [] kvs).length<=sizeLine:=by
  have h1:=S7 kvs [];rw [List.length_nil] at h1;rw [sizeLine_eq]; omega
 have he:∃ q,h'.get? s.heap.objs.size=some q:=let ⟨q,_,_,hq,_⟩:=dd'; ⟨q,hq⟩;exact C4t I2 (by rw [e]; exact True.intro) hs he (C9l hz hd (rk.merge .nil) dd')
theorem C8n {a b:Int}:NSI [V.int a,V.int b]:=fun _ _ z=>nomatch z
theorem u1 {n:Nat} (h:n + 64 < cLine):n + 1 < cLine:=by omega
theorem A0l:∀ {more acc:List (Key × V)},((acc++more).map (·.1)).Nodup->V0 acc more=acc++more
 | [],acc,_=>by rw [List.append_nil]; rfl
 | p :: r,acc,h=>by
  have hn:valV acc p.1=none:=by
   unfold valV;rw [Option.map_eq_none_iff,List.find?_eq_none];intro x hx e;have e:x.1=p.1:=of_decide_eq_true e;rw [Zc,List.nodup_append] at h;exact h.2.2 x.1 (List.mem_map.mpr ⟨x,hx,rfl⟩) p.1 (List.mem_map.mpr ⟨p,Zy,rfl⟩) e
  show V0 (putK acc p.1 p.2) r=_;rw [B6q _ hn,show (p.1,p.2)=p from rfl];have h':(((acc++[p])++r).map (·.1)).Nodup:=by rw [List.append_assoc]; exact h
  rw [A0l h',List.append_assoc]; rfl
def C5a (i j k:Nat) (ta:TA):TS:=fun D σ H=>ta σ H fun vs H1=>∃ v w z,vs=[v,w,z]/\D.nx (((σ.set i (some v)).set j (some w)).set k (some z)) H1
theorem B6m {X:Cx} {pos:Pos} {i j k:Nat} {x y z:Str} {a b c:Expr} {ta:TA} {px py pz pt:Pos} {kt k2 pt2} (hc:X.calm=true) (hN:X.N.Nodup) (hi:X.N[i]?=some x) (hj:X.N[j]?=some y) (hk:X.N[k]?=some z) (hij:i≠j) (hik:i≠k) (hjk:j≠k)
  (hx:X.env.scope.names.lookup x=some .local) (hy:X.env.scope.names.lookup y=some .local) (hz:X.env.scope.names.lookup z=some .local) (ha:QA X [a,b,c] ta)
  (hw:swappedStores [.Tuple [.Name x px,.Name y py,.Name z pz] kt pt] (.Tuple [a,b,c] k2 pt2) X.env=pure (some [x,y,z]))
  (hs:swapsWithSole [.Tuple [.Name x px,.Name y py,.Name z pz] kt pt] (.Tuple [a,b,c] k2 pt2) pos.line X.env=pure false) :
  QS X (.Assign [.Tuple [.Name x px,.Name y py,.Name z pz] kt pt] (.Tuple [a,b,c] k2 pt2) pos) (C5a i j k ta):=by
 refine ⟨fun pins s σ H D I h=>?_⟩;rw [exec_Assign_arm];apply wpAny_bind; apply wpAny_standAt;rw [hs];apply wpAny_bind; apply wpAny_pure;rw [if_neg Bool.false_ne_true];apply wpAny_bind;apply Tuple_;refine thn (ha.out _ pins s σ H _ I h) ?_;rintro us s1 ⟨vs,H1,I1,r1,v,w,t,rfl,q1⟩;cases r1 with | cons p1 r1=>cases r1 with | cons p2 r1=>cases r1 with | cons p3 r1 =>
 cases r1;rename_i u1 u2 u3;refine wpAny_newObj_type ?_ (by show 3<=sizeLine; decide);have I2:Inv X pins σ H1 { s1 with heap:=s1.heap.push ⟨.type "tuple",none,.seq [u1,u2,u3].toArray 0,#[]⟩ }:=I1.kept (t':=s1.toks) fun _ _ e=>Heap.get?_push_of_some _ e;rw [hw];apply wpAny_bind; apply wpAny_pure;show wpAny (model X.prog X.w) X.A (do rule "assign.swapped-stores"; let its <- unpackItems (.ref s1.heap.objs.size) 3 none; assignInOrder [fun v=>bindName X.env z v,fun v=>bindName X.env y v,fun v=>bindName X.env x v] its.reverse; pure Flow.next) _ _ _;apply wpAny_bind; apply wpAny_rule; apply wpAny_bind;refine unpackItems_tuple (items:=#[u1,u2,u3]) (I.ok.hd hc) (IsTup.new s1.heap _) fun h' hx'=>?_;have I3:=I2.kept (h':=h') (t':=s1.toks) fun b o e=>hx' b o (Nat.ne_of_lt (Heap.lt_size e)) e;show wpAny _ _ (assignInOrder [fun v=>bindName X.env z v,fun v=>bindName X.env y v,fun v=>bindName X.env x v] [u3,u2,u1] >>= fun _=>pure Flow.next) _ _ _;apply wpAny_bind;refine assignInOrder_cons (wpAny_bindName (K9 I3 hN hk (.inl hz) p3 (fun s2 I4=>?_) (.inr hz)));refine assignInOrder_cons (wpAny_bindName (K9 I4 hN hj (.inl hy) p2 (fun s3 I5=>?_) (.inr hy)));refine assignInOrder_cons (wpAny_bindName (K9 I5 hN hi (.inl hx) p1 (fun s4 I6=>assignInOrder_nil (wpAny_pure ?_)) (.inr hx)));have e:((σ.set k (some t)).set j (some w)).set i (some v)=((σ.set i (some v)).set j (some w)).set k (some t):=by
  rw [List.set_comm _ _ (Ne.symm hjk),List.set_comm _ _ (Ne.symm hik),List.set_comm _ _ (Ne.symm hij)]
 rw [e] at I6;exact ⟨_,H1,I6,q1⟩
section
variable {X:Cx} {o i e value:Expr} {pos pos':Pos} {td ty tv:TE}
structure QPs (X:Cx) (pos:Pos) (keys:List (Option Expr)) (values:List Expr) (trs:List (TE × TE)):Prop where
 out:PPs X pos keys values trs
theorem A99:QPs X pos [] [] []:=⟨C27⟩
theorem P7 {k v:Expr} {ks:List (Option Expr)} {vs:List Expr} {tk tv:TE} {trs:List (TE × TE)} (hk:QE X k tk) (hv:QE X v tv) (hr:QPs X pos ks vs trs):QPs X pos (some k :: ks) (v :: vs) ((tk,tv) :: trs):=⟨B6w hk.out hv.out hr.out⟩
theorem A55 {keys:List (Option Expr)} {values:List Expr} {trs:List (TE × TE)} (h:QPs X pos keys values trs) (hall:keys.all (·.isSome)=true) (hl:keys.length=values.length) (h0:keys≠[]) (h15:keys.length<=15):QE X (.Dict keys values pos) (C15 trs):=⟨C3f h.out hall hl h0 h15⟩
theorem F6 (hu:X.A.units + 1 < cLine) (ho:QE X o td) (hi:QE X i ty) (hs:NoSl i):QE X (.Subscript o i pos) (A9o td ty):=⟨C3g hu ho.out hi.out hs⟩
end
end L2
namespace Pu
open PySem L2 My Prf
def asP (x:PyData) (k:Str->Int->Prop):Prop:=match x with
 | .tuple [.str c,.int n]=>k c n
 | _=>False
def D0z (i j k:Nat) (pa:PAr) (D:PEnds) (env:PEnv):Prop:=pa env fun xs e=>match xs with
 | [x,y,z]=>D.nx (((e.set i (some (.d x))).set j (some (.d y))).set k (some (.d z)))
 | _=>False
instance rs_par3 {K:Frag} {ta:TA} {pa:PAr} {i j k:Nat} [ha:RAd K ta pa]:RS K (C5a i j k ta) (D0z i j k pa) where
 ok:=by
  rintro c w env σ Dp D rfl E h p;refine ha.ok c w env σ _ _ rfl E p fun vs xs e1 w1 E1 l1 d1 q1=>?_;split at q1
  ·cases d1 with
   | cons a t=>cases t with
    | cons b t=>cases t with
     | cons d t =>
      cases t;exact ⟨_,_,_,rfl,h.nx _ _ w1 (((E1.set (s:=.d _) a (fun _ z=>nomatch z)).set (s:=.d _) b (fun _ z=>nomatch z)).set (s:=.d _) d (fun _ z=>nomatch z)) l1.f q1⟩
  ·exact q1.elim
end Pu
open PySem L2 My
namespace Pu
end Pu
namespace Pu
open PySem L2 My Prf
inductive Fr:OT->OT->Prop
 | same (t:OT):Fr t t
 | all {t:OT} {x:PyData}:t.dat=[x]->Fr t (.leaf x)
 | nd {b:Bool} {a:Addr} {k k':OT}:Fr k k'->Fr (.nd b a k) (.nd b a k')
 | cons {h h' t t':OT}:Fr h h'->Fr t t'->Fr (.cons h t) (.cons h' t')
def isKs (o:Option (Option SV)) (k:Addr->List OT->Prop):Prop:=asTr o fun T=>∃ a ks,T=.nd true a (kids ks)/\k a ks
end Pu
namespace L2
open PySem PySem.Spec PyProof.Rows
section
variable {X:Cx} {e:Expr}
end
end L2
namespace L2
open PySem
def KeptD (h h':Heap):Prop:=∀ b o,h.get? b=some o->∃ o',h'.get? b=some o'/\o'.cls=o.cls/\o'.dict=o.dict
theorem KeptD.refl (h:Heap):KeptD h h:=fun _ o e=>⟨o,e,rfl,rfl⟩
theorem KeptD.trans {h1 h2 h3:Heap} (x:KeptD h1 h2) (y:KeptD h2 h3):KeptD h1 h3:=fun b o e =>
 let ⟨o1,e1,c1,d1⟩:=x b o e
 let ⟨o2,e2,c2,d2⟩:=y b o1 e1
 ⟨o2,e2,c2.trans c1,d2.trans d1⟩
def Mild (f:Obj->Obj):Prop:=∀ o,o.isFreed=false->(f o).cls=o.cls/\(f o).dict=o.dict/\(f o).isFreed=false
theorem A29 {h:Heap} {a:Addr} {f:Obj->Obj} (m:Mild f):KeptD h (h.update a f):=fun b o e=>by
 by_cases q:a=b
 ·subst q;have nf:o.isFreed=false:=(Heap.get?_some_iff.mp e).2;exact ⟨f o,Heap.get?_update_self f e (m o nf).2.2,(m o nf).1,(m o nf).2.1⟩
 ·exact ⟨o,by rw [Heap.get?_update_other h f q]; exact e,rfl,rfl⟩
inductive Still {α:Type}:Sem α->Prop
 | pure (a:α):Still (.pure a)
 | raise (e:Value):Still (.raise e)
 | uns (x:String):Still (.unsupported x)
 | load {a:Addr} {p:Option Value} {k:Obj->Sem α}:(∀ o,Still (k o))->Still (.load a p k)
 | upd {a:Addr} {p:Option Value} {f:Obj->Obj} {k:Unit->Sem α}:Mild f->Still (k ())->Still (.update a p f k)
 | alloc {o:Obj} {k:Addr->Sem α}:(∀ a,Still (k a))->Still (.alloc o k)
 | stack {k:List (Code × Pos)->Sem α}:(∀ x,Still (k x))->Still (.stack k)
 | rule {t:String} {k:Unit->Sem α}:Still (k ())->Still (.rule t k)
theorem Still.bind' {α β:Type} {t:Sem α} {f:α->Sem β} (h:Still t) (g:∀ a,Still (f a)):Still (t.bind f):=by
 induction h with
 | pure a=>exact g a
 | raise e=>exact .raise e
 | uns x=>exact .uns x
 | load _ ih=>exact .load ih
 | upd m _ ih=>exact .upd m ih
 | alloc _ ih=>exact .alloc ih
 | stack _ ih=>exact .stack ih
 | rule _ ih=>exact .rule ih
theorem Still.bind {α β:Type} {t:Sem α} {f:α->Sem β} (h:Still t) (g:∀ a,Still (f a)):Still (t >>= f):=h.bind' g
theorem Still.wp {α:Type} {M:Model} {Γ:Ctx} {t:Sem α} (st:Still t):∀ {Q:α->Pos->Shared->Prop} {E:Value->Pos->Shared->Prop} {p:Pos} {s s0:Shared},KeptD s0.heap s.heap->Sem.wp M Γ t Q E p s ->
  Sem.wp M Γ t (fun a p' s'=>Q a p' s'/\KeptD s0.heap s'.heap) (fun e p' s'=>E e p' s'/\KeptD s0.heap s'.heap) p s:=by
 induction st with
 | pure a=>intro Q E p s s0 k h; rw [Sem.wp] at h ⊢; exact ⟨h,k⟩
 | raise e=>intro Q E p s s0 k h; rw [Sem.wp] at h ⊢; exact ⟨h,k⟩
 | uns x=>intro Q E p s s0 k h; rw [Sem.wp] at h; exact h.elim
 | load _ ih=>intro Q E p s s0 k h; rw [Sem.wp] at h ⊢; obtain ⟨o,e,h⟩:=h; exact ⟨o,e,ih o k h⟩
 | upd m _ ih=>intro Q E p s s0 k h; rw [Sem.wp] at h ⊢; exact ⟨h.1,ih (k.trans (A29 m)) h.2⟩
 | alloc _ ih=>intro Q E p s s0 k h; rw [Sem.wp] at h ⊢; exact ih _ (k.trans fun b o e=>⟨o,Heap.get?_push_of_some _ e,rfl,rfl⟩) h
 | stack _ ih=>intro Q E p s s0 k h; rw [Sem.wp] at h ⊢; exact ih _ k h
 | rule _ ih=>intro Q E p s s0 k h; rw [Sem.wp] at h ⊢; exact ih k h
theorem Still.any {α:Type} {M:Model} {A:Around} {t:Sem α} (st:Still t) {Q:α->Shared->Prop} {E:Value->Shared->Prop} {s:Shared} (h:wpAny M A t Q E s) :
  wpAny M A t (fun a s'=>Q a s'/\KeptD s.heap s'.heap) (fun e s'=>E e s'/\KeptD s.heap s'.heap) s:=fun Γ p g=>st.wp (KeptD.refl _) (h Γ p g)
theorem A40 {f:Array Value->Array Value}:Mild (Obj.mapFields f):=fun o nf=>by
 obtain ⟨c,d,da,sl⟩:=o;cases da <;> first | exact ⟨rfl,rfl,rfl⟩ | exact ⟨rfl,rfl,nf⟩
theorem A8p {g:Obj->Array (Option Value)}:Mild (fun o=>{ o with slots:=g o }):=fun o nf=>⟨rfl,rfl,by obtain ⟨c,d,da,sl⟩:=o; cases da <;> exact nf⟩
theorem L9 {α:Type} {c:Prop} [Decidable c] {x y:Sem α} (a:Still x) (b:Still y):Still (if c then x else y):=by split <;> assumption
theorem T5 {a:Addr}:Still (PySem.load a):=.load fun o=>.pure o
theorem Z7 {v:Value}:Still (fieldsOf v):=by
 unfold fieldsOf;split
 ·refine .bind T5 fun o=>?_;split
  ·exact .pure _
  ·exact .uns _
 ·exact .uns _
theorem M8 {v:Value} {i:Nat}:Still (field v i):=by
 unfold field;refine .bind Z7 fun o=>?_;split
 ·exact .pure _
 ·exact .uns _
theorem L6 {v:Value} {i:Nat} {x:Value}:Still (setField v i x):=by
 unfold setField;split
 ·unfold updateField;refine .bind T5 fun o=>?_;split
  ·refine L9 ?_ (.uns _);exact .upd A40 (.pure _)
  ·exact .uns _
 ·exact .uns _
theorem still_setFlight {e:Value} {f:Option Addr}:Still (setFlight e f):=by
 unfold setFlight;refine .bind M8 fun tb=>?_;exact L9 L6 (.pure _)
theorem Q7:Still PySem.stack:=.stack fun x=>.pure x
theorem A4f:∀ l:List Env,Still (readyFrames l):=by
 intro l;induction l with
 | nil=>exact .pure _
 | cons env outer ih =>
  unfold readyFrames;split
  ·refine .bind T5 fun o=>L9 (.pure _) ?_;refine .bind ?_ fun im=>.bind ?_ fun back=>.bind (.upd A8p (.pure _)) fun _=>ih
   ·unfold behindIsImport;refine L9 (.pure _) (L9 (.pure _) (.bind M8 fun _=>.pure _))
   ·cases outer with
    | nil=>unfold keptBack; exact L9 (.pure _) (.bind (.bind Q7 fun _=>.pure _) fun _=>.pure _)
    | cons c r=>exact .pure _
  ·exact .uns _
theorem A00 {env:Env}:Still (frameOf env):=by
 unfold frameOf;refine .bind (.bind Q7 fun _=>.pure _) fun l=>.bind ?_ fun x=>?_
 ·unfold frameObject;split
  ·exact .pure _
  ·exact .bind (A4f _) fun _=>.pure _
 ·split
  ·exact .pure _
  ·exact .uns _
theorem W5 {t:String} {l:List Value}:Still (newFields t l):=by
 unfold newFields newObj;have z:∀ u:Unit,Still (newObjAsIs (.type t) (.fields l.toArray) none):=fun _=>.alloc fun a=>.pure _;dsimp only;split
 ·exact .uns _
 ·exact z ()
theorem still_noteFrame {e:Value} {env:Env}:Still (noteFrame e env):=by
 unfold noteFrame;split
 ·rename_i f _;have r:∀ (hd:Value) (b:Bool),Still (do let a <- frameOf env; let pl <- entryPlaceOf f b; let x <- EntryCells.newEntry hd a .none (rawInt f) .none pl; setField e 1 x):=fun hd b =>
   .bind A00 fun a=>.bind (.bind Q7 fun l=>by dsimp only; split <;> exact .pure _) fun pl=>.bind W5 fun x=>L6
  refine .bind M8 fun hd=>?_;try dsimp only
  split
  ·refine .bind M8 fun x=>?_;try dsimp only
   split
   ·exact .pure _
   ·exact .bind L6 fun _=>r _ _
  ·exact r _ _
 ·exact .uns _
theorem still_leaving {e:Value} {env:Env}:Still (leaving env e):=.bind still_noteFrame fun _=>still_setFlight
open PySem.Spec PyProof.Rows PySem.W
def U1:List Value->Bool
 | .ref _ :: r=>U1 r
 | l=>l == A89
theorem B6i (self:Value):refuseLoop self "__setattr__" A89=pure ():=by
 unfold A89;rw [refuseLoop]
 kernel_rfl
theorem W8 (self:Value):∀ {l:List Value},U1 l=true->refuseLoop self "__setattr__" l=pure ()
 | [],e=>by cases e
 | x :: r,e=>by
  unfold U1 at e;split at e
  ·rename_i h; cases h; rw [refuseLoop_ref]; exact W8 self e
  ·rw [eq_of_beq e]; exact B6i self
theorem A6r:∀ {l:List Value},U1 l=true->l.contains (.type "object")=true
 | [],e=>by cases e
 | x :: r,e=>by
  unfold U1 at e;split at e
  ·rename_i h; cases h; rw [List.contains_cons,A6r e,Bool.or_true]
  ·rw [eq_of_beq e]; rfl
section
variable {K:PySem.W.Frag} {prog:Program} {w:World} {A:Around} {s:Shared} {x C:Addr} {ox:Obj} {od:Option Obj} {cd:ClassData} {name:Str} {v:Value}
theorem B7b {tk:Tok} {R:Result->Shared->Prop} (X:K.In s.heap) (I:PySem.W.InstAt s.heap x ox C od) (hc:clsIn K C=some cd) (ho:U1 cd.mro=true) (ha:findIn K (.ref C) name=some none)
  (h:wpAny (model prog w) A.in1 (Builtin.ObjectAttr.storeInOwnDict (.ref x) (.ref C) (.str name tk) name v false)
   (fun z s'=>match z with | .done f=>R (.ok f) s' | .again c=>c.quiet=true/\codeAny (model prog w) A c R s') (fun e s'=>R (.error e) s') s) :
  codeAny (model prog w) A (.call (.builtin "object.__setattr__") ⟨[.ref x,.str name tk,v],[]⟩) R s:=by
 have ne:cd.mro.isEmpty=false:=by
  cases q:cd.mro with
  | cons _ _=>rfl
  | nil=>rw [q] at ho; cases ho
 have isIn:Looks (model prog w) s.heap (isInstance (.ref x) (.type "object")) true :=
  I.type.andThen (looks_mroIn X (by unfold mroIn; rw [hc]; simp only [Option.bind_some,ne,Bool.false_eq_true,if_false,A6r ho]))
 have SO:=PySem.F.store_object;refine codeAny_call_builtin SO.slot.plain SO.entry
  (check_slot (i:="object.__setattr__") (owner:="object") (n:="__setattr__") (self:=.ref x) (rest:=[.str name tk,v]) (kw:=[]) SO.kind SO.split isIn (SO.args (.ref x) (.str name tk) v) ?_)
 have mro:Looks (model prog w) s.heap (mroOf (.ref C)) cd.mro:=Looks.andThen (looks_clsIn X hc) .now;rw [osa_eq,refuse_eq];refine wpAny_bind (wpAny_bind (I.type.here ?_));refine wpAny_bind (mro.here ?_);rw [W8 _ ho];refine wpAny_pure (wpAny_bind (I.type.here (wpAny_bind ((looks_findIn X ha).here ?_))));exact wpAny_bind (wpAny_pure h)
theorem B6e {vs:Array Value} {sl:Array (Option Value)} {Q:Unit->Shared->Prop} {E:Value->Shared->Prop} (X:K.In s.heap) (hx:s.heap.get? x=some ⟨.ref C,none,.fields vs,sl⟩)
  (hc:clsIn K C=some cd) (hh:cd.hasDict=true) (ho:U1 cd.mro=true) (hs:findIn K (.ref C) "__setattr__"=some (some (.builtin "object.__setattr__"))) (ha:findIn K (.ref C) name=some none)
  (h:∀ h' d,s.heap.get? d=none->d≠x->h'.get? x=some ⟨.ref C,some d,.fields vs,sl⟩->h'.Ns1 d (fun y=>if y=name then some v else none)->(∀ b o,b≠x->s.heap.get? b=some o->h'.get? b=some o) ->
   Q () { s with heap:=h',toks:=s.toks + 2 }):wpAny (model prog w) A (setAttr (.ref x) name v) Q E s:=by
 have I:PySem.W.InstAt s.heap x ⟨.ref C,none,.fields vs,sl⟩ C none:=⟨hx,rfl,rfl,True.intro⟩;have lt:=Heap.lt_size hx;refine set_plain X I hs (B7b (s:={ s with toks:=s.toks + 1 }) X I hc ho ha ?_);unfold Builtin.ObjectAttr.storeInOwnDict;refine wpAny_bind (wpAny_pure (wpAny_bind ?_));show wpAny _ _ (instanceDict x true) _ _ _;unfold instanceDict;refine wpAny_bind (wpAny_loadPart (s:={ s with toks:=s.toks + 1 }) hx (wpAny_bind (Looks.here (s:={ s with toks:=s.toks + 1 }) (looks_clsIn X hc) ?_)));rw [hh];have x1:(s.heap.push { cls:=.type "dict",data:=.dict #[] }).get? x=some ⟨.ref C,none,.fields vs,sl⟩:=Heap.get?_push_of_some _ hx;refine wpAny_bind (wpAny_alloc (s:={ s with toks:=s.toks + 1 }) (wpAny_bind (wpAny_update (s:={ heap:=_,gens:=_,drawn:=_,toks:=_,os:=_ }) x1 ?_)));refine wpAny_pure ?_;have nd:s.heap.objs.size≠x:=Nat.ne_of_gt lt;have e1:((s.heap.push { cls:=.type "dict",data:=.dict #[] }).update x fun o=>{ o with dict:=some s.heap.objs.size }).get? x=some ⟨.ref C,some s.heap.objs.size,.fields vs,sl⟩ :=
  Heap.get?_update_self _ x1 rfl
 have e2:((s.heap.push { cls:=.type "dict",data:=.dict #[] }).update x fun o=>{ o with dict:=some s.heap.objs.size }).get? s.heap.objs.size=some { cls:=.type "dict",data:=.dict #[] }:=by
  rw [Heap.get?_update_other _ _ (Ne.symm nd)]; exact Heap.get?_push_size _ rfl
 show wpAny _ _ (Builtin.ObjectAttr.storeInDict _ _ _ _) _ _ _;unfold Builtin.ObjectAttr.storeInDict;refine wpAny_bind (wpAny_pure (wpAny_bind ?_));refine wpAny_nsSet1 (m:=fun _=>none) (Heap.Ns1.of_empty ⟨_,#[],0,e2,rfl,fun e he=>absurd he (by simp),fun _=>rfl⟩) fun h' n2 sb=>?_;obtain ⟨oD,es,ep,g1,g2,g3⟩:=n2.count (PySem.Within.cons name v PySem.Within.nil);refine wpAny_bind (wpAny_lookBehind g1 (by rw [g2]; exact pastItsLine_dict (Zx g3 (by rw [sizeLine_eq]; show 1<=_; decide))) (wpAny_pure ?_));refine h h' s.heap.objs.size (Heap.get?_none_of_le (Zv _)) nd ((sb.2 x (Ne.symm nd)).trans e1) n2 fun b o bx e=>?_;refine (sb.2 b (Nat.ne_of_lt (Heap.lt_size e))).trans ?_;rw [Heap.get?_update_other _ _ (Ne.symm bx)];exact Heap.get?_push_of_some _ e
end
section
variable {K:PySem.W.Frag} {prog:Program} {w:World} {A:Around} {s:Shared} {x C:Addr} {ox:Obj} {od:Option Obj} {cd:ClassData} {name:Str} {v:Value}
theorem A2x:∀ {l:List Value},U1 l=true->l.contains (.type "BaseException")=true
 | [],e=>by cases e
 | y :: r,e=>by
  unfold U1 at e;split at e
  ·rename_i h; cases h; rw [List.contains_cons,A2x e,Bool.or_true]
  ·rw [eq_of_beq e]; rfl
theorem getx {expr:Bool} {Q:Value->Shared->Prop} {E:Value->Shared->Prop} (X:K.In s.heap) (I:PySem.W.InstAt s.heap x ox C od) (hc:clsIn K C=some cd) (ho:U1 cd.mro=true)
  (hg:findIn K (.ref C) "__getattribute__"=some (some (.builtin "BaseException.__getattribute__"))) (hk:findIn K (.ref C) "__getattr__"=some none)
  (hf:findObj K C od name=some (.value v)) (hh:handedIn v=true) (h:Q v { s with toks:=s.toks + 1 }):wpAny (model prog w) A (getAttr (.ref x) name expr) Q E s:=by
 obtain ⟨h0,g,d,t,os⟩:=s;have ne:cd.mro.isEmpty=false:=by
  cases q:cd.mro with
  | cons _ _=>rfl
  | nil=>rw [q] at ho; cases ho
 have isIn:Looks (model prog w) h0 (isInstance (.ref x) (.type "BaseException")) true :=
  I.type.andThen (looks_mroIn X (by unfold mroIn; rw [hc]; simp only [Option.bind_some,ne,Bool.false_eq_true,if_false,A2x ho]))
 have L0:=I.type (M:=model prog w);have L1:=looks_findIn (M:=model prog w) X hg;have L2:=looks_findIn (M:=model prog w) X hk;have L3:=looks_find (M:=model prog w) X I hf;unfold getAttr getAttrBy;refine wpAny_bind (wpAny_mkText (wpAny_holding (wpAny_bind (L0.at (wpAny_bind (L1.at ?_))))));dsimp only;rw [if_neg (by rw [show (Value.builtin "BaseException.__getattribute__" == Value.builtin "object.__getattribute__")=false by decide +kernel,Bool.and_false]; decide)];unfold getAttrByItsOwn;have ga:=F.excAttr_ValueError.ga;refine wpAny_bind (L2.at ?_);refine wpAny_bind (wpAny_attempt (wpAny_holding ?_));unfold callGetattribute;rw [if_neg (by cases expr <;> decide)]
 unfold boundAndCalled;rw [ga.bind];refine wpAny_bind (wpAny_pure ?_);dsimp only;refine wpAny_call (codeAny_call_builtin ga.plain F.entry_bexc_ga
  (check_slot (i:="BaseException.__getattribute__") (owner:="BaseException") (n:="__getattribute__") (self:=.ref x) (rest:=[.str name t]) (kw:=[]) (by decide +kernel) (by decide +kernel) isIn (F.args_bexc_ga (.ref x) (.str name t)) ?_))
 unfold Builtin.«object.__getattribute__»;refine wpAny_bind (wpAny_pure (a:=(Value.ref x,[Value.str name t])) ?_);refine wpAny_bind (wpAny_pure (a:=name) ?_);refine wpAny_bind (L0.at (wpAny_bind (L3.at ?_)));dsimp only;refine wpAny_pure ?_;dsimp only;rw [handedOut_of hh];exact wpAny_pure h
end
section
variable {prog:Program} {w:World} {A:Around} {E:Value->Shared->Prop} {s:Shared} {nm q:Str} {C N:Addr} {bs bm bmB:List Value} {hdct:Bool} {sn:List Str} {sub:List Value} {ab:Bool} {col:Option Bool} {dd:Option Addr} {k0 k1 k2 k3 k5:Option Value} {B newId initId:String}
theorem D1f (F:ExcBaseFacts B newId initId bmB) (T:OwnTail s.heap bmB bm) {mN:Str->Option Value} {as:List Value} {fI:Addr} {oI:Obj} {Q:Value->Shared->Prop}
  (hC:s.heap.get? C=some (excClassObj nm q C N bs bm hdct sn sub ab col dd k0 k1 k2 k3 k5 newId)) (hn:s.heap.Ns N mN) (hi:mN "__init__"=some (.ref fI))
  (hf:s.heap.get? fI=some oI) (hfc:oI.cls=.type "function") (hl:as.length<=sizeLine)
  (hq:∀ h' e,Heap.MadeExcOf s.heap h' e (.ref C) as ->
   wpAny (model prog w) (A.under (.builtin "type.__call__" ⟨.ref C :: as,[]⟩)) (call (.ref fI) (.ref e :: as)) (fun r s'=>r=.none/\Q (.ref e) s') E { s with heap:=h' }) :
  wpAny (model prog w) A (call (.ref C) as) Q E s:=by
 obtain ⟨h,g,d,t,os⟩:=s;have t1:=tc_lookup;have t2:=tc_bind (.ref C);have hT:(⟨h,g,d,t,os⟩:Shared).TypeIs (.ref C) "type":=⟨_,hC,rfl⟩;refine wpAny_call (codeAny_of_tree ?_);show wpAny _ _ (callAny (.ref C) ⟨as,[]⟩) _ _ _
 repeat (any_goals (first | assumption | with_reducible refine wpAny_loadPart_at hC ?_ | wp_step))
 refine ⟨rfl,codeAny_call_builtin_at (Code.quiet_builtin _ (by decide +kernel)) entry_typeCall (wpAny_check_type_call_sub hC ?_)⟩
 repeat (first | with_reducible refine wpAny_loadPart_at hC ?_ | with_reducible refine wpAny_madeBy_exc hC ?_ | wp_step)
 refine codeAny_call_builtin_code (Code.quiet_builtin _ F.quiet) (wpAny_check_new_subT F T hC (codeAny_exc_new_subT F T hC ?_ hl));show wpAny _ _ _ _ _ _
 let h2:=(h.push { cls:=.type "tuple",data:=.seq as.toArray }).push { cls:=.ref C,data:=.fields #[.ref h.objs.size,.none,.none,.none,.bool false,.none] }
 have kp:∀ b o,h.get? b=some o->h2.get? b=some o:=fun b o e=>Heap.get?_push_of_some _ (Heap.get?_push_of_some _ e);have hC2:=kp _ _ hC;have hn2:h2.Ns N mN:=let ⟨o,es,ep,e,r⟩:=hn; ⟨o,es,ep,kp _ _ e,r⟩;have he:h2.get? (h.objs.size + 1)=some { cls:=.ref C,data:=.fields #[.ref h.objs.size,.none,.none,.none,.bool false,.none] }:=by heap_get
 have T2:OwnTail h2 bmB bm:=T.keeps kp;have cc:(Value.ref C :: bm).contains (.ref C)=true:=by simp
 unfold isInstance
 repeat (first | with_reducible refine wpAny_loadPart_at he ?_ | wp_step)
 refine wpAny_isSubtype_exc hC2 ?_;rw [cc]
 repeat wp_step
 show wpAny _ _ (typeLookup (.ref C) _) _ _ _;refine wpAny_typeLookup_tail hC2 hn2 T2 F.mroIs F.init.lookup ?_;rw [hi];refine wpAny_holding (wpAny_bind ?_);unfold bindSpecial;refine wpAny_bind (wpAny_typeOf (T:="function") ⟨_,kp _ _ hf,hfc⟩ ?_);rw [if_pos (by decide)];refine wpAny_pure (wpAny_bind (wpAny_mono (hq h2 (h.objs.size + 1) ⟨kp,Heap.get?_none_of_le (Nat.le_succ _),h.objs.size,he,Heap.get?_none_of_le (Zv _),?_⟩) (fun r s' z=>?_) fun _ _ z=>z))
 ·exact Heap.get?_push_of_some _ (Heap.get?_push_at rfl rfl)
 ·obtain ⟨rfl,z⟩:=z
  wp_walk
  exact z
end
section
variable {P:Program} {w:World} {K:PySem.W.Frag} {mg:Str->Option Value} {base:Heap} {A:Around} {outer:List Env} {s:Shared} {H:Hp} {f C e:Addr} {u:Value} {qual nm x fld:Str} {params:Arguments} {scope:Scope} {dV kV doc pm cdv ct oc:Value} {an od:Option Addr} {osl:Array (Option Value)} {N:List Str}
 {p1 p2 p3 p4:Pos} {ob:Obj} {cd:ClassData} {vs:Array Value} {sl:Array (Option Value)} {v:V}
theorem D1c {R:Result->Shared->Prop} (lk:K.lookup f=some ⟨oc,od,.func (PySem.W.fnOf nm qual params [.Assign [.Attribute (.Name "self" p1) fld p2] (.Name x p3) p4] scope dV kV doc pm an cdv ct),osl⟩) (hcd:PySem.W.codeIn K cdv qual=true)
  (S:FnScope N ["self",x] scope) (hN0:N[0]?=some ("self":Str)) (hN1:N[1]?=some x) (hv0:Vis scope "self") (hv1:Vis scope x) (hr:Room 1 A) (e0:Env0 P w K mg base A outer s H)
  (hx1:(x == ("__debug__":Str))=false) (hx2:(x == ("__classdict__":Str))=false)
  (hb:BindsTo s (PySem.W.fnOf nm qual params [.Assign [.Attribute (.Name "self" p1) fld p2] (.Name x p3) p4] scope dV kV doc pm an cdv ct) ⟨[.ref e,u],[]⟩ [("self",.ref e),(x,u)]) (ru:RelV v u)
  (he:s.heap.get? e=some ⟨.ref C,none,.fields vs,sl⟩) (hne:H e=none) (hfr:e ∉ frs outer)
  (hc:PySem.W.clsIn K C=some cd) (hh:cd.hasDict=true) (ho:U1 cd.mro=true) (hs:PySem.W.findIn K (.ref C) "__setattr__"=some (some (.builtin "object.__setattr__"))) (ha:PySem.W.findIn K (.ref C) fld=some none)
  (hsw:∀ env:Env,swapsWith (.Name x p3) (some (.Attribute (.Name "self" p1) fld p2)) p4.line env=pure false)
  (h:∀ h' d tk g' dr u2,RelV v u2->s.heap.get? d=none->d≠e->h'.get? e=some ⟨.ref C,some d,.fields vs,sl⟩->h'.Ns1 d (fun y=>if y=fld then some u2 else none)->Un (frs outer) [e] H H s.heap h'->HOk P w H h'->AllBare g' ->
   R (.ok (.ret .none)) ⟨h',g',dr,tk,s.os⟩) :
  codeAny (model P w) A (.call (.ref f) ⟨[.ref e,u],[]⟩) R s:=by
 have KX:K.In s.heap:=e0.mod.kin.keeps fun b o e=>(e0.bs b o e).1;have lim:s.heap.NoLimit:=e0.mod.nolimit.keeps fun b o e=>(e0.bs b o e).1;have hkind:∀ y ∈ [(("self":Str),Value.ref e),(x,u)],scope.names.lookup y.1=some .local\/(scope.names.lookup y.1=some .cell/\((cellsFrom (s.heap.objs.size + 1) scope.names []).lookup y.1).isSome=true):=fun ⟨n,z⟩ hy=>by
  have hm:n ∈ [("self":Str),x]:=by
   rcases List.mem_cons.mp hy with q | q
   ·cases q; exact Zy
   ·cases Zn q; exact Zr _ Zy
  rcases S.par n hm with q | q
  ·exact .inl q
  ·exact .inr ⟨q,PySem.W.cellsFrom_some _ _ _ (.inl q)⟩
 refine codeAny_call_function hr.depth (KX _ _ lk) rfl S.co S.gen rfl (PySem.W.codeRec_of KX hcd) (hb _ _ _ _ ?_);refine wpAny_newFunctionEnv_cells S.kind hkind fun env hE s1 y=>?_;subst hE;refine ⟨lim.keeps y.toInCall.keep,codeAny_func ?_⟩
 let cx:CXT:=fun _ _ _ _ e s'=>R (.error e) s'
 have I:Inv (cxOf cx P w K mg base N qual scope f cdv A outer s H E0) [] (start N [.ref e,v]) H s1:=A3f (ps:=["self",x]) (us:=[.ref e,u]) S hr.hd e0 rfl (.cons rfl (.cons ru .nil)) y;have st0:(start N [V.ref e,v])[0]?=some (some (V.ref e)):=rfl;have st1:(start N [V.ref e,v])[1]?=some (some v):=rfl;refine wpAny_execs_cons ?_;refine plainObj_wpAny_Assign_Attribute ?_ (hsw _);have g1:=A2p (X:=cxOf cx P w K mg base N qual scope f cdv A outer s H E0) (pos:=p3) hN1 hv1 hx1 hx2 [] s1 _ H (fun z H'=>z=v/\H'=H) I ⟨v,st1,rfl,rfl⟩;refine wpAny_mono g1 (fun u2 s2 z=>?_) (fun _ _ z=>z);obtain ⟨v2,H2,I2,r2,ev,eH⟩:=z;rw [ev] at r2;rw [eH] at I2;have g2:=A2p (X:=cxOf cx P w K mg base N qual scope f cdv A outer s H E0) (pos:=p1) hN0 hv0 (by decide) (by decide) [] s2 _ H (fun z H2=>z=.ref e/\H2=H) I2 ⟨_,st0,rfl,rfl⟩;refine wpAny_mono g2 (fun u3 s3 z=>?_) (fun _ _ z=>z);obtain ⟨v3,H3,I3,r3,ev3,eH3⟩:=z;rw [ev3] at r3;rw [eH3] at I3;obtain rfl:u3=Value.ref e:=r3;have nx:∀ b:Addr,b ∉ (cxOf cx P w K mg base N qual scope f cdv A outer s H E0).ex:=fun b z=>absurd z (List.not_mem_nil);have he3:s3.heap.get? e=some ⟨.ref C,none,.fields vs,sl⟩:=I3.base.keep e _ he hne hfr (nx e);refine B6e (I3.ok.mod.kin.keeps I3.bk) he3 hc hh ho hs ha fun h' d d1 d2 d3 d4 d5=>wpAny_execs_nil ?_;have os:s3.os=s.os:=I3.os;have dn:s.heap.get? d=none:=by
  cases q:s.heap.get? d with
  | none=>rfl
  | some o =>
   obtain ⟨o',z⟩:=I3.base.there d o q (nx d);rw [d1] at z; cases z
 have lift:∀ b o,b≠e->s3.heap.get? b=some o->h'.get? b=some o:=d5;have un:Un (frs outer) [e] H H s.heap h':={
  keep:=fun b o q n hb hx=>lift b o (fun z=>hx (z ▸ List.mem_singleton.mpr rfl)) (I3.base.keep b o q n hb (nx b))
  slot:=fun b o q n hb hx=>by
   obtain ⟨sl2,z⟩:=I3.base.slot b o q n hb (nx b);exact ⟨sl2,lift b _ (fun z=>hx (z ▸ List.mem_singleton.mpr rfl)) z⟩
  free:=fun b o q n hx=>I3.base.free b o q n (nx b)
  there:=fun b o q hx=>by
   obtain ⟨o',z⟩:=I3.base.there b o q (nx b);exact ⟨o',lift b _ (fun z=>hx (z ▸ List.mem_singleton.mpr rfl)) z⟩
  tups:=I3.base.tups
  frzs:=I3.base.frzs
  tbls:=I3.base.tbls }
 have hok:HOk P w H h':=fun b ob q=>(I3.hok b ob q).stay (fun c u hc z=>lift c u (fun y=>by
  subst y;rcases hc with rfl | hc
  ·rw [hne] at q; cases q
  ·rw [hne] at hc; cases hc) z) (fun _ z=>z) (fun _ _ z=>z)
 obtain ⟨hp,g3,dr3,t3,os3⟩:=s3;show R (.ok (.ret .none)) ⟨h',g3,dr3,t3 + 2,os3⟩;rw [show os3=s.os from os];exact h h' d _ g3 dr3 u2 r2 dn d2 d3 d4 un hok I3.bare
end
section
variable {M:Model} {A:Around} {E:Value->Shared->Prop} {s:Shared} {base:Heap} {env:Env} {outer:List Env} {L e:Addr} {oe:Obj} {cls a0:Value} {Q:Unit->Shared->Prop} {dx:Option Addr}
def DictAt (h:Heap) (e:Addr) (dx:Option Addr):Prop:=∃ o,h.get? e=some o/\o.dict=dx
theorem DictAt.kept {h h':Heap} (x:DictAt h e dx) (k:KeptD h h'):DictAt h' e dx :=
 let ⟨_,q,d⟩:=x
 let ⟨o',q',_,d'⟩:=k _ _ q
 ⟨o',q',d'.trans d⟩
theorem A43 (hfr:A.frames=some (env :: outer)) (hf:env.frame=some L) (hl:s.heap.FunFrames base (env :: outer)) (he:s.heap.get? e=some oe) (hd:oe.data=.fields #[a0,.none,.none,.none,.bool false,.none])
  (hkb:base.StaysIn s.heap) (hen:base.get? e=none) (hQ:∀ h',Heap.FlyingW base outer e oe.cls a0 h'->s.heap.UpToSlots h'->DictAt h' e oe.dict->Q () { s with heap:=h' }):wpAny M A (leaving env (.ref e)) Q E s:=by
 have z:wpAny M A (leaving env (.ref e)) (fun _ s'=>∃ h',s'={ s with heap:=h' }/\Heap.FlyingW base outer e oe.cls a0 h'/\s.heap.UpToSlots h') E s:=by
  refine wpAny_leaving_firstW (a0:=a0) hfr hl hf he hkb hen hd rfl rfl fun h' hL=>?_;obtain ⟨k1,⟨_,_,k2⟩,k3,k4⟩:=hL;exact ⟨h',rfl,⟨k1,hen,k2,k3⟩,k4⟩
 refine wpAny_mono (still_leaving.any z) (fun _ s' q=>?_) fun _ _ q=>q.1;obtain ⟨⟨h',rfl,q1,q2⟩,k⟩:=q;exact hQ h' q1 q2 (DictAt.kept ⟨oe,he,rfl⟩ k)
theorem B3t (hfr:A.frames=some (env :: outer)) (hf:env.frame=some L) (hfl:Heap.FlyingW base (env :: outer) e cls a0 s.heap) (hd:DictAt s.heap e dx)
  (hQ:∀ h',Heap.HeldW base (env :: outer) e cls a0 L h'->s.heap.UpToSlots h'->DictAt h' e dx->Q () { s with heap:=h' }):wpAny M A (noteFrame (.ref e) env) Q E s:=by
 have z:wpAny M A (noteFrame (.ref e) env) (fun _ s'=>∃ h',s'={ s with heap:=h' }/\Heap.HeldW base (env :: outer) e cls a0 L h'/\s.heap.UpToSlots h') E s :=
  wpAny_looks_onW hfr hf hfl fun h' q1 q2=>⟨h',rfl,q1,q2⟩
 refine wpAny_mono (still_noteFrame.any z) (fun _ s' q=>?_) fun _ _ q=>q.1;obtain ⟨⟨h',rfl,q1,q2⟩,k⟩:=q;exact hQ h' q1 q2 (hd.kept k)
theorem C81 {l:List Env} (hh:Heap.HeldW base l e cls a0 L s.heap) (hd:DictAt s.heap e dx)
  (hQ:∀ h',Heap.FlyingW base l e cls a0 h'->s.heap.UpToSlots h'->DictAt h' e dx->Q () { s with heap:=h' }):wpAny M A (setFlight (.ref e) none) Q E s:=by
 have z:wpAny M A (setFlight (.ref e) none) (fun _ s'=>∃ h',s'={ s with heap:=h' }/\Heap.FlyingW base l e cls a0 h'/\s.heap.UpToSlots h') E s :=
  wpAny_landsW hh fun h' q1 q2=>⟨h',rfl,q1,q2⟩
 refine wpAny_mono (still_setFlight.any z) (fun _ s' q=>?_) fun _ _ q=>q.1;obtain ⟨⟨h',rfl,q1,q2⟩,k⟩:=q;exact hQ h' q1 q2 (hd.kept k)
end
def CX2 (P:Program) (w:World):CXT:=fun outer H s E e s'=>∃ (a:Addr) (cls a0:Value) (dx:Option Addr) (H':Hp) (B:Heap),e=.ref a/\Fly P w outer H s s' a cls a0 H' B/\DictAt s'.heap a dx/\E cls dx H'
section
variable {P:Program} {w:World} {K:PySem.W.Frag} {mg:Str->Option Value} {base:Heap} {N:List Str} {qual:Str} {scope:Scope} {f:Addr} {cd:Value} {A:Around} {outer:List Env} {s0:Shared} {H0:Hp} {E:XK}
def B5w (X:Cx) (E:XK):Prop:=∀ (pins:List (Addr × Obj)) (σ:St) (H H2:Hp) (s s2:Shared) (e:Addr) (oe:Obj) (a0:Value),Inv X pins σ H s->s2.os=s.os->AllBare s2.gens->s.heap.get? e=none->H2 e=none ->
 s2.heap.get? e=some oe->oe.data=.fields #[a0,.none,.none,.none,.bool false,.none]->Un (frs X.stack) [] H H2 s.heap s2.heap->s2.heap.FunFrames X.base X.stack->(∀ b ∈ frs X.stack,H2 b=none)->HOk X.prog X.w H2 s2.heap->E oe.cls oe.dict H2->X.xe (.ref e) s2
end
section
variable {prog:Program} {w:World} {M:Model} {A:Around} {E:Value->Shared->Prop} {s:Shared} {env:Env} {nm q:Str} {C N:Addr} {bs bm bmB:List Value} {hdct:Bool} {sn:List Str} {sub:List Value} {ab:Bool} {col:Option Bool} {dd:Option Addr} {k0 k1 k2 k3 k5:Option Value} {B newId initId:String}
theorem A78 {y:Sem Value} {Q:Flow->Shared->Prop} (hbase:bm.contains (.type "BaseException")=true) (hh:A.handled=none)
  (h:wpAny M A y (fun v s1=>∃ e t dx,v=.ref e/\s1.heap.get? C=some (excClassObj nm q C N bs bm hdct sn sub ab col dd k0 k1 k2 k3 k5 newId) /\
   s1.heap.get? e=some { cls:=.ref C,dict:=dx,data:=.fields #[.ref t,.none,.none,.none,.bool false,.none] }/\E (.ref e) s1) E s):wpAny M A (raiseStmt env (some y) none) Q E s:=by
 have cb:(Value.ref C :: bm).contains (.type "BaseException")=true:=by rw [List.contains_cons,hbase,Bool.or_true]
 unfold raiseStmt;refine wpAny_bind (wpAny_mono h (fun v s1 z=>?_) fun _ _ z=>z);obtain ⟨e,t,dx,rfl,hC,he,hE⟩:=z;obtain ⟨hp,g,d,tk,os⟩:=s1
 repeat (first | with_reducible refine wpAny_loadPart_at he ?_ | with_reducible refine wpAny_loadPart_at hC ?_ | (with_reducible refine wpAny_isSubtype_exc hC ?_; rw [cb]) | wp_step)
 exact wpAny_raiseNew_none hh hE
theorem A4i (F:ExcBaseFacts B newId initId bmB) {mN:Str->Option Value} {x:Str} {np cpos pos:Pos} {args:List Expr} {fI:Addr} {oI:Obj} {Q:Flow->Shared->Prop}
  (hbase:bm.contains (.type "BaseException")=true) (hh:A.handled=none) (hpl:(backTo cpos (starEach args env)).any (·.1)=false) (hi:mN "__init__"=some (.ref fI))
  (h:wpAny (model prog w) A (eval (.Name x np) env) (fun f s1=>f=.ref C/\wpAny (model prog w) A (evalArgs (.ref C) true (backTo cpos (starEach args env)) [])
   (fun a s2=>a.kw=[]/\a.pos.length<=sizeLine/\s2.heap.get? C=some (excClassObj nm q C N bs bm hdct sn sub ab col dd k0 k1 k2 k3 k5 newId)/\s2.heap.Ns N mN/\OwnTail s2.heap bmB bm/\s2.heap.get? fI=some oI/\oI.cls=.type "function" /\
    ∀ h' e,Heap.MadeExcOf s2.heap h' e (.ref C) a.pos->wpAny (model prog w) (A.under (.builtin "type.__call__" ⟨.ref C :: a.pos,[]⟩)) (call (.ref fI) (.ref e :: a.pos)) (fun r s3=>r=.none/\s3.heap.get? C=some (excClassObj nm q C N bs bm hdct sn sub ab col dd k0 k1 k2 k3 k5 newId) /\
     (∃ t dx,s3.heap.get? e=some { cls:=.ref C,dict:=dx,data:=.fields #[.ref t,.none,.none,.none,.bool false,.none] })/\E (.ref e) s3) E { s2 with heap:=h' }) E s1) E s) :
  wpAny (model prog w) A (exec (.Raise (some (.Call (.Name x np) args [] cpos)) none pos) env) Q E s:=by
 rw [arm_exec_Raise];simp only [evalOpt,Option.map];refine wpAny_bind (wpAny_standAt (A78 (C:=C) (nm:=nm) (q:=q) (N:=N) (bs:=bs) (bm:=bm) (hdct:=hdct) (sn:=sn) (sub:=sub) (ab:=ab) (col:=col) (dd:=dd) (k0:=k0) (k1:=k1) (k2:=k2) (k3:=k3) (k5:=k5) (newId:=newId) hbase hh ?_));refine wpAny_bind (wpAny_mono (wpAny_Call_ofName (wpAny_mono h (fun f s1 z=>?_) fun _ _ z=>z)) (fun v s3 z=>wpAny_bind (wpAny_standAt (wpAny_pure z))) fun _ _ z=>z);obtain ⟨rfl,z⟩:=z;unfold callWith;refine wpAny_bind (wpAny_holding (wpAny_mono z (fun a s2 y=>wpAny_bind (wpAny_standAt ?_)) fun _ _ y=>y));obtain ⟨ap,ak⟩:=a;obtain ⟨hk,hl,hC,hn,T,hf,hfc,y⟩:=y;obtain rfl:ak=[]:=hk;obtain ⟨hp,g,d,tk,os⟩:=s2;simp only [hpl];refine wpAny_bind (wpAny_keeperOf_exc hC ?_);refine wpAny_bind (D1f F T hC hn hi hf hfc hl fun h' e hm=>wpAny_mono (y h' e hm) (fun r s3 u=>⟨u.1,wpAny_bind (wpAny_holding (wpAny_point (wpAny_pure ?_)))⟩) fun _ _ u=>u);obtain ⟨_,u1,⟨t,dx,u2⟩,u3⟩:=u;exact ⟨e,t,dx,rfl,u1,u2,u3⟩
end
def A7n (K:PySem.W.Frag) (C:Addr) (nid:String) (fI:Addr):Bool:=match K.lookup C with
 | some ⟨.type "type",_,.cls cd,sl⟩=>(match cd.mro,sl.toList with
  | .ref C1 :: bm,[_,_,_,_,some (.builtin n),_]=>(C1 == C && n == nid && !cd.hasDel) && (PySem.W.tailIn K A89 bm && PySem.W.nsOkIn K cd.ns && cd.hasDict) && U1 cd.mro && PySem.W.nsIn K cd.ns "__init__" == some (some (.ref fI))
  | _,_=>false)
 | _=>false
theorem C8o {K:PySem.W.Frag} {h:Heap} {N:Addr} {m:Str->Option Value} {n:Str} {v:Value} (X:K.In h) (G:h.Ns N m) (e:PySem.W.nsIn K N n=some (some v)):m n=some v:=by
 obtain ⟨o,es,ep,ho,hd,_,hf⟩:=G;unfold PySem.W.nsIn at e;split at e
 ·rename_i c d es2 n2 sl q;have z:=X _ _ q;rw [ho] at z;cases z;cases hd;split at e
  ·rename_i en he;cases e;rw [<- hf];unfold nsFind findBy;rw [<- Array.find?_toList,he];rfl
  ·split at e <;> cases e
 ·cases e
theorem exoI {K:PySem.W.Frag} {h:Heap} {C fI:Addr} {nid:String} (X:K.In h) (q:A7n K C nid fI=true):∃ bm N nm qn bs hd sn sub ab col dd k0 k1 k2 k3 k5 mN cd,
  h.get? C=some (excClassObj nm qn C N bs bm hd sn sub ab col dd k0 k1 k2 k3 k5 nid)/\h.Ns N mN/\mN "__init__"=some (.ref fI)/\OwnTail h A89 bm/\PySem.W.clsIn K C=some cd/\cd.hasDict=true/\U1 cd.mro=true:=by
 unfold A7n at q;split at q
 ·rename_i dd cd sl ho;split at q
  ·rename_i C1 bm k0 k1 k2 k3 n k5 e1 e2;simp only [Bool.and_eq_true,beq_iff_eq,Bool.not_eq_true'] at q;obtain ⟨⟨⟨⟨⟨q1,q2⟩,q3⟩,⟨q4,q5⟩,q7⟩,q8⟩,q6⟩:=q;subst q1 q2;have hcl:PySem.W.clsIn K C1=some cd:=by unfold PySem.W.clsIn; rw [ho]
   have ns:=PySem.Heap.Ns.of_isNs (PySem.W.isNs_of_in X q5);have mi:h.nsMap cd.ns "__init__"=some (.ref fI):=C8o X ns q6;have e3:sl=#[k0,k1,k2,k3,some (.builtin n),k5]:=by cases sl; simp only at e2; rw [e2]
   obtain ⟨nm,bs,mro,nsA,qn,hd,sn,sub,ab,col,del⟩:=cd;simp only at e1 q3 ns mi;subst e3 e1 q3;exact ⟨bm,nsA,nm,qn,bs,hd,sn,sub,ab,col,dd,k0,k1,k2,k3,k5,_,_,X _ _ ho,ns,mi,PySem.W.tail_of_in X q4,hcl,q7,q8⟩
  ·cases q
 ·cases q
end L2
namespace L2
open PySem PySem.Spec PyProof.Rows
def rS1 (g:Str->Str->V):V->List V->Hp->VK->Prop:=fun x vs H Q=>∃ a b,x=.str a/\vs=[.str b]/\Q (g a b) H
def B86:V->List V->Hp->VK->Prop:=fun x vs H Q=>∃ a n,x=.str a/\vs=[.int n]/\PadOk n=true/\Q (.str (Txt.zfill a n)) H
def C56:V->List V->Hp->VK->Prop:=fun x vs H Q=>∃ a b,x=.str a/\vs=[.str b]/\(b.length == 0)=false/\a.length<=100000/\∀ p,H p=none->Q (.ref p) (upd H p (.tup [.str (Txt.partition a b).1,.str (Txt.partition a b).2.1,.str (Txt.partition a b).2.2]))
def rSlS:V->Option Int->Option Int->Hp->VK->Prop:=fun x lo hi H Q=>∃ a,x=.str a/\a.length<=100000/\Q (.str (Txt.slice a lo hi)) H
def C58:List V->Hp->VK->Prop:=fun xs H Q=>∃ z n,xs=[.str z]/\PySem.intText? z=some n/\z.length<=640/\Q (.int n) H
theorem N5:100000<=sizeLine:=by rw [sizeLine_eq]; decide
section
variable {X:Cx}
theorem U4:MtR X "str.startswith" (rS1 fun a b=>.bl (Txt.startswith a b)):=by
 intro pins s σ H x vs v us Q I rx rv h;obtain ⟨a,b,rfl,rfl,q⟩:=h;obtain ⟨t,rfl⟩:=rx;obtain ⟨u,rfl,ru⟩:=rv.one;obtain ⟨t2,rfl⟩:=ru;exact SC.startswith ⟨.bl _,H,I,rfl,q⟩
theorem B3p:MtR X "str.zfill" B86:=by
 intro pins s σ H x vs v us Q I rx rv h;obtain ⟨a,n,rfl,rfl,hp,q⟩:=h;obtain ⟨t,rfl⟩:=rx;obtain ⟨u,rfl,ru⟩:=rv.one;obtain ⟨t2,rfl⟩:=ru;exact SC.zfill hp fun t' k=>⟨.str _,H,I.tok k,⟨t',rfl⟩,q⟩
theorem N3:MtR X "str.partition" C56:=by
 intro pins s σ H x vs v us Q I rx rv h;obtain ⟨a,b,rfl,rfl,hb,hl,q⟩:=h;obtain ⟨t,rfl⟩:=rx;obtain ⟨u,rfl,ru⟩:=rv.one;obtain ⟨t2,rfl⟩:=ru;refine call_meets F.slot_str_partition (typeIs_str _ _ _) F.entry_str_partition (F.args_str_partition_2 _ _) (meets_str_partition a b t t2 hb (Zx hl N5)) ?_;have q':=q _ (I.hok.fresh (Zv _));have go:∀ (x1 x2 x3:Str) (ta tb tc:Tok) (k:Nat),Q (.ref s.heap.objs.size) (upd H s.heap.objs.size (.tup [.str x1,.str x2,.str x3])) ->
   EP X pins σ Q (.ref s.heap.objs.size) { s with heap:=s.heap.push { cls:=.type "tuple",data:=.seq [.str x1 ta,.str x2 tb,.str x3 tc].toArray },toks:=k }:=fun x1 x2 x3 ta tb tc k q =>
  ⟨.ref s.heap.objs.size,_,I.laid (t':=k) (o:=.tup [.str x1,.str x2,.str x3]) (fun _ _ q=>Heap.get?_push_of_some _ q) (Zv _) ⟨by show 3<=sizeLine; rw [sizeLine_eq]; decide,[.str x1 ta,.str x2 tb,.str x3 tc],.cons ⟨_,rfl⟩ (.cons ⟨_,rfl⟩ (.cons ⟨_,rfl⟩ .nil)),IsTup.new _ _⟩,rfl,q⟩
 unfold Txt.partition at q';revert q';cases Builtin.Str.occurrences a b 0 a.length 1 with
 | nil=>intro q'; exact go _ _ _ _ _ _ _ q'
 | cons i r=>intro q'; exact go _ _ _ _ _ _ _ q'
theorem B0y {vl:Value} {lo:Option Int} (p:IsPart vl lo):∃ l:Option (Int × Tok),vl=partValue l/\l.map (·.1)=lo:=by
 cases p with
 | none=>exact ⟨none,rfl,rfl⟩
 | int i t=>exact ⟨some (i,t),rfl,rfl⟩
theorem A9v:SlR X rSlS:=by
 intro pins s σ H x v vl vu lo hi sl Q I rx hs pl pu h;obtain ⟨a,rfl,hl,q⟩:=h;obtain ⟨t,rfl⟩:=rx;obtain ⟨l,rfl,el⟩:=B0y pl;obtain ⟨u,rfl,eu⟩:=B0y pu;subst el eu;refine ⟨"str",_,F.slot_str_getitem.lookup,typeIs_str _ _ _,wpAny_getItem_str_slice (l:=l) (u:=u) (st:=none) hs rfl (post_val_or_str ⟨Zx (Txt.slice_le a _ _) (Zx hl N5),fun t' k=>?_⟩)⟩;exact ⟨.str _,H,I.tok k,⟨t',rfl⟩,q⟩
theorem B5n:CallR X (.type "int") C58:=by
 intro pins s σ H xs us Q I r h;obtain ⟨z,n,rfl,hn,hl,q⟩:=h;obtain ⟨u,rfl,rx⟩:=A1y r;obtain ⟨t,rfl⟩:=rx;exact PySem.W.KIN.call_text hn hl ⟨.int n,H,I.tok _,⟨_,rfl⟩,q⟩
def tFmt (te:TE):TE:=fun σ H Q=>te σ H fun x H1=>(∃ z,x=.str z/\z.length<=100000/\Q (.str z) H1)\/∃ i,x=.int i/\i.natAbs.log2 < 1920/\Q (.str (toString i)) H1
theorem C2u {e:Expr} {te:TE} {pos:Pos} (h:QE X e te):QE X (.FormattedValue e (-1) none pos) (tFmt te):=⟨by
 intro pins s σ H Q I q;refine wpAny_FormattedValue_plain (thn (h.out pins s σ H _ I q) fun v s1 ⟨x,H1,I1,r1,q1⟩=>?_);rcases q1 with ⟨z,rfl,hl,q1⟩ | ⟨i,rfl,hl,q1⟩
 ·obtain ⟨t,rfl⟩:=r1;exact wpAny_formatField_str ⟨.str z,H1,I1,⟨_,rfl⟩,q1⟩ ⟨.str z,H1,I1.tok _,⟨_,rfl⟩,q1⟩ (Zx hl N5)
 ·obtain ⟨t,rfl⟩:=r1;exact wpAny_formatField_int hl ⟨.str _,H1,I1.tok _,⟨_,rfl⟩,q1⟩⟩
inductive FP (X:Cx):List Expr->List TE->Prop
 | nil:FP X [] []
 | cons {e:Expr} {es:List Expr} {te:TE} {ts:List TE}:QE X e te->FP X es ts->FP X (e :: es) (te :: ts)
def tJs:List TE->Str->TE
 | [],acc,_,H,Q=>Q (.str acc) H
 | te :: r,acc,σ,H,Q=>te σ H fun x H1=>∃ y,x=.str y/\acc.length + y.length<=100000/\tJs r (acc++y) σ H1 Q
theorem M7 (a b:Str):(a++b).length=a.length + b.length:=Str.length_append a b
theorem A7a {pins:List (Addr × Obj)} {σ:St} {Q:VK}:∀ {es:List Expr} {ts:List TE},FP X es ts->∀ {acc:Str} {H:Hp} {s:Shared},Inv X pins σ H s->acc.length<=100000->tJs ts acc σ H Q ->
  Joins (model X.prog X.w) X.A X.xe (evalEach es X.env) acc (fun out s₁=>out.length<=sizeLine/\EP X pins σ Q (.str out s₁.toks) { s₁ with toks:=s₁.toks + 1 }) s
 | _,_,.nil,acc,H,s,I,hl,q=>⟨Zx hl N5,.str acc,H,I.tok _,⟨_,rfl⟩,q⟩
 | _,_,.cons h r,acc,H,s,I,hl,q=>by
  show wpAny _ _ _ _ _ _;refine thn (h.out pins s σ H _ I q) fun v s1 ⟨x,H1,I1,r1,y,ex,hy,q1⟩=>?_;subst ex;obtain ⟨t,rfl⟩:=r1;have e:=M7 acc y;exact ⟨y,t,rfl,by rw [e]; exact Zx hy N5,A7a r I1 (by rw [e]; exact hy) q1⟩
theorem B6o {e1 e2:Expr} {es:List Expr} {ts:List TE} {pos:Pos} (h:FP X (e1 :: e2 :: es) ts):QE X (.JoinedStr (e1 :: e2 :: es) pos) (tJs ts Str.empty) :=
 ⟨fun _ _ _ _ _ I q=>wpAny_JoinedStr (A7a h I (Nat.zero_le _) q)⟩
theorem C73:OpR X (compareOp .In) (rS fun i j=>.bl (!(Builtin.Str.occurrences j i 0 j.length 1).isEmpty)):=B2d
end
def A51:List V->Hp->VK->Prop:=fun xs H Q=>∃ i j,xs=[.int i,.int j]/\0 < j/\My.Sm 8000 j/\∀ p,H p=none->Q (.ref p) (upd H p (.tup [.int (i / j),.int (i % j)]))
def C55:List V->Hp->VK->Prop:=fun xs H Q=>∃ i,xs=[.int i]/\i.natAbs.log2 < 1920/\Q (.str (toString i)) H
section
variable {X:Cx}
theorem M5:CallR X (.type "str") C55:=A3u
theorem A3y:CallR X (.builtin "divmod") A51:=by
 intro pins s σ H xs us Q I r h;obtain ⟨i,j,rfl,h1,h2,q⟩:=h;obtain ⟨u,w',rfl,⟨t,rfl⟩,⟨t',rfl⟩⟩:=D0d r;refine divmod_int (by omega) ?_ (.inl (PyProof.noPylong_of_log2 (Nat.lt_of_lt_of_le (h2.log (by decide)) (by decide))));rw [Int.fdiv_eq_ediv_of_nonneg i (by omega),Int.fmod_eq_emod_of_nonneg i (by omega)];have hn:H s.heap.objs.size=none:=I.hok.fresh (Zv _);refine ⟨.ref s.heap.objs.size,_,?_,rfl,q _ hn⟩;refine I.laid (fun b o e=>Heap.get?_push_of_some _ e) (Zv _) ⟨by simp only [List.length_cons,List.length_nil]; rw [sizeLine_eq]; decide,[.int (i / j) s.toks,.int (i % j) (s.toks + 1)],.cons ⟨_,rfl⟩ (.cons ⟨_,rfl⟩ .nil),?_⟩;exact ⟨_,Heap.get?_push_size s.heap rfl,rfl,0,rfl⟩
end
end L2
namespace Pu
open PySem L2 My Prf
def pS1 (gd:Str->Str->PyData) (po pa:PDt) (env:PEnv) (Q:SV->PEnv->Prop):Prop:=po env fun x e=>asS x fun a=>pa e fun y e2=>asS y fun b=>Q (.d (gd a b)) e2
instance re_s1 {K:Frag} {to ta:TE} {po pa:PDt} {g:Str->Str->V} {gd:Str->Str->PyData} [sg:SGS g gd] [ho:RW K to po] [ha:RW K ta pa]:RE K (tBM K "str" (rS1 g) to (J3 ta tNil)) (pS1 gd po pa) where
 ok:=by
  rintro c w env σ Qp Q rfl E p k;refine ho.ok c w env σ _ _ rfl E p fun v x e1 w1 E1 l1 d1 q1=>?_;unfold asS at q1;split at q1
  ·have ev:=d1.strE;subst ev;refine ⟨rfl,ha.ok c w1 e1 σ _ _ rfl E1 q1 fun u y e2 w2 E2 l2 d2 q2=>?_⟩;split at q2
   ·exact ⟨_,_,rfl,by rw [d2.strE],k _ _ e2 w2 ((Res.data E2 (sg.ok _ _ _ _)).pre (l1.trans l2)) q2⟩
   ·exact q2.elim
  ·exact q1.elim
def B08 (po pa:PDt) (env:PEnv) (Q:SV->PEnv->Prop):Prop:=po env fun x e=>asS x fun a=>pa e fun y e2=>asI y fun n=>PadOk n=true/\Q (.d (.str (Txt.zfill a n))) e2
instance re_zfill {K:Frag} {to ta:TE} {po pa:PDt} [ho:RW K to po] [ha:RW K ta pa]:RE K (tBM K "str" B86 to (J3 ta tNil)) (B08 po pa) where
 ok:=by
  rintro c w env σ Qp Q rfl E p k;refine ho.ok c w env σ _ _ rfl E p fun v x e1 w1 E1 l1 d1 q1=>?_;unfold asS at q1;split at q1
  ·have ev:=d1.strE;subst ev;refine ⟨rfl,ha.ok c w1 e1 σ _ _ rfl E1 q1 fun u y e2 w2 E2 l2 d2 q2=>?_⟩;unfold asI at q2;split at q2
   ·exact ⟨_,_,rfl,by rw [d2.intE],q2.1,k _ _ e2 w2 ((Res.data E2 (.str _)).pre (l1.trans l2)) q2.2⟩
   ·exact q2.elim
  ·exact q1.elim
def B1h (po pa:PDt) (env:PEnv) (Q:SV->PEnv->Prop):Prop:=po env fun x e=>asS x fun a=>pa e fun y e2=>asS y fun b=>(b.length == 0)=false/\a.length<=100000/\Q (.d (.tuple [.str (Txt.partition a b).1,.str (Txt.partition a b).2.1,.str (Txt.partition a b).2.2])) e2
instance re_partT {K:Frag} {to ta:TE} {po pa:PDt} [ho:RW K to po] [ha:RW K ta pa]:RE K (tBM K "str" C56 to (J3 ta tNil)) (B1h po pa) where
 ok:=by
  rintro c w env σ Qp Q rfl E p k;refine ho.ok c w env σ _ _ rfl E p fun v x e1 w1 E1 l1 d1 q1=>?_;unfold asS at q1;split at q1
  ·have ev:=d1.strE;subst ev;refine ⟨rfl,ha.ok c w1 e1 σ _ _ rfl E1 q1 fun u y e2 w2 E2 l2 d2 q2=>?_⟩;split at q2
   ·exact ⟨_,_,rfl,by rw [d2.strE],q2.1,q2.2.1,fun p hp=>k _ _ e2 _ ((Res.tup E2 hp (.cons (.str _) (.cons (.str _) (.cons (.str _) .nil)))).pre (l1.trans l2)) q2.2.2⟩
   ·exact q2.elim
  ·exact q1.elim
def pSlS (pa:PDt) (pl ph:PEnv->(Option Int->PEnv->Prop)->Prop) (env:PEnv) (Q:SV->PEnv->Prop):Prop:=pa env fun x e=>asS x fun a=>pl e fun lo e1=>ph e1 fun hi e2=>a.length<=100000/\Q (.d (.str (Txt.slice a lo hi))) e2
instance re_slS {K:Frag} {te:TE} {tl th:TO} {pa:PDt} {pl ph:PEnv->(Option Int->PEnv->Prop)->Prop} [ha:RW K te pa] [hl:RP K tl pl] [hh:RP K th ph]:RE K (tSl rSlS te tl th) (pSlS pa pl ph) where
 ok:=by
  rintro c w env σ Qp Q rfl E p k;refine ha.ok c w env σ _ _ rfl E p fun x dx e1 w1 E1 l1 v1 q1=>?_;unfold asS at q1;split at q1
  ·refine hl.ok c w1 e1 σ _ _ rfl E1 q1 fun lo e2 w2 E2 l2 q2=>?_;refine hh.ok c w2 e2 σ _ _ rfl E2 q2 fun hi e3 w3 E3 l3 q3=>?_;exact ⟨_,v1.strE,q3.1,k _ _ e3 w3 ((Res.data E3 (.str _)).pre (l1.trans (l2.trans l3))) q3.2⟩
  ·exact q1.elim
def C30 (pa:PDt) (env:PEnv) (Q:SV->PEnv->Prop):Prop:=pa env fun x e=>asS x fun z=>∃ n,PySem.intText? z=some n/\z.length<=640/\Q (.d (.int n)) e
instance re_intT {K:Frag} {te:TE} {pa:PDt} [ha:RW K te pa]:RE K (tCB C58 (J3 te tNil)) (C30 pa) where
 ok:=by
  rintro c w env σ Qp Q rfl E p k;refine ha.ok c w env σ _ _ rfl E p fun v x e1 w1 E1 l1 d1 q1=>?_;unfold asS at q1;split at q1
  ·obtain ⟨n,hn,hl,q⟩:=q1;exact ⟨_,n,by rw [d1.strE],hn,hl,k _ _ e1 w1 ((Res.data E1 (.int _)).pre l1) q⟩
  ·exact q1.elim
def C3p (pa:PDt) (env:PEnv) (Q:SV->PEnv->Prop):Prop:=pa env fun x e=>asI x fun i=>i.natAbs.log2 < 1920/\Q (.d (.str (toString i))) e
instance re_strI {K:Frag} {te:TE} {pa:PDt} [ha:RW K te pa]:RE K (tCB C55 (J3 te tNil)) (C3p pa) where
 ok:=by
  rintro c w env σ Qp Q rfl E p k;refine ha.ok c w env σ _ _ rfl E p fun v x e1 w1 E1 l1 d1 q1=>?_;unfold asI at q1;split at q1
  ·exact ⟨_,by rw [d1.intE],q1.1,k _ _ e1 w1 ((Res.data E1 (.str _)).pre l1) q1.2⟩
  ·exact q1.elim
def A4t (pa pb:PDt) (env:PEnv) (Q:SV->PEnv->Prop):Prop:=pa env fun x e=>asI x fun i=>pb e fun y e2=>asI y fun j=>0 < j/\My.Sm 8000 j/\Q (.d (.tuple [.int (i / j),.int (i % j)])) e2
instance re_divmod {K:Frag} {ta tb:TE} {pa pb:PDt} [ha:RW K ta pa] [hb:RW K tb pb]:RE K (tCB A51 (J3 ta (J3 tb tNil))) (A4t pa pb) where
 ok:=by
  rintro c w env σ Qp Q rfl E p k;refine ha.ok c w env σ _ _ rfl E p fun v x e1 w1 E1 l1 d1 q1=>?_;unfold asI at q1;split at q1
  ·refine hb.ok c w1 e1 σ _ _ rfl E1 q1 fun u y e2 w2 E2 l2 d2 q2=>?_;split at q2
   ·exact ⟨_,_,by rw [d1.intE,d2.intE],q2.1,q2.2.1,fun p hp=>k _ _ e2 _ ((Res.tup E2 hp (.cons (.int _) (.cons (.int _) .nil))).pre (l1.trans l2)) q2.2.2⟩
   ·exact q2.elim
  ·exact q1.elim
def asF (x:PyData) (k:Str->Prop):Prop:=match x with
 | .str z=>z.length<=100000/\k z
 | .int i=>i.natAbs.log2 < 1920/\k (toString i)
 | _=>False
theorem C94 {z:Str} {k:Str->Prop}:asF (.str z) k=(z.length<=100000/\k z):=rfl
theorem C95 {i:Int} {k:Str->Prop}:asF (.int i) k=(i.natAbs.log2 < 1920/\k (toString i)):=rfl
def pFmt (pa:PDt) (env:PEnv) (Q:PyData->PEnv->Prop):Prop:=pa env fun x e=>asF x fun z=>Q (.str z) e
instance (priority:=high) rw_fmt {K:Frag} {te:TE} {pa:PDt} [ha:RW K te pa]:RW K (tFmt te) (pFmt pa) where
 ok:=by
  rintro c w env σ Qp Q rfl E p k;refine ha.ok c w env σ _ _ rfl E p fun v x e1 w1 E1 l1 d1 q1=>?_;unfold asF at q1;split at q1
  ·exact .inl ⟨_,d1.strE,q1.1,k _ _ e1 w1 E1 l1 (.inl (.str _)) q1.2⟩
  ·exact .inr ⟨_,d1.intE,q1.1,k _ _ e1 w1 E1 l1 (.inl (.str _)) q1.2⟩
  ·exact q1.elim
class RJs (K:Frag) (ts:List TE) (pj:outParam (Str->PEnv->(Str->PEnv->Prop)->Prop)):Prop where
 ok:∀ (acc:Str) (c:Ct) (w:Wd) (env:PEnv) (σ:St) (Qp:Str->PEnv->Prop) (Q:V->Hpp->Prop),c.K=K->EnvOk c w env σ->pj acc env Qp->(∀ z env' w',EnvOk c w' env' σ->Lw w w'->Qp z env'->Q (.str z) w'.H)->tJs ts acc σ w.H Q
def C3y (acc:Str) (env:PEnv) (Q:Str->PEnv->Prop):Prop:=Q acc env
def B1t (pa:PDt) (pr:Str->PEnv->(Str->PEnv->Prop)->Prop) (acc:Str) (env:PEnv) (Q:Str->PEnv->Prop):Prop:=pa env fun x e=>asS x fun y=>acc.length + y.length<=100000/\pr (acc++y) e Q
instance rjs_nil {K:Frag}:RJs K [] C3y:=⟨fun acc c w env σ Qp Q _ E p k=>k acc env w E (Lw.refl w) p⟩
instance rjs_cons {K:Frag} {te:TE} {ts:List TE} {pa:PDt} {pr:Str->PEnv->(Str->PEnv->Prop)->Prop} [ha:RW K te pa] [hr:RJs K ts pr]:RJs K (te :: ts) (B1t pa pr) where
 ok:=by
  rintro acc c w env σ Qp Q rfl E p k;refine ha.ok c w env σ _ _ rfl E p fun v x e1 w1 E1 l1 d1 q1=>?_;unfold asS at q1;split at q1
  ·rename_i y;exact ⟨y,d1.strE,q1.1,hr.ok (acc++y) c w1 e1 σ _ _ rfl E1 q1.2 fun z e2 w2 E2 l2 q2=>k z e2 w2 E2 (l1.trans l2) q2⟩
  ·exact q1.elim
def pFs (pj:Str->PEnv->(Str->PEnv->Prop)->Prop) (env:PEnv) (Q:SV->PEnv->Prop):Prop:=pj Str.empty env fun z e=>Q (.d (.str z)) e
instance re_fs {K:Frag} {ts:List TE} {pj:Str->PEnv->(Str->PEnv->Prop)->Prop} [h:RJs K ts pj]:RE K (tJs ts Str.empty) (pFs pj) where
 ok:=by
  rintro c w env σ Qp Q rfl E p k;exact h.ok _ c w env σ _ _ rfl E p fun z e1 w1 E1 l1 q=>k _ _ e1 w1 ((Res.data E1 (.str _)).pre l1) q
end Pu
namespace L2
open PySem PySem.Spec PyProof.Rows
def C11 (te:TE) (R:V->Hp->Prop):TS:=fun _ σ H=>J3 te tNil σ H fun vs H1=>∃ v,vs=[v]/\R v H1
structure InitX (K:PySem.W.Frag) (C fI:Addr) (fld y qual:Str) (st:Stmt) (fd:FuncData) (N:List Str):Prop where
 F:Fun K "__init__" qual st fI fd
 fc:(K.lookup fI).map (·.cls)=some (.type "function")
 ex:A7n K C "ValueError.__new__" fI=true
 sa:PySem.W.findIn K (.ref C) "__setattr__"=some (some (.builtin "object.__setattr__"))
 nf:PySem.W.findIn K (.ref C) fld=some none
 sc:FnScope N ["self",y] (A7 st)
 b:Binds K fd ["self",y] []
 n0:N[0]?=some ("self":Str)
 n1:N[1]?=some y
 v0:Vis (A7 st) "self"
 v1:Vis (A7 st) y
 d1:(y == ("__debug__":Str))=false
 d2:(y == ("__classdict__":Str))=false
 body:∃ p1 p2 p3 p4,F2 st=[.Assign [.Attribute (.Name "self" p1) fld p2] (.Name y p3) p4]/\∀ env:Env,swapsWith (.Name y p3) (some (.Attribute (.Name "self" p1) fld p2)) p4.line env=pure false
section
variable {X:Cx} {E:XK} {x fld y qual:Str} {st:Stmt} {C fI:Addr} {fd:FuncData} {N:List Str} {pos np cpos:Pos} {e:Expr} {te:TE}
theorem B0h {R:V->Hp->Prop} (hR:∀ v H1,R v H1->∀ d,H1 d=none->E (.ref C) (some d) (upd H1 d (.xd [(fld,v)]))) (J:InitX X.K C fI fld y qual st fd N) (hT:B5w X E) (hc:X.calm=true) (hr:Room 2 X.A) (hg:Gl X x) (hm:X.mg x=some (.ref C)) (he:PE X e te)
  (hd:(x == ("__debug__":Str))=false:=by decide) (hpl:(backTo cpos (starEach [e] X.env)).any (·.1)=false:=by rfl) (hse:starEach [e] X.env=(false,eval e X.env) :: starEach [] X.env:=by rfl) :
  PS X (.Raise (some (.Call (.Name x np) [e] [] cpos)) none pos) (C11 te R):=by
 intro pins s σ H D I h;obtain ⟨bm,Nc,nm,qn,bs,hd',sn,sub,ab,col,dd,k0,k1,k2,k3,k5,mN,cd,h1,h2,h3,h4,h5,h6,h7⟩:=exoI I.ok.mod.kin J.ex;obtain ⟨oc,od,kV,doc,pm,an,cdv,ct,osl,hfd,lk,hcd⟩:=J.F.ex;obtain ⟨p1,p2,p3,p4,hbody,hsw⟩:=J.body;rw [hbody] at hfd;have hB:Binds X.K fd ["self",y] []:=J.b;subst hfd;have hbase:bm.contains (.type "BaseException")=true:=h4.hasType (by rfl);refine A4i (nm:=nm) (q:=qn) (N:=Nc) (bs:=bs) (hdct:=hd') (sn:=sn) (sub:=sub) (ab:=ab) (col:=col) (dd:=dd) (k0:=k0) (k1:=k1) (k2:=k2) (k3:=k3) (k5:=k5) (oI:=⟨oc,od,.func (PySem.W.fnOf "__init__" qual (J0 st) [.Assign [.Attribute (.Name "self" p1) fld p2] (.Name y p3) p4] (A7 st) .none kV doc pm an cdv ct),osl⟩) F.excBase_ValueError hbase (I.ok.hd hc) hpl h3 (U6 I hg hm ⟨rfl,?_⟩ hd);have P0:=(pa_cons he pa_nil hse:PA X [e] _) cpos pins s σ H (fun vs H1=>∃ v,vs=[v]/\R v H1) I h;obtain ⟨tt,rr,hbk⟩:∃ t r,backTo cpos (starEach [e] X.env)=(false,t) :: r:=by rw [hse]; exact ⟨_,_,rfl⟩
 rw [hbk] at P0 ⊢;refine Calls.evalArgs_plain (thn P0 fun us s2 hA=>?_);obtain ⟨vs,H1,I1,r,v,rfl,q⟩:=hA;obtain ⟨u,rfl,ru⟩:=A1y r;have fcl:oc=.type "function":=by
  have:=J.fc;rw [lk] at this;exact Zj this
 refine ⟨rfl,by show 1<=sizeLine; rw [sizeLine_eq]; decide,I1.bk _ _ h1,h2.keeps I1.bk,h4.keeps I1.bk,I1.kIn _ _ lk,fcl,fun h' e made=>?_⟩;obtain ⟨kp,en,t,he',_,_⟩:=made;have I2:Inv X pins σ H1 { s2 with heap:=h' }:=I1.kept (t':=s2.toks) kp;have e2n:H1 e=none:=by
  cases z:H1 e with
  | none=>rfl
  | some o =>
   obtain ⟨ob,zz⟩:=B2s (I1.hok e o z);rw [en] at zz; cases zz
 have enf:e ∉ frs X.stack:=fun z=>by
  obtain ⟨_,o',ho,_⟩:=I1.stack.mem z;rw [en] at ho; cases ho
 refine wpAny_call (D1c (v:=v) (x:=y) (H:=H1) (outer:=X.stack) lk hcd J.sc J.n0 J.n1 J.v0 J.v1 (hr.make C [u] []) (I2.env0.make C [u] []) J.d1 J.d2 (hB _ [.ref e,u] I2.kIn rfl) ru he' e2n enf h5 h6 h7 J.sa J.nf hsw fun h2' d tk g' dr u2 ru2 dn dne he2 ns un hok bare=>?_);have dn1:s2.heap.get? d=none:=by
  cases z:s2.heap.get? d with
  | none=>rfl
  | some o=>have:=kp d o z; rw [show h'.get? d=none from dn] at this; cases this
 have Hd:H1 d=none:=by
  cases z:H1 d with
  | none=>rfl
  | some o =>
   obtain ⟨ob,zz⟩:=B2s (I1.hok d o z);rw [dn1] at zz; cases zz
 have ub:∀ b,b≠d->upd H1 d (.xd [(fld,v)]) b=H1 b:=fun b z=>B4 z;have nd:∀ b o,s2.heap.get? b=some o->b≠d:=fun b o z y=>by rw [y,dn1] at z; cases z
 have ne:∀ b o,s2.heap.get? b=some o->b ∉ [e]:=fun b o z y=>by
  rw [Zn y,en] at z; cases z
 have un2:Un (frs X.stack) [] H1 (upd H1 d (.xd [(fld,v)])) s2.heap h2':={
  keep:=fun b o z n hb _=>un.keep b o (kp b o z) n hb (ne b o z)
  slot:=fun b o z n hb _=>un.slot b o (kp b o z) n hb (ne b o z)
  free:=fun b o z n _=>(ub b (nd b o z)).trans n
  there:=fun b o z _=>un.there b o (kp b o z) (ne b o z)
  tups:=fun b xs z=>(ub b fun y=>by rw [y,Hd] at z; cases z).trans z
  frzs:=fun b o u z=>(ub b fun y=>by rw [y,Hd] at z; cases z).trans z
  tbls:=fun b ps z=>⟨#[],by rw [Array.append_empty]; exact (ub b fun y=>by rw [y,Hd] at z; cases z).trans z⟩ }
 have hok2:HOk X.prog X.w (upd H1 d (.xd [(fld,v)])) h2':=fun b ob z=>by
  by_cases y:b=d
  ·subst y;rw [B5] at z; cases z;refine ⟨_,ns,fun f=>?_⟩;by_cases ef:f=fld
   ·subst ef;rw [if_pos rfl];have:List.lookup f [(f,v)]=some v:=by simp [List.lookup]
    rw [this]; exact ru2
   ·rw [if_neg ef];have:List.lookup f [(fld,v)]=none:=by
     have z:(f == fld)=false:=beq_eq_false_iff_ne.mpr ef;simp [List.lookup,z]
    rw [this]; exact True.intro
  ·rw [ub b y] at z;exact (hok b ob z).stay (fun _ _ _ z=>z) (fun c z=>(ub c fun y=>by rw [y,Hd] at z; cases z).trans z) fun c xs z=>(ub c fun y=>by rw [y,Hd] at z; cases z).trans z
 have I3:Inv X pins σ (upd H1 d (.xd [(fld,v)])) ⟨h2',g',dr,tk,s2.os⟩:=I1.call' (ch:=[]) rfl un2 hok2 bare fun b z=>absurd z List.not_mem_nil;refine ⟨rfl,I3.bk _ _ h1,⟨t,some d,he2⟩,?_⟩;exact hT pins σ H1 _ s2 ⟨h2',g',dr,tk,s2.os⟩ e _ _ I1 rfl bare en ((ub e fun z=>dne z.symm).trans e2n) he2 rfl un2 I3.stack I3.stkFree hok2 (hR v H1 q d Hd)
end
abbrev TH:=Value->Option Addr->Ends->St->Hp->Prop
structure QH (X:Cx) (hs:List ExceptHandler) (hx:TH):Prop where
 out:∀ (pins:List (Addr × Obj)) (s0 s:Shared) (σ:St) (H H':Hp) (D:Ends) (a:Addr) (cls a0:Value) (dx:Option Addr) (B:Heap),Inv X pins σ H s0->Fly X.prog X.w X.stack H s0 s a cls a0 H' B->DictAt s.heap a dx->hx cls dx D σ H' ->
  wpAny (model X.prog X.w) X.A (handleBy (.ref a) X.env hs) (SP X pins D) X.xe s
def C9e (C:Addr) (i:Nat) (tsu:Addr->Option Addr->TS):TH:=fun cls dx D σ H=>cls=.ref C/\∀ a,i < σ.length->tsu a dx { nx:=fun σ' H'=>D.nx (σ'.set i none) H',rt:=D.rt } (σ.set i (some (.ref a))) H
def C10 (sp:Sp) (t:TA) (hx:TH):TS:=fun D σ H=>t σ H fun vs H1=>sp (vs++[]) H1 (fun _ H2=>D.nx σ H2) fun cls dx H2=>hx cls dx D σ H2
section
variable {X:Cx} {hs:List ExceptHandler}
variable {C CH:Addr} {xh n:Str} {pos pos2:Pos} {b0:Stmt} {suite:List Stmt} {rest:List ExceptHandler} {nm:Option Str} {bd:List Stmt}
theorem B0a {i:Nat} {tsu:Addr->Option Addr->TS} (hgh:Gl X xh) (hmh:X.mg xh=some (.ref CH)) (hx:PySem.W.exmOne X.K (.ref C) (.ref CH)=some true) (hN:X.N.Nodup) (hi:X.N[i]?=some n) (hl:X.env.scope.names.lookup n=some .local)
  (hsu:∀ a oe,oe.cls=.ref C->PySem.W.notCls oe=true->QSs (X.held a oe) (b0 :: suite) (tsu a oe.dict)) (hdb2:(xh == ("__debug__":Str))=false:=by decide) :
  QH X (.ExceptHandler (some (.Name xh pos)) (some n) (b0 :: suite) pos2 :: rest) (C9e C i tsu):=⟨by
 intro pins s0 s σ H H' D a cls a0 dx B I F d ⟨ec,q⟩;subst ec;obtain ⟨oe,e1,e2,IH⟩:=F.hold I;refine wpAny_handleBy_cons (codeAny_handlers_test ?_) (fun z=>by cases z);refine U6 (X:=X.held a oe) IH hgh hmh ?_ hdb2;refine (PySem.W.exm_one IH.kIn (ExAt.ty ⟨oe,e1,e2⟩) hx).at ?_;show codeAny _ _ _ _ _;refine codeAny_handlers_suite_as ?_;have z:=fun E=>(still_setFlight.any (M:=model X.prog X.w) (A:=X.A.mark (some (.ref a))) (Q:=fun _ s'=>∃ h',s'={ s with heap:=h' }/\Heap.FlyingW B X.stack a (.ref C) a0 h'/\∀ b o,s.heap.get? b=some o->(∀ vs,o.data≠.fields vs)->h'.get? b=some o) (E:=E)
  (wpAny_setFlight_noneW F.fly.1 F.fly.2.2.1 F.fly.2.2.2.at fun h3 k1 k2 k3 k4=>⟨h3,rfl,⟨k1,F.fly.2.1,k2,k3⟩,k4⟩))
 refine wpAny_mono (z _) (fun _ s' qq=>?_) fun _ _ z=>z.1;obtain ⟨⟨h3,rfl,kf,k4⟩,kd⟩:=qq;have F3:Fly X.prog X.w X.stack H s0 { s with heap:=h3 } a (.ref C) a0 H' B:=by
  have F0:Fly X.prog X.w X.stack H s0 s a (.ref C) a0 H' B:=F;exact F0.step (h':=h3) kf fun b o e n=>⟨o.slots,k4 b o e n⟩
 have D3:DictAt h3 a dx:=d.kept kd;obtain ⟨oe3,e31,e32,IH3⟩:=F3.hold I;obtain ⟨oe4,vs4,f1,_,f3,_⟩:=F3.fly.first;have:oe4=oe3:=by rw [e31] at f1; exact (Zj f1).symm
 subst this;have nc:PySem.W.notCls oe4=true:=by unfold PySem.W.notCls; rw [f3]
 obtain ⟨oe5,g1,g2⟩:=D3;have:oe5=oe4:=by rw [show h3.get? a=some oe4 from e31] at g1; exact (Zj g1).symm
 subst this;subst g2;refine K9 (X:=X.held a oe5) IH3 hN hi (.inl hl) (show RelV (.ref a) (.ref a) from rfl) (fun s4 I4=>?_) (.inr hl);refine wpAny_mono ((hsu a oe5 e32 nc).out pins s4 _ _ { nx:=fun σ' H'=>D.nx (σ'.set i none) H',rt:=D.rt } I4 (q a (by rw [I.len]; exact (Zs hi).1))) (fun fl s5 hs=>?_) fun _ _ z=>False.elim z;cases fl with
 | next =>
  obtain ⟨σ5,H5,I5,q5⟩:=hs;exact B4z (I5.loose I.ok) hN hi hl fun s6 I6=>⟨_,_,I6,q5⟩
 | brk=>obtain ⟨_,_,_,q⟩:=hs; exact q.elim
 | cont=>obtain ⟨_,_,_,q⟩:=hs; exact q.elim
 | ret u =>
  obtain ⟨v,σ5,H5,I5,r5,q5⟩:=hs;exact B4z (I5.loose I.ok) hN hi hl fun s6 I6=>⟨v,_,_,I6,r5,q5⟩⟩
variable {k:Nat} {f:Addr} {fd:FuncData} {ps:List Str} {sp:Sp} {x:Str} {p pos5:Pos} {e:Expr} {es:List Expr} {t:TA} {h0:ExceptHandler}
theorem C21 {hx:TH} (F:FnOk X.prog X.w X.K X.mg X.base (CX2 X.prog X.w) k f fd ps sp) (hr:Room k X.A) (hg:Gl X x) (hm:X.mg x=some (.ref f)) (hk:PySem.W.keepIn X.K (.ref f)=true) (hb:Binds X.K fd ps [])
  (ha:PA X.nox (e :: es) t) (hh:QH X (h0 :: hs) hx)
  (hst:X.stack=X.env :: X.outer:=by rfl) (hfr:X.env.frame=some X.env.locals:=by rfl)
  (hdb:(x == ("__debug__":Str))=false:=by decide) (he:starEach (e :: es) X.env=(false,eval e X.env) :: starEach es X.env:=by rfl) (hpl:(backTo pos (starEach es X.env)).any (·.1)=false:=by rfl)
  (hsw:swapsWith (.Call (.Name x p) (e :: es) [] pos) none pos2.line X.env=pure false:=by rfl) :
  PS X (.Try [.Expr (.Call (.Name x p) (e :: es) [] pos) pos2] (h0 :: hs) [] [] pos5) (C10 sp t hx):=by
 intro pins s σ H D I h;refine wpAny_Try_except (wpAny_execs_cons (wpAny_Expr_any ?_ I.quiet hsw));refine wpAny_Call_Name_kw (U6 I hg hm ?_ hdb);refine PySem.W.callWith_K (h₀:=X.base) I.ok.mod.kin hk (wpAny_mono (ha pos pins s σ H _ (I.wish _) h) (fun us s1 ⟨vs,H1,I1,r,q⟩=>⟨I1.unwish.kIn,?_⟩) fun _ _ z=>z.elim) he hpl;have I1:=I1.unwish;have r2:Vals (vs++[]) (us++[]):=r.append .nil;have hl2:(us++[]).length=ps.length:=by rw [<- r2.length]; exact F.len _ _ _ _ q
 refine wpAny_call (codeAny_mono (F.run X.A X.stack s1 H1 ⟨us,[]⟩ (us++[]) (vs++[]) _ _ hr I1.env0 (hb s1 us I1.kIn hl2) r2 q) fun r s' hq=>?_);cases r with
 | ok fl =>
  cases fl with
  | ret u =>
   obtain ⟨v,H2,I2,r2,q2⟩:=I1.after hq;exact wpAny_execs_nil (wpAny_execs_nil ⟨σ,H2,I2,q2⟩)
  | next=>exact False.elim hq
  | brk=>exact False.elim hq
  | cont=>exact False.elim hq
 | error ev =>
  obtain ⟨a,cls,a0,dx,H2,B,rfl,Fl,D2,qd⟩:=hq;have hfrm:X.A.frames=some (X.env :: X.outer):=by rw [<- hst]; exact I.ok.frames
  refine B3t (outer:=X.outer) hfrm hfr (by rw [<- hst]; exact Fl.fly) D2 fun h1 hd1 u1 D3=>?_;refine C81 hd1 D3 fun h2 hd2 u2 D4=>?_;exact hh.out pins s1 _ σ H1 H2 D a cls a0 dx B I1 (Fl.step (h':=h2) (by rw [hst]; exact hd2) (u1.trans u2)) D4 qd
end
def plainV:V->Prop
 | .int _=>True
 | .str _=>True
 | .non=>True
 | .bl _=>True
 | .ref _=>True
 | _=>False
theorem plainV.hand {v:V} {u:Value} (h:plainV v) (r:RelV v u):PySem.W.handedIn u=true:=by
 cases v with
 | int i=>obtain ⟨t,rfl⟩:=r; rfl
 | str i=>obtain ⟨t,rfl⟩:=r; rfl
 | non=>cases (show u=Value.none from r); rfl
 | bl b=>cases (show u=Value.bool b from r); rfl
 | ref a=>cases (show u=Value.ref a from r); rfl
 | _=>exact h.elim
def tHF (i:Nat) (a:Addr) (dx:Option Addr) (fld:Str):TE:=fun σ H Q=>σ[i]?=some (some (.ref a))/\∃ d v,dx=some d/\H d=some (.xd [(fld,v)])/\plainV v/\Q v H
section
variable {X:Cx} {C fI a:Addr} {fld y qual n:Str} {st:Stmt} {fd:FuncData} {N:List Str} {oe:Obj} {i:Nat} {pos p1:Pos}
theorem D0p (J:InitX X.K C fI fld y qual st fd N) (xc:ExC X.K C) (e:oe.cls=.ref C) (nc:PySem.W.notCls oe=true) (hi:X.N[i]?=some n) (hl:Vis X.env.scope n)
  (hd:(n == ("__debug__":Str))=false:=by decide) (hcd:(n == ("__classdict__":Str))=false:=by decide) (hb:attributeBase (.Name n p1) fld X.env (eval (.Name n p1) X.env)=eval (.Name n p1) X.env:=by rfl) :
  QE (X.held a oe) (.Attribute (.Name n p1) fld pos) (tHF i a oe.dict fld):=⟨by
 intro pins s σ H Q I ⟨g,d,v,ed,hH,pl,q⟩;refine C43 hb (thn (A2p (X:=X.held a oe) hi hl hd hcd pins s σ H (fun z H'=>z=.ref a/\H'=H) I ⟨_,g,rfl,rfl⟩) fun u s1 ⟨x,H1,I1,rx,ex,eH⟩=>?_);subst ex eH;obtain rfl:u=Value.ref a:=rx;obtain ⟨bm,Nc,nm,qn,bs,hd',sn,sub,ab,col,dd,k0,k1,k2,k3,k5,mN,cd,_,_,_,_,h5,h6,h7⟩:=exoI I1.ok.mod.kin J.ex;obtain ⟨mA,ns,rel⟩:=(show ∃ mA,s1.heap.Ns1 d mA/\∀ f,RelO (List.lookup f [(fld,v)]) (mA f) from I1.hok d _ hH);obtain ⟨od,hod,look⟩:=B3u ns;have hlk:List.lookup fld [(fld,v)]=some v:=by simp [List.lookup]
 have rf:=rel fld;rw [hlk] at rf;cases em:mA fld with
 | none=>rw [em] at rf; exact rf.elim
 | some u =>
  rw [em] at rf;have ru:RelV v u:=rf;have hx:=(I1.pin (a,oe) (Zt _ Zy)).1;have IA:PySem.W.InstAt s1.heap a oe C (some od):=⟨hx,e,nc,by rw [ed]; exact hod⟩;refine getx (name:=fld) (v:=u) I1.kIn IA h5 h7 xc.k.ga xc.k.gn (PySem.W.findObj_own xc.hd J.nf rfl (by rw [look,em])) (pl.hand ru) ?_;exact ⟨v,H1,I1.tok _,ru,q⟩⟩
end
section
variable {X:Cx} {hs:List ExceptHandler} {pos pos2:Pos} {k:Nat} {f:Addr} {fd:FuncData} {ps:List Str} {sp:Sp} {x:Str} {p pos5:Pos} {e:Expr} {es:List Expr} {t:TA} {h0:ExceptHandler}
theorem A52 {hx:TH} (F:FnOk X.prog X.w X.K X.mg X.base (CX2 X.prog X.w) k f fd ps sp) (hr:Room k X.A) (hg:Gl X x) (hm:X.mg x=some (.ref f)) (hk:PySem.W.keepIn X.K (.ref f)=true) (hb:Binds X.K fd ps [])
  (ha:QA X.nox (e :: es) t) (hh:QH X (h0 :: hs) hx)
  (hst:X.stack=X.env :: X.outer:=by rfl) (hfr:X.env.frame=some X.env.locals:=by rfl)
  (hdb:(x == ("__debug__":Str))=false:=by decide) (he:starEach (e :: es) X.env=(false,eval e X.env) :: starEach es X.env:=by rfl) (hpl:(backTo pos (starEach es X.env)).any (·.1)=false:=by rfl)
  (hsw:swapsWith (.Call (.Name x p) (e :: es) [] pos) none pos2.line X.env=pure false:=by rfl) :
  QS X (.Try [.Expr (.Call (.Name x p) (e :: es) [] pos) pos2] (h0 :: hs) [] [] pos5) (C10 sp t hx):=⟨C21 F hr hg hm hk hb ha.out hh hst hfr hdb he hpl hsw⟩
end
section
variable {X:Cx} {i:Nat} {a:Addr} {b:Bool}
theorem C1f {e:Expr} {pos:Pos} {d:Bool} (h:KE X i a e b) (hd:(!b)=d:=by rfl):KE X i a (.UnaryOp .Not e pos) d:=by
 subst hd;exact ⟨B0v (B9f h.out) fun σ H Q q=>⟨q.1,fun H3 z=>⟨b,rfl,q.2 H3 z⟩⟩⟩
end
def tsF (i j:Nat) (fld:Str) (a:Addr) (dx:Option Addr):TS:=tAsg (tHF i a dx fld) (Y5 j)
def tsB (i j:Nat) (b:Bool) (a:Addr) (_:Option Addr):TS:=tAsg (tKE i a b) (Y5 j)
section
variable {X:Cx} {C fI a:Addr} {fld y qual n x:Str} {st:Stmt} {fd:FuncData} {N:List Str} {oe:Obj} {i j:Nat} {pos p1 p2 p3:Pos}
theorem C2r (J:InitX X.K C fI fld y qual st fd N) (xc:ExC X.K C) (hi:X.N[i]?=some n) (hl:X.env.scope.names.lookup n=some .local) (hN:X.N.Nodup) (hj:X.N[j]?=some x) (hx:X.env.scope.names.lookup x=some .local)
  (hd:(n == ("__debug__":Str))=false:=by decide) (hcd:(n == ("__classdict__":Str))=false:=by decide) (hb:attributeBase (.Name n p1) fld X.env (eval (.Name n p1) X.env)=eval (.Name n p1) X.env:=by rfl)
  (hs:swapsWith (.Attribute (.Name n p1) fld pos) (some (.Name x p2)) p3.line X.env=pure false:=by rfl):∀ a oe,oe.cls=.ref C->PySem.W.notCls oe=true->QSs (X.held a oe) [.Assign [.Name x p2] (.Attribute (.Name n p1) fld pos) p3] (tsF i j fld a oe.dict):=fun a oe e nc =>
 A5 (A4k (X:=X.held a oe) hN hj (.inl hx) (D0p J xc e nc hi (.inl hl) hd hcd hb) hs (.inr hx))
theorem B6l {b:Bool} {e:Expr} (hN:X.N.Nodup) (hj:X.N[j]?=some x) (hx:X.env.scope.names.lookup x=some .local) (hk:∀ a oe,oe.cls=.ref C->KE (X.held a oe) i a e b)
  (hs:swapsWith e (some (.Name x p2)) p3.line X.env=pure false:=by rfl):∀ a oe,oe.cls=.ref C->PySem.W.notCls oe=true->QSs (X.held a oe) [.Assign [.Name x p2] e p3] (tsB i j b a oe.dict):=fun a oe ec _ =>
 A5 (A4k (X:=X.held a oe) hN hj (.inl hx) ⟨(hk a oe ec).out⟩ hs (.inr hx))
end
end L2
namespace Pu
open PySem PySem.Spec PyProof.Rows L2 My Prf
def spE2 (K:Frag) (md:List Md) (C:Addr) (fld:Str) (psp:List SV->PyData->Prop):Sp:=fun vs H _ E=>∃ (w:Wd) (as:List SV) (x:PyData),w.H=H/\w.Ok/\Args K w md vs as/\psp as x/\∀ w' d v,w'.Ok->Le w w'->w'.H d=some (.xd [(fld,v)])->Den K w'.F v x->E (.ref C) (some d) w'.H
theorem spE2.len {K:Frag} {md:List Md} {C:Addr} {fld:Str} {psp:List SV->PyData->Prop} {n:Nat} (h:md.length=n):∀ vs H Q E,spE2 K md C fld psp vs H Q E->vs.length=n:=by
 rintro vs H Q E ⟨w,as,_,_,_,a,_⟩;exact a.len.trans h
def A5q (K:Frag) (w0:Wd) (te:TE) (fld:Str) (x:PyData):TS:=fun _ σ H=>J3 te tNil σ H fun vs H1=>∃ v,vs=[v]/\∀ d,H1 d=none->∃ w',w'.H=upd H1 d (.xd [(fld,v)])/\w'.Ok/\Le w0 w'/\Den K w'.F v x
def A4r (pd:PDt) (x:PyData):PSt:=fun _ env=>pd env fun y _=>y=x
instance rsx_raiseI {K:Frag} {w0:Wd} {te:TE} {fld:Str} {x:PyData} {pd:PDt} [hd:RD K te pd]:RSX K w0 (A5q K w0 te fld x) (A4r pd x) where
 ok:=by
  rintro c w env σ Dp D rfl rfl E h p;refine hd.ok c w env σ _ _ rfl E p fun v y e1 w1 E1 l1 v1 q1=>?_;subst q1;exact ⟨v,rfl,fun d hn=>⟨w1.lay d (.xd [(fld,v)]),rfl,Wd.lay_ok E1.wok hn,E1.le0.trans (Wd.lay_le hn),v1⟩⟩
theorem okx2 {P:Program} {w:World} {K:PySem.W.Frag} {mg:Str->Option Value} {base:Heap} {x qual:Str} {st:Stmt} {f:Addr} {fd:FuncData} {N ps:List Str} {k:Nat} {md:List Md} {C:Addr} {fld:Str} {psp:List SV->PyData->Prop} {ts:Wd->PyData->TS} {pst:PyData->PSt} (F:L2.Fun K x qual st f fd) (S:FnScope N ps (A7 st)) (hm:md.length=ps.length)
  (hbody:∀ (cdv:Value) (A:Around) (outer:List Env) (s:Shared) (H:Hpp) (E:XK) (w0:Wd) (y:PyData),Room k (A.deeper (envOfC qual (A7 st) s.heap.objs.size f cdv))->(∀ w' d v,w'.Ok->Le w0 w'->w'.H d=some (.xd [(fld,v)])->Den K w'.F v y->E (.ref C) (some d) w'.H) ->
   PSs (cxOf (CX2 P w) P w K mg base N qual (A7 st) f cdv A outer s H E) (F2 st) (ts w0 y))
  (hs:∀ w0 y,RSX K w0 (ts w0 y) (pst y)) (hb:∀ as y,psp as y->pst y ⟨fun _=>False,fun _ _=>False,fun _=>False,fun _=>False⟩ (as.map some++List.replicate (N.length - md.length) none)):FnOk P w K mg base (CX2 P w) (k + 1) f fd ps (spE2 K md C fld psp):=by
 obtain ⟨oc,od,kV,doc,pm,an,cdv,ct,osl,rfl,lk,hcd⟩:=F.ex;refine C9g lk hcd S (spE2.len hm) fun A outer s H vs Q E hr ⟨w0,as,y,e,ok,a,p,kk⟩=>?_;refine ⟨_,hbody cdv A outer s H E w0 y hr kk,?_⟩;subst e
 haveI:=hs w0 y
 exact C9j ok a (hb as y p)
theorem EnvOk.unset {c:Ct} {w:Wd} {env:PEnv} {σ:L2.St} {i:Nat} {o:Option V} (E:EnvOk c w env σ):EnvOk c w (env.set i none) (σ.set i o):=by
 have hd:∀ {j:Nat} {t:SV},(env.set i none)[j]?=some (some t)->i≠j/\env[j]?=some (some t):=fun {j t} q=>by
  rw [List.getElem?_set] at q;split at q
  ·split at q
   ·cases q
   ·cases q
  ·rename_i z; exact ⟨z,q⟩
 have hs:∀ {j:Nat},i≠j->(σ.set i o)[j]?=σ[j]?:=fun {j} z=>by rw [List.getElem?_set,if_neg z]
 refine ⟨E.wok,E.le0,by simpa using E.len,fun j t q=>?_,fun j k s1 t1 v1 u1 a q1 q2 q3 q4 f1 f2=>?_,E.zf,fun a j t u za q q'=>?_⟩
 ·obtain ⟨z,q⟩:=hd q;rw [hs z]; exact E.at' j t q
 ·obtain ⟨z1,q1⟩:=hd q1;obtain ⟨z2,q2⟩:=hd q2;rw [hs z1] at q3;rw [hs z2] at q4;exact E.own j k _ _ _ _ a q1 q2 q3 q4 f1 f2
 ·obtain ⟨z,q⟩:=hd q;rw [hs z] at q';exact E.zo a j t u za q q'
class RHS (K:Frag) (fld:Str) (i:Nat) (tsu:Addr->Option Addr->TS) (ps:outParam (PyData->PSt)):Prop where
 ok:∀ (c:Ct) (w:Wd) (env:PEnv) (σ:L2.St) (Dp:PEnds) (D:Ends) (a d:Addr) (v:V) (x:PyData),c.K=K->EnvOk c w env σ->EndsOk c w Dp D->σ[i]?=some (some (.ref a))->w.H d=some (.xd [(fld,v)])->Den K w.F v x->ps x Dp env->tsu a (some d) D σ w.H
theorem Den.plain {K:Frag} {F:Hpp} {v:V} {x:PyData} (h:Den K F v x):plainV v:=by cases h <;> exact True.intro
def pHF (j:Nat) (x:PyData) (D:PEnds) (env:PEnv):Prop:=D.nx (env.set j (some (.d x)))
instance rhs_fld {K:Frag} {i j:Nat} {fld:Str}:RHS K fld i (tsF i j fld) (pHF j) where
 ok:=by
  rintro c w env σ Dp D a d v x rfl E h g hd dn p;exact ⟨g,d,v,rfl,hd,Den.plain dn,h.nx _ _ w (E.set (s:=.d x) dn (fun _ z=>nomatch z)) (Same.refl _) p⟩
def pHB (j:Nat) (b:Bool) (_:PyData) (D:PEnds) (env:PEnv):Prop:=D.nx (env.set j (some (.d (.bool b))))
instance rhs_kind {K:Frag} {i j:Nat} {b:Bool} {fld:Str}:RHS K fld i (tsB i j b) (pHB j b) where
 ok:=by
  rintro c w env σ Dp D a d v x rfl E h g hd dn p;refine ⟨g,fun H3 s3=>?_⟩;have l3:Le w ⟨w.M,H3,w.F⟩:=⟨⟨Same.refl _,fun b o e _=>s3 b o e,fun _ z=>z,fun _ z=>.inl z,fun b z=>by
   cases q:w.H b with
   | none=>rfl
   | some o=>have:=s3 b o q; rw [show H3 b=none from z] at this; cases this⟩,fun _ _ z=>.inl z⟩
  have E3:EnvOk c ⟨w.M,H3,w.F⟩ env σ:=E.mono ⟨E.wok.sub.trans s3,fun p hp=>(E.wok.st p hp).same s3,E.wok.nf⟩ l3;exact h.nx _ _ _ (E3.set (s:=.d (.bool b)) (show Den _ _ _ _ from .bl b) (fun _ z=>nomatch z)) (Same.refl _) p
def C3o (psp:List SV->PyData->Prop) (pa:PAs) (i:Nat) (ps:PyData->PSt) (D:PEnds) (env:PEnv):Prop:=pa env fun as e=>∃ x,psp as x/\ps x ⟨fun e2=>D.nx (e2.set i none),D.rt,fun _=>False,fun _=>False⟩ (e.set i none)
instance rs_tryX {K:Frag} {md:List Md} {psp:List SV->PyData->Prop} {C:Addr} {fld:Str} {i:Nat} {ta:TA} {pa:PAs} {tsu:Addr->Option Addr->TS} {ps:PyData->PSt} [ha:RAm K md ta pa] [hs:RHS K fld i tsu ps]:RS K (C10 (spE2 K md C fld psp) ta (C9e C i tsu)) (C3o psp pa i ps) where
 ok:=by
  rintro c w env σ Dp D rfl E h p;refine ha.ok c w env σ _ _ rfl E p fun vs as e1 w1 E1 l1 a1 ⟨x,q1,q2⟩=>?_;rw [List.append_nil];refine ⟨w1,as,x,rfl,E1.wok,a1,q1,fun w' d v ok l hd dn=>⟨rfl,fun a hi=>?_⟩⟩;refine hs.ok c w' (e1.set i none) (σ.set i (some (.ref a))) ⟨fun e2=>Dp.nx (e2.set i none),Dp.rt,fun _=>False,fun _=>False⟩ _ a d v x rfl (E1.mono ok l).unset ⟨fun e2 σ2 w2 E2 s2 n2=>?_,h.rt,fun _ _ _ _ _ z=>z,fun _ _ _ _ _ z=>z⟩ (List.getElem?_set_self hi) hd dn q2;exact h.nx _ _ w2 E2.unset (l1.f.trans (l.f.trans s2)) n2
def C6y (psp:PSp) (pa:PAs) (D:PEnds) (env:PEnv):Prop:=pa env fun as e=>psp as fun _=>D.nx e
end Pu
namespace L2
open PySem PySem.Spec PyProof.Rows
theorem B7w {K:PySem.W.Frag} {C fI:Addr} {fld y qual:Str} {st:Stmt} {fd:FuncData} {N:List Str} (F:Fun K "__init__" qual st fI fd) (S:FnScope N ["self",y] (A7 st)) (fc:(K.lookup fI).map (·.cls)=some (.type "function")) (ex:A7n K C "ValueError.__new__" fI=true)
  (sa:PySem.W.findIn K (.ref C) "__setattr__"=some (some (.builtin "object.__setattr__"))) (nf:PySem.W.findIn K (.ref C) fld=some none) (body:∃ p1 p2 p3 p4,F2 st=[.Assign [.Attribute (.Name "self" p1) fld p2] (.Name y p3) p4]/\∀ env:Env,swapsWith (.Name y p3) (some (.Attribute (.Name "self" p1) fld p2)) p4.line env=pure false)
  (bd:∀ (kV doc pm:Value) (an:Option Addr) (cdv ct:Value) (us:List Value),us.length=2->bindArgs (PySem.W.fnOf "__init__" qual (J0 st) (F2 st) (A7 st) .none kV doc pm an cdv ct) ⟨us,[]⟩=pure (List.zip [("self":Str),y] us):=by exact fun _ _ _ _ _ _ us hl=>by obtain ⟨_,_,rfl⟩:=us2 hl; rfl)
  (n0:N[0]?=some ("self":Str):=by rfl) (n1:N[1]?=some y:=by rfl) (v0:Vis (A7 st) "self":=by exact Or.inl rfl) (v1:Vis (A7 st) y:=by exact Or.inl rfl) (d1:(y == ("__debug__":Str))=false:=by decide) (d2:(y == ("__classdict__":Str))=false:=by decide):InitX K C fI fld y qual st fd N :=
 ⟨F,fc,ex,sa,nf,S,F.binds bd,n0,n1,v0,v1,d1,d2,body⟩
end L2
namespace Pu
open PySem PySem.Spec PyProof.Rows L2 My Prf
def C7q (i:Nat) (pe:PX) (D:PEnds) (env:PEnv):Prop:=isKs env[i]? fun _ _=>pe env fun s e=>∃ b us,s=.tr (.nd true b (kids us))/\isKs e[i]? fun _ ks=>ks.length + us.length < 1000000/\∀ p,D.nx (e.set i (some (.tr (.nd true p (kids (ks++us))))))
def C7u (i j:Nat) (D:PEnds) (env:PEnv):Prop:=oInt env[j]? fun n=>D01 i (mIx D07 n) D env
end Pu
namespace L2
open PySem PySem.Spec PyProof.Rows
variable {X:Cx} {e:Expr}
theorem nsi3 {a b c:V} {r:List V}:NSI (a :: b :: c :: r):=fun _ _ z=>nomatch z
end L2
namespace L2
open PySem PySem.Spec PyProof.Rows
section
variable {X:Cx} {scope:Scope} {cl:List (Str × Addr)} {N':List Str} {cap:List (Option Nat)} {elt t1 i1 t2 i2:Expr} {f1 f2:List Expr} {wi wi2:TI} {g g2:TG} {tt tt2:TT} {te:TE} {pos spos py:Pos} {y:Str} {i:Nat}
end
end L2
namespace Pu
open PySem L2 My Prf
def B68 (us:LP) (pg:PyData->PEnv->(PEnv->Prop)->Prop) (pt:PTt) (pd:PDt) (e0:PEnv) (ys0:LP) (Done:PEnv->LP->Prop):Prop :=
 ∃ Iv:Nat->PEnv->LP->Prop,Iv 0 e0 ys0/\(∀ j u e ws,us[j]?=some u->Iv j e ws->ws.length + 1 < 1000000/\pg u e fun e2=>pt e2 fun b e3=>if b=true then pd e3 fun y e4=>Iv (j + 1) e4 (ws++[y]) else Iv (j + 1) e3 ws)/\∀ e ws,Iv us.length e ws->Done e ws
def B69 (xs:LP) (pg:PyData->PEnv->(PEnv->Prop)->Prop) (pt:PTt) (pi2:PAr) (pg2:PyData->PEnv->(PEnv->Prop)->Prop) (pt2:PTt) (pd:PDt) (e0:PEnv) (Fin:LP->Prop):Prop :=
 ∃ Pv:Nat->PEnv->LP->Prop,Pv 0 e0 []/\(∀ i x e ys,xs[i]?=some x->Pv i e ys->ys.length < 1000000/\pg x e fun e2=>pt e2 fun b e3=>if b=true then pi2 e3 fun us e4=>B68 us pg2 pt2 pd e4 ys (Pv (i + 1)) else Pv (i + 1) e3 ys)/\∀ e ys,Pv xs.length e ys->ys.length < 1000000/\Fin ys
def A2v (pi:PAr) (pg:PyData->PEnv->(PEnv->Prop)->Prop) (pt:PTt) (pi2:PAr) (pg2:PyData->PEnv->(PEnv->Prop)->Prop) (pt2:PTt) (pd:PDt) (cap:List (Option Nat)) (i:Nat) (D:PEnds) (env:PEnv):Prop:=pi env fun xs e=>B69 xs pg pt pi2 pg2 pt2 pd (F5 cap e) (@hold LP ⟨fun ys=>D.nx (e.set i (some (.own ys)))⟩)
section
variable {X:Cx} {scope:Scope} {cl:List (Str × Addr)} {N':List Str} {cap:List (Option Nat)} {elt t1 i1 t2 i2:Expr} {f1 f2:List Expr} {wi wi2:TI} {g g2:TG} {tt tt2:TT} {te:TE} {pos spos py:Pos} {y:Str} {i:Nat}
end
end Pu
namespace L2
open PySem PySem.Spec PyProof.Rows
def chD (x:Str):LP:=x.cps.toList.map fun c=>PyData.str ⟨#[c]⟩
section
variable {X:Cx}
end
end L2
namespace Pu
open PySem L2 My Prf
def B1m (pa:PDt) (env:PEnv) (Q:SV->PEnv->Prop):Prop:=pa env fun d e=>∃ x:Str,d=.str x/\x.length<=1000/\Q (.own (chD x)) e
end Pu
namespace Pu
open PySem L2 My Prf
def OT.ls:OT->Option (List OT)
 | .nil=>some []
 | .cons h t=>t.ls.map (h :: ·)
 | _=>none
def OT.tl:OT->Option (List OT)
 | .nd false _ k=>k.ls
 | .leaf (.tuple xs)=>some (xs.map .leaf)
 | _=>none
class RGO (K:Frag) (g:TG) (pg:outParam (OT->PEnv->(PEnv->Prop)->Prop)):Prop where
 ok:∀ (c:Ct) (w:Wd) (env:PEnv) (σ:St) (v:V) (x:OT) (Qp:PEnv->Prop) (Q:St->Hpp->Prop),c.K=K->EnvOk c w env σ->VR c w v (.bt x)->pg x env Qp->(∀ env' σ',EnvOk c w env' σ'->Qp env'->Q σ' w.H)->g v σ w.H Q
def C8g (i:Nat) (x:OT) (env:PEnv) (Q:PEnv->Prop):Prop:=Q (env.set i (some x.sv))
def oNil (xs:List OT) (env:PEnv) (Q:PEnv->Prop):Prop:=match xs with
 | []=>Q env
 | _=>False
def D06 (pg:OT->PEnv->(PEnv->Prop)->Prop) (pr:List OT->PEnv->(PEnv->Prop)->Prop) (xs:List OT) (env:PEnv) (Q:PEnv->Prop):Prop:=match xs with
 | x :: r=>pg x env fun e=>pr r e Q
 | []=>False
theorem C0v {env:PEnv} {Q:PEnv->Prop}:oNil [] env Q=Q env:=rfl
theorem B3j {pg:OT->PEnv->(PEnv->Prop)->Prop} {pr:List OT->PEnv->(PEnv->Prop)->Prop} {x:OT} {r:List OT} {env:PEnv} {Q:PEnv->Prop}:D06 pg pr (x :: r) env Q=pg x env fun e=>pr r e Q:=rfl
def WalkO (c:Ct) (w1:Wd) (J:It) (xs:List OT):Prop :=
 ∀ w',w'.Ok->Le c.w0 w'->Same w1.F w'.F->(∀ i,i < xs.length->J.go i w'.H)/\J.stop xs.length w'.H/\∀ i v H',J.yld i w'.H v H'->i < xs.length->∃ w2 x,w2.H=H'/\w2.Ok/\Le w' w2/\xs[i]?=some x/\VR c w2 v (.bt x)
def A6p (xs:List OT) (pg:OT->PEnv->(PEnv->Prop)->Prop) (pt:PTt) (pd:PDt) (e0:PEnv) (Fin:LP->Prop):Prop :=
 ∃ Pv:Nat->PEnv->LP->Prop,Pv 0 e0 []/\(∀ i x e ys,xs[i]?=some x->Pv i e ys->pg x e fun e2=>pt e2 fun b e3=>if b=true then pd e3 fun y e4=>Pv (i + 1) e4 (ys++[y]) else Pv (i + 1) e3 ys)/\∀ e ys,Pv xs.length e ys->Fin ys
def X5 (xs:List OT) (pg:OT->PEnv->(PEnv->Prop)->Prop) (pt:PTt) (pe:PX) (e0:PEnv) (Fin:List OT->Prop):Prop :=
 ∃ Pv:Nat->PEnv->List OT->Prop,Pv 0 e0 []/\(∀ i x e ys,xs[i]?=some x->Pv i e ys->pg x e fun e2=>pt e2 fun b e3=>if b=true then pe e3 fun s e4=>s.ot fun t=>Pv (i + 1) e4 (ys++[t]) else Pv (i + 1) e3 ys)/\∀ e ys,Pv xs.length e ys->Fin ys
theorem B5k {K:Frag} {g:TG} {tt:TT} {te:TE} {pg:OT->PEnv->(PEnv->Prop)->Prop} {pt:PTt} {pe:PX} [hg:RGO K g pg] [ht:RT K tt pt] [he:RE K te pe] {c:Ct} {w:Wd} {env:PEnv} {σ:St} {J:It} {xs:List OT} {cap:List (Option Nat)} {D:Addr} {Fp:List OT->Prop} {Fin:Hpp->Prop}
  (hK:c.K=K) (E:EnvOk c w env σ) (wk:WalkO ⟨c.K,w,c.Z⟩ w J xs) (hn:xs.length < 1000000) (p:X5 xs pg pt pe (F5 cap env) Fp) (hD:w.H D=none) (k:∀ w' ts,Res c w env σ w' (.ref D) (.tr (.nd true D (kids ts)))->Fp ts->Fin w'.H):A3r J g tt te D Fin (capσ cap σ) w.H:=by
 subst hK;obtain ⟨Pv,p0,step,fin⟩:=p;refine ⟨fun i m σ' H' vs=>m=xs.length - i/\i<=xs.length/\∃ e w' ts,w'.H=H'/\EnvOk ⟨c.K,w,fun a=>a=D\/a ∈ (kids ts).fp⟩ w' e σ'/\w'.H D=some (.lst vs)/\vs.length<=i/\Tre c.K w' (kids ts) vs/\(∀ a ∈ (kids ts).fp,w.H a=none/\a≠D)/\(kids ts).fp.Nodup/\Pv i e ts,
  ⟨xs.length,rfl,Nat.zero_le _,F5 cap env,w.lay D (.lst []),[],rfl,?_,B5,Zv _,rfl,(fun a z=>nomatch z),List.nodup_nil,p0⟩,?_⟩
 ·have E0:=E.cap cap hD;exact ⟨E0.wok,E0.le0,E0.len,fun i s q=>let ⟨v,h1,h2⟩:=E0.at' i s q; ⟨v,h1,h2.reZ⟩,E0.own,fun a z=>z.elim (E0.zf a) fun z=>(nomatch z),fun a j t u z=>z.elim (E0.zo a j t u) fun z=>(nomatch z)⟩
 rintro i m σ1 _ vs ⟨rfl,hle,e1,w1,ts,rfl,E1,h1,hvl,d1,fr,nd,q1⟩;refine ⟨h1,A0b (by omega),?_⟩;obtain ⟨go,stop,yld⟩:=wk w1 E1.wok E1.le0 E1.le0.f;by_cases hlt:i < xs.length
 ·refine .inr ⟨go i hlt,fun v H' y=>?_⟩;obtain ⟨w1',x,rfl,ok1',le1,hx,dx⟩:=yld i v H' y hlt;have nm1:∀ a ∈ (kids ts).fp,¬ w1.M a:=fun a ha=>(E1.zf a (.inr ha)).2.2;replace h1:=le1.h _ _ h1 (E1.zf D (.inl rfl)).2.2;replace E1:=E1.mono ok1' le1;replace d1:=d1.mono le1.toLw nm1;clear yld go stop y le1 ok1' nm1;generalize w1'=w1 at E1 h1 d1 dx;have cc:Ct:=⟨c.K,w,fun a=>a=D\/a ∈ (kids ts).fp⟩;refine hg.ok ⟨c.K,w,fun a=>a=D\/a ∈ (kids ts).fp⟩ w1 e1 σ1 v x _ _ rfl E1 dx (step i x e1 ts hx q1) fun e2 σ2 E2 q2=>?_;refine ht.ok ⟨c.K,w,fun a=>a=D\/a ∈ (kids ts).fp⟩ w1 e2 σ2 _ _ rfl E2 q2 fun b e3 w3 E3 l3 q3=>?_;have nmD:∀ a,a=D\/a ∈ (kids ts).fp->¬ w1.M a:=fun a z=>(E2.zf a z).2.2;have h3:=l3.h _ _ h1 (nmD D (.inl rfl));have d3:=d1.mono l3 fun a ha=>nmD a (.inr ha);cases b with
  | true =>
   refine he.ok ⟨c.K,w,fun a=>a=D\/a ∈ (kids ts).fp⟩ w3 e3 σ2 _ _ rfl E3 q3 fun y' s e4 w4 R q4=>?_;have nm3:∀ a,a=D\/a ∈ (kids ts).fp->¬ w3.M a:=fun a z=>(E3.zf a z).2.2;have h4:=R.lw.h _ _ h3 (nm3 D (.inl rfl));have d4:=d3.mono R.lw fun a ha=>nm3 a (.inr ha);obtain ⟨t,tt',ho,hn',q5⟩:=R.ot q4;have E4:=R.ev;have nD:D ∉ (kids ts).fp:=fun z=>(fr D z).2 rfl;have ntD:D ∉ t.fp:=fun z=>(hn' D z).2 (.inl rfl);refine ⟨vs,h4,A0b (by omega),xs.length - (i + 1),by omega,rfl,hlt,e4,⟨w4.M,upd w4.H D (.lst (vs++[y'])),w4.F⟩,ts++[t],rfl,?_,B5,by rw [Ze]; simp; exact hvl,?_,fun a ha=>?_,?_,q5⟩
   ·have E5:=E4.writeZ (us:=vs++[y']) (.inl rfl) hD;refine ⟨E5.wok,E5.le0,E5.len,fun i s q=>let ⟨v,h1,h2⟩:=E5.at' i s q; ⟨v,h1,h2.reZ⟩,E5.own,fun a z=>?_,fun a j s u z q q'=>?_⟩
    ·rcases z with z | z
     ·exact E5.zf a (.inl z)
     ·rw [J7,List.mem_append] at z;rcases z with z | z
      ·exact E5.zf a (.inr z)
      ·obtain ⟨o1,o2,o3,_⟩:=ho.1 a z;exact ⟨o2,fun y=>o1 (G5 y),o3⟩
    ·rcases z with z | z
     ·exact E5.zo a j s u (.inl z) q q'
     ·rw [J7,List.mem_append] at z;rcases z with z | z
      ·exact E5.zo a j s u (.inr z) q q'
      ·exact (hn' a z).1 j s u q q'
   ·exact Tre.snoc (tt'.writ ntD) (d4.writ nD)
   ·rw [J7,List.mem_append] at ha;rcases ha with z | z
    ·exact fr a z
    ·exact ⟨(ho.1 a z).2.2.2,fun y=>ntD (y ▸ z)⟩
   ·rw [J7];exact List.nodup_append.mpr ⟨nd,ho.2,fun a ha b hb e=>(hn' b hb).2 (.inr (e ▸ ha))⟩
  | false =>
   exact ⟨xs.length - (i + 1),by omega,rfl,hlt,e3,w3,ts,rfl,E3,h3,by omega,d3,fr,nd,q3⟩
 ·have e:i=xs.length:=by omega
  subst e;obtain ⟨z1,z2,z3⟩:=E1.zf D (.inl rfl);have one:∀ a,a ∈ (OT.nd true D (kids ts)).fp->(a=D\/a ∈ (kids ts).fp)/\w.H a=none:=fun a ha=>by
   rcases List.mem_cons.mp (show a ∈ D :: (kids ts).fp from ha) with rfl | z
   ·exact ⟨.inl rfl,hD⟩
   ·exact ⟨.inr z,(fr a z).1⟩
  refine .inl ⟨stop,k w1 ts ⟨E.mono E1.wok E1.le0,E1.le0.toLw,⟨⟨rfl,vs,h1,d1⟩,fun a ha=>?_,List.nodup_cons.mpr ⟨fun z=>(fr D z).2 rfl,nd⟩⟩,fun a f=>E.fresh (one a f).2,rfl⟩ (fin e1 ts q1)⟩;obtain ⟨g1,g2⟩:=one a ha;obtain ⟨y1,y2,y3⟩:=E1.zf a g1;exact ⟨y2,y1,y3,E.le0.dom a g2⟩
def OT.el:OT->Option (List OT)
 | .nd _ _ k=>k.ls
 | .leaf (.list xs)=>some (xs.map .leaf)
 | .leaf (.tuple xs)=>some (xs.map .leaf)
 | _=>none
def tBt (te:TE):TE:=te
def B90 (pb:PEnv->(OT->PEnv->Prop)->Prop) (env:PEnv) (Q:List OT->PEnv->Prop):Prop:=pb env fun t e=>∃ ts,t.el=some ts/\Q ts e
class RIO (K:Frag) (wi:TI) (pi:outParam (PEnv->(List OT->PEnv->Prop)->Prop)):Prop where
 ok:∀ (c:Ct) (w:Wd) (env:PEnv) (σ:St) (Qp:List OT->PEnv->Prop) (R:It->Hpp->Prop),c.K=K->EnvOk c w env σ->pi env Qp->(∀ J xs env' w',EnvOk c w' env' σ->Lw w w'->WalkO ⟨c.K,w',c.Z⟩ w' J xs->Qp xs env'->R J w'.H)->wi σ w.H R
def B99 (pi:PEnv->(List OT->PEnv->Prop)->Prop) (pg:OT->PEnv->(PEnv->Prop)->Prop) (pt:PTt) (pd:PDt) (cap:List (Option Nat)) (env:PEnv) (Q:SV->PEnv->Prop):Prop:=pi env fun xs e=>xs.length < 1000000/\A6p xs pg pt pd (F5 cap e) (@hold LP ⟨fun ys=>Q (.own ys) e⟩)
def A2t (pi:PEnv->(List OT->PEnv->Prop)->Prop) (pg:OT->PEnv->(PEnv->Prop)->Prop) (pt:PTt) (pd:PDt) (cap:List (Option Nat)) (i:Nat) (D:PEnds) (env:PEnv):Prop:=pi env fun xs e=>xs.length < 1000000/\A6p xs pg pt pd (F5 cap e) (@hold LP ⟨fun ys=>D.nx (e.set i (some (.own ys)))⟩)
def C7t (pi:PEnv->(List OT->PEnv->Prop)->Prop) (pg:OT->PEnv->(PEnv->Prop)->Prop) (pt:PTt) (pe:PX) (cap:List (Option Nat)) (env:PEnv) (Q:SV->PEnv->Prop):Prop:=pi env fun xs e=>xs.length < 1000000/\X5 xs pg pt pe (F5 cap e) (@hold (List OT) ⟨fun ts=>∀ a,Q (.tr (.nd true a (kids ts))) e⟩)
def B80 (e:PEnv):List Nat->List OT->PEnv
 | a :: L,u :: us=>B80 (e.set a (some u.slot)) L us
 | _,_=>e
def unN (s:SV) (n:Nat) (L:List Nat) (e:PEnv) (k:PEnv->Prop):Prop:=∃ p us,s=.tr (.nd false p (kids us))/\us.length=n/\L.length=n/\k (B80 e L us)
def pUnN (pe:PX) (n:Nat) (L:List Nat) (D:PEnds) (env:PEnv):Prop:=pe env fun s e=>unN s n L e D.nx
def isNd (u:OT) (k:Addr->Prop):Prop:=∃ a ks,u=.nd true a ks/\k a
theorem C1j {a:Addr} {ks:OT} {k:Addr->Prop}:isNd (.nd true a ks) k=k a:=propext ⟨fun ⟨_,_,e,h⟩=>by rw [(OT.nd.inj e).2.1]; exact h,fun h=>⟨a,ks,rfl,h⟩⟩
def C7v (i:Nat) (pm:OT->(OT->(OT->OT)->Prop)->Prop) (D:PEnds) (env:PEnv):Prop:=asTr env[i]? fun T=>pm T fun u r=>isNd u fun a=>D.nx (env.set i (some (.tr (r (.nd true a .nil)))))
def C7z (i:Nat) (pm:OT->(OT->(OT->OT)->Prop)->Prop) (x:PyData) (D:PEnds) (env:PEnv):Prop:=asTr env[i]? fun T=>pm T fun u r=>isLs u fun a xs=>xs.length < 1000000/\D.nx (env.set i (some (.tr (r (.nd true a (C6 (xs++[x])))))))
end Pu
namespace L2
open PySem PySem.Spec PyProof.Rows
variable {X:Cx} {e:Expr} {st:Stmt}
end L2
namespace Pu
open PySem L2 My Prf
def tSt (t:TS):TS:=t
def A2s (pi:PAr) (pg:PyData->PEnv->(PEnv->Prop)->Prop) (pt:PTt) (pe:PX) (cap:List (Option Nat)) (i:Nat) (D:PEnds) (env:PEnv):Prop:=pi env fun xs e=>xs.length < 1000000/\B67 xs pg pt pe (F5 cap e) (@hold (List OT) ⟨fun ts=>∀ a,D.nx (e.set i (some (.tr (.nd true a (kids ts)))))⟩)
def U0 (pi:PEnv->(List OT->PEnv->Prop)->Prop) (pg:OT->PEnv->(PEnv->Prop)->Prop) (pt:PTt) (pe:PX) (cap:List (Option Nat)) (i:Nat) (D:PEnds) (env:PEnv):Prop:=pi env fun xs e=>xs.length < 1000000/\X5 xs pg pt pe (F5 cap e) (@hold (List OT) ⟨fun ts=>∀ a,D.nx (e.set i (some (.tr (.nd true a (kids ts)))))⟩)
instance (priority:=high + 1) rs_setCompTO {K:Frag} {te':TE} {g:TG} {tt:TT} {te:TE} {cap:List (Option Nat)} {i:Nat} {pi:PEnv->(List OT->PEnv->Prop)->Prop} {pg:OT->PEnv->(PEnv->Prop)->Prop} {pt:PTt} {pe:PX} [hi:RIO K (iSq K (tBt te')) pi] [hg:RGO K g pg] [ht:RT K tt pt] [he:RE K te pe]:RS K (tSt (R5 (iSq K (tBt te')) g tt te cap i)) (U0 pi pg pt pe cap i) where
 ok:=by
  rintro c w env σ Dp D rfl E h p;show R5 (iSq c.K (tBt te')) g tt te cap i D σ w.H;refine hi.ok c w env σ _ _ rfl E p fun J xs e1 w1 E1 l1 wk ⟨hn,q⟩ l hl=>?_;exact B5k (pg:=pg) (pt:=pt) (pe:=pe) rfl E1 wk hn q hl fun w' ts R q'=>h.nx _ _ w' (R.ev.set R.val R.new) (l1.f.trans R.lw.f) (q' l)
def C7g (pb:PEnv->(OT->PEnv->Prop)->Prop) (env:PEnv) (Q:SV->PEnv->Prop):Prop:=pb env fun t e=>∃ ts,t.el=some ts/\Q (.d (.int (ts.length:Int))) e
theorem B8r {a:Addr} {k:OT}:OT.sv (.nd false a k)=.bt (.nd false a k):=rfl
theorem B8t {z:Str}:OT.sv (.leaf (.str z))=.d (.str z):=rfl
theorem B8s {xs:LP}:OT.sv (.leaf (.tuple xs))=.d (.tuple xs):=rfl
theorem B8v {i:Int}:OT.sv (.leaf (.int i))=.d (.int i):=rfl
theorem B8u {xs:LP}:OT.sv (.leaf (.list xs))=.bor xs:=rfl
end Pu
namespace L2
open PySem PySem.Spec PyProof.Rows
variable {X:Cx} {st:Stmt}
end L2
namespace Pu
open PySem L2 My Prf
def pSlF (pa:PDt) (pl ph:PEnv->(Option Int->PEnv->Prop)->Prop) (env:PEnv) (Q:SV->PEnv->Prop):Prop:=pa env fun x e=>pl e fun lo e1=>ph e1 fun hi e2=>∃ (xs:LP) (b:Nat),x=.tuple xs/\lo=some (b:Int)/\hi=none/\(0 < b/\b<=xs.length)/\Q (.d (.tuple (xs.drop b))) e2
end Pu
namespace L2
open PySem PySem.Spec PyProof.Rows
variable {X:Cx} {e:Expr}
end L2
namespace L2
open PySem PySem.Spec PyProof.Rows
open PySem.Builtin PySem.Builtin.Str
def B87:V->List V->Hp->VK->Prop:=fun x vs H Q=>∃ a b,x=.str a/\vs=[.str b]/\(b.length == 0)=false/\a.length<=90000/\∀ p,H p=none->Q (.ref p) (upd H p (.lst ((Txt.split a b).map V.str)))
theorem A1w:∀ l:List (Str × Tok),Vals ((l.map (·.1)).map V.str) (strValues l)
 | []=>.nil
 | p :: r=>.cons ⟨p.2,rfl⟩ (A1w r)
theorem A9q (a b:Str):(Txt.split a b).length<=a.length + 3:=by
 unfold Txt.split;split
 ·simp
 ·split
  ·simp
  ·rw [length_partsBetween];have:=StrLaws.occ_length_le a b 0 a.length (a.length + 1);omega
theorem O6 {X:Cx}:MtR X "str.split" B87:=by
 intro pins s σ H x vs v us Q I rx rv h;obtain ⟨a,b,rfl,rfl,hb,hl,q⟩:=h;obtain ⟨t,rfl⟩:=rx;obtain ⟨u,rfl,ru⟩:=rv.one;obtain ⟨t2,rfl⟩:=ru;have q':=q _ (I.hok.fresh (Zv _));have hz:(Txt.split a b).length<=sizeLine:=Zx (A9q a b) (Zx (by omega) N5);have ha:a.length<=sizeLine:=Zx (by omega) N5;have hn:(partsBetween a (occurrences a b 0 a.length (a.length + 1)) b.length).length<=sizeLine:=by
  rw [length_partsBetween];have:=StrLaws.occ_length_le a b 0 a.length (a.length + 1);exact Zx (by omega) N5
 have go:∀ (l:List (Str × Tok)) (k:Nat),l.map (·.1)=Txt.split a b->EP X pins σ Q (.ref s.heap.objs.size) { s with toks:=k,heap:=s.heap.push { cls:=.type "list",data:=.seq (strValues l).toArray } }:=fun l k e =>
  ⟨.ref s.heap.objs.size,_,I.laid (t':=k) (o:=.lst ((Txt.split a b).map V.str)) (fun _ _ q=>Heap.get?_push_of_some _ q) (Zv _) ⟨by rw [Zl]; exact hz,strValues l,0,by rw [<- e]; exact A1w l,Heap.get?_push_size _ rfl⟩,rfl,q'⟩
 cases h1:(decide (a.length < b.length) || decide (strKind a < strKind b)) with
 | true =>
  refine call_meets F.slot_str_split (typeIs_str _ _ _) F.entry_str_split (F.args_str_split_2 _ _) (meets_str_split_cannot_occur a b t t2 h1) ?_;exact go [(a,t)] s.toks (if_pos h1).symm
 | false =>
  cases hf:(occurrences a b 0 a.length (a.length + 1)).isEmpty with
  | true =>
   refine call_meets F.slot_str_split (typeIs_str _ _ _) F.entry_str_split (F.args_str_split_2 _ _) (meets_str_split_not_found a b t t2 h1 hb hf) ?_;exact go [(a,t)] s.toks ((if_neg (ne_true_of_eq_false h1)).trans (if_pos hf)).symm
  | false =>
   refine call_meets F.slot_str_split (typeIs_str _ _ _) F.entry_str_split (F.args_str_split_2 _ _) (meets_str_split_sep a b t t2 h1 hb hf ha hn) ?_;show EP X pins σ Q _ { s with toks:=_,heap:=s.heap.push { cls:=.type "list",data:=.seq (strsFrom s.toks (partsBetween a (occurrences a b 0 a.length (a.length + 1)) b.length)).toArray } };rw [strsFrom_eq];exact go (numbered s.toks _) _ ((numbered_texts _ _).trans ((if_neg (ne_true_of_eq_false h1)).trans (if_neg (ne_true_of_eq_false hf))).symm)
end L2
namespace Pu
open PySem L2 My Prf
theorem A7s {K:Frag} {F:Hpp}:∀ zs:List Str,DenAll K F (zs.map V.str) (zs.map .str)
 | []=>.nil
 | z :: r=>.cons (.str z) (A7s r)
def B1b (po pa:PDt) (env:PEnv) (Q:SV->PEnv->Prop):Prop:=po env fun x e1=>asS x fun a=>pa e1 fun y e2=>asS y fun b=>(b.length == 0)=false/\a.length<=90000/\Q (.own ((Txt.split a b).map .str)) e2
instance re_splitT {K:Frag} {to ta:TE} {po pa:PDt} [ho:RW K to po] [ha:RW K ta pa]:RE K (tBM K "str" B87 to (J3 ta tNil)) (B1b po pa) where
 ok:=by
  rintro c w env σ Qp Q rfl E p k;refine ho.ok c w env σ _ _ rfl E p fun v x e1 w1 E1 l1 d1 q1=>?_;unfold asS at q1;split at q1
  ·have ev:=d1.strE;subst ev;refine ⟨rfl,ha.ok c w1 e1 σ _ _ rfl E1 q1 fun u y e2 w2 E2 l2 d2 q2=>?_⟩;unfold asS at q2;split at q2
   ·exact ⟨_,_,rfl,by rw [d2.strE],q2.1,q2.2.1,fun p hp=>k _ _ e2 _ ((Res.lst E2 hp (A7s _)).pre (l1.trans l2)) q2.2.2⟩
   ·exact q2.elim
  ·exact q1.elim
end Pu
namespace L2
open PySem PySem.Spec PyProof.Rows
def B88 (K:PySem.W.Frag):V->List V->Hp->VK->Prop:=fun x vs H Q=>∃ sep p zs,x=.str sep/\vs=[.ref p]/\SqL K H p (zs.map V.str)/\(zs.map fun z=>z.length + sep.length).sum<=90000/\Q (.str (sep.join zs)) H
theorem Q0 {X:Cx} {K:PySem.W.Frag} (hK:X.K=K):MtR X "str.join" (B88 K):=by
 subst hK;intro pins s σ H x vs v us Q I rx rv h;obtain ⟨sep,p,zs,rfl,rfl,hq,hl,q⟩:=h;obtain ⟨t,rfl⟩:=rx;obtain ⟨u,rfl,ru⟩:=rv.one;cases ru;obtain ⟨its,r,pl,hz⟩:=I.list hq;obtain ⟨l,rfl,e⟩:=A10 r;have h10:=N5;have long:Builtin.Str.tooLong (Array.foldl (fun x1 x2=>x1 + x2.length + sep.length) 0 (List.map (fun x=>x.fst) l).toArray)=false:=by
  rw [List.foldl_toArray,A7j,e];unfold Builtin.Str.tooLong;simp;omega
 have hj:=B7v (sep:=sep) (zs:=zs);refine call_meets F.slot_str_join (typeIs_str s sep t) F.entry_str_join (F.args_str_join_2 _ _) (meets_str_join_list sep t p l long) ⟨pl.isList,?_⟩;subst e;rw [<- StrLaws.glued_eq_join] at q hj;rcases l with _ | ⟨a,_ | ⟨b,r⟩⟩
 ·exact ⟨by omega,.str _,H,I.tok _,⟨_,rfl⟩,q⟩
 ·exact ⟨.str _,H,I,⟨_,rfl⟩,q⟩
 ·exact ⟨by omega,.str _,H,I.tok _,⟨_,rfl⟩,q⟩
end L2
namespace Pu
open PySem L2 My Prf
def B1s (po pa:PDt) (env:PEnv) (Q:SV->PEnv->Prop):Prop:=po env fun x e=>asS x fun sep=>pa e fun y e2=>asL y fun ys=>∃ zs,A0z ys=some zs/\(zs.map fun z=>z.length + sep.length).sum<=90000/\Q (.d (.str (sep.join zs))) e2
instance re_joinB {K:Frag} {to ta:TE} {po pa:PDt} [ho:RW K to po] [ha:RW K ta pa]:RE K (tBM K "str" (B88 K) to (J3 ta tNil)) (B1s po pa) where
 ok:=by
  rintro c w env σ Qp Q rfl E p k;refine ho.ok c w env σ _ _ rfl E p fun v x e1 w1 E1 l1 d1 q1=>?_;unfold asS at q1;split at q1
  ·rename_i sep;have ev:=d1.strE;subst ev;refine ⟨rfl,ha.ok c w1 e1 σ _ _ rfl E1 q1 fun u y e2 w2 E2 l2 d2 q2=>?_⟩;unfold asL at q2;split at q2
   ·obtain ⟨zs,hz,hl,q⟩:=q2;obtain ⟨a,us,e,h1,h2⟩:=d2.lst E2.wok;exact ⟨sep,a,zs,rfl,by rw [e],by rw [<- A11 h2 hz]; exact h1,hl,k _ _ e2 w2 ((Res.data E2 (.str _)).pre (l1.trans l2)) q⟩
   ·exact q2.elim
  ·exact q1.elim
end Pu
namespace L2
open PySem PySem.Spec PyProof.Rows
theorem A2d {X:Cx} {c a b:Expr} {pos pos2:Pos} {tc:TT} {ta tb:TE} (hc:QT X c tc) (ha:QE X a ta) (hb:QE X b tb):QS X (.Return (some (.IfExp c a b pos)) pos2) (tIfS tc (tRet ta) (tRet tb)):=⟨A2h (A6b hc.out ha.out hb.out)⟩
end L2
namespace L2
open PySem PySem.Spec PyProof.Rows
end L2
namespace Pu
open PySem L2 My Prf
def C69 (i:Nat) (pb:PDt) (env:PEnv) (Q:SV->PEnv->Prop):Prop:=N9 env[i]? fun xs=>pb env fun y e2=>∃ n:Int,y=.int n/\0<=n/\n<=1000/\xs.length<=1000/\Q (.own (List.replicate n.toNat xs).flatten) e2
end Pu
namespace L2
open PySem PySem.Spec PyProof.Rows
abbrev Cx.kept (X:Cx) (a:Addr) (oe:Obj):Cx:={ X with pn:=(a,oe) :: X.pn }
section
variable {X:Cx}
variable {C CH:Addr} {xh n:Str} {pos pos2:Pos} {b0:Stmt} {suite:List Stmt} {rest:List Stmt}
variable {k:Nat} {f:Addr} {fd:FuncData} {ps:List Str} {sp:Sp} {x:Str} {p pos5 pos6 pos7:Pos} {e:Expr} {es:List Expr} {t:TA}
end
end L2
namespace L2
open PySem PySem.Spec PyProof.Rows
section
variable {X:Cx} {a C:Addr} {oe:Obj} {i:Nat} {b:Bool}
end
section
variable {X:Cx} {C fI a:Addr} {fld y qual n:Str} {st:Stmt} {fd:FuncData} {N:List Str} {oe:Obj} {i:Nat} {pos p1:Pos}
end
end L2
namespace Pu
open PySem PySem.Spec PyProof.Rows L2 My Prf
def C6z (psp:List SV->PyData->Prop) (pa:PAs) (i j:Nat) (ps:PyData->PSt) (D:PEnds) (env:PEnv):Prop:=i≠j/\j < env.length/\pa env fun as e=>e.length=env.length/\∃ x,psp as x/\ps x D (((e.set i none).set j none).set i none)
end Pu
namespace L2
open PySem PySem.Spec PyProof.Rows
end L2
namespace Pu
open PySem PySem.Spec PyProof.Rows L2 My Prf
def pRK (psp:PSp) (n:Int) (x:PyData) (D:PEnds) (env:PEnv):Prop:=psp [.d x,.d (.int n)] fun s=>∃ b:Bool,s=.d (.bool b)/\D.rt (.d (.bool b)) env
end Pu
namespace L2
open PySem PySem.Spec PyProof.Rows
section
variable {X:Cx}
theorem C6c {tg iter:Expr} {wi:TI} (h:QI X.nox tg iter wi):QI X tg iter wi:=⟨fun pins s σ H R I hw =>
 wpAny_mono (h.out pins s σ H R (I.wish _) hw) (fun _ _ q=>wpAny_mono q (fun _ _ ⟨it,fp,tn,J,H',e,I2,T,t0,fo,r⟩=>⟨it,fp,tn,J,H',e,I2.unwish,T,t0,fo,r⟩) fun _ _ z=>False.elim z) fun _ _ z=>False.elim z⟩
theorem C6d {tg:Expr} {g:TG} (h:QG X.nox tg g):QG X tg g:=⟨fun pins s σ H x u Q I r hw =>
 wpAny_mono (h.out pins s σ H x u Q (I.wish _) r hw) (fun _ _ ⟨σ',H',I2,q⟩=>⟨σ',H',I2.unwish,q⟩) fun _ _ z=>False.elim z⟩
end
section
variable {M:Model} {A:Around} {E:Value->Shared->Prop} {s:Shared}
def Fr (h B:Heap) (x:Addr) (c a0:Value):Prop:=(∃ ox,h.get? x=some ox/\ox.cls=c/\ox.data=.fields #[a0,.none,.none,.none,.bool false,.none])\/∃ fl,h.TracedAtW B x c a0 fl
theorem B7k {B:Heap} {env:Env} {outer:List Env} {L x:Addr} {c z:Value} {Q:Unit->Shared->Prop} (hA:A.frames=some (env :: outer)) (hL:env.frame=some L) (m1:B.StaysIn s.heap) (m0:B.get? x=none) (m2:s.heap.FunFrames B (env :: outer)) (m3:Fr s.heap B x c z)
  (k:∀ g,B.StaysIn g->g.FunFrames B (env :: outer)->(∃ fl,g.TracedAtW B x c z fl)->s.heap.UpToSlots g->Q () { s with heap:=g }):wpAny M A (noteFrame (.ref x) env) Q E s:=by
 rcases m3 with ⟨ox,e1,rfl,e3⟩ | ⟨fl,m3⟩
 ·unfold noteFrame;simp only [hL];refine wpAny_bind (wpAny_field e1 e3 (show (#[z,.none,.none,.none,.bool false,.none]:Array Value)[1]?=some Value.none from rfl) ?_);rw [if_neg (by decide)];exact wpAny_entryW hA m2 hL e1 m1 m0 e3 (show 1 < 6 by decide) rfl fun g ⟨y1,y2,y3,y4⟩=>k g y1 y2 ⟨_,y3⟩ y4
 ·by_cases hm:(fl == rawInt L)=true
  ·have hm:fl=rawInt L:=by simpa using hm
   subst hm;refine wpAny_noteFrame_againW hL m3 (k s.heap m1 m2 ⟨_,m3⟩ fun b o q n=>⟨o.slots,q⟩)
  ·obtain ⟨ox,us,T,ot,ws,e1,⟨rfl,e2⟩,e3,e4,e5,e6,e7,e8,e9⟩:=m3;have off:∀ b,b≠T->(s.heap.update T (Obj.mapFields (·.setIfInBounds 3 .none))).get? b=s.heap.get? b:=fun b q=>Heap.get?_update_other _ _ (Ne.symm q);have nT:∀ b o,s.heap.get? b=some o->(∀ v,o.data≠.fields v)->b≠T:=fun b o q n z=>by
    rw [z,e7] at q; cases q; exact n ws e8
   unfold noteFrame;simp only [hL];refine wpAny_bind (wpAny_field e1 e3 e4 ?_);rw [if_pos (by simp:(Value.ref T != Value.none)=true)];refine wpAny_bind (wpAny_field e7 e8 e9 ?_);rw [if_neg hm];refine wpAny_bind (wpAny_setField e7 e8 (Array.getElem?_eq_some_iff.mp e9).1 ?_);refine wpAny_entryW hA (m2.of_keeps fun b o q n=>⟨o,(off b (nT b o q n)).trans q,rfl⟩) hL ((off x (Ne.symm e6)).trans e1) (fun b o q=>(off b fun z=>by rw [z,e5] at q; cases q).trans (m1 b o q)) m0 e3 (Array.getElem?_eq_some_iff.mp e4).1 e2 ?_;rintro g ⟨y1,y2,y3,y4⟩;exact k g y1 y2 ⟨_,y3⟩ fun b o q n=>y4 b o ((off b (nT b o q n)).trans q) n
end
section
variable {P:Program} {w:World} {K:PySem.W.Frag} {mg:Str->Option Value} {base:Heap} {N:List Str} {qual:Str} {scope:Scope} {f:Addr} {cd:Value} {A:Around} {outer:List Env} {s0:Shared} {H0:Hp} {E:XK}
def Lx (P:Program) (w:World) (env:Env) (outer:List Env) (H0:Hp) (s0:Shared) (E:XK) (e:Value) (s:Shared):Prop :=
 ∃ (a:Addr) (c a0:Value) (dx:Option Addr) (B:Heap),e=.ref a/\B.StaysIn s.heap/\B.get? a=none/\s.heap.FunFrames B (env :: outer)/\DictAt s.heap a dx/\Fr s.heap B a c a0 /\
  ∀ h',Heap.FlyingW B outer a c a0 h'->s.heap.UpToSlots h'->DictAt h' a dx->CX2 P w outer H0 s0 E (.ref a) { s with heap:=h' }
theorem ups {h1 h2 h3:Heap} (a:h1.UpToSlots h2) (b:h2.UpToSlots h3):h1.UpToSlots h3:=fun x o q n=>by
 obtain ⟨sl,q2⟩:=a x o q n;obtain ⟨sl3,q3⟩:=b x _ q2 n;exact ⟨sl3,q3⟩
abbrev cxL (P:Program) (w:World) (K:PySem.W.Frag) (mg:Str->Option Value) (base:Heap) (N:List Str) (qual:Str) (scope:Scope) (f:Addr) (cd:Value) (A:Around) (outer:List Env) (s0:Shared) (H0:Hp) (E:XK):Cx :=
 (cxOf (CX2 P w) P w K mg base N qual scope f cd A outer s0 H0 E).wish (Lx P w (envOfC qual scope s0.heap.objs.size f cd) outer H0 s0 E)
theorem C8w {e:Value} {s:Shared} (hfr:(A.deeper (envOfC qual scope s0.heap.objs.size f cd)).frames=some (envOfC qual scope s0.heap.objs.size f cd :: outer)) (h:Lx P w (envOfC qual scope s0.heap.objs.size f cd) outer H0 s0 E e s):(cxOf (CX2 P w) P w K mg base N qual scope f cd A outer s0 H0 E).xe e s:=by
 obtain ⟨a,c,a0,dx,B,rfl,m1,m0,m2,d,m3,k⟩:=h;rcases m3 with ⟨ox,e1,rfl,e3⟩ | ⟨fl,m3⟩
 ·obtain ⟨o2,q1,q2⟩:=d;have:o2=ox:=by rw [e1] at q1; exact (Zj q1).symm
  subst this;subst q2;exact A43 hfr rfl m2 e1 e3 m1 m0 fun h' hf hs D=>k h' hf hs D
 ·have z:wpAny (model P w) (A.deeper (envOfC qual scope s0.heap.objs.size f cd)) (leaving (envOfC qual scope s0.heap.objs.size f cd) (.ref a)) (fun _ s'=>∃ h',s'={ s with heap:=h' }/\Heap.FlyingW B outer a c a0 h'/\s.heap.UpToSlots h') (fun e' s''=>CX2 P w outer H0 s0 E e' s'') s :=
   A8w hfr rfl m1 m0 m2 m3 fun h' q1 q2=>⟨h',rfl,q1,q2⟩
  refine wpAny_mono (still_leaving.any z) (fun _ s' q=>?_) fun _ _ q=>q.1;obtain ⟨⟨h',rfl,q1,q2⟩,kd⟩:=q;exact k h' q1 q2 (d.kept kd)
theorem C8v (hfr:(A.deeper (envOfC qual scope s0.heap.objs.size f cd)).frames=some (envOfC qual scope s0.heap.objs.size f cd :: outer)):PassesOwn (model P w) (A.deeper (envOfC qual scope s0.heap.objs.size f cd)) (envOfC qual scope s0.heap.objs.size f cd) (Lx P w (envOfC qual scope s0.heap.objs.size f cd) outer H0 s0 E):=by
 rintro e s ⟨a,c,a0,dx,B,rfl,m1,m0,m2,d,m3,k⟩;unfold notedBy;have z:wpAny (model P w) (A.deeper (envOfC qual scope s0.heap.objs.size f cd)) (noteFrame (.ref a) (envOfC qual scope s0.heap.objs.size f cd)) (fun _ s'=>∃ g,s'={ s with heap:=g }/\B.StaysIn g/\g.FunFrames B (envOfC qual scope s0.heap.objs.size f cd :: outer)/\(∃ fl,g.TracedAtW B a c a0 fl)/\s.heap.UpToSlots g) (fun _ _=>False) s :=
  B7k hfr rfl m1 m0 m2 m3 fun g q1 q2 q3 q4=>⟨g,rfl,q1,q2,q3,q4⟩
 refine wpAny_mono (still_noteFrame.any z) (fun _ s' q=>?_) fun _ _ q=>q.1.elim;obtain ⟨⟨g,rfl,q1,q2,⟨fl,q3⟩,q4⟩,kd⟩:=q;have d2:DictAt g a dx:=d.kept kd;unfold cameBackBy;obtain ⟨ox,us,T,ot,ws,e1,e2,e3,e4,e5⟩:=id q3;refine wpAny_bind (wpAny_field e1 e3 e4 ?_);rw [if_neg (by simp:¬ (Value.ref T == Value.none)=true)];have z2:wpAny (model P w) (A.deeper (envOfC qual scope s0.heap.objs.size f cd)) (setFlight (.ref a) (envOfC qual scope s0.heap.objs.size f cd).frame) (fun _ s'=>∃ g2,s'={ s with heap:=g2 }/\B.StaysIn g2/\g2.FunFrames B (envOfC qual scope s0.heap.objs.size f cd :: outer)/\(∃ fl,g2.TracedAtW B a c a0 fl)/\g.UpToSlots g2) (fun _ _=>False) { s with heap:=g } :=
  B7n (s:={ s with heap:=g }) q1 q2 q3 fun g2 r1 r2 r3 r4=>⟨g2,rfl,r1,r2,r3,r4⟩
 refine wpAny_mono (still_setFlight.any z2) (fun _ s' q=>?_) fun _ _ q=>q.1.elim;obtain ⟨⟨g2,rfl,r1,r2,r3,r4⟩,kd2⟩:=q;exact ⟨a,c,a0,dx,B,rfl,r1,m0,r2,d2.kept kd2,.inr r3,fun h' hf hs D=>k h' hf (ups q4 (ups r4 hs)) D⟩
theorem C3k:A4b (CX2 P w) (cxL P w K mg base N qual scope f cd A outer s0 H0 E) E:=by
 rintro pins σ H s e s' I ⟨a,cls,a0,dx,H',B,rfl,F,D,q⟩;replace I:=I.unwish;have nx:∀ b:Addr,b ∉ (cxOf (CX2 P w) P w K mg base N qual scope f cd A outer s0 H0 E).ex:=fun b z=>absurd z (List.not_mem_nil);refine ⟨a,cls,a0,dx,B,rfl,F.fly.1,F.fly.2.1,F.fly.2.2.1,D,.inr ⟨_,F.fly.2.2.2.at⟩,fun h' hf hs D'=>?_⟩;refine ⟨a,cls,a0,dx,H',B,rfl,⟨F.os.trans I.os,F.bare,hf,F.hok,fun b o e n hb=>?_,fun b o e n hb=>?_,fun b o e n=>?_,fun b o e hb=>?_,fun b xs e=>F.tups b xs (I.base.tups b xs e),fun b o u e=>F.frzs b o u (I.base.frzs b o u e),fun b ps e=>?_⟩,D',q⟩
 ·exact F.keep b o (I.base.keep b o e n hb (nx b)) (I.base.free b o e n (nx b)) (A28 I e hb)
 ·obtain ⟨sl,e1⟩:=I.base.slot b o e n hb (nx b);have hb2:b ∈ frs (cxOf (CX2 P w) P w K mg base N qual scope f cd A outer s0 H0 E).stack:=by
   show b ∈ List.filterMap _ (_ :: outer);rw [List.filterMap_cons];split
   ·exact hb
   ·exact Zr _ hb
  obtain ⟨sl2,e2⟩:=F.slot b _ e1 (I.base.free b o e n (nx b)) hb2;obtain ⟨_,o',ho,hn⟩:=F.fly.2.2.1.mem hb2;rw [e2] at ho; cases ho;obtain ⟨sl3,e3⟩:=hs b _ e2 hn;exact ⟨sl3,e3⟩
 ·obtain ⟨o',e1⟩:=I.base.there b o e (nx b);exact F.free b o' e1 (I.base.free b o e n (nx b))
 ·obtain ⟨o',e1⟩:=I.base.there b o e (nx b);exact F.there b o' e1 (A28 I e hb)
 ·obtain ⟨m1,e1⟩:=I.base.tbls b ps e;obtain ⟨m2,e2⟩:=F.tbls b _ e1;exact ⟨m1++m2,by rw [e2,Array.append_assoc]⟩
theorem C1y:B5w (cxL P w K mg base N qual scope f cd A outer s0 H0 E) E:=by
 intro pins σ H H2 s s2 e oe a0 I os bare en e2n he hd un ff fr hok q;replace I:Inv (cxOf (CX2 P w) P w K mg base N qual scope f cd A outer s0 H0 E) pins σ H s:=I.unwish;show Lx P w (envOfC qual scope s0.heap.objs.size f cd) outer H0 s0 E (.ref e) s2;replace un:Un (frs (cxOf (CX2 P w) P w K mg base N qual scope f cd A outer s0 H0 E).stack) [] H H2 s.heap s2.heap:=un;replace ff:s2.heap.FunFrames (cxOf (CX2 P w) P w K mg base N qual scope f cd A outer s0 H0 E).base (cxOf (CX2 P w) P w K mg base N qual scope f cd A outer s0 H0 E).stack:=ff;replace fr:∀ b ∈ frs (cxOf (CX2 P w) P w K mg base N qual scope f cd A outer s0 H0 E).stack,H2 b=none:=fr;replace hok:HOk (cxOf (CX2 P w) P w K mg base N qual scope f cd A outer s0 H0 E).prog (cxOf (CX2 P w) P w K mg base N qual scope f cd A outer s0 H0 E).w H2 s2.heap:=hok;generalize hX:cxOf (CX2 P w) P w K mg base N qual scope f cd A outer s0 H0 E=X at *;have nx:∀ b:Addr,b ∉ X.ex:=by subst hX; exact fun b z=>absurd z (List.not_mem_nil)
 have enf:e ∉ frs X.stack:=fun z=>by
  obtain ⟨_,o',ho,_⟩:=I.stack.mem z;rw [en] at ho; cases ho
 have hB:∀ b o,s2.heap.get? b=some o->b≠e->b ∉ frs X.stack->(PySem.W.hideAll s2.heap (e :: frs X.stack)).get? b=some o:=fun b o z n m=>PySem.W.hideAll_get _ z fun y=>by
  rcases List.mem_cons.mp y with y | y
  ·exact n y
  ·exact m y
 have hin:∀ env ∈ X.stack,∀ a,env.frame=some a->a ∈ e :: frs X.stack:=fun env he a ha=>Zr _ (List.mem_filterMap.mpr ⟨env,he,ha⟩);have frs0:∀ b,b ∈ X.fs->b ∈ frs X.stack:=by
  subst hX;intro b hb;show b ∈ List.filterMap _ (_ :: outer);rw [List.filterMap_cons];split
  ·exact hb
  ·exact Zr _ hb
 have ne:∀ b o,X.s₀.heap.get? b=some o->b≠e:=fun b o z y=>by
  subst y;obtain ⟨o',z'⟩:=I.base.there b o z (nx b);rw [en] at z'; cases z'
 have FF:=PySem.W.funFrames_hide ff hin;have ST:(PySem.W.hideAll s2.heap (e :: frs X.stack)).StaysIn s2.heap:=fun b o z=>PySem.W.of_hideAll _ z;have EN:(PySem.W.hideAll s2.heap (e :: frs X.stack)).get? e=none:=PySem.W.hideAll_none _ Zy;have goal:∀ h',Heap.FlyingW (PySem.W.hideAll s2.heap (e :: frs X.stack)) outer e oe.cls a0 h'->s2.heap.UpToSlots h'->DictAt h' e oe.dict->CX2 P w outer H0 s0 E (.ref e) { s2 with heap:=h' }:=by
  intro h' hf hs D;subst hX;have nil:∀ b:Addr,b ∉ ([]:List Addr):=fun b z=>absurd z List.not_mem_nil;refine ⟨e,oe.cls,a0,oe.dict,H2,_,rfl,⟨os.trans I.os,bare,hf,fun b ob z=>?_,fun b o z n hb=>?_,fun b o z n hb=>?_,fun b o z n=>?_,fun b o z hb=>?_,fun b xs z=>un.tups b xs (I.base.tups b xs z),fun b o u z=>un.frzs b o u (I.base.frzs b o u z),fun b ps z=>?_⟩,D,q⟩
  ·refine (hok b ob z).stay (fun c v hc y=>hB c v y (fun m=>?_) (fun m=>?_)) (fun _ y=>y) (fun _ _ y=>y)
   ·subst m;rcases hc with rfl | hc
    ·rw [e2n] at z; cases z
    ·rw [e2n] at hc; cases hc
   ·have nn:=fr c m;rcases hc with rfl | hc
    ·rw [nn] at z; cases z
    ·rw [nn] at hc; cases hc
  ·exact hB b o (un.keep b o (I.base.keep b o z n hb (nx b)) (I.base.free b o z n (nx b)) (A28 I z hb) (nil b)) (ne b o z) (A28 I z hb)
  ·obtain ⟨sl,e1⟩:=I.base.slot b o z n hb (nx b);obtain ⟨sl2,e2⟩:=un.slot b _ e1 (I.base.free b o z n (nx b)) (frs0 b hb) (nil b);obtain ⟨_,o',ho,hn⟩:=ff.mem (frs0 b hb);rw [e2] at ho; cases ho;obtain ⟨sl3,e3⟩:=hs b _ e2 hn;exact ⟨sl3,e3⟩
  ·obtain ⟨o',e1⟩:=I.base.there b o z (nx b);exact un.free b o' e1 (I.base.free b o z n (nx b)) (nil b)
  ·obtain ⟨o',e1⟩:=I.base.there b o z (nx b);obtain ⟨o2,e2⟩:=un.there b o' e1 (nil b);exact ⟨o2,hB b o2 e2 (ne b o z) (A28 I z hb)⟩
  ·obtain ⟨m1,e1⟩:=I.base.tbls b ps z;obtain ⟨m2,e2⟩:=un.tbls b _ e1;exact ⟨m1++m2,by rw [e2,Array.append_assoc]⟩
 subst hX;exact ⟨e,oe.cls,a0,oe.dict,_,rfl,ST,EN,FF,⟨oe,he,rfl⟩,.inl ⟨oe,he,rfl,hd⟩,fun h' hf hs D=>goal h' hf hs D⟩
theorem B6n {iter tg:Expr} {body:List Stmt} {wi:TI} {g:TG} {tb:TS} {pos:Pos} (hi:QI (cxL P w K mg base N qual scope f cd A outer s0 H0 E).nox tg iter wi) (hg:QG (cxL P w K mg base N qual scope f cd A outer s0 H0 E).nox tg g) (hb:QSs (cxL P w K mg base N qual scope f cd A outer s0 H0 E) body tb)
  (hs:∀ x,foldedSetIterable iter (cxL P w K mg base N qual scope f cd A outer s0 H0 E).env x=pure x:=by intro _; rfl):QS (cxL P w K mg base N qual scope f cd A outer s0 H0 E) (.For tg iter body [] pos) (tFor wi g tb) :=
 ⟨fun pins s σ H D I h=>B0j (X:=cxL P w K mg base N qual scope f cd A outer s0 H0 E) (C8v I.ok.frames) rfl (C6c hi).out (C6d hg).out hb.out hs pins s σ H D I h⟩
theorem C20 {st:List Stmt} {t:TS} (h:QSs (cxL P w K mg base N qual scope f cd A outer s0 H0 E) st t):PSs (cxOf (CX2 P w) P w K mg base N qual scope f cd A outer s0 H0 E) st t:=fun pins s σ H D I hw =>
 wpAny_mono (h.out pins s σ H D (I.wish _) hw) (fun _ _ q=>q.unwish) fun _ _ z=>C8w I.ok.frames z
end
end L2
namespace Pu
open PySem PySem.Spec PyProof.Rows L2 My Prf
instance rsx_for {K:Frag} {w0:Wd} {wi:TI} {g:TG} {tb:TS} {pi:PAr} {pg:PyData->PEnv->(PEnv->Prop)->Prop} {pb:PSt} [hi:RI K wi pi] [hg:RG K g pg] [hb:RSX K w0 tb pb]:RSX K w0 (tFor wi g tb) (pFor pi pg pb) where
 ok:=by
  rintro c w env σ Dp D rfl rfl E h p;refine hi.ok c w env σ _ _ rfl E p fun J xs e1 w1 E1 l1 wk ⟨Iv,i0,step,fin⟩=>?_;refine ⟨fun i m σ' H'=>m=xs.length - i/\i<=xs.length/\∃ e w',w'.H=H'/\EnvOk c w' e σ'/\Same w1.F w'.F/\Iv i e,⟨xs.length,rfl,Nat.zero_le _,e1,w1,rfl,E1,Same.refl _,i0⟩,?_⟩;rintro i m σ2 _ ⟨rfl,hle,e2,w2,rfl,E2,s2,i2⟩;obtain ⟨go,stop,yld⟩:=wk w2 E2.wok E2.le0 s2;by_cases hlt:i < xs.length
  ·refine .inr ⟨go i hlt,fun σ' H'=>i + 1<=xs.length/\∃ e w',w'.H=H'/\EnvOk c w' e σ'/\Same w1.F w'.F/\Iv (i + 1) e,fun σ' H' ⟨q0,q⟩=>⟨xs.length - (i + 1),by omega,rfl,q0,q⟩,fun v H' y=>?_⟩;obtain ⟨w2',x,rfl,ok2,le2,hx,dx⟩:=yld i v H' y hlt;replace E2:=E2.mono ok2 le2;replace s2:=s2.trans le2.f;clear yld go stop y le2 ok2;generalize w2'=w2 at E2 s2 dx;refine hg.ok c w2 e2 σ2 v x _ _ rfl E2 dx (step i x e2 hx i2) fun e3 σ3 E3 q3=>?_;refine hb.ok c w2 e3 σ3 ⟨Iv (i + 1),Dp.rt,Dp.nx,Iv (i + 1)⟩ _ rfl rfl E3 ⟨fun e4 σ4 w4 E4 s4 n4=>⟨hlt,e4,w4,rfl,E4,s2.trans s4,n4⟩,h.rt,fun e4 σ4 w4 E4 s4 n4=>h.nx e4 σ4 w4 E4 (l1.f.trans (s2.trans s4)) n4,fun e4 σ4 w4 E4 s4 n4=>⟨hlt,e4,w4,rfl,E4,s2.trans s4,n4⟩⟩ q3
  ·have e:i=xs.length:=by omega
   subst e;exact .inl ⟨stop,h.nx e2 σ2 w2 E2 (l1.f.trans s2) (fin e2 i2)⟩
def tXL (w0:Wd) (K:Frag) (md:List Md) (psp:List SV->PyData->Prop) (x:PyData) (ta:TA):TE:=fun σ H _=>ta σ H fun vs H1=>∃ (w:Wd) (as:List SV),w.H=H1/\w.Ok/\Args K w md vs as/\psp as x/\Le w0 w
section
variable {P:Program} {w:World} {K:PySem.W.Frag} {mg:Str->Option Value} {base:Heap} {N:List Str} {qual:Str} {scope:Scope} {f:Addr} {cd:Value} {A:Around} {outer:List Env} {s0:Shared} {H0:Hpp} {E:XK} {w0:Wd}
theorem A8a {k:Nat} {g C:Addr} {fd:FuncData} {ps:List Str} {md:List Md} {fld:Str} {psp:List SV->PyData->Prop} {z:PyData} {x:Str} {p pos:Pos} {e:Expr} {es:List Expr} {t:TA} (hk:∀ w' d v,w'.Ok->Le w0 w'->w'.H d=some (.xd [(fld,v)])->Den K w'.F v z->E (.ref C) (some d) w'.H)
  (F:FnOk P w K mg base (CX2 P w) k g fd ps (spE2 K md C fld psp)) (hr:Room k (cxL P w K mg base N qual scope f cd A outer s0 H0 E).A) (hg:Gl (cxL P w K mg base N qual scope f cd A outer s0 H0 E) x) (hm:mg x=some (.ref g)) (hkp:PySem.W.keepIn K (.ref g)=true) (hb:Binds K fd ps [])
  (ha:QA (cxL P w K mg base N qual scope f cd A outer s0 H0 E).nox (e :: es) t) (hdb:(x == ("__debug__":Str))=false:=by decide) (he:starEach (e :: es) (cxL P w K mg base N qual scope f cd A outer s0 H0 E).env=(false,eval e (cxL P w K mg base N qual scope f cd A outer s0 H0 E).env) :: starEach es (cxL P w K mg base N qual scope f cd A outer s0 H0 E).env:=by rfl)
  (hpl:(backTo pos (starEach es (cxL P w K mg base N qual scope f cd A outer s0 H0 E).env)).any (·.1)=false:=by rfl):QE (cxL P w K mg base N qual scope f cd A outer s0 H0 E) (.Call (.Name x p) (e :: es) [] pos) (tXL w0 K md psp z t):=⟨by
 intro pins s σ H Q I h;refine wpAny_Call_Name_kw (U6 I hg hm ?_ hdb);refine PySem.W.callWith_K (h₀:=base) I.ok.mod.kin hkp (wpAny_mono (ha.out pos pins s σ H _ (I.wish _) h) (fun us s1 ⟨vs,H1,I1,r,wd,as,e1,e2,e3,e4,e5⟩=>⟨I1.unwish.kIn,?_⟩) fun _ _ z=>z.elim) he hpl;refine B83 F hr hb .nil C3k (I1.unwish (X:=cxL P w K mg base N qual scope f cd A outer s0 H0 E)) r ?_;rw [List.append_nil];exact ⟨wd,as,z,e1,e2,e3,e4,fun w' d v ok l hd dn=>hk w' d v ok (e5.trans l) hd dn⟩⟩
theorem M1 {x fld y qualI:Str} {C fI:Addr} {stI:Stmt} {fdI:FuncData} {NI:List Str} {pos np cpos:Pos} {e:Expr} {te:TE} {z:PyData}
  (hk:∀ w' d v,w'.Ok->Le w0 w'->w'.H d=some (.xd [(fld,v)])->Den K w'.F v z->E (.ref C) (some d) w'.H) (J:InitX K C fI fld y qualI stI fdI NI)
  (hr:Room 2 (cxL P w K mg base N qual scope f cd A outer s0 H0 E).A) (hg:Gl (cxL P w K mg base N qual scope f cd A outer s0 H0 E) x) (hm:mg x=some (.ref C)) (he:QE (cxL P w K mg base N qual scope f cd A outer s0 H0 E) e te)
  (hd:(x == ("__debug__":Str))=false:=by decide) (hpl:(backTo cpos (starEach [e] (cxL P w K mg base N qual scope f cd A outer s0 H0 E).env)).any (·.1)=false:=by rfl) (hse:starEach [e] (cxL P w K mg base N qual scope f cd A outer s0 H0 E).env=(false,eval e (cxL P w K mg base N qual scope f cd A outer s0 H0 E).env) :: starEach [] (cxL P w K mg base N qual scope f cd A outer s0 H0 E).env:=by rfl) :
  QS (cxL P w K mg base N qual scope f cd A outer s0 H0 E) (.Raise (some (.Call (.Name x np) [e] [] cpos)) none pos) (A5q K w0 te fld z) :=
 ⟨fun pins s σ H D I h=>by
  refine B0h (R:=fun v H1=>∀ d,H1 d=none->∃ w':Wd,w'.H=upd H1 d (.xd [(fld,v)])/\w'.Ok/\Le w0 w'/\Den K w'.F v z) (fun v H1 q d hn=>?_) J C1y rfl hr hg hm he.out hd hpl hse pins s σ H D I h;obtain ⟨w',eH,ok,l,dn⟩:=q d hn;rw [<- eH];exact hk w' d v ok l (by rw [eH,B5]) dn⟩
end
theorem D0o {X:Cx} {e:Expr} {t:TE} (h:QE X.nox e t):QE X e t:=⟨PE.nox h.out⟩
class REX (K:Frag) (w0:Wd) (te:TE) (px:outParam (PEnv->Prop)):Prop where
 ok:∀ (c:Ct) (w:Wd) (env:PEnv) (σ:L2.St) (Q:VK),c.K=K->c.w0=w0->EnvOk c w env σ->px env->te σ w.H Q
def pXc (pa:PAs) (psp:List SV->PyData->Prop) (x:PyData) (env:PEnv):Prop:=pa env fun as _=>psp as x
instance rex_call {K:Frag} {w0:Wd} {md:List Md} {psp:List SV->PyData->Prop} {x:PyData} {ta:TA} {pa:PAs} [ha:RAm K md ta pa]:REX K w0 (tXL w0 K md psp x ta) (pXc pa psp x) where
 ok:=by
  rintro c w env σ Q rfl rfl E p;refine ha.ok c w env σ _ _ rfl E p fun vs as e1 w1 E1 l1 a1 q1=>?_;exact ⟨w1,as,rfl,E1.wok,a1,q1,E1.le0⟩
def pX (px:PEnv->Prop) (_:PEnds) (env:PEnv):Prop:=px env
def pOrX (p:PSt) (px:PEnv->Prop) (D:PEnds) (env:PEnv):Prop:=p D env\/px env
section
variable {K:Frag} {w0:Wd} {te tx:TE} {g:TG} {p:PSt} {px:PEnv->Prop}
instance rsx_retO [h1:RS K (tRet te) p] [h:REX K w0 tx px]:RSX K w0 (tRet (tEor te tx)) (pOrX p px):=⟨fun c w env σ Dp D e e0 E h q=>q.elim (fun q=>.inl (h1.ok c w env σ Dp D e E h q)) fun q=>.inr (REX.ok c w env σ _ e e0 E q)⟩
end
theorem okxL {P:Program} {w:World} {K:PySem.W.Frag} {mg:Str->Option Value} {base:Heap} {x qual:Str} {st:Stmt} {f:Addr} {fd:FuncData} {N ps:List Str} {k:Nat} {md:List Md} {C:Addr} {fld:Str} {psp:List SV->PyData->Prop} {ts:Wd->PyData->TS} {pst:PyData->PSt} (F:L2.Fun K x qual st f fd) (S:FnScope N ps (A7 st)) (hm:md.length=ps.length)
  (hbody:∀ (cdv:Value) (A:Around) (outer:List Env) (s:Shared) (H:Hpp) (E:XK) (w0:Wd) (y:PyData),Room k (A.deeper (envOfC qual (A7 st) s.heap.objs.size f cdv))->(∀ w' d v,w'.Ok->Le w0 w'->w'.H d=some (.xd [(fld,v)])->Den K w'.F v y->E (.ref C) (some d) w'.H) ->
   QSs (cxL P w K mg base N qual (A7 st) f cdv A outer s H E) (F2 st) (ts w0 y))
  (hs:∀ w0 y,RSX K w0 (ts w0 y) (pst y)) (hb:∀ as y,psp as y->pst y ⟨fun _=>False,fun _ _=>False,fun _=>False,fun _=>False⟩ (as.map some++List.replicate (N.length - md.length) none)):FnOk P w K mg base (CX2 P w) (k + 1) f fd ps (spE2 K md C fld psp) :=
 okx2 F S hm (fun cdv A outer s H E w0 y hr hk=>C20 (hbody cdv A outer s H E w0 y hr hk)) hs hb
end Pu
namespace Pu
open PySem L2 My Prf
abbrev DLs:=List (Str × Addr × LP)
def dlAt (o:Option (Option SV)) (k:Addr->DLs->Prop):Prop:=match o with
 | some (some (.dl l ks))=>k l ks
 | _=>False
theorem C1m {l:Addr} {ks:DLs} {k:Addr->DLs->Prop}:dlAt (some (some (.dl l ks))) k=k l ks:=rfl
theorem VR.dl {c:Ct} {w:Wd} {v:V} {l:Addr} {ks:DLs} (h:VR c w v (.dl l ks)) {n:Nat} {s:Str} {a:Addr} {xs:LP} (e:ks[n]?=some (s,a,xs)) :
  v=.ref l/\(∃ kvs,w.H l=some (.dK kvs)/\dAt kvs s=some (.ref a))/\∃ vs,w.H a=some (.lst vs)/\DenAll c.K w.F vs xs/\w.F a=none/\¬ w.M a/\c.w0.H a=none:=by
 obtain ⟨rfl,⟨⟨kvs,h1,h2⟩,h3⟩,o,_⟩:=h;have hm:=Zm e;obtain ⟨vs,e1,e2⟩:=h3 _ hm;exact ⟨rfl,⟨kvs,h1,h2 _ hm⟩,vs,e1,e2,(o a (A8y hm)).2⟩
theorem B5b {kvs:List (Key × V)} {s:Str}:valV kvs (Sum.inr s:Key)=dAt kvs s:=rfl
def pDlV (i:Nat) (s:Str) (env:PEnv) (Q:PyData->PEnv->Prop):Prop:=dlAt env[i]? fun _ ks=>∃ (n:Nat) (a:Addr) (xs:LP),ks[n]?=some (s,a,xs)/\Q (.list xs) env
instance rw_dl {K:Frag} {i:Nat} {s:Str}:RW K (A9o (tVar i) (tC (.str s))) (pDlV i s) where
 ok:=by
  rintro c w env σ Qp Q rfl E p k;unfold pDlV dlAt at p;split at p
  ·rename_i l ks e;obtain ⟨n,a,xs,en,q⟩:=p;obtain ⟨v,hv,h⟩:=E.at' i _ e;obtain ⟨rfl,⟨kvs,h1,h2⟩,vs,h3,h4,h5,h6,h7⟩:=h.dl en;refine ⟨_,hv,l,.ref a,rfl,?_,k _ _ env w E (Lw.refl w) (.inr ⟨a,vs,xs,rfl,rfl,h3,h6,h4⟩) q⟩;have:=DGet.k (k:=(Sum.inr s:Key)) h1;rw [B5b,h2] at this;exact this
  ·exact p.elim
theorem EnvOk.shrink {c:Ct} {w:Wd} {env:PEnv} {σ:L2.St} {i:Nat} {s s':SV} (E:EnvOk c w env σ) (e:env[i]?=some (some s)) (hf:∀ v a,s'.foot v a->s.foot v a) (hv:∀ v,VR c w v s->VR c w v s'):EnvOk c w (env.set i (some s')) σ:=by
 have up:∀ {j:Nat} {t:SV},(env.set i (some s'))[j]?=some (some t)->(i=j/\t=s')\/(i≠j/\env[j]?=some (some t)):=by
  intro j t q;rw [List.getElem?_set] at q;split at q
  ·rename_i z;split at q
   ·cases q; exact .inl ⟨z,rfl⟩
   ·cases q
  ·rename_i z; exact .inr ⟨z,q⟩
 have ft:∀ {j:Nat} {t:SV} {u:V} {a:Addr},(env.set i (some s'))[j]?=some (some t)->t.foot u a->∃ t0,env[j]?=some (some t0)/\t0.foot u a:=fun q f=>by
  rcases up q with ⟨rfl,rfl⟩ | ⟨_,q⟩
  ·exact ⟨s,e,hf _ _ f⟩
  ·exact ⟨_,q,f⟩
 refine ⟨E.wok,E.le0,by simpa using E.len,fun j t q=>?_,fun j k s1 t1 v1 u1 a q1 q2 q3 q4 f1 f2=>?_,E.zf,fun a j t u za q q' f=>?_⟩
 ·rcases up q with ⟨rfl,rfl⟩ | ⟨_,q⟩
  ·obtain ⟨v,g1,g2⟩:=E.at' _ _ e;exact ⟨v,g1,hv v g2⟩
  ·exact E.at' j t q
 ·obtain ⟨_,p1,g1⟩:=ft q1 f1;obtain ⟨_,p2,g2⟩:=ft q2 f2;exact E.own j k _ _ _ _ a p1 p2 q3 q4 g1 g2
 ·obtain ⟨_,p,g⟩:=ft q f;exact E.zo a j _ _ za p q' g
theorem A3l {l:Addr} {ks:DLs} {n:Nat}:∀ a,a ∈ dlF l (ks.eraseIdx n)->a ∈ dlF l ks:=fun a h=>by
 rcases List.mem_cons.mp h with h | h
 ·rw [h]; exact C4o
 ·obtain ⟨k,hk,rfl⟩:=List.mem_map.mp h;exact A8y (List.mem_of_mem_eraseIdx hk)
theorem VR.dl_erase {c:Ct} {w:Wd} {v:V} {l:Addr} {ks:DLs} {n:Nat} (h:VR c w v (.dl l ks)):VR c w v (.dl l (ks.eraseIdx n)):=by
 obtain ⟨e,⟨⟨kvs,h1,h2⟩,h3⟩,o,nd⟩:=h;refine ⟨e,⟨⟨kvs,h1,fun k hk=>h2 k (List.mem_of_mem_eraseIdx hk)⟩,fun k hk=>h3 k (List.mem_of_mem_eraseIdx hk)⟩,fun a ha=>o a (A3l a ha),?_⟩;refine List.Nodup.sublist ?_ nd;exact List.Sublist.cons₂ _ ((List.eraseIdx_sublist _ _).map _)
theorem A26:∀ {ks:DLs} {n:Nat} {s:Str} {a:Addr} {xs:LP},(ks.map (·.2.1)).Nodup->ks[n]?=some (s,a,xs)->a ∉ (ks.eraseIdx n).map (·.2.1)
 | [],n,_,_,_,_,e=>by simp at e
 | k :: r,0,s,a,xs,nd,e=>by
  simp at e;subst e;rw [List.eraseIdx_cons_zero];exact (List.nodup_cons.mp nd).1
 | k :: r,n + 1,s,a,xs,nd,e=>by
  have e':r[n]?=some (s,a,xs):=by simpa using e
  rw [List.eraseIdx_cons_succ,List.map_cons];intro z;rcases List.mem_cons.mp z with z | z
  ·exact (List.nodup_cons.mp nd).1 (by show k.2.1 ∈ _; rw [<- z]; exact List.mem_map_of_mem (f:=fun x:Str × Addr × LP=>x.2.1) (Zm e'))
  ·exact A26 (List.nodup_cons.mp nd).2 e' z
def pDlF (i:Nat) (s:Str) (env:PEnv) (Q:PyData->PEnv->Prop):Prop:=dlAt env[i]? fun l ks=>∃ (n:Nat) (a:Addr) (xs:LP),ks[n]?=some (s,a,xs)/\Q (.list xs) (env.set i (some (.dl l (ks.eraseIdx n))))
instance rd_dl {K:Frag} {i:Nat} {s:Str}:RD K (A9o (tVar i) (tC (.str s))) (pDlF i s) where
 ok:=by
  rintro c w env σ Qp Q rfl E p k;unfold pDlF dlAt at p;split at p
  ·rename_i l ks e;obtain ⟨n,a,xs,en,q⟩:=p;obtain ⟨v,hv,h⟩:=E.at' i _ e;have h':=h;obtain ⟨rfl,⟨kvs,h1,h2⟩,vs,h3,h4,h5,h6,h7⟩:=h.dl en;have nd:=h'.2.2.2;have E1:=E.shrink (s':=.dl l (ks.eraseIdx n)) e (fun v a f=>A3l a f) fun v hv=>hv.dl_erase;have hm:=Zm en;have fa:SV.foot (.ref l) (.dl l ks) a:=A8y hm;have R:Res c w (env.set i (some (.dl l (ks.eraseIdx n)))) σ w (.ref a) (.own xs):=⟨E1,Lw.refl w,⟨a,vs,rfl,h3,h5,h6,h7,h4⟩,fun b f=>by
    have eb:V.ref a=.ref b:=f;cases eb;refine ⟨fun j t u q1 q2 g=>?_,fun za=>E.zo a i _ _ za e hv fa⟩;rw [List.getElem?_set] at q1;split at q1
    ·rename_i z;subst z;split at q1
     ·cases q1;rcases List.mem_cons.mp (show a ∈ dlF l (ks.eraseIdx n) from g) with z | z
      ·subst z;exact (List.nodup_cons.mp nd).1 (List.mem_map_of_mem (f:=fun x:Str × Addr × LP=>x.2.1) hm)
      ·exact A26 (List.nodup_cons.mp nd).2 en z
     ·cases q1
    ·rename_i z;exact z (E.own i j _ _ _ _ a e q1 hv q2 fa g),rfl⟩
   obtain ⟨w',e',E2,l2,d2⟩:=R.frz;refine ⟨_,hv,l,.ref a,rfl,?_,?_⟩
   ·have:=DGet.k (k:=(Sum.inr s:Key)) h1;rw [B5b,h2] at this;exact this
   ·rw [<- e'];exact k _ _ _ w' E2 l2 d2 q
  ·exact p.elim
theorem C4a {ks:DLs} {n:Nat} {s:Str} {a:Addr} {xs ys:LP} (e:ks[n]?=some (s,a,xs)):(ks.set n (s,a,ys)).map (·.2.1)=ks.map (·.2.1):=by
 refine List.ext_getElem? fun m=>?_;rw [Zh,Zh,List.getElem?_set];split
 ·rename_i z; subst z;split
  ·rw [e]; rfl
  ·rename_i z; exact absurd (Zs e).1 z
 ·rfl
def A6n (i:Nat) (pk pd:PDt) (D:PEnds) (env:PEnv):Prop:=dlAt env[i]? fun _ _=>pk env fun y e=>asS y fun s=>dlAt e[i]? fun _ ks=>∃ (n:Nat) (a:Addr) (xs0:LP),ks[n]?=some (s,a,xs0)/\pd e fun x e2=>dlAt e2[i]? fun l2 ks2=>∃ xs:LP,ks2[n]?=some (s,a,xs)/\xs.length < 1000000/\D.nx (e2.set i (some (.dl l2 (ks2.set n (s,a,xs++[x])))))
instance rs_dlapp {K:Frag} {i:Nat} {tk te:TE} {pk pd:PDt} [hk:RD K tk pk] [hd:RD K te pd]:RS K (B56 (tBM K "list" A4j (A9o (tVar i) tk) (J3 te tNil))) (A6n i pk pd) where
 ok:=by
  rintro c w env σ Dp D rfl E h p;unfold A6n at p;unfold dlAt at p;split at p
  ·rename_i l0 ks0 e0;obtain ⟨v0,g0,h0⟩:=E.at' i _ e0;obtain rfl:=h0.1;refine ⟨_,g0,hk.ok c w env σ _ _ rfl E p fun y x e1 w1 E1 l1 d1 q1=>?_⟩;unfold asS at q1;split at q1
   ·rename_i s;split at q1
    ·rename_i l1' ks1 e1';obtain ⟨n,a,xs0,en,q1⟩:=q1;obtain ⟨v1,g1,h1⟩:=E1.at' i _ e1';rw [g0] at g1; cases g1;obtain ⟨ev,⟨kvs,k1,k2⟩,vs,k3,k4,k5,k6,k7⟩:=h1.dl en;cases ev;obtain rfl:=d1.strE;refine ⟨l0,.ref a,rfl,?_,.inl ⟨rfl,_,SqL.of k3⟩,?_⟩
     ·have:=DGet.k (k:=(Sum.inr s:Key)) k1;rw [B5b,k2] at this;exact this
     refine hd.ok c w1 e1 σ _ _ rfl E1 q1 fun z x2 e2 w2 E2 l2 d2 q2=>?_;split at q2
     ·rename_i l3 ks2 e2';obtain ⟨xs,en2,hl,q2⟩:=q2;obtain ⟨v2,g2,h2⟩:=E2.at' i _ e2';rw [g0] at g2; cases g2;have h2':=h2;obtain ⟨ev,⟨kvs2,m1,m2⟩,vs2,m3,m4,m5,m6,m7⟩:=h2.dl en2;cases ev;have hm:=Zm en2;have fa:a ∈ dlF l0 ks2:=A8y hm;have ef:dlF l0 (ks2.set n (s,a,xs++[x2]))=dlF l0 ks2:=by unfold dlF; rw [C4a en2]
      have nd:=h2'.2.2.2;have al:l0≠a:=fun z=>(List.nodup_cons.mp nd).1 (by rw [z]; exact List.mem_map_of_mem (f:=fun x:Str × Addr × LP=>x.2.1) hm);refine ⟨a,vs2,z,rfl,rfl,m3,by rw [m4.len]; exact A0b hl,?_⟩;refine h.nx _ σ ⟨w2.M,upd w2.H a (.lst (vs2++[z])),w2.F⟩ (E2.writeAt (s':=.dl l0 (ks2.set n (s,a,xs++[x2]))) e2' g0 fa (fun b f=>by show b ∈ dlF l0 ks2; rw [<- ef]; exact f) ⟨rfl,⟨⟨kvs2,?_,?_⟩,?_⟩,?_,?_⟩) (l1.f.trans l2.f) q2
      ·show upd w2.H a _ l0=_;rw [B4 al]; exact m1
      ·intro k hk;obtain ⟨m,hm'⟩:=List.mem_iff_getElem?.mp hk;rw [List.getElem?_set] at hm';obtain ⟨⟨kv,o1,o2⟩,_⟩:=h2'.2.1;rw [m1] at o1; cases o1;split at hm'
       ·split at hm'
        ·cases hm'; exact m2
        ·cases hm'
       ·exact o2 k (Zm hm')
      ·intro k hk;obtain ⟨m,hm'⟩:=List.mem_iff_getElem?.mp hk;rw [List.getElem?_set] at hm';split at hm'
       ·split at hm'
        ·cases hm';exact ⟨_,B5,m4.app (.cons d2 .nil)⟩
        ·cases hm'
       ·rename_i mn;obtain ⟨us,u1,u2⟩:=h2'.2.1.2 k (Zm hm');refine ⟨us,?_,u2⟩;show upd w2.H a _ k.2.1=_;rw [B4 fun z=>?_]; exact u1;have nd':=(List.nodup_cons.mp nd).2;have i1:(ks2.map (·.2.1))[m]?=some a:=by rw [Zh,hm',<- z]; rfl
        have i2:(ks2.map (·.2.1))[n]?=some a:=by rw [Zh,en2]; rfl
        exact mn ((List.getElem?_inj (Zs i2).1 nd').mp (i2.trans i1.symm))
      ·intro b hb;rw [ef] at hb;obtain ⟨o1,o2⟩:=h2'.2.2.1 b hb;exact ⟨fun z=>o1 (G5 z),o2⟩
      ·rw [ef]; exact nd
     ·exact q2.elim
    ·exact q1.elim
   ·exact q1.elim
  ·exact p.elim
def pDl3 (s1 s2 s3:Str) (env:PEnv) (Q:SV->PEnv->Prop):Prop:=(s1≠s2/\s1≠s3/\s2≠s3)/\∀ l a b c,Q (.dl l [(s1,a,[]),(s2,b,[]),(s3,c,[])]) env
theorem A0w {H:Hpp} {p q:Addr} {o u:HO} (h:p≠q):upd (upd H q o) p u=upd (upd H p u) q o:=by
 funext b
 unfold upd;by_cases h1:b=p
 ·rw [if_pos h1,if_neg (fun z=>h (h1.symm.trans z)),if_pos h1]
 ·rw [if_neg h1,if_neg h1]
instance re_dl3 {K:Frag} {s1 s2 s3:Str}:RE K (C15 [(tC (.str s1),tLst tNil),(tC (.str s2),tLst tNil),(tC (.str s3),tLst tNil)]) (pDl3 s1 s2 s3) where
 ok:=by
  rintro c w env σ Qp Q rfl E ⟨⟨n1,n2,n3⟩,p⟩ k q hq;refine ⟨Nat.zero_le _,fun p1 h1=>⟨Nat.zero_le _,fun p2 h2=>⟨Nat.zero_le _,fun p3 h3=>?_⟩⟩⟩;have q1:p1≠q:=fun z=>by rw [z,B5] at h1; cases h1
  have q2:p2≠q:=fun z=>by
   rw [z,B4 q1.symm,B5] at h2; cases h2
  have q3:p3≠q:=fun z=>by
   rw [z,B4 q2.symm,B4 q1.symm,B5] at h3; cases h3
  have p12:p2≠p1:=fun z=>by rw [z,B5] at h2; cases h2
  have p13:p3≠p1:=fun z=>by rw [z,B4 p12.symm,B5] at h3; cases h3
  have p23:p3≠p2:=fun z=>by rw [z,B5] at h3; cases h3
  refine ⟨by rw [B4 q3.symm,B4 q2.symm,B4 q1.symm,B5],[(Sum.inr s1,.ref p1),(Sum.inr s2,.ref p2),(Sum.inr s3,.ref p3)],rfl,show 3<=15 by decide,?_⟩;have em:V0 [] [((Sum.inr s1:Key),V.ref p1),(Sum.inr s2,.ref p2),(Sum.inr s3,.ref p3)]=[(Sum.inr s1,.ref p1),(Sum.inr s2,.ref p2),(Sum.inr s3,.ref p3)]:=by
   have:=A0l (more:=[((Sum.inr s1:Key),V.ref p1),(Sum.inr s2,.ref p2),(Sum.inr s3,.ref p3)]) (acc:=[]) (by
    simp only [List.nil_append,List.map_cons,List.map_nil,List.nodup_cons,List.mem_cons,List.not_mem_nil,or_false,not_or,not_false_eq_true,List.nodup_nil,and_true];exact ⟨⟨fun z=>n1 (Sum.inr.inj z),fun z=>n2 (Sum.inr.inj z)⟩,fun z=>n3 (Sum.inr.inj z)⟩)
   exact this
  rw [em,<- A0w q3,<- A0w q2,<- A0w q1,C1x];have a1:w.H p1=none:=G5 h1;have a2:w.H p2=none:=G5 (G5 h2);have a3:w.H p3=none:=G5 (G5 (G5 h3));have E0:=E.mono (Wd.lay_ok E.wok hq) (Wd.lay_le (o:=.dK [((Sum.inr s1:Key),V.ref p1),(Sum.inr s2,.ref p2),(Sum.inr s3,.ref p3)]) hq);have b1:(w.lay q (.dK [((Sum.inr s1:Key),V.ref p1),(Sum.inr s2,.ref p2),(Sum.inr s3,.ref p3)])).H p1=none:=(B4 q1).trans a1;have E1:=E0.mono (Wd.lay_ok E0.wok b1) (Wd.lay_le (o:=.lst []) b1);have b2:((w.lay q (.dK [((Sum.inr s1:Key),V.ref p1),(Sum.inr s2,.ref p2),(Sum.inr s3,.ref p3)])).lay p1 (.lst [])).H p2=none:=(B4 p12).trans ((B4 q2).trans a2);have E2:=E1.mono (Wd.lay_ok E1.wok b2) (Wd.lay_le (o:=.lst []) b2);have b3:(((w.lay q (.dK [((Sum.inr s1:Key),V.ref p1),(Sum.inr s2,.ref p2),(Sum.inr s3,.ref p3)])).lay p1 (.lst [])).lay p2 (.lst [])).H p3=none:=(B4 p23).trans ((B4 p13).trans ((B4 q3).trans a3));have E3:=E2.mono (Wd.lay_ok E2.wok b3) (Wd.lay_le (o:=.lst []) b3);have lw:Lw w _:=((Wd.lay_le hq).trans ((Wd.lay_le b1).trans ((Wd.lay_le b2).trans (Wd.lay_le (o:=.lst []) b3)))).toLw;have fr:∀ a ∈ [q,p1,p2,p3],w.H a=none:=fun a ha=>by
   simp only [List.mem_cons,List.not_mem_nil,or_false] at ha;rcases ha with rfl | rfl | rfl | rfl
   ·exact hq
   ·exact a1
   ·exact a2
   ·exact a3
  refine k (.ref q) (.dl q [(s1,p1,[]),(s2,p2,[]),(s3,p3,[])]) env _ ⟨E3,lw,⟨rfl,⟨⟨_,(B4 q3.symm).trans ((B4 q2.symm).trans ((B4 q1.symm).trans B5)),?_⟩,?_⟩,fun a ha=>?_,?_⟩,fun a ha=>E.fresh (fr a ha),rfl⟩ (p q p1 p2 p3)
  ·intro z hz;simp only [List.mem_cons,List.not_mem_nil,or_false] at hz;have nn:∀ {x y:Str},x≠y->decide ((Sum.inr x:Key)=Sum.inr y)=false:=fun h=>Zd fun z=>h (Sum.inr.inj z);have yy:∀ {x:Str},decide ((Sum.inr x:Key)=Sum.inr x)=true:=Zk rfl;rcases hz with rfl | rfl | rfl
   ·unfold dAt; rw [List.find?_cons,yy]; rfl
   ·unfold dAt; rw [List.find?_cons,nn n1,List.find?_cons,yy]; rfl
   ·unfold dAt; rw [List.find?_cons,nn n2,List.find?_cons,nn n3,List.find?_cons,yy]; rfl
  ·intro z hz;simp only [List.mem_cons,List.not_mem_nil,or_false] at hz;rcases hz with rfl | rfl | rfl
   ·exact ⟨[],(B4 p13.symm).trans ((B4 p12.symm).trans B5),.nil⟩
   ·exact ⟨[],(B4 p23.symm).trans B5,.nil⟩
   ·exact ⟨[],B5,.nil⟩
  ·have ha':=fr a ha;refine ⟨fun z=>?_,E.wok.fnone ha',fun z=>E.wok.mne ha' z rfl,E.le0.dom a ha'⟩;simp only [dlF,List.map_cons,List.map_nil,List.mem_cons,List.not_mem_nil,or_false] at ha;rcases ha with rfl | rfl | rfl | rfl
   ·exact nomatch (z.symm.trans ((B4 q3.symm).trans ((B4 q2.symm).trans ((B4 q1.symm).trans B5))))
   ·exact nomatch (z.symm.trans ((B4 p13.symm).trans ((B4 p12.symm).trans B5)))
   ·exact nomatch (z.symm.trans ((B4 p23.symm).trans B5))
   ·exact nomatch (z.symm.trans (B5))
  ·simp only [dlF,List.map_cons,List.map_nil,List.nodup_cons,List.mem_cons,List.not_mem_nil,or_false,not_or,not_false_eq_true,List.nodup_nil,and_true];exact ⟨⟨q1.symm,q2.symm,q3.symm⟩,⟨p12.symm,p13.symm⟩,p23.symm⟩
end Pu
set_option synthInstance.maxHeartbeats 0
set_option synthInstance.maxSize 100000
set_option maxHeartbeats 4000000
namespace Prf
open PySem L2 My Pu
local macro_rules | `(tactic| trivial) => `(tactic| try simp only [pSeq, C3v, C0d, C7r, B1i, C7o, pRet, B1f, B28, B27, B26, B25, C67, pIf, pAsg, C33, B9p, C0u, pApp, B5s, C0b, C7a, B66, C98, pYes, pNot, pAnd, pOr, C3s, C34, pOrV, pIfE, pOp, pI_i, C7j, pEqD, pNeD, pIsN, C3t, A3c, A7d, A3e, A7c, A3d, A7b, B9u, B9t, pU_i, pUn, pNil, A1f, pTup, pLst, pCB, B1n, A2w, A6j, C0h, B9r, B9q, B93, B94, A6i, A6h, B92, C0w, A9c, A5p, A9b, A5m, A5n, A9a, A9d, B9j, C0o, C0n, C0m, B09, B2u, B2t, B2v, pC, pdat, C97, C96, B19, C3u, B14, B13, A6o, C90, C1i, B0c, A57, A07, S2, A56, A6f, C3z, A6m, A6v, A6u, A6w, A7z, A0t, A39, A4a, B1e, B24, B1d, B23, pFor, B15, A0h, F5, SV.lent, A4s, C3r, B8j, pSlL, pRev, B1c, B22, C0c, C0g, C0f, B1y, List.map_cons, List.map_nil, List.replicate_succ, List.replicate_zero, List.cons_append, List.nil_append, List.getElem?_cons_zero, List.getElem?_cons_succ, List.set_cons_zero, List.set_cons_succ, List.length_cons, List.length_nil, C32, C31, C7m, C7l, Option.bind_some, Option.bind_none, Option.map_some, Option.map_none, Option.join_some, B1v, B1u, B3y, A63, A61, B5f, A7r, B5d, A7q, C0z, C1o, A1n, C1l, A3j, A3i, B4v, B8q, decide_eq_true_eq, Bool.not_eq_true', decide_eq_false_iff_not, ite_not, true_and, and_true, reduceIte, Nat.zero_le, Nat.reduceAdd, Nat.reduceLeDiff, Nat.reduceSub, Int.zero_add, A6l, A6k, List.length_map, A85, C0j, A9e, B4y, B47, B3x, B5e, C00, C1a, C1d, C09, C1c, C03, C07, C06, C01, C02, C04, Bool.true_eq_false, Bool.false_eq_true, reduceCtorEq, Bool.not_true, Bool.not_false, decide_true, decide_false, B9i, C0l, B11, B3i, pLsN, pLsC, C7e, B1l, B3e, B3d, B3f, A44, B5g, B48, A7e, eq_self, C3l, A0s, A38, A7o, B46, A69, A66, A68, A65, A67, A64, C08, C1b, C05, C63, B96, C7d, ot_d, ot_o, ot_t, A6q, B1a, B2y, B2x, B2z, B2w, pKid, B16, C1s, C3j, C93, C92, C91, pTr, B9m, C0s, C0r, C0t, B98, B9k, C0q, C0p, B2a, B3k, A1z, B0b, A7f, B91, A6y, B97, B3c, B3b, B3a, C7h, pIn, B4h, B4i, B4f, B4g, B4p, B4q, B4n, B4o, B39, B4a, B37, B38, B35, B36, B33, B34, B4d, B4e, B4b, B4c, B31, B32, B3z, B30, B4l, B4m, B4j, B4k, A5o, B8i, B1x, pS, B7a, B9y, B9v, B9x, B9z, B9w, B1r, B1o, B1q, B1p, C7i, C62, C7p, B17, pRep, B1k, B95, pIdx, C68, C61, B9l, pStr, C60, B18, C7y, B9b, B1j, pSlT, C7f, B3h, B3g, pPth, pVw, A87, pLf, B3w, pBr, pMuV, C8h, B9n, pA2, C9a, pC2, pMu, C0i, C0e, B12, B84, C0a, A2u, C64, B21, C7b, B1g, C7c, B10, B9o, B2b, A4u, pDN, pDk, pS1, B8i, B08, B1h, pSlS, C30, C3p, A4t, B8j, pFmt, C94, C95, pFs, B1t, C3y, C3o, C6y, pHF, pHB, A4r, C7q, C7u, C0y, A2v, B1m, B99, A2t, C7t, B90, pUnN, C7v, C1j, C7z, A2s, U0, C7g, C8g, B3j, C0v, B8r, B8t, B8s, B8v, B8u, pSlF, B1b, B1s, C69, C6z, pRK, C1m, pDlV, pDlF, A6n, pDl3, pX, pOrX, pXc])
local macro_rules | `(tactic| nofun) => `(tactic| try simp -implicitDefEqProofs only [pSeq, C3v, C0d, C7r, B1i, C7o, pRet, B1f, B28, B27, B26, B25, C67, pIf, pAsg, C33, B9p, C0u, pApp, B5s, C0b, C7a, B66, C98, pYes, pNot, pAnd, pOr, C3s, C34, pOrV, pIfE, pOp, pI_i, C7j, pEqD, pNeD, pIsN, C3t, A3c, A7d, A3e, A7c, A3d, A7b, B9u, B9t, pU_i, pUn, pNil, A1f, pTup, pLst, pCB, B1n, A2w, A6j, C0h, B9r, B9q, B93, B94, A6i, A6h, B92, C0w, A9c, A5p, A9b, A5m, A5n, A9a, A9d, B9j, C0o, C0n, C0m, B09, B2u, B2t, B2v, pC, pdat, C97, C96, B19, C3u, B14, B13, A6o, C90, C1i, B0c, A57, A07, S2, A56, A6f, C3z, A6m, A6v, A6u, A6w, A7z, A0t, A39, A4a, B1e, B24, B1d, B23, pFor, B15, A0h, F5, SV.lent, A4s, C3r, B8j, pSlL, pRev, B1c, B22, C0c, C0g, C0f, B1y, List.map_cons, List.map_nil, List.replicate_succ, List.replicate_zero, List.cons_append, List.nil_append, List.getElem?_cons_zero, List.getElem?_cons_succ, List.set_cons_zero, List.set_cons_succ, List.length_cons, List.length_nil, C32, C31, C7m, C7l, Option.bind_some, Option.bind_none, Option.map_some, Option.map_none, Option.join_some, B1v, B1u, B3y, A63, A61, B5f, A7r, B5d, A7q, C0z, C1o, A1n, C1l, A3j, A3i, B4v, B8q, decide_eq_true_eq, Bool.not_eq_true', decide_eq_false_iff_not, ite_not, true_and, and_true, reduceIte, Nat.zero_le, Nat.reduceAdd, Nat.reduceLeDiff, Nat.reduceSub, Int.zero_add, A6l, A6k, List.length_map, A85, C0j, A9e, B4y, B47, B3x, B5e, C00, C1a, C1d, C09, C1c, C03, C07, C06, C01, C02, C04, Bool.true_eq_false, Bool.false_eq_true, reduceCtorEq, Bool.not_true, Bool.not_false, decide_true, decide_false, B9i, C0l, B11, B3i, pLsN, pLsC, C7e, B1l, B3e, B3d, B3f, A44, B5g, B48, A7e, eq_self, C3l, A0s, A38, A7o, B46, A69, A66, A68, A65, A67, A64, C08, C1b, C05, C63, B96, C7d, ot_d, ot_o, ot_t, A6q, B1a, B2y, B2x, B2z, B2w, pKid, B16, C1s, C3j, C93, C92, C91, pTr, B9m, C0s, C0r, C0t, B98, B9k, C0q, C0p, B2a, B3k, A1z, B0b, A7f, B91, A6y, B97, B3c, B3b, B3a, C7h, pIn, B4h, B4i, B4f, B4g, B4p, B4q, B4n, B4o, B39, B4a, B37, B38, B35, B36, B33, B34, B4d, B4e, B4b, B4c, B31, B32, B3z, B30, B4l, B4m, B4j, B4k, A5o, B8i, B1x, pS, B7a, B9y, B9v, B9x, B9z, B9w, B1r, B1o, B1q, B1p, C7i, C62, C7p, B17, pRep, B1k, B95, pIdx, C68, C61, B9l, pStr, C60, B18, C7y, B9b, B1j, pSlT, C7f, B3h, B3g, pPth, pVw, A87, pLf, B3w, pBr, pMuV, C8h, B9n, pA2, C9a, pC2, pMu, C0i, C0e, B12, B84, C0a, A2u, C64, B21, C7b, B1g, C7c, B10, B9o, B2b, A4u, pDN, pDk, pS1, B8i, B08, B1h, pSlS, C30, C3p, A4t, B8j, pFmt, C94, C95, pFs, B1t, C3y, C3o, C6y, pHF, pHB, A4r, C7q, C7u, C0y, A2v, B1m, B99, A2t, C7t, B90, pUnN, C7v, C1j, C7z, A2s, U0, C7g, C8g, B3j, C0v, B8r, B8t, B8s, B8v, B8u, pSlF, B1b, B1s, C69, C6z, pRK, C1m, pDlV, pDlF, A6n, pDl3, pX, pOrX, pXc])
set_option genInjectivity false
set_option genSizeOfSpec false
structure Adr where
 a_a1:Addr
 d_a1:FuncData
 a_b6:Addr
 d_b6:FuncData
 a_a2:Addr
 d_a2:FuncData
 a_b0:Addr
 d_b0:FuncData
 a_ae:Addr
 d_ae:FuncData
 a_a9:Addr
 d_a9:FuncData
 a_b8:Addr
 d_b8:FuncData
 a_a6:Addr
 d_a6:FuncData
 a_b7:Addr
 d_b7:FuncData
 a_ad:Addr
 d_ad:FuncData
 a_b5:Addr
 d_b5:FuncData
 a_aa:Addr
 d_aa:FuncData
 a_af:Addr
 d_af:FuncData
 a_a7:Addr
 d_a7:FuncData
 a_b1:Addr
 d_b1:FuncData
 a_bc:Addr
 d_bc:FuncData
 a_bd:Addr
 d_bd:FuncData
 a_bb:Addr
 d_bb:FuncData
 a_ab:Addr
 d_ab:FuncData
 a_a3:Addr
 d_a3:FuncData
 a_b3:Addr
 d_b3:FuncData
 a_a0:Addr
 d_a0:FuncData
 a_b9:Addr
 d_b9:FuncData
 a_b4:Addr
 d_b4:FuncData
 a_a4:Addr
 d_a4:FuncData
 a_ba:Addr
 d_ba:FuncData
 a_be:Addr
 d_be:FuncData
 a_a5:Addr
 d_a5:FuncData
 a_a8:Addr
 d_a8:FuncData
 a_ac:Addr
 d_ac:FuncData
 a_bf:Addr
 d_bf:FuncData
 a_b2:Addr
 d_b2:FuncData
 a_c0:Addr
 d_c0:FuncData
 k_NOUGHT:Addr
 k_ARC_WORDS:Addr
 k_NoText:Addr
 k_HurryError:Addr
 k_NoRow:Addr
 k_NoPaper:Addr
structure TxB (K:PySem.W.Frag) (a_a1 a_b6 a_a2 a_b0 a_ae a_a9 a_b8 a_a6 a_b7 a_ad a_b5 a_aa a_af a_a7 a_b1 a_bc a_bd a_bb a_ab a_a3 a_b3 a_a0 a_b9 a_b4 a_a4 a_ba a_be a_a5 a_a8 a_ac a_bf a_b2 k_NOUGHT k_ARC_WORDS k_NoText k_HurryError k_NoRow k_NoPaper:Addr) (d_a1 d_b6 d_a2 d_b0 d_ae d_a9 d_b8 d_a6 d_b7 d_ad d_b5 d_aa d_af d_a7 d_b1 d_bc d_bd d_bb d_ab d_a3 d_b3 d_a0 d_b9 d_b4 d_a4 d_ba d_be d_a5 d_a8 d_ac d_bf d_b2:FuncData):Prop where
 g_a1:PySem.W.nsIn K mainGlobals "common_part"=some (some (.ref a_a1))
 F_a1:Fun K "common_part" "common_part" s_a1 a_a1 d_a1
 g_b6:PySem.W.nsIn K mainGlobals "is_less"=some (some (.ref a_b6))
 F_b6:Fun K "is_less" "is_less" s_b6 a_b6 d_b6
 g_a2:PySem.W.nsIn K mainGlobals "shown_whole"=some (some (.ref a_a2))
 F_a2:Fun K "shown_whole" "shown_whole" s_a2 a_a2 d_a2
 g_b0:PySem.W.nsIn K mainGlobals "whole_in"=some (some (.ref a_b0))
 F_b0:Fun K "whole_in" "whole_in" s_b0 a_b0 d_b0
 g_ae:PySem.W.nsIn K mainGlobals "ratio_in"=some (some (.ref a_ae))
 F_ae:Fun K "ratio_in" "ratio_in" s_ae a_ae d_ae
 g_a9:PySem.W.nsIn K mainGlobals "number_in"=some (some (.ref a_a9))
 F_a9:Fun K "number_in" "number_in" s_a9 a_a9 d_a9
 g_b8:PySem.W.nsIn K mainGlobals "step_in"=some (some (.ref a_b8))
 F_b8:Fun K "step_in" "step_in" s_b8 a_b8 d_b8
 g_a6:PySem.W.nsIn K mainGlobals "carried_in"=some (some (.ref a_a6))
 F_a6:Fun K "carried_in" "carried_in" s_a6 a_a6 d_a6
 g_b7:PySem.W.nsIn K mainGlobals "plan_in"=some (some (.ref a_b7))
 F_b7:Fun K "plan_in" "plan_in" s_b7 a_b7 d_b7
 g_ad:PySem.W.nsIn K mainGlobals "paper_in"=some (some (.ref a_ad))
 F_ad:Fun K "paper_in" "paper_in" s_ad a_ad d_ad
 g_b5:PySem.W.nsIn K mainGlobals "bend_in"=some (some (.ref a_b5))
 F_b5:Fun K "bend_in" "bend_in" s_b5 a_b5 d_b5
 g_aa:PySem.W.nsIn K mainGlobals "read_none"=some (some (.ref a_aa))
 F_aa:Fun K "read_none" "read_none" s_aa a_aa d_aa
 g_af:PySem.W.nsIn K mainGlobals "row_told"=some (some (.ref a_af))
 F_af:Fun K "row_told" "row_told" s_af a_af d_af
 g_a7:PySem.W.nsIn K mainGlobals "read_stair"=some (some (.ref a_a7))
 F_a7:Fun K "read_stair" "read_stair" s_a7 a_a7 d_a7
 g_b1:PySem.W.nsIn K mainGlobals "_law_begun"=some (some (.ref a_b1))
 F_b1:Fun K "_law_begun" "_law_begun" s_b1 a_b1 d_b1
 g_bc:PySem.W.nsIn K mainGlobals "_law_take"=some (some (.ref a_bc))
 F_bc:Fun K "_law_take" "_law_take" s_bc a_bc d_bc
 g_bd:PySem.W.nsIn K mainGlobals "_law_low"=some (some (.ref a_bd))
 F_bd:Fun K "_law_low" "_law_low" s_bd a_bd d_bd
 g_bb:PySem.W.nsIn K mainGlobals "_law_same"=some (some (.ref a_bb))
 F_bb:Fun K "_law_same" "_law_same" s_bb a_bb d_bb
 g_ab:PySem.W.nsIn K mainGlobals "_law_number"=some (some (.ref a_ab))
 F_ab:Fun K "_law_number" "_law_number" s_ab a_ab d_ab
 g_a3:PySem.W.nsIn K mainGlobals "_law_fraction"=some (some (.ref a_a3))
 F_a3:Fun K "_law_fraction" "_law_fraction" s_a3 a_a3 d_a3
 g_b3:PySem.W.nsIn K mainGlobals "_law_paper"=some (some (.ref a_b3))
 F_b3:Fun K "_law_paper" "_law_paper" s_b3 a_b3 d_b3
 g_a0:PySem.W.nsIn K mainGlobals "_law_paper_text"=some (some (.ref a_a0))
 F_a0:Fun K "_law_paper_text" "_law_paper_text" s_a0 a_a0 d_a0
 g_b9:PySem.W.nsIn K mainGlobals "_law_plan"=some (some (.ref a_b9))
 F_b9:Fun K "_law_plan" "_law_plan" s_b9 a_b9 d_b9
 g_b4:PySem.W.nsIn K mainGlobals "_law_stair"=some (some (.ref a_b4))
 F_b4:Fun K "_law_stair" "_law_stair" s_b4 a_b4 d_b4
 g_a4:PySem.W.nsIn K mainGlobals "_law_plan_text"=some (some (.ref a_a4))
 F_a4:Fun K "_law_plan_text" "_law_plan_text" s_a4 a_a4 d_a4
 g_ba:PySem.W.nsIn K mainGlobals "_law_rows"=some (some (.ref a_ba))
 F_ba:Fun K "_law_rows" "_law_rows" s_ba a_ba d_ba
 g_be:PySem.W.nsIn K mainGlobals "_law_odd"=some (some (.ref a_be))
 F_be:Fun K "_law_odd" "_law_odd" s_be a_be d_be
 g_a5:PySem.W.nsIn K mainGlobals "_law_wrong_row"=some (some (.ref a_a5))
 F_a5:Fun K "_law_wrong_row" "_law_wrong_row" s_a5 a_a5 d_a5
 g_a8:PySem.W.nsIn K mainGlobals "_law_strange"=some (some (.ref a_a8))
 F_a8:Fun K "_law_strange" "_law_strange" s_a8 a_a8 d_a8
 g_ac:PySem.W.nsIn K mainGlobals "_law_spoilt"=some (some (.ref a_ac))
 F_ac:Fun K "_law_spoilt" "_law_spoilt" s_ac a_ac d_ac
 g_bf:PySem.W.nsIn K mainGlobals "_law_row"=some (some (.ref a_bf))
 F_bf:Fun K "_law_row" "_law_row" s_bf a_bf d_bf
 g_b2:PySem.W.nsIn K mainGlobals "_law_kinds"=some (some (.ref a_b2))
 F_b2:Fun K "_law_kinds" "_law_kinds" s_b2 a_b2 d_b2
 gc_NOUGHT:PySem.W.nsIn K mainGlobals "NOUGHT"=some (some (.ref k_NOUGHT))
 gc_ARC_WORDS:PySem.W.nsIn K mainGlobals "ARC_WORDS"=some (some (.ref k_ARC_WORDS))
 gc_NoText:PySem.W.nsIn K mainGlobals "NoText"=some (some (.ref k_NoText))
 gc_HurryError:PySem.W.nsIn K mainGlobals "HurryError"=some (some (.ref k_HurryError))
 gc_NoRow:PySem.W.nsIn K mainGlobals "NoRow"=some (some (.ref k_NoRow))
 gc_NoPaper:PySem.W.nsIn K mainGlobals "NoPaper"=some (some (.ref k_NoPaper))
 z_ValueError:PySem.W.nsIn K mainGlobals "ValueError"=some none
 z_abs:PySem.W.nsIn K mainGlobals "abs"=some none
 z_all:PySem.W.nsIn K mainGlobals "all"=some none
 z_bool:PySem.W.nsIn K mainGlobals "bool"=some none
 z_divmod:PySem.W.nsIn K mainGlobals "divmod"=some none
 z_enumerate:PySem.W.nsIn K mainGlobals "enumerate"=some none
 z_int:PySem.W.nsIn K mainGlobals "int"=some none
 z_isinstance:PySem.W.nsIn K mainGlobals "isinstance"=some none
 z_len:PySem.W.nsIn K mainGlobals "len"=some none
 z_list:PySem.W.nsIn K mainGlobals "list"=some none
 z_range:PySem.W.nsIn K mainGlobals "range"=some none
 z_str:PySem.W.nsIn K mainGlobals "str"=some none
 z_tuple:PySem.W.nsIn K mainGlobals "tuple"=some none
 z_zip:PySem.W.nsIn K mainGlobals "zip"=some none
structure Txt (K:PySem.W.Frag) (mg:Str->Option Value) (D:Adr):Prop where
 B:TxB K D.a_a1 D.a_b6 D.a_a2 D.a_b0 D.a_ae D.a_a9 D.a_b8 D.a_a6 D.a_b7 D.a_ad D.a_b5 D.a_aa D.a_af D.a_a7 D.a_b1 D.a_bc D.a_bd D.a_bb D.a_ab D.a_a3 D.a_b3 D.a_a0 D.a_b9 D.a_b4 D.a_a4 D.a_ba D.a_be D.a_a5 D.a_a8 D.a_ac D.a_bf D.a_b2 D.k_NOUGHT D.k_ARC_WORDS D.k_NoText D.k_HurryError D.k_NoRow D.k_NoPaper D.d_a1 D.d_b6 D.d_a2 D.d_b0 D.d_ae D.d_a9 D.d_b8 D.d_a6 D.d_b7 D.d_ad D.d_b5 D.d_aa D.d_af D.d_a7 D.d_b1 D.d_bc D.d_bd D.d_bb D.d_ab D.d_a3 D.d_b3 D.d_a0 D.d_b9 D.d_b4 D.d_a4 D.d_ba D.d_be D.d_a5 D.d_a8 D.d_ac D.d_bf D.d_b2
 m_a1:mg "common_part"=some (.ref D.a_a1)
 m_b6:mg "is_less"=some (.ref D.a_b6)
 m_a2:mg "shown_whole"=some (.ref D.a_a2)
 m_b0:mg "whole_in"=some (.ref D.a_b0)
 m_ae:mg "ratio_in"=some (.ref D.a_ae)
 m_a9:mg "number_in"=some (.ref D.a_a9)
 m_b8:mg "step_in"=some (.ref D.a_b8)
 m_a6:mg "carried_in"=some (.ref D.a_a6)
 m_b7:mg "plan_in"=some (.ref D.a_b7)
 m_ad:mg "paper_in"=some (.ref D.a_ad)
 m_b5:mg "bend_in"=some (.ref D.a_b5)
 m_aa:mg "read_none"=some (.ref D.a_aa)
 m_af:mg "row_told"=some (.ref D.a_af)
 m_a7:mg "read_stair"=some (.ref D.a_a7)
 m_b1:mg "_law_begun"=some (.ref D.a_b1)
 m_bc:mg "_law_take"=some (.ref D.a_bc)
 m_bd:mg "_law_low"=some (.ref D.a_bd)
 m_bb:mg "_law_same"=some (.ref D.a_bb)
 m_ab:mg "_law_number"=some (.ref D.a_ab)
 m_a3:mg "_law_fraction"=some (.ref D.a_a3)
 m_b3:mg "_law_paper"=some (.ref D.a_b3)
 m_a0:mg "_law_paper_text"=some (.ref D.a_a0)
 m_b9:mg "_law_plan"=some (.ref D.a_b9)
 m_b4:mg "_law_stair"=some (.ref D.a_b4)
 m_a4:mg "_law_plan_text"=some (.ref D.a_a4)
 m_ba:mg "_law_rows"=some (.ref D.a_ba)
 m_be:mg "_law_odd"=some (.ref D.a_be)
 m_a5:mg "_law_wrong_row"=some (.ref D.a_a5)
 m_a8:mg "_law_strange"=some (.ref D.a_a8)
 m_ac:mg "_law_spoilt"=some (.ref D.a_ac)
 m_bf:mg "_law_row"=some (.ref D.a_bf)
 m_b2:mg "_law_kinds"=some (.ref D.a_b2)
 F_c0:Fun K "law" "law" s_c0 D.a_c0 D.d_c0
 m_c0:mg "law"=some (.ref D.a_c0)
 c_NOUGHT:mg "NOUGHT"=some (.ref D.k_NOUGHT)
 c_ARC_WORDS:mg "ARC_WORDS"=some (.ref D.k_ARC_WORDS)
 c_NoText:mg "NoText"=some (.ref D.k_NoText)
 c_HurryError:mg "HurryError"=some (.ref D.k_HurryError)
 c_NoRow:mg "NoRow"=some (.ref D.k_NoRow)
 c_NoPaper:mg "NoPaper"=some (.ref D.k_NoPaper)
 z_ValueError:mg "ValueError"=none
 z_abs:mg "abs"=none
 z_all:mg "all"=none
 z_bool:mg "bool"=none
 z_divmod:mg "divmod"=none
 z_enumerate:mg "enumerate"=none
 z_int:mg "int"=none
 z_isinstance:mg "isinstance"=none
 z_len:mg "len"=none
 z_list:mg "list"=none
 z_range:mg "range"=none
 z_str:mg "str"=none
 z_tuple:mg "tuple"=none
 z_zip:mg "zip"=none
 c2_NOUGHT:Pu.GD K D.k_NOUGHT (dq 0)
 c2_ARC_WORDS:Pu.GD K D.k_ARC_WORDS (.tuple [.str "start",.str "end",.str "wait",.str "hold"])
 ci_MOST_FIGURES:∃ t,mg "MOST_FIGURES"=some (.int 60 t)
 ci_CHUNK:∃ t,mg "CHUNK"=some (.int 1000000000000000000 t)
 ci_CHUNK_FIGURES:∃ t,mg "CHUNK_FIGURES"=some (.int 18 t)
 ci_MOST_STEPS:∃ t,mg "MOST_STEPS"=some (.int 10 t)
 ci_MOST_ARCS:∃ t,mg "MOST_ARCS"=some (.int 100 t)
 ci_MOST_NUMBER:∃ t,mg "MOST_NUMBER"=some (.int 99 t)
 cs_FIGURES:∃ t,mg "FIGURES"=some (.str "0123456789" t)
 J_NoText:∃ fI fd,InitX K D.k_NoText fI "row" "row" "NoText.__init__" s_NoTextinit fd ["self","row"]
 xm_NoText_NoText:PySem.W.exmOne K (.ref D.k_NoText) (.ref D.k_NoText)=some true
 xga_NoText:PySem.W.findIn K (.ref D.k_NoText) "__getattribute__"=some (some (.builtin "BaseException.__getattribute__"))
 xgn_NoText:PySem.W.findIn K (.ref D.k_NoText) "__getattr__"=some none
 xgc_NoText:PySem.W.findIn K (.ref D.k_NoText) "__class__"=some (some (.builtin "object.__class__"))
 xsb_NoText:PySem.W.subIn K (.ref D.k_NoText) (.type "BaseException")=some true
 xso_NoText:PySem.W.subIn K (.ref D.k_NoText) (.type "object")=some true
 xhd_NoText:PySem.W.hasDictIn K D.k_NoText=true
 xty_NoText:(K.lookup D.k_NoText).map (·.cls)=some (.type "type")
 xm_NoText_HurryError:PySem.W.exmOne K (.ref D.k_NoText) (.ref D.k_HurryError)=some true
 xi_NoText_NoRow:PySem.W.kitOne K (.ref D.k_NoText) (.ref D.k_NoRow)=some false
 xi_NoText_NoPaper:PySem.W.kitOne K (.ref D.k_NoText) (.ref D.k_NoPaper)=some false
 xi_NoText_ValueError:PySem.W.kitOne K (.ref D.k_NoText) (.type "ValueError")=some true
 sysm:∃ o,K.lookup sysModules=some o/\o.cls≠.type "list"
abbrev sp_law:=C2e
theorem scI {N P:List Str} {sc:Scope} (a:sc.kind=.function:=by rfl) (b:sc.isCoroutine=false:=by rfl) (c:sc.isGenerator=false:=by rfl) (d:N.Nodup:=by decide +kernel) (e:N.take P.length=P:=by rfl) (f:∀ x ∈ P,sc.names.lookup x=some .local\/sc.names.lookup x=some .cell:=by decide +kernel) (g:∀ y ∈ sc.names,y.2≠.free:=by decide +kernel):FnScope N P sc:=⟨a,b,c,d,e,f,g⟩
structure KCl (K:PySem.W.Frag) (mg:Str->Option Value) (x:Str) (f:Addr) (fd:FuncData) (ps:List Str):Prop where
 m:mg x=some (.ref f)
 k:PySem.W.keepIn K (.ref f)=true
 b:Binds K fd ps []
theorem qcK {X:Cx} {k:Nat} {f:Addr} {fd:FuncData} {ps:List Str} {sp:Sp} {x:Str} {p pos:Pos} {e:Expr} {es:List Expr} {t:TA} (F:FnOk X.prog X.w X.K X.mg X.base CX0 k f fd ps sp) (hr:Room k X.A) (c:KCl X.K X.mg x f fd ps) (ha:QA X (e :: es) t) (hg:Gl X x:=by rfl) (hdb:(x == ("__debug__":Str))=false:=by decide) (he:starEach (e :: es) X.env=(false,eval e X.env) :: starEach es X.env:=by rfl) (hpl:(backTo pos (starEach es X.env)).any (·.1)=false:=by rfl):QE X (.Call (.Name x p) (e :: es) [] pos) (B57 sp [] E0 t):=B6p F hr hg c.m c.k c.b .nil D0x ha hdb he hpl
theorem qgn {X:Cx} (i:Nat) {P:List Str} {sc:Scope} {x:Str} {pos:Pos} (S:FnScope X.N P sc) (hi:X.N[i]?=some x:=by rfl) (hx:Loc X.env.scope x:=by exact Or.inl rfl) (hf:X.fn x=true\/X.env.scope.names.lookup x=some .local:=by first | exact .inl rfl | exact .inr rfl | assumption):QG X (.Name x pos) (Y5 i):=A53 S.nd hi hx hf
theorem qgc {X:Cx} (i:Nat) (N:List Str) {x:Str} {pos:Pos} (hN:X.N=N:=by exact rfl) (hd:N.Nodup:=by decide +kernel) (hi:X.N[i]?=some x:=by exact rfl) (hx:Loc X.env.scope x:=by exact Or.inl rfl) (hf:X.fn x=true\/X.env.scope.names.lookup x=some .local:=by exact Or.inr rfl):QG X (.Name x pos) (Y5 i):=A53 (hN ▸ hd) hi hx hf
theorem qst {X:Cx} (i:Nat) {P:List Str} {sc:Scope} {x:Str} {e:Expr} {te:TE} {pos pos':Pos} (S:FnScope X.N P sc) (he:QE X e te) (hi:X.N[i]?=some x:=by rfl) (hx:Loc X.env.scope x:=by exact Or.inl rfl) (hs:swapsWith e (some (.Name x pos')) pos.line X.env=pure false:=by rfl) (hf:X.fn x=true\/X.env.scope.names.lookup x=some .local:=by first | exact .inl rfl | exact .inr rfl | assumption):QS X (.Assign [.Name x pos'] e pos) (tAsg te (Y5 i)):=A4k S.nd hi hx he hs hf
theorem qln (K:PySem.W.Frag) {X:Cx} {p pos:Pos} {e:Expr} {te:TE} (hm:X.mg "len"=none) (he:QE X e te) (h:X.K=K:=by rfl) (hg:Gl X "len":=by rfl) (hs:starEach [e] X.env=(false,eval e X.env) :: starEach [] X.env:=by rfl) (hpl:(backTo pos (starEach [] X.env)).any (·.1)=false:=by rfl):QE X (.Call (.Name "len" p) [e] [] pos) (tCB (C2q K) (J3 te tNil)):=C2 (A80 h) hg hm PySem.boot_len (A0 he A1 hs) (by decide) (by decide) hs hpl
theorem qix (K:PySem.W.Frag) {X:Cx} {a b:Expr} {ta tb:TE} {pos:Pos} (ha:QE X a ta) (hb:QE X b tb) (h:X.K=K:=by rfl) (hs:A5f b:=by exact fun _ _=>rfl):QE X (.Subscript a b pos) (tOp (rIx K) ta tb):=C6b (C4h h) ha hb hs
theorem _root_.L2.Fun.b1 {K:PySem.W.Frag} {x q:Str} {st:Stmt} {f:Addr} {fd:FuncData} {a:Str} (F:L2.Fun K x q st f fd) (h:∀ (kV doc pm:Value) (an:Option Addr) (cdv ct u:Value),bindArgs (PySem.W.fnOf x q (J0 st) (F2 st) (A7 st) .none kV doc pm an cdv ct) ⟨[u],[]⟩=pure [(a,u)]:=by intros; rfl):Binds K fd [a] []:=F.binds (ps:=[a]) fun _ _ _ _ _ _ us hl=>by obtain ⟨_,rfl⟩:=us1 hl; exact h ..
theorem _root_.L2.Fun.b2 {K:PySem.W.Frag} {x q:Str} {st:Stmt} {f:Addr} {fd:FuncData} {a b:Str} (F:L2.Fun K x q st f fd) (h:∀ (kV doc pm:Value) (an:Option Addr) (cdv ct u v:Value),bindArgs (PySem.W.fnOf x q (J0 st) (F2 st) (A7 st) .none kV doc pm an cdv ct) ⟨[u,v],[]⟩=pure [(a,u),(b,v)]:=by intros; rfl):Binds K fd [a,b] []:=F.binds (ps:=[a,b]) fun _ _ _ _ _ _ us hl=>by obtain ⟨_,_,rfl⟩:=us2 hl; exact h ..
theorem _root_.L2.Fun.b3 {K:PySem.W.Frag} {x q:Str} {st:Stmt} {f:Addr} {fd:FuncData} {a b c:Str} (F:L2.Fun K x q st f fd) (h:∀ (kV doc pm:Value) (an:Option Addr) (cdv ct u v w:Value),bindArgs (PySem.W.fnOf x q (J0 st) (F2 st) (A7 st) .none kV doc pm an cdv ct) ⟨[u,v,w],[]⟩=pure [(a,u),(b,v),(c,w)]:=by intros; rfl):Binds K fd [a,b,c] []:=F.binds (ps:=[a,b,c]) fun _ _ _ _ _ _ us hl=>by obtain ⟨_,_,_,rfl⟩:=us3 hl; exact h ..
def Zz:=@Pu.spOf.len
def Zf:=@PassesOwn.never
section
variable {K:PySem.W.Frag} {mg:Str->Option Value} {D:Adr}
theorem sc_a1:FnScope ["one","other"] ["one","other"] (A7 s_a1):=scI
theorem A36 (T:Txt K mg D):KCl K mg "common_part" D.a_a1 D.d_a1 ["one","other"]:=⟨T.m_a1,T.B.F_a1.kp,T.B.F_a1.b2⟩
theorem sc_b6:FnScope ["one","other"] ["one","other"] (A7 s_b6):=scI
theorem A7x (T:Txt K mg D):KCl K mg "is_less" D.a_b6 D.d_b6 ["one","other"]:=⟨T.m_b6,T.B.F_b6.kp,T.B.F_b6.b2⟩
theorem sc_a2:FnScope ["number","chunks","left","chunk","figures"] ["number"] (A7 s_a2):=scI
theorem A34 (T:Txt K mg D):KCl K mg "shown_whole" D.a_a2 D.d_a2 ["number"]:=⟨T.m_a2,T.B.F_a2.kp,T.B.F_a2.b1⟩
theorem sc_b0:FnScope ["text","figures","number"] ["text"] (A7 s_b0):=scI
theorem Z6 (T:Txt K mg D):KCl K mg "whole_in" D.a_b0 D.d_b0 ["text"]:=⟨T.m_b0,T.B.F_b0.kp,T.B.F_b0.b1⟩
theorem sc_ae:FnScope ["text","left","slash","right","top","bottom"] ["text"] (A7 s_ae):=scI
theorem O8 (T:Txt K mg D):KCl K mg "ratio_in" D.a_ae D.d_ae ["text"]:=⟨T.m_ae,T.B.F_ae.kp,T.B.F_ae.b1⟩
theorem sc_a9:FnScope ["text","number"] ["text"] (A7 s_a9):=scI
theorem A82 (T:Txt K mg D):KCl K mg "number_in" D.a_a9 D.d_a9 ["text"]:=⟨T.m_a9,T.B.F_a9.kp,T.B.F_a9.b1⟩
theorem sc_b8:FnScope ["text","left","blank","right","start","time"] ["text"] (A7 s_b8):=scI
theorem B8c (T:Txt K mg D):KCl K mg "step_in" D.a_b8 D.d_b8 ["text"]:=⟨T.m_b8,T.B.F_b8.kp,T.B.F_b8.b1⟩
theorem sc_a6:FnScope ["text","words","number","amount"] ["text"] (A7 s_a6):=scI
theorem A5b (T:Txt K mg D):KCl K mg "carried_in" D.a_a6 D.d_a6 ["text"]:=⟨T.m_a6,T.B.F_a6.kp,T.B.F_a6.b1⟩
theorem sc_b7:FnScope ["text","plan"] ["text"] (A7 s_b7):=scI
theorem B8d (T:Txt K mg D):KCl K mg "plan_in" D.a_b7 D.d_b7 ["text"]:=⟨T.m_b7,T.B.F_b7.kp,T.B.F_b7.b1⟩
theorem sc_ad:FnScope ["text","paper"] ["text"] (A7 s_ad):=scI
theorem T1 (T:Txt K mg D):KCl K mg "paper_in" D.a_ad D.d_ad ["text"]:=⟨T.m_ad,T.B.F_ad.kp,T.B.F_ad.b1⟩
theorem sc_b5:FnScope ["text","left","blank","rest","right","shown","whole","price","plan"] ["text"] (A7 s_b5):=scI
theorem B8e (T:Txt K mg D):KCl K mg "bend_in" D.a_b5 D.d_b5 ["text"]:=⟨T.m_b5,T.B.F_b5.kp,T.B.F_b5.b1⟩
theorem sc_aa:FnScope ["rows","word","blank","shown","paper"] ["rows"] (A7 s_aa):=scI
theorem U9 (T:Txt K mg D):KCl K mg "read_none" D.a_aa D.d_aa ["rows"]:=⟨T.m_aa,T.B.F_aa.kp,T.B.F_aa.b1⟩
theorem sc_af:FnScope ["bends","papers","row","word","blank","text","thing"] ["bends","papers","row"] (A7 s_af):=scI
theorem A35 (T:Txt K mg D):KCl K mg "row_told" D.a_af D.d_af ["bends","papers","row"]:=⟨T.m_af,T.B.F_af.kp,T.B.F_af.b3⟩
theorem sc_a7:FnScope ["text","rows","told","at","row","thing"] ["text"] (A7 s_a7):=scI
theorem R4 (T:Txt K mg D):KCl K mg "read_stair" D.a_a7 D.d_a7 ["text"]:=⟨T.m_a7,T.B.F_a7.kp,T.B.F_a7.b1⟩
theorem sc_b1:FnScope ["_law_script","_law_k","_law_cell"] ["_law_script","_law_k"] (A7 s_b1):=scI
theorem A1u (T:Txt K mg D):KCl K mg "_law_begun" D.a_b1 D.d_b1 ["_law_script","_law_k"]:=⟨T.m_b1,T.B.F_b1.kp,T.B.F_b1.b2⟩
theorem sc_bc:FnScope ["_law_state","_law_many","_law_digit","_law_made","_law_turn"] ["_law_state","_law_many"] (A7 s_bc):=scI
theorem G1 (T:Txt K mg D):KCl K mg "_law_take" D.a_bc D.d_bc ["_law_state","_law_many"]:=⟨T.m_bc,T.B.F_bc.kp,T.B.F_bc.b2⟩
theorem sc_bd:FnScope ["_law_top","_law_bottom","_law_one","_law_other"] ["_law_top","_law_bottom"] (A7 s_bd):=scI
theorem C1r (T:Txt K mg D):KCl K mg "_law_low" D.a_bd D.d_bd ["_law_top","_law_bottom"]:=⟨T.m_bd,T.B.F_bd.kp,T.B.F_bd.b2⟩
theorem sc_bb:FnScope ["_law_found","_law_due","_law_one","_law_other"] ["_law_found","_law_due"] (A7 s_bb):=scI
theorem A1t (T:Txt K mg D):KCl K mg "_law_same" D.a_bb D.d_bb ["_law_found","_law_due"]:=⟨T.m_bb,T.B.F_bb.kp,T.B.F_bb.b2⟩
theorem sc_ab:FnScope ["_law_one"] ["_law_one"] (A7 s_ab):=scI
theorem P1 (T:Txt K mg D):KCl K mg "_law_number" D.a_ab D.d_ab ["_law_one"]:=⟨T.m_ab,T.B.F_ab.kp,T.B.F_ab.b1⟩
theorem sc_a3:FnScope ["_law_state","_law_far","_law_way","_law_top"] ["_law_state","_law_far"] (A7 s_a3):=scI
theorem K5 (T:Txt K mg D):KCl K mg "_law_fraction" D.a_a3 D.d_a3 ["_law_state","_law_far"]:=⟨T.m_a3,T.B.F_a3.kp,T.B.F_a3.b2⟩
theorem sc_b3:FnScope ["_law_state","_law_far","_law_paper_here","_law_k","_law_amount","_law_word"] ["_law_state","_law_far"] (A7 s_b3):=scI
theorem A7y (T:Txt K mg D):KCl K mg "_law_paper" D.a_b3 D.d_b3 ["_law_state","_law_far"]:=⟨T.m_b3,T.B.F_b3.kp,T.B.F_b3.b2⟩
theorem sc_a0:FnScope ["_law_paper_here"] ["_law_paper_here"] (A7 s_a0):=scI
theorem O9 (T:Txt K mg D):KCl K mg "_law_paper_text" D.a_a0 D.d_a0 ["_law_paper_here"]:=⟨T.m_a0,T.B.F_a0.kp,T.B.F_a0.b1⟩
theorem sc_b9:FnScope ["_law_state","_law_far","_law_plan_here","_law_k","_law_start"] ["_law_state","_law_far"] (A7 s_b9):=scI
theorem C42 (T:Txt K mg D):KCl K mg "_law_plan" D.a_b9 D.d_b9 ["_law_state","_law_far"]:=⟨T.m_b9,T.B.F_b9.kp,T.B.F_b9.b2⟩
theorem sc_b4:FnScope ["_law_cells","_law_bends","_law_papers","_law_k","_law_state","_law_whole","_law_price","_law_last"] ["_law_cells"] (A7 s_b4):=scI
theorem B8f (T:Txt K mg D):KCl K mg "_law_stair" D.a_b4 D.d_b4 ["_law_cells"]:=⟨T.m_b4,T.B.F_b4.kp,T.B.F_b4.b1⟩
theorem sc_a4:FnScope ["_law_plan_here"] ["_law_plan_here"] (A7 s_a4):=scI
theorem A5d (T:Txt K mg D):KCl K mg "_law_plan_text" D.a_a4 D.d_a4 ["_law_plan_here"]:=⟨T.m_a4,T.B.F_a4.kp,T.B.F_a4.b1⟩
theorem sc_ba:FnScope ["_law_stair_here","_law_rows_here","_law_k","_law_whole","_law_price","_law_plan_here","_law_row_here"] ["_law_stair_here"] (A7 s_ba):=scI
theorem C41 (T:Txt K mg D):KCl K mg "_law_rows" D.a_ba D.d_ba ["_law_stair_here"]:=⟨T.m_ba,T.B.F_ba.kp,T.B.F_ba.b1⟩
theorem sc_be:FnScope ["_law_turn","_law_some"] ["_law_turn"] (A7 s_be):=scI
theorem A37 (T:Txt K mg D):KCl K mg "_law_odd" D.a_be D.d_be ["_law_turn"]:=⟨T.m_be,T.B.F_be.kp,T.B.F_be.b1⟩
theorem sc_a5:FnScope ["_law_at","_law_many","_law_turn","_law_some"] ["_law_at","_law_many","_law_turn"] (A7 s_a5):=scI
theorem A5c (T:Txt K mg D):KCl K mg "_law_wrong_row" D.a_a5 D.d_a5 ["_law_at","_law_many","_law_turn"]:=⟨T.m_a5,T.B.F_a5.kp,T.B.F_a5.b3⟩
theorem sc_a8:FnScope ["_law_text","_law_turn","_law_signs","_law_at"] ["_law_text","_law_turn"] (A7 s_a8):=scI
theorem A83 (T:Txt K mg D):KCl K mg "_law_strange" D.a_a8 D.d_a8 ["_law_text","_law_turn"]:=⟨T.m_a8,T.B.F_a8.kp,T.B.F_a8.b2⟩
theorem sc_ac:FnScope ["_law_rows_here","_law_state","_law_way","_law_at","_law_turn","_law_rest"] ["_law_rows_here","_law_state"] (A7 s_ac):=scI
theorem B5r (T:Txt K mg D):KCl K mg "_law_spoilt" D.a_ac D.d_ac ["_law_rows_here","_law_state"]:=⟨T.m_ac,T.B.F_ac.kp,T.B.F_ac.b2⟩
theorem sc_bf:FnScope ["_law_thing","_law_row_here","e"] ["_law_thing"] (A7 s_bf):=scI
theorem C1q (T:Txt K mg D):KCl K mg "_law_row" D.a_bf D.d_bf ["_law_thing"]:=⟨T.m_bf,T.B.F_bf.kp,T.B.F_bf.b1⟩
theorem sc_b2:FnScope ["_law_thing","_law_kinds_here","e"] ["_law_thing"] (A7 s_b2):=scI
theorem B8g (T:Txt K mg D):KCl K mg "_law_kinds" D.a_b2 D.d_b2 ["_law_thing"]:=⟨T.m_b2,T.B.F_b2.kp,T.B.F_b2.b1⟩
theorem sc_c0:FnScope ["_law_script","_law_stair_here","_law_rows_here","_law_cells","_law_k","_law_some","_law_due"] ["_law_script"] (A7 s_c0):=scI
end
theorem sc_NoTextinit:FnScope ["self","row"] ["self","row"] (A7 s_NoTextinit):=scI
theorem hd {a b:PSt} {D:PEnds} {e:PEnv} (h:∀ R,R=b->pSeq a R D e):pSeq a b D e:=h b rfl
theorem B54 {pt:PTt} {pb R:PSt} {D:PEnds} {env:PEnv} (Iv:Nat->PEnv->Prop) (h0:∃ m,Iv m env) (h:∀ m e,Iv m e->pt e fun b e2=>if b=true then pb ⟨fun e3=>∃ m',m' < m/\Iv m' e3,D.rt,R D,fun e3=>∃ m',m' < m/\Iv m' e3⟩ e2 else R D e2):pSeq (A6f pt pb) R D env:=⟨Iv,h0,h⟩
theorem C8 {a b:PSt} {D:PEnds} {e:PEnv} (P:PEnv->Prop) (h1:∀ R:PSt,(∀ e',P e'->R D e')->pSeq a R D e) (h2:∀ e',P e'->b D e'):pSeq a b D e:=h1 b h2
abbrev sO (l:List Nat):Str:=⟨l.toArray⟩
theorem D0 (a b:List Nat):sO a++sO b=sO (a++b):=by
 show Str.mk (a.toArray++b.toArray)=Str.mk _;rw [List.append_toArray]
theorem B3 (a:List Nat):(sO a).length=a.length:=by show a.toArray.size=_; simp
theorem B82 {a b:List Nat} (h:sO a=sO b):a=b:=by
 have:=congrArg (fun z:Str=>z.cps.toList) h;simpa using this
theorem B81 (s:String):Str.ofString s=sO (s.toList.map Char.toNat):=Str.ofString_eq_toList s
def cutS (c:Nat):List Nat->Option (List Nat × List Nat)
 | []=>none
 | x :: r=>if x=c then some ([],r) else match cutS c r with
  | none=>none
  | some p=>some (x :: p.1,p.2)
theorem S9 {c:Nat}:∀ {l:List Nat},c ∉ l->cutS c l=none
 | [],_=>rfl
 | x :: r,h=>by
  unfold cutS;rw [if_neg (fun e:x=c=>h (by rw [e]; exact Zy)),S9 fun m=>h (Zr _ m)]
theorem T0 {c:Nat}:∀ {a b:List Nat},c ∉ a->cutS c (a++c :: b)=some (a,b)
 | [],b,_=>by show cutS c (c :: b)=_; unfold cutS; rw [if_pos rfl]
 | x :: r,b,h=>by
  show cutS c (x :: (r++c :: b))=_;unfold cutS;rw [if_neg (fun e:x=c=>h (by rw [e]; exact Zy)),T0 fun m=>h (Zr _ m)]
theorem A3p {c:Nat}:∀ {l:List Nat} {p:List Nat × List Nat},cutS c l=some p->l=p.1++c :: p.2/\c ∉ p.1
 | [],_,h=>by cases h
 | x :: r,p,h=>by
  unfold cutS at h;split at h
  ·rename_i e; cases h; exact ⟨by rw [e]; rfl,List.not_mem_nil⟩
  ·rename_i e;split at h
   ·cases h
   ·rename_i q hq;cases h;obtain ⟨h1,h2⟩:=A3p hq;exact ⟨by show x :: r=x :: (q.1++c :: q.2); rw [<- h1],fun m=>by
     rcases List.mem_cons.mp m with m | m
     ·exact e m.symm
     ·exact h2 m⟩
def parS (c:Nat) (l:List Nat):List Nat × List Nat × List Nat:=match cutS c l with
 | none=>(l,[],[])
 | some (a,b)=>(a,[c],b)
theorem Q9 (c:Nat) (l:List Nat):Txt.partition (sO l) (sO [c])=(sO (parS c l).1,sO (parS c l).2.1,sO (parS c l).2.2):=by
 unfold Txt.partition parS;rcases PySem.StrLaws.occ_head (sO l) (sO [c]) 1 (Zv 1) with ⟨h0,hn⟩ | ⟨i,r,h0,hi,hn⟩
 ·rw [h0];have:c ∉ l:=fun hm=>by
   obtain ⟨j,hj⟩:=List.getElem?_of_mem hm;exact hn j ((PySem.StrLaws.subAt_one (sO l) c j).mpr (by simpa using hj))
  rw [S9 this]; rfl
 ·rw [h0];have hi':l[i]?=some c:=by simpa using (PySem.StrLaws.subAt_one (sO l) c i).mp hi
  have hn':∀ k,k < i->l[k]?≠some c:=fun k hk e=>hn k hk ((PySem.StrLaws.subAt_one (sO l) c k).mpr (by simpa using e));obtain ⟨hil,hic⟩:=Zs hi';have el:l=l.take i++c :: l.drop (i + 1):=by rw [<- hic,List.getElem_cons_drop,List.take_append_drop]
  have nm:c ∉ l.take i:=fun m=>by
   obtain ⟨j,hj⟩:=List.getElem?_of_mem m;rw [List.getElem?_take] at hj;split at hj
   ·rename_i q; exact hn' j q hj
   ·cases hj
  have ec:cutS c l=some (l.take i,l.drop (i + 1)):=by
   conv=>lhs; rw [el]
   exact T0 nm
  rw [ec];show (Builtin.Str.strSub _ _ _,_,Builtin.Str.strSub _ _ _)=_;rw [PyProof.Rows.strSub_mk,PyProof.Rows.strSub_mk];have e1:((sO l).cps.toList.drop 0).take (i - 0)=l.take i:=by simp
  have e2:((sO l).cps.toList.drop (i + (sO [c]).length)).take ((sO l).length - (i + (sO [c]).length))=l.drop (i + 1):=by
   show (l.drop (i + 1)).take ((sO l).length - (i + 1))=_;rw [B3];exact List.take_of_length_le (by rw [List.length_drop]; exact Zv _)
  rw [e1,e2]
theorem A74 (c:Nat) (l:List Nat):Txt.startswith (sO l) (sO [c])=(l.head? == some c):=by
 unfold Txt.startswith;rw [PySem.StrLaws.subAt_eq];cases l with
 | nil=>rfl
 | cons x r =>
  have e1:(sO [c]).length=1:=rfl;have e2:(sO (x :: r)).length=r.length + 1:=by rw [B3]; rfl
  rw [e1,e2];show (decide (0 + 1<=r.length + 1) && ([x] == [c]))=(some x == some c);rw [Zk (by omega),Bool.true_and];by_cases h:x=c
  ·subst h; simp
  ·have h1:([x] == [c])=false:=by simp [h]
   have h2:(some x == some c)=false:=by simp [h]
   rw [h1,h2]
theorem A76 (x:Nat) (r:List Nat):Txt.slice (sO (x :: r)) (some 1) none=sO r:=by
 rw [PyProof.Rows.slice_from_eq (b:=((x :: r).length:Int)) (by decide) (by rw [B3]; simp; omega) (by rw [B3])];have:(((x :: r).length:Int) - 1).toNat=r.length:=by simp
 rw [this];show (⟨((((x :: r).drop 1)).take r.length).toArray⟩:Str)=_;simp
def dgs (n:Nat):List Nat:=(Nat.toDigits 10 n).map Char.toNat
theorem Y8 {n:Nat} (h:n < 10):dgs n=[48 + n]:=by
 unfold dgs;rw [Nat.toDigits_of_lt_base h];have:∀ d:Nat,d < 10->(Nat.digitChar d).toNat=48 + d:=by decide
 show [(Nat.digitChar n).toNat]=_;rw [this n h]
theorem A7p {q d:Nat} (hq:0 < q) (hd:d < 10):dgs (10 * q + d)=dgs q++[48 + d]:=by
 have e:=Nat.toDigits_append_toDigits (b:=10) (n:=q) (d:=d) (by decide) hq hd;unfold dgs;rw [<- e,Zc];have:=Y8 hd;unfold dgs at this;rw [this]
theorem Y9 {n:Nat} (h:10<=n):dgs n=dgs (n / 10)++[48 + n % 10]:=by
 rw [<- A7p (by omega) (Nat.mod_lt n (by decide)),Nat.div_add_mod]
theorem A3n (n:Nat):dgs n≠[]:=by
 by_cases h:n < 10
 ·rw [Y8 h]; simp
 ·rw [Y9 (by omega)]; simp
theorem O7 (n:Nat):∀ c ∈ dgs n,48<=c/\c<=57:=by
 induction n using Nat.strongRecOn with
 | _ n ih =>
  intro c hc;by_cases h:n < 10
  ·rw [Y8 h] at hc;have:=Zn hc;omega
  ·rw [Y9 (by omega)] at hc;rcases Za hc with hc | hc
   ·exact ih (n / 10) (by omega) c hc
   ·have:=Zn hc;have:=Nat.mod_lt n (show 0 < 10 by decide);omega
theorem C4r (n:Nat):PySem.NumText.digitsVal (dgs n)=n:=PySem.W.KIN.val_back n
theorem dgs_len {k n:Nat}:n < 10 ^ (k + 1) ↔ (dgs n).length<=k + 1:=by
 induction k generalizing n with
 | zero =>
  by_cases h:n < 10
  ·rw [Y8 h]; simp; omega
  ·rw [Y9 (by omega),Ze];have:=List.length_pos_iff.mpr (A3n (n / 10));simp only [List.length_cons,List.length_nil];constructor
   ·intro z; omega
   ·intro z; omega
 | succ k ih =>
  by_cases h:n < 10
  ·rw [Y8 h];have:10 ^ (k + 1 + 1) ≥ 10:=by rw [Nat.pow_succ]; exact Nat.le_mul_of_pos_left 10 (Nat.pow_pos (by decide))
   simp only [List.length_cons,List.length_nil];constructor
   ·intro; omega
   ·intro; omega
  ·rw [Y9 (by omega),Ze];simp only [List.length_cons,List.length_nil];have:=ih (n:=n / 10);rw [show 10 ^ (k + 1 + 1)=10 * 10 ^ (k + 1) by rw [Nat.pow_succ,Nat.mul_comm]];constructor
   ·intro z;have:=this.mp (by omega);omega
   ·intro z;have:=this.mpr (by omega);omega
def padN:Nat->Nat->List Nat
 | 0,_=>[]
 | k + 1,m=>padN k (m / 10)++[48 + m % 10]
theorem B5c:∀ {k q r:Nat},0 < q->r < 10 ^ k->dgs (10 ^ k * q + r)=dgs q++padN k r
 | 0,q,r,_,hr=>by
  have:r=0:=by simpa using hr
  subst this;simp [padN]
 | k + 1,q,r,hq,hr=>by
  have e1:10 ^ (k + 1) * q + r=10 * (10 ^ k * q + r / 10) + r % 10:=by
   have:=Nat.div_add_mod r 10;rw [Nat.pow_succ,Nat.mul_comm (10 ^ k) 10,Nat.mul_assoc];omega
  have hr':r / 10 < 10 ^ k:=by rw [Nat.pow_succ] at hr; omega
  have hp:0 < 10 ^ k * q:=Nat.mul_pos (Nat.pow_pos (by decide)) hq;rw [e1,A7p (by omega) (Nat.mod_lt r (by decide)),B5c hq hr'];show _=dgs q++(padN k (r / 10)++[48 + r % 10]);rw [List.append_assoc]
theorem A2r:∀ k:Nat,padN k 0=List.replicate k 48
 | 0=>rfl
 | k + 1=>by show padN k (0 / 10)++[48 + 0 % 10]=_; rw [Nat.zero_div,A2r k,List.replicate_succ']
theorem B05:∀ {k m:Nat},m < 10 ^ (k + 1)->padN (k + 1) m=List.replicate (k + 1 - (dgs m).length) 48++dgs m
 | 0,m,h=>by
  rw [Y8 (by omega)];show padN 0 (m / 10)++[48 + m % 10]=_;have:m % 10=m:=by omega
  rw [this]; rfl
 | k + 1,m,h=>by
  show padN (k + 1) (m / 10)++[48 + m % 10]=_;by_cases hm:m < 10
  ·have e0:m / 10=0:=by omega
   have e1:m % 10=m:=by omega
   rw [e0,e1,A2r,Y8 hm]; rfl
  ·have h':m / 10 < 10 ^ (k + 1):=by
    rw [show 10 ^ (k + 1 + 1)=10 * 10 ^ (k + 1) by rw [Nat.pow_succ,Nat.mul_comm]] at h;omega
   rw [B05 h',Y9 (by omega:10<=m),Ze,List.append_assoc];simp only [List.length_cons,List.length_nil];congr 2
   omega
theorem B50 {m:Nat} (h:m < 10 ^ 18):Txt.zfill (sO (dgs m)) 18=sO (padN 18 m):=by
 have hl:(dgs m).length<=18:=dgs_len.mp h;rw [B05 h];unfold Txt.zfill;rw [B3];split
 ·rename_i z;have:(dgs m).length=18:=by omega
  rw [this]; rfl
 ·have hd:=O7 m;cases e:dgs m with
  | nil=>exact absurd e (A3n m)
  | cons c r =>
   have hc:=hd c (by rw [e]; exact Zy);have:PySem.zfilled (sO (c :: r)) ((18:Int).toNat - (c :: r).length)=Builtin.Str.padded (sO (c :: r)) ((18:Int).toNat - (c :: r).length) 0 48:=by
    unfold PySem.zfilled;split
    ·rename_i q; have:c=43:=by simpa using q
     omega
    ·rename_i q; have:c=45:=by simpa using q
     omega
    ·rfl
   rw [this];unfold Builtin.Str.padded;show Str.mk _=Str.mk _;congr 1
   apply Array.toList_inj.mp;simp
def whL (n:Int):List Nat:=if n < 0 then 45 :: dgs n.natAbs else dgs n.natAbs
theorem O1 {n:Int} (h:0<=n):Str.ofString (toString n)=sO (dgs n.natAbs):=by
 obtain ⟨m,rfl⟩:=Zi h;rw [B81];have:(toString ((m:Nat):Int)).toList=Nat.toDigits 10 m:=by
  show (Int.repr _).toList=_;unfold Int.repr;show (Nat.repr m).toList=_;unfold Nat.repr;simp
 rw [this]; rfl
def G4:List Nat->List Nat
 | []=>[]
 | c :: r=>if c=45 then r else c :: r
def digB (c:Nat):Bool:=decide (48<=c) && decide (c<=57)
def valL (l:List Nat):Int:=if l.head?=some 45 then -((PySem.NumText.digitsVal (G4 l):Nat):Int) else ((PySem.NumText.digitsVal (G4 l):Nat):Int)
def wIn (l:List Nat):Option Int:=if 1<=(G4 l).length/\(G4 l).length<=60/\(G4 l).all digB=true then (if whL (valL l)=l then some (valL l) else none) else none
theorem A5a (n:Int):G4 (whL n)=dgs n.natAbs:=by
 unfold whL;split
 ·show (if 45=45 then dgs n.natAbs else 45 :: dgs n.natAbs)=_; rw [if_pos rfl]
 ·cases e:dgs n.natAbs with
  | nil=>exact absurd e (A3n _)
  | cons c r =>
   have:=O7 n.natAbs c (by rw [e]; exact Zy);show (if c=45 then _ else _)=_;rw [if_neg (by omega)]
theorem C48 (n:Int):valL (whL n)=n:=by
 unfold valL;rw [A5a,C4r];unfold whL;split
 ·rename_i h;rw [if_pos (by rfl)]; omega
 ·rename_i h;rw [if_neg]
  ·omega
  ·cases e:dgs n.natAbs with
   | nil=>exact absurd e (A3n _)
   | cons c r =>
    have:=O7 n.natAbs c (by rw [e]; exact Zy);intro z;have:c=45:=by simpa using z
    omega
theorem C4q (n:Nat):(dgs n).all digB=true:=List.all_eq_true.mpr fun c hc=>by
 have:=O7 n c hc;unfold digB;rw [Zk this.1,Zk this.2]; rfl
theorem A5j {n:Int} (h:(dgs n.natAbs).length<=60):wIn (whL n)=some n:=by
 unfold wIn;rw [A5a,C48,if_pos ⟨List.length_pos_iff.mpr (A3n _),h,C4q _⟩,if_pos rfl]
theorem B8n {l:List Nat} {n:Int} (h:wIn l=some n):l=whL n/\(dgs n.natAbs).length<=60:=by
 unfold wIn at h;split at h
 ·rename_i c;split at h
  ·rename_i e;have en:valL l=n:=Zj h;rw [en] at e;have:=c.2.1;rw [<- e,A5a] at this;exact ⟨e.symm,this⟩
  ·cases h
 ·cases h
theorem A4d {c:Nat} {l:List Nat} (hc:c ∈ l) (h1:digB c=false) (h2:c≠45):wIn l=none:=by
 have hb:c ∈ G4 l:=by
  cases l with
  | nil=>cases hc
  | cons x r =>
   show c ∈ (if x=45 then r else x :: r);by_cases e:x=45
   ·rw [if_pos e];rcases List.mem_cons.mp hc with m | m
    ·exact absurd (m.trans e) h2
    ·exact m
   ·rw [if_neg e]; exact hc
 unfold wIn;rw [if_neg];intro z;have:=List.all_eq_true.mp z.2.2 c hb;rw [h1] at this;cases this
def rIn (l:List Nat):Option (Int × Int) :=
 match wIn (parS 47 l).1,(if (parS 47 l).2.1=[47] then wIn (parS 47 l).2.2 else some 1) with
 | some t,some b=>if (parS 47 l).2.1=[47]/\(b < 2\/((Int.gcd t b:Nat):Int)≠1) then none else some (t,b)
 | _,_=>none
def rtL (q:Rat):List Nat:=whL q.num++(if 1 < q.den then 47 :: dgs q.den else [])
theorem K7 (n:Int):∀ c ∈ whL n,c=45\/(48<=c/\c<=57):=fun c hc=>by
 unfold whL at hc;split at hc
 ·rcases List.mem_cons.mp hc with m | m
  ·exact .inl m
  ·exact .inr (O7 _ c m)
 ·exact .inr (O7 _ c hc)
theorem C47 (n:Int):47 ∉ whL n:=fun m=>by
 rcases K7 n 47 m with h | h <;> omega
theorem C6v (q:Rat):parS 47 (rtL q)=if 1 < q.den then (whL q.num,[47],dgs q.den) else (whL q.num,[],[]):=by
 unfold rtL;by_cases h:1 < q.den
 ·rw [if_pos h,if_pos h];unfold parS;rw [T0 (C47 _)]
 ·rw [if_neg h,if_neg h,List.append_nil];unfold parS;rw [S9 (C47 _)]
theorem B8l (n:Nat):whL (n:Int)=dgs n:=by
 unfold whL;rw [if_neg (by omega)]; rfl
theorem C4s {q:Rat} (h:¬ 1 < q.den):q.den=1:=by have:=q.den_pos; omega
theorem C59 {q:Rat} (h1:(dgs q.num.natAbs).length<=60) (h2:(dgs q.den).length<=60):rIn (rtL q)=some (q.num,(q.den:Int)):=by
 unfold rIn;rw [C6v];by_cases h:1 < q.den
 ·simp only [if_pos h];have e2:wIn (dgs q.den)=some (q.den:Int):=by rw [<- B8l]; exact A5j (by simpa using h2)
  rw [A5j h1,if_pos True.intro,e2];show (if _ then _ else _)=_;rw [if_neg];rintro ⟨_,z | z⟩
  ·omega
  ·apply z;have:=q.reduced;have:Int.gcd q.num (q.den:Int)=1:=this;rw [this]; rfl
 ·simp only [if_neg h];rw [A5j h1,if_neg (by simp)];show (if _ then _ else _)=_;rw [if_neg (by simp),C4s h]; rfl
theorem R0 (c:Nat) (l:List Nat):(parS c l).1++(parS c l).2.1++(parS c l).2.2=l/\(((parS c l).2.1=[]/\(parS c l).2.2=[])\/(parS c l).2.1=[c]):=by
 unfold parS;cases h:cutS c l with
 | none=>exact ⟨by simp,.inl ⟨rfl,rfl⟩⟩
 | some p =>
  obtain ⟨h1,_⟩:=A3p h;exact ⟨by rw [h1]; simp,.inr rfl⟩
theorem A97 {c:Nat} {l:List Nat} (hc:c ∈ l) (h1:digB c=false) (h2:c≠45) (h3:c≠47):rIn l=none:=by
 obtain ⟨e,k⟩:=R0 47 l;unfold rIn;rw [<- e,List.append_assoc] at hc;rcases Za hc with m | m
 ·rw [A4d m h1 h2]
 ·rcases k with ⟨k1,k2⟩ | k
  ·rw [k1,k2] at m; cases m
  ·rw [k] at m ⊢;rcases Za m with m | m
   ·exact absurd (Zn m) h3
   ·simp only [if_true];rw [A4d m h1 h2];cases wIn (parS 47 l).1 <;> rfl
def oI:Option Int->PyData
 | none=>.none
 | some n=>.int n
def oR:Option (Int × Int)->PyData
 | none=>.none
 | some p=>.tuple [.int p.1,.int p.2]
theorem C5x {q:Rat} {a b:Nat} (h1:q.num.natAbs < 10 ^ (a + 1)) (h2:q.den < 10 ^ (b + 1)):(rtL q).length<=a + b + 4:=by
 have e1:=dgs_len.mp h1;have e2:=dgs_len.mp h2;unfold rtL whL;rw [Ze];split <;> split <;> simp only [List.length_cons,List.length_nil] <;> omega
theorem m45:Str.ofString "-"=sO [45]:=by decide +kernel
theorem m47:Str.ofString "/"=sO [47]:=by decide +kernel
theorem mE:Str.ofString ""=sO []:=by decide +kernel
theorem mFig:Str.ofString "0123456789"=sO [48,49,50,51,52,53,54,55,56,57]:=by decide +kernel
theorem A5x (l:List Nat):A9w (sO l)=l.map sgn:=rfl
theorem C9m (c:Nat):(!(Builtin.Str.occurrences (sO [48,49,50,51,52,53,54,55,56,57]) ⟨#[c]⟩ 0 (sO [48,49,50,51,52,53,54,55,56,57]).length 1).isEmpty)=digB c:=by
 rw [PySem.StrLaws.found_one];unfold digB;rw [<- Bool.decide_and];refine decide_eq_decide.mpr ?_;show c ∈ [48,49,50,51,52,53,54,55,56,57] ↔ _;simp only [List.mem_cons,List.not_mem_nil,or_false];omega
theorem K4 {l:List Nat} (h:∀ c ∈ l,c < 128):(PyData.str (sO l)).canLay0=true:=by
 show PyData.strOk (sO l)=true;unfold PyData.strOk;show l.toArray.all (fun x=>decide (x < 1114112))=true;rw [List.all_toArray];exact List.all_eq_true.mpr fun c hc=>Zk (Nat.lt_trans (h c hc) (by decide))
theorem V1 (a b:List Nat):(PyData.str (sO a)).eqv (.str (sO b))=decide (a=b):=by
 show (sO a == sO b)=_;by_cases h:a=b
 ·rw [h,Zk rfl]; simp
 ·rw [Zd h];exact beq_eq_false_iff_ne.mpr fun z=>h (B82 z)
theorem B8o:∀ (n:Nat) {l:List Nat},l.length=n->(∀ c ∈ l,48<=c/\c<=57)->PySem.NumText.digitsVal l < 10 ^ l.length
 | 0,l,hn,_=>by rw [List.length_eq_zero_iff.mp hn]; decide
 | n + 1,l,hn,h=>by
  have ne:l≠[]:=fun z=>by rw [z] at hn; cases hn
  have e:=List.dropLast_concat_getLast ne;have hl:l.dropLast.length=n:=by rw [List.length_dropLast,hn]; rfl
  have h1:=B8o n hl fun d hd=>h d (List.dropLast_subset l hd);have h2:=h (l.getLast ne) (List.getLast_mem ne);rw [<- e,PySem.NumText.digitsVal_snoc,Ze,List.length_singleton,Nat.pow_succ];omega
theorem A1p {l:List Nat} (h:l.all digB=true):∀ c ∈ l,48<=c/\c<=57:=fun c hc=>by
 have:=List.all_eq_true.mp h c hc;unfold digB at this;simp only [Bool.and_eq_true,decide_eq_true_eq] at this;exact this
theorem C9b {l:List Nat} (h:(G4 l).all digB=true) (h1:1<=(G4 l).length) (h2:l.length<=4200):PySem.intText? (sO l)=some (valL l):=by
 have hd:=A1p h;have hl:(sO l).length<=4300:=by rw [B3]; omega
 cases l with
 | nil=>exact absurd h1 (by decide)
 | cons c r =>
  by_cases e:c=45
  ·subst e;have eb:G4 (45 :: r)=r:=by
    show (if 45=45 then r else 45 :: r)=r;exact if_pos rfl
   rw [eb] at hd h1;have:=PySem.intText_neg (x:=sO (45 :: r)) (cs:=r) rfl hd (List.length_pos_iff.mp h1) hl;rw [this];unfold valL;rw [if_pos (show (45 :: r).head?=some 45 from rfl),eb]
  ·have eb:G4 (c :: r)=c :: r:=if_neg e;rw [eb] at hd;have:=PySem.intText_digits (x:=sO (c :: r)) hd (by simp) hl;rw [this];unfold valL;rw [if_neg (by simpa using e),eb]
theorem A88 {l:List Nat} (h:(G4 l).all digB=true) (h2:(G4 l).length<=60):(valL l).natAbs < 10 ^ 60:=by
 have:=B8o _ rfl (A1p h);have h3:10 ^ (G4 l).length<=10 ^ 60:=Zp (by decide) h2;unfold valL;split <;> omega
theorem b300 {n:Nat} (h:n < 10 ^ 300):n < 2 ^ 1000:=Nat.lt_of_lt_of_le h (by decide +kernel)
theorem A8u {i:Int} (h:i.natAbs < 10 ^ 300):i.natAbs.log2 < 1920:=Nat.lt_of_lt_of_le (Sm.log (k:=1000) (b300 h) (by decide)) (by decide)
theorem C5o {i:Int} (h:i.natAbs < 10 ^ 300):Sm 8000 i:=Sm.mono (k:=1000) (b300 h) (by decide)
theorem A73 {n:Nat} (h:n < 10 ^ 60):n < 10 ^ 300:=Nat.lt_of_lt_of_le h (by decide +kernel)
theorem R6:∀ ls:List (List Nat),A0z (ls.map fun l=>PyData.str (sO l))=some (ls.map sO)
 | []=>rfl
 | l :: r=>by
  show (A0z (r.map fun l=>PyData.str (sO l))).map (sO l :: ·)=_;rw [R6 r]; rfl
theorem B4t:∀ ls:List (List Nat),(sO []).join (ls.map sO)=sO ls.flatten
 | []=>rfl
 | [a]=>by show sO a=_; simp
 | a :: b :: r=>by
  show sO a++sO []++Str.join (sO []) ((b :: r).map sO)=_;rw [B4t (b :: r),D0,D0]; simp
theorem B8w:∀ ls:List (List Nat),((ls.map sO).map fun z=>z.length + (sO []).length).sum=ls.flatten.length
 | []=>rfl
 | a :: r=>by
  show ((sO a).length + 0) + ((r.map sO).map fun z=>z.length + (sO []).length).sum=_;rw [B8w r,B3]; simp
theorem A6d:∀ (k m:Nat),(padN k m).length=k
 | 0,_=>rfl
 | k + 1,m=>by show (padN k (m / 10)++[48 + m % 10]).length=_; rw [Ze,A6d k]; rfl
theorem A7m {k:Nat}:∀ {ls:List (List Nat)},(∀ l ∈ ls,l.length=k)->ls.flatten.length=k * ls.length
 | [],_=>rfl
 | a :: r,h=>by
  rw [List.flatten_cons,Ze,h a Zy,A7m fun l hl=>h l (Zr _ hl),List.length_cons,Nat.mul_succ,Nat.add_comm]
theorem C9n {n:Nat} (h:n < 10 ^ 300):(dgs n).length<=300:=dgs_len.mp h
theorem B3m (n:Int):(if n < 0 then -n else n)=((n.natAbs:Nat):Int):=by split <;> omega
def strB (c:Nat):Bool:=!digB c && !(c == 45) && !(c == 47) && decide (c < 128)
def OddX:PyData->Prop
 | .str z=>z.length<=4200/\rIn z.cps.toList=none
 | .dict _=>False
 | _=>True
theorem D1l {c:Nat} {l:List Nat} (hc:c ∈ l) (hs:strB c=true) (hl:l.length<=4200):OddX (.str (sO l)):=by
 unfold strB at hs;simp only [Bool.and_eq_true,Bool.not_eq_true',beq_eq_false_iff_ne,decide_eq_true_eq] at hs;exact ⟨by rw [B3]; exact hl,A97 hc hs.1.1.1 hs.1.1.2 hs.1.2⟩
theorem B6g (q:Rat):∀ c ∈ rtL q,c < 128:=fun c hc=>by
 unfold rtL at hc;rcases Za hc with m | m
 ·have:=K7 _ c m;omega
 ·split at m
  ·rcases List.mem_cons.mp m with m | m
   ·omega
   ·have:=O7 _ c m;omega
  ·cases m
theorem W7 {q:Rat} (h1:q.num.natAbs < 10 ^ 60) (h2:q.den < 10 ^ 60):(rtL q).length<=130:=by
 have:=C5x (a:=59) (b:=59) h1 h2;omega
theorem A0r {P:PyData->Prop} {xs:LP} {d:Int} (h:∀ x ∈ xs,P x) (d0:0<=d) (d1:d < xs.length):∃ x,P x/\L2.atI xs d=some x:=by
 obtain ⟨m,rfl⟩:=Zi d0;have hm:m < xs.length:=by omega
 exact ⟨xs[m],h _ (List.getElem_mem hm),K2 (Zg hm)⟩
def strL:List Nat:=[33,34,35,36,38,39,40,41,42,43,46,59,60,61,62,63,64,65,66,67,68,69,70,71,72,73,74,75,76,77,78,79,80,81,82,83,84,85,86,87,88,89,90,92,94,95,96,123,125,126,9]
theorem mStr:Str.ofString "!\"#$&'()*+.;<=>?@ABCDEFGHIJKLMNOPQRSTUVWXYZ\\^_`{}~\t"=sO strL:=by decide +kernel
theorem B6b {l:List Nat} {i:Nat} (h:i<=l.length):Txt.slice (sO l) none (some (i:Int))=sO (l.take i):=by
 have:=PyProof.Rows.slice_closes_to (x:=sO l) (j:=(i:Int)) ⟨Int.natCast_nonneg _,by show (i:Int)<=(l.length:Int); omega⟩;rw [eq_of_beq this];show (⟨((l.drop (0:Int).toNat).take ((i:Int) - 0).toNat).toArray⟩:Str)=_;have e:((i:Int) - 0).toNat=i:=by omega
 rw [e]; rfl
theorem B6c {l:List Nat} {i:Nat} (h:i<=l.length):Txt.slice (sO l) (some (i:Int)) none=sO (l.drop i):=by
 rw [PyProof.Rows.slice_from_eq (b:=(l.length:Int)) (Int.natCast_nonneg _) (by rw [B3]; omega) (by rw [B3])];show (⟨((l.drop (i:Int).toNat).take ((l.length:Int) - (i:Int)).toNat).toArray⟩:Str)=_;have e:((l.length:Int) - (i:Int)).toNat=l.length - i:=by omega
 rw [e,Int.toNat_natCast,List.take_of_length_le (by rw [List.length_drop]; exact Zv _)]
theorem C8z:(PyData.str (sO [47])).canLay0=true:=K4 fun c hc=>by have:=Zn hc; omega
theorem D1e (ns:List Int):cutD (ns.map PyData.int) none (some 63)=(ns.take 63).map .int:=by
 unfold cutD;have e1:HT.sIx (ns.map PyData.int).length 0 none=0:=rfl;have e2:HT.sIx (ns.map PyData.int).length (ns.map PyData.int).length (some 63)=min 63 ns.length:=by unfold HT.sIx; simp
 rw [e1,e2,List.drop_zero,Nat.sub_zero,<- List.map_take];congr 1
 rw [List.take_eq_take_iff]; omega
theorem D08 {p q:Rat} (h1:p.num.natAbs < 10 ^ 60) (h2:p.den < 10 ^ 60) (h3:q.num.natAbs < 10 ^ 60) (h4:q.den < 10 ^ 60):SmQ 3900 p/\SmQ 3900 q/\(p * q).num.natAbs < 10 ^ 120/\(p * q).den < 10 ^ 120:=by
 have b1:10 ^ 60<=2 ^ 200:=by decide +kernel
 have hp:SmR 200 200 p:=⟨Nat.lt_of_lt_of_le h1 b1,Nat.lt_of_lt_of_le h2 b1⟩;have hq:SmR 200 200 q:=⟨Nat.lt_of_lt_of_le h3 b1,Nat.lt_of_lt_of_le h4 b1⟩;refine ⟨hp.q (by decide) (by decide),hq.q (by decide) (by decide),?_,?_⟩
 ·have e:(p * q).num=(p.num * q.num) / ((Nat.gcd (p.num * q.num).natAbs (p.den * q.den):Nat):Int):=Rat.num_mul p q;rw [e];have l1:((p.num * q.num) / ((Nat.gcd (p.num * q.num).natAbs (p.den * q.den):Nat):Int)).natAbs<=(p.num * q.num).natAbs:=by
   rw [Int.natAbs_ediv_of_dvd (Int.ofNat_dvd_left.mpr (Nat.gcd_dvd_left _ _))];exact Nat.div_le_self _ _
  have l2:(p.num * q.num).natAbs < 10 ^ 120:=by
   rw [Int.natAbs_mul];exact Nat.lt_of_lt_of_le (Nat.mul_lt_mul'' h1 h3) (by decide)
  exact Nat.lt_of_le_of_lt l1 l2
 ·have e:(p * q).den=(p.den * q.den) / (Nat.gcd (p.num * q.num).natAbs (p.den * q.den)):=Rat.den_mul p q;rw [e];exact Nat.lt_of_le_of_lt (Nat.div_le_self _ _) (Nat.lt_of_lt_of_le (Nat.mul_lt_mul'' h2 h4) (by decide))
theorem A3m {t b:Int} (hb:0 < b):(Rat.divInt t b).num.natAbs<=t.natAbs/\(Rat.divInt t b).den<=b.natAbs:=by
 rw [Rat.num_divInt,Rat.den_divInt,Int.sign_eq_one_of_pos hb,Int.one_mul,if_neg (by omega)];refine ⟨?_,Nat.div_le_self _ _⟩;rw [Int.natAbs_ediv_of_dvd (Int.gcd_dvd_right ..)];exact Nat.div_le_self _ _
def Pz (x:PyData):Prop:=∃ n:Int,x=.int n/\0 < n/\n<=10 ^ 60
def Pw (x:PyData):Prop:=∃ n:Int,x=.int n/\0 < n/\n < 10 ^ 60
theorem sz {n:Int} (h0:0<=n) (h:n<=10 ^ 60):n.natAbs<=10 ^ 60:=by
 have e:(10:Int) ^ 60=((10 ^ 60:Nat):Int):=by decide +kernel
 rw [e] at h;generalize 10 ^ 60=N at *;omega
theorem smz {n:Int} (h0:0<=n) (h:n<=10 ^ 60):Sm 3000 n:=Nat.lt_of_le_of_lt (sz h0 h) (by decide +kernel)
theorem D0e:∀ x ∈ [PyData.int 3,PyData.int 40,PyData.int (10 ^ Int.toNat 6),PyData.int (10 ^ Int.toNat 30),PyData.int (10 ^ Int.toNat 60)],Pz x:=by
 intro x hx;simp only [List.mem_cons,List.not_mem_nil,or_false] at hx;rcases hx with rfl | rfl | rfl | rfl | rfl
 ·exact ⟨_,rfl,by decide +kernel,by decide +kernel⟩
 ·exact ⟨_,rfl,by decide +kernel,by decide +kernel⟩
 ·exact ⟨_,rfl,by decide +kernel,by decide +kernel⟩
 ·exact ⟨_,rfl,by decide +kernel,by decide +kernel⟩
 ·exact ⟨_,rfl,by decide +kernel,by decide +kernel⟩
theorem D1h:∀ x ∈ [PyData.int 1,PyData.int 12,PyData.int (10 ^ Int.toNat 60 - 1)],Pw x:=by
 intro x hx;simp only [List.mem_cons,List.not_mem_nil,or_false] at hx;rcases hx with rfl | rfl | rfl
 ·exact ⟨_,rfl,by decide +kernel,by decide +kernel⟩
 ·exact ⟨_,rfl,by decide +kernel,by decide +kernel⟩
 ·exact ⟨_,rfl,by decide +kernel,by decide +kernel⟩
theorem A62:∀ ns:List Int,(PyData.list (ns.map .int)).canLay0=true
 | []=>rfl
 | a :: r=>by show (true && (PyData.list (r.map .int)).canLay0)=true; rw [A62 r]; rfl
theorem B70 (ns:List Int):(PyData.list (ns.map .int)).depth<=60:=by
 have:∀ ns:List Int,PyData.depthAll (ns.map .int)<=0:=fun ns=>by
  induction ns with
  | nil=>exact Zv _
  | cons a r ih=>show max 0 (PyData.depthAll (r.map .int))<=0; omega
 exact Nat.succ_le_succ (Zx (this ns) (by decide))
theorem smN {n:Nat} (h:n<=4200):Sm 4000 ((n:Nat):Int):=Nat.lt_of_le_of_lt h (Nat.lt_of_lt_of_le (show 4200 < 2 ^ 13 by decide) (Zp (by decide) (by decide)))
open PySem.Builtin PySem.Builtin.Str PySem.StrLaws in
theorem B8x (s sub:Str) (i:Nat):subAt s sub i=((s.cps.toList.drop i).take sub.length == sub.cps.toList):=subAt_eq s sub i
def occL (P:Nat->Bool) (w:Nat):List Nat->Nat->List Nat
 | [],_=>[]
 | i :: l,free=>if (decide (free<=i) && P i)=true then i :: occL P w l (i + w) else occL P w l free
open PySem.Builtin PySem.Builtin.Str PySem.StrLaws in
theorem V9 (s sub:Str) (hi limit:Nat):∀ (l:List Nat) (st:Array Nat × Nat),st.fst.size + l.length<=limit->(forIn l st (occBody s sub hi limit)).run.fst.toList=st.fst.toList++occL (fun i=>decide (i + sub.length<=hi) && subAt s sub i) sub.length l st.snd
 | [],st,_=>by show st.fst.toList=st.fst.toList++[]; simp
 | i :: l,st,h=>by
  rw [List.length_cons] at h;rw [List.forIn_cons];unfold occBody;by_cases hc:((st.fst.size < limit/\st.snd<=i)/\i + sub.length<=hi)/\subAt s sub i=true
  ·rw [if_pos hc];refine (V9 s sub hi limit l (st.fst.push i,i + sub.length) (by rw [Array.size_push]; omega)).trans ?_;rw [Array.toList_push,List.append_assoc];show _=_++(if (decide (st.snd<=i) && (decide (i + sub.length<=hi) && subAt s sub i))=true then _ else _);rw [if_pos (by rw [Zk hc.1.1.2,Zk hc.1.2,hc.2]; rfl)]; rfl
  ·rw [if_neg hc];refine (V9 s sub hi limit l st (by omega)).trans ?_;show _=_++(if (decide (st.snd<=i) && (decide (i + sub.length<=hi) && subAt s sub i))=true then _ else _);rw [if_neg (fun z=>hc (by
    rw [Bool.and_eq_true,Bool.and_eq_true,decide_eq_true_eq,decide_eq_true_eq] at z;exact ⟨⟨⟨by omega,z.1⟩,z.2.1⟩,z.2.2⟩))]
theorem S6 (P:Nat->Bool) (w:Nat):∀ (k a m free:Nat),k<=m->(∀ i,a<=i->i < a + k->free<=i->P i=false)->occL P w (List.range' a m) free=occL P w (List.range' (a + k) (m - k)) free
 | 0,a,m,free,_,_=>by rw [Nat.add_zero,Nat.sub_zero]
 | k + 1,a,m + 1,free,h,hp=>by
  rw [List.range'_succ];show (if (decide (free<=a) && P a)=true then _ else _)=_;rw [if_neg (fun z=>by
   rw [Bool.and_eq_true,decide_eq_true_eq] at z;rw [hp a (Zv _) (by omega) z.1] at z;exact absurd z.2 (by decide))]
  rw [S6 P w k (a + 1) m free (by omega) fun i h1 h2 h3=>hp i (by omega) (by omega) h3];congr 2 <;> omega
def D7 (y:List Nat):List (List Nat)->List Nat
 | []=>[]
 | [p]=>p
 | p :: q :: r=>p++y++D7 y (q :: r)
theorem K1 {y p q:List Nat} {r:List (List Nat)}:D7 y (p :: q :: r)=p++y++D7 y (q :: r):=rfl
theorem N6 (y:List Nat):∀ ls:List (List Nat),(sO y).join (ls.map sO)=sO (D7 y ls)
 | []=>rfl
 | [p]=>rfl
 | p :: q :: r=>by
  show sO p++sO y++(sO y).join ((q :: r).map sO)=_;rw [N6 y (q :: r),D0,D0]; rfl
def A3o (w:Nat):Nat->List (List Nat)->List Nat
 | a,p :: q :: r=>(a + p.length) :: A3o w (a + p.length + w) (q :: r)
 | _,_=>[]
open PySem.Builtin PySem.Builtin.Str PySem.StrLaws in
theorem A6t {xs y':List Nat} {c:Nat}:∀ (ps:List (List Nat)) (pre:List Nat),ps≠[]->xs=pre++D7 (c :: y') ps->(∀ p ∈ ps,c ∉ p) ->
  occL (fun i=>decide (i + (y'.length + 1)<=xs.length) && ((xs.drop i).take (y'.length + 1) == c :: y')) (y'.length + 1) (List.range' pre.length (xs.length + 1 - pre.length)) pre.length=A3o (y'.length + 1) pre.length ps
 | [],_,h,_,_=>absurd rfl h
 | [p],pre,_,hx,hp=>by
  have hx:xs=pre++p:=hx;have hn:xs.length=pre.length + p.length:=by rw [hx,Ze]
  rw [S6 _ _ (xs.length + 1 - pre.length) _ _ _ (Zv _),Nat.sub_self]
  ·rfl
  ·intro i h1 h2 _;by_cases hi:i < xs.length
   ·have hm:xs[i]?≠some c:=fun e=>by
     rw [hx,List.getElem?_append_right h1] at e;exact hp p Zy (Zm e)
    rw [Bool.and_eq_false_iff]; right;refine Bool.eq_false_iff.mpr fun e=>hm ?_;have e:=eq_of_beq e;have e0:=congrArg (fun l:List Nat=>l[0]?) e;simp only [List.getElem?_cons_zero] at e0;rw [List.getElem?_take,if_pos (by omega),List.getElem?_drop] at e0;simpa using e0
   ·rw [Zd (by omega)]; rfl
 | p :: q :: r,pre,_,hx,hp=>by
  rw [K1] at hx;have hn:xs.length=pre.length + p.length + (y'.length + 1) + (D7 (c :: y') (q :: r)).length:=by
   rw [hx]; simp only [List.length_append,List.length_cons]; omega
  rw [S6 _ _ p.length _ _ _ (by omega) fun i h1 h2 _=>?_]
  ·have e1:xs.length + 1 - pre.length - p.length=(xs.length - pre.length - p.length) + 1:=by omega
   rw [e1,List.range'_succ];have ht:(xs.drop (pre.length + p.length)).take (y'.length + 1)=c :: y':=by
    rw [hx,<- List.append_assoc,<- List.append_assoc,List.append_assoc (pre++p),<- Ze,List.drop_left];exact List.take_left (l₁:=c :: y')
   show (if (decide (pre.length<=pre.length + p.length) && (decide (pre.length + p.length + (y'.length + 1)<=xs.length) && _))=true then _ else _)=_;rw [if_pos (by rw [Zk (by omega),Zk (by omega),ht]; simp)];have ih:=A6t (xs:=xs) (y':=y') (c:=c) (q :: r) (pre++p++c :: y') (by simp) (by rw [hx]; simp) fun z hz=>hp z (Zr _ hz);have el:(pre++p++c :: y').length=pre.length + p.length + (y'.length + 1):=by simp only [List.length_append,List.length_cons]
   rw [el] at ih;show _ :: _=(pre.length + p.length) :: A3o (y'.length + 1) (pre.length + p.length + (y'.length + 1)) (q :: r);rw [<- ih,S6 _ _ y'.length _ _ _ (by omega) fun i h1 h2 h3=>by omega];congr 3 <;> omega
  ·have hm:xs[i]?≠some c:=fun e=>by
    rw [hx,List.getElem?_append_right h1,List.append_assoc,List.getElem?_append_left (by omega)] at e;exact hp p Zy (Zm e)
   rw [Bool.and_eq_false_iff]; right;refine Bool.eq_false_iff.mpr fun e=>hm ?_;have e:=eq_of_beq e;have e0:=congrArg (fun l:List Nat=>l[0]?) e;simp only [List.getElem?_cons_zero] at e0;rw [List.getElem?_take,if_pos (by omega),List.getElem?_drop] at e0;simpa using e0
open PySem.Builtin PySem.Builtin.Str PySem.StrLaws in
theorem A0g {xs y:List Nat}:∀ (ps:List (List Nat)) (pre:List Nat),ps≠[]->xs=pre++D7 y ps->partsFrom (sO xs) y.length pre.length (A3o y.length pre.length ps)=ps.map sO
 | [],_,h,_=>absurd rfl h
 | [p],pre,_,hx=>by
  have hx:xs=pre++p:=hx;show [strSub (sO xs) pre.length (sO xs).length]=[sO p];refine congrArg (· :: []) (Str.ext' (Array.toList_inj.mp ?_));rw [strSub_toList,B3];show (xs.drop pre.length).take _=p;rw [hx,List.drop_left,Ze,Nat.add_sub_cancel_left,List.take_length]
 | p :: q :: r,pre,_,hx=>by
  rw [K1] at hx;show strSub (sO xs) pre.length (pre.length + p.length) :: partsFrom (sO xs) y.length (pre.length + p.length + y.length) (A3o y.length (pre.length + p.length + y.length) (q :: r))=sO p :: (q :: r).map sO;have e1:strSub (sO xs) pre.length (pre.length + p.length)=sO p:=by
   refine Str.ext' (Array.toList_inj.mp ?_);rw [strSub_toList];show (xs.drop pre.length).take _=p;rw [hx,List.drop_left,Nat.add_sub_cancel_left,List.append_assoc,List.take_left]
  have ih:=A0g (xs:=xs) (y:=y) (q :: r) (pre++p++y) (by simp) (by rw [hx]; simp);have el:(pre++p++y).length=pre.length + p.length + y.length:=by simp only [List.length_append]
  rw [el] at ih;rw [e1,ih]
theorem B7u (a y b:List Nat):¬ PySem.Builtin.Str.strKind (sO (a++y++b)) < PySem.Builtin.Str.strKind (sO y):=by
 unfold PySem.Builtin.Str.strKind;have h:∀ n:Nat,(sO (a++y++b)).cps.all (· < n)=true->(sO y).cps.all (· < n)=true:=fun n e=>by
  simp only [List.all_toArray,List.all_eq_true] at e ⊢;exact fun z hz=>e z (by simp [hz])
 by_cases h1:(sO (a++y++b)).cps.all (· < 256)=true
 ·rw [if_pos h1,if_pos (h _ h1)]; decide
 ·rw [if_neg h1];by_cases h2:(sO (a++y++b)).cps.all (· < 65536)=true
  ·rw [if_pos h2];by_cases h3:(sO y).cps.all (· < 256)=true
   ·rw [if_pos h3]; decide
   ·rw [if_neg h3,if_pos (h _ h2)]; decide
  ·rw [if_neg h2]; split
   ·decide
   ·split <;> decide
open PySem.Builtin PySem.Builtin.Str PySem.StrLaws in
theorem B7g {y':List Nat} {c:Nat} (ps:List (List Nat)) (h:ps≠[]) (hp:∀ p ∈ ps,c ∉ p) {n m:Nat} (hn:n=(D7 (c :: y') ps).length) (hm:n + 1<=m) :
  occurrences (sO (D7 (c :: y') ps)) (sO (c :: y')) 0 n m=A3o (y'.length + 1) 0 ps:=by
 rw [occ_eq];refine (V9 _ _ _ _ _ _ (by rw [List.length_range']; show 0 + (n + 1 - 0)<=m; omega)).trans ?_;show []++_=_;rw [List.nil_append];have w:=A6t (xs:=D7 (c :: y') ps) ps [] h rfl hp;rw [<- hn] at w;refine Eq.trans ?_ w;have e:(fun i=>decide (i + (sO (c :: y')).length<=n) && subAt (sO (D7 (c :: y') ps)) (sO (c :: y')) i)=fun i=>decide (i + (y'.length + 1)<=n) && (((D7 (c :: y') ps).drop i).take (y'.length + 1) == c :: y'):=by
  funext i
  rw [B8x,B3]; rfl
 rw [e,B3]; rfl
open PySem.Builtin PySem.Builtin.Str PySem.StrLaws in
theorem A4g {y':List Nat} {c:Nat} (ps:List (List Nat)) (h:ps≠[]) (hp:∀ p ∈ ps,c ∉ p):Txt.split (sO (D7 (c :: y') ps)) (sO (c :: y'))=ps.map sO:=by
 unfold Txt.split;rw [B7g ps h hp (B3 _) (by rw [B3]; exact Zv _)];rcases ps with _ | ⟨p,_ | ⟨q,r⟩⟩
 ·exact absurd rfl h
 ·rw [if_pos (show (A3o (y'.length + 1) 0 [p]).isEmpty=true from rfl)];split <;> rfl
 ·rw [if_neg,if_neg (show ¬ (A3o (y'.length + 1) 0 (p :: q :: r)).isEmpty=true from nofun),partsBetween_eq]
  ·have:=A0g (xs:=D7 (c :: y') (p :: q :: r)) (y:=c :: y') (p :: q :: r) [] h rfl;rw [B3]; exact this
  ·rw [Bool.or_eq_true,decide_eq_true_eq,decide_eq_true_eq,K1];rintro (z | z)
   ·rw [B3,B3] at z; simp only [List.length_append] at z; omega
   ·exact B7u _ _ _ z
theorem Y2 (c:Nat) (y':List Nat):∀ ps:List (List Nat),ps.length<=(D7 (c :: y') ps).count c + 1
 | []=>Nat.zero_le _
 | [_]=>Nat.le_add_left _ _
 | p :: q :: r=>by
  have:=Y2 c y' (q :: r);rw [K1,List.count_append,List.count_append,List.count_cons_self];show (q :: r).length + 1<=_;omega
theorem S8 {y:List Nat} {z:Nat}:∀ {ps:List (List Nat)},z ∈ D7 y ps->z ∈ y\/∃ p ∈ ps,z ∈ p
 | [],h=>nomatch h
 | [p],h=>.inr ⟨p,Zy,h⟩
 | p :: q :: r,h=>by
  rw [K1] at h;rcases Za h with h | h
  ·rcases Za h with h | h
   ·exact .inr ⟨p,Zy,h⟩
   ·exact .inl h
  ·rcases S8 h with h | ⟨w,hw,k⟩
   ·exact .inl h
   ·exact .inr ⟨w,Zr _ hw,k⟩
theorem Y1 {y:List Nat}:∀ {ps:List (List Nat)} {p:List Nat},p ∈ ps->p.length<=(D7 y ps).length
 | [q],p,h=>by rw [Zn h]; exact Zv _
 | a :: q :: r,p,h=>by
  rw [K1,Ze,Ze];rcases List.mem_cons.mp h with rfl | h
  ·omega
  ·have:=Y1 (y:=y) h;omega
def splL (y l:List Nat):List (List Nat):=(Txt.split (sO l) (sO y)).map fun z=>z.cps.toList
theorem T6 (y l:List Nat):Txt.split (sO l) (sO y)=(splL y l).map sO:=by
 unfold splL;rw [List.map_map];exact (List.map_id _).symm
theorem R7 (y l:List Nat):D7 y (splL y l)=l:=by
 have h:=StrLaws.join_split (sO l) (sO y);rw [T6,N6] at h;exact B82 h
theorem O2 {c:Nat} {y':List Nat} {ps:List (List Nat)} (h:ps≠[]) (hp:∀ p ∈ ps,c ∉ p):splL (c :: y') (D7 (c :: y') ps)=ps:=by
 have e:=A4g (y':=y') (c:=c) ps h hp;unfold splL;rw [e,List.map_map];exact List.map_id _
theorem A9t (y l:List Nat):splL y l≠[]:=by
 unfold splL Txt.split;split
 ·exact List.cons_ne_nil _ _
 ·split
  ·exact List.cons_ne_nil _ _
  ·rw [PySem.StrLaws.partsBetween_eq];obtain ⟨p,r,e⟩:=PySem.StrLaws.partsFrom_ne (sO l) (sO y).length 0 (PySem.Builtin.Str.occurrences (sO l) (sO y) 0 (sO l).length ((sO l).length + 1));rw [e]; exact List.cons_ne_nil _ _
theorem P4 (c:Nat) (y' l:List Nat):(splL (c :: y') l).length<=l.count c + 1:=by
 have:=Y2 c y' (splL (c :: y') l)
 rwa [R7] at this
theorem A02 {y l:List Nat} {z:Nat} (h:z ∈ l) (hy:z ∉ y):∃ p ∈ splL y l,z ∈ p:=by
 rw [<- R7 y l] at h;exact (S8 h).resolve_left hy
theorem A5t {y l p:List Nat} (h:p ∈ splL y l):p.length<=l.length:=by
 have:=Y1 (y:=y) h
 rwa [R7] at this
theorem A9r (c:Nat):∀ l:List Nat,∃ ps:List (List Nat),ps≠[]/\(∀ p ∈ ps,c ∉ p)/\D7 [c] ps=l
 | []=>⟨[[]],List.cons_ne_nil _ _,fun p h=>by rw [Zn h]; exact List.not_mem_nil,rfl⟩
 | x :: r=>by
  obtain ⟨ps,h1,h2,h3⟩:=A9r c r;cases ps with
  | nil=>exact absurd rfl h1
  | cons p q =>
   by_cases e:x=c
   ·refine ⟨[] :: p :: q,List.cons_ne_nil _ _,fun z hz=>?_,?_⟩
    ·rcases List.mem_cons.mp hz with rfl | hz
     ·exact List.not_mem_nil
     ·exact h2 z hz
    ·rw [K1,h3,e]; rfl
   ·refine ⟨(x :: p) :: q,List.cons_ne_nil _ _,fun z hz=>?_,?_⟩
    ·rcases List.mem_cons.mp hz with rfl | hz
     ·intro m;rcases List.mem_cons.mp m with m | m
      ·exact e m.symm
      ·exact h2 p Zy m
     ·exact h2 z (Zr _ hz)
    ·rw [<- h3];cases q <;> rfl
theorem wds (l:List Nat):splL [32] l≠[]/\(∀ p ∈ splL [32] l,32 ∉ p)/\D7 [32] (splL [32] l)=l:=by
 obtain ⟨ps,h1,h2,h3⟩:=A9r 32 l;have e:splL [32] l=ps:=by rw [<- h3]; exact O2 h1 h2
 rw [e]; exact ⟨h1,h2,h3⟩
theorem B0z (l:List Nat):parS 32 l=(match splL [32] l with | []=>([],[],[]) | [p]=>(p,[],[]) | p :: q :: r=>(p,[32],D7 [32] (q :: r))):=by
 obtain ⟨h1,h2,h3⟩:=wds l;rcases hs:splL [32] l with _ | ⟨p,_ | ⟨q,r⟩⟩
 ·exact absurd hs h1
 ·rw [hs] at h2 h3;have h3:p=l:=h3;subst h3;unfold parS;rw [S9 (h2 p Zy)]
 ·rw [hs] at h2 h3;have e:l=p++32 :: D7 [32] (q :: r):=by rw [<- h3,K1,List.append_assoc]; rfl
  unfold parS;rw [e,T0 (h2 p Zy)]
def qIn (l:List Nat):Option Rat:=(rIn l).map fun p=>Rat.divInt p.1 p.2
def oQ:Option Rat->PyData
 | none=>.none
 | some q=>dq q
theorem B89 {l:List Nat} {p:Int × Int} (h:rIn l=some p):0 < p.2/\Int.gcd p.1 p.2=1/\p.1.natAbs < 10 ^ 60/\p.2.natAbs < 10 ^ 60:=by
 unfold rIn at h;cases h1:wIn (parS 47 l).1 with
 | none=>rw [h1] at h; cases h
 | some t =>
  have ht:=(dgs_len (k:=59)).mpr (B8n h1).2;cases h2:(if (parS 47 l).2.1=[47] then wIn (parS 47 l).2.2 else some 1) with
  | none=>rw [h1,h2] at h; cases h
  | some b =>
   rw [h1,h2] at h;have h:(if (parS 47 l).2.1=[47]/\(b < 2\/((Int.gcd t b:Nat):Int)≠1) then none else some (t,b))=some p:=h;by_cases z:(parS 47 l).2.1=[47]
   ·rw [if_pos z] at h2;have hb:=(dgs_len (k:=59)).mpr (B8n h2).2;by_cases y:b < 2\/((Int.gcd t b:Nat):Int)≠1
    ·rw [if_pos ⟨z,y⟩] at h; cases h
    ·rw [if_neg fun w=>y w.2] at h;cases h;have y1:((Int.gcd t b:Nat):Int)=1:=Decidable.not_not.mp fun w=>y (.inr w);exact ⟨by omega,Int.ofNat.inj y1,ht,hb⟩
   ·rw [if_neg z] at h2;cases h2;rw [if_neg fun w=>z w.1] at h;cases h;exact ⟨Int.one_pos,Int.gcd_one,ht,(by decide:(1:Int).natAbs < 10 ^ 60)⟩
theorem C1n {t b:Int} (h0:0 < b) (h1:Int.gcd t b=1):(Rat.divInt t b).num=t/\((Rat.divInt t b).den:Int)=b:=by
 rw [Rat.num_divInt,Rat.den_divInt,Int.sign_eq_one_of_pos h0,Int.one_mul,if_neg (by omega),Int.gcd_comm,h1];refine ⟨by simp,?_⟩;rw [Nat.div_one]; omega
theorem B0d (l:List Nat):oR (rIn l)=oQ (qIn l):=by
 unfold qIn;cases h:rIn l with
 | none=>rfl
 | some p =>
  obtain ⟨h0,h1,_,_⟩:=B89 h;obtain ⟨e1,e2⟩:=C1n h0 h1;show PyData.tuple [.int p.1,.int p.2]=PyData.tuple [.int (Rat.divInt p.1 p.2).num,.int ((Rat.divInt p.1 p.2).den:Int)];rw [e1,e2]
theorem C6e {l:List Nat} {q:Rat} (h:qIn l=some q):q.num.natAbs < 10 ^ 60/\q.den < 10 ^ 60:=by
 unfold qIn at h;cases e:rIn l with
 | none=>rw [e] at h; cases h
 | some p =>
  rw [e] at h;cases h;obtain ⟨h0,h1,h2,h3⟩:=B89 e;obtain ⟨e1,e2⟩:=C1n h0 h1;have e3:(Rat.divInt p.1 p.2).den=p.2.natAbs:=by omega
  show (Rat.divInt p.1 p.2).num.natAbs < _/\(Rat.divInt p.1 p.2).den < _;rw [e1,e3]; exact ⟨h2,h3⟩
theorem A2f {q:Rat} (h1:q.num.natAbs < 10 ^ 60) (h2:q.den < 10 ^ 60):qIn (rtL q)=some q:=by
 unfold qIn;rw [C59 ((dgs_len (k:=59)).mp h1) ((dgs_len (k:=59)).mp h2)];show some (Rat.divInt q.num q.den)=some q;rw [Rat.num_divInt_den]
theorem T8 {c:Nat} {l:List Nat} (hc:c ∈ l) (h1:digB c=false) (h2:c≠45) (h3:c≠47):qIn l=none:=by
 unfold qIn;rw [A97 hc h1 h2 h3]; rfl
theorem C2v:qIn []=none:=by decide +kernel
def lnB (l:List Nat):Bool:=decide (1<=l.length) && decide (l.length<=60) && !(l.head? == some 48 && !decide (l=[48])) && l.all digB
theorem D09 {l:List Nat}:lnB l=true ↔ (1<=l.length/\l.length<=60/\l.all digB=true)/\¬ (l.head?=some 48/\l≠[48]):=by
 unfold lnB;simp only [Bool.and_eq_true,decide_eq_true_eq,Bool.not_eq_true',Bool.and_eq_false_iff,beq_eq_false_iff_ne,Bool.not_eq_false',ne_eq,not_and,Decidable.not_not,decide_eq_false_iff_not];constructor
 ·rintro ⟨⟨⟨a,b⟩,c⟩,d⟩;exact ⟨⟨a,b,d⟩,fun z=>c.resolve_left fun w=>w z⟩
 ·rintro ⟨⟨a,b,d⟩,c⟩;refine ⟨⟨⟨a,b⟩,?_⟩,d⟩;by_cases z:l.head?=some 48
  ·exact .inr (c z)
  ·exact .inl z
def nIn (l:List Nat):Option Int:=match wIn l with | some n=>if 0<=n/\n<=99 then some n else none | none=>none
def stP (a b:Option Rat):Option (Rat × Rat):=match a,b with
 | some p,some q=>if q < 0 then none else some (p,q)
 | _,_=>none
def stL (l:List Nat):Option (Rat × Rat):=stP (qIn (parS 32 l).1) (qIn (parS 32 l).2.2)
theorem A01 (a:Option Rat):stP a none=none:=by cases a <;> rfl
def oS:Option (Rat × Rat)->PyData
 | none=>.none
 | some p=>.tuple [dq p.1,dq p.2]
def stW:List (List Nat)->Option (Rat × Rat)
 | [a,b]=>stP (qIn a) (qIn b)
 | _=>none
theorem D0h (l:List Nat):stL l=stW (splL [32] l):=by
 unfold stL;rw [B0z];obtain ⟨_,h2,_⟩:=wds l;rcases splL [32] l with _ | ⟨p,_ | ⟨q,_ | ⟨r,s⟩⟩⟩
 ·rfl
 ·show stP _ (qIn [])=none;rw [C2v]; exact A01 _
 ·rfl
 ·have e:qIn (D7 [32] (q :: r :: s))=none:=T8 (c:=32) (by rw [K1]; simp) (by decide) (by decide) (by decide);show stP _ (qIn (D7 [32] (q :: r :: s)))=none;rw [e]; exact A01 _
def arcs:List (List Nat):=[[115,116,97,114,116],[101,110,100],[119,97,105,116],[104,111,108,100]]
def caP (w:List Nat) (n:Option Int) (a:Option Rat):Option (List Nat × Int × Rat):=if w ∈ arcs then (match n,a with
 | some n,some q=>if 0 < q then some (w,n,q) else none
 | _,_=>none) else none
def caW:List (List Nat)->Option (List Nat × Int × Rat)
 | [w,n,a]=>caP w (nIn n) (qIn a)
 | _=>none
def oC:Option (List Nat × Int × Rat)->PyData
 | none=>.none
 | some p=>.tuple [.tuple [.str (sO p.1),.int p.2.1],dq p.2.2]
def okP (l:List Nat):Bool:=(splL [44,32] l).all fun p=>(stL p).isSome
def vaP (l:List Nat):LP:=(splL [44,32] l).map fun p=>oS (stL p)
def okC (l:List Nat):Bool:=(splL [44,32] l).all fun p=>(caW (splL [32] p)).isSome
def vaC (l:List Nat):LP:=(splL [44,32] l).map fun p=>oC (caW (splL [32] p))
def stT (p:Rat × Rat):List Nat:=rtL p.1++32 :: rtL p.2
def plT (ps:LR):List Nat:=D7 [44,32] (ps.map stT)
def caT (p:List Nat × Int × Rat):List Nat:=p.1++32 :: (whL p.2.1++32 :: rtL p.2.2)
def paT (ps:List (List Nat × Int × Rat)):List Nat:=if ps=[] then [45] else D7 [44,32] (ps.map caT)
structure StOk (p:Rat × Rat):Prop where
 n1:p.1.num.natAbs < 10 ^ 60
 d1:p.1.den < 10 ^ 60
 n2:p.2.num.natAbs < 10 ^ 60
 d2:p.2.den < 10 ^ 60
 nn:0<=p.2
structure CaOk (p:List Nat × Int × Rat):Prop where
 w:p.1 ∈ arcs
 n0:0<=p.2.1
 n1:p.2.1<=99
 n2:p.2.2.num.natAbs < 10 ^ 60
 d2:p.2.2.den < 10 ^ 60
 ps:0 < p.2.2
theorem A17 (q:Rat):∀ c ∈ rtL q,c=45\/c=47\/(48<=c/\c<=57):=fun c hc=>by
 unfold rtL at hc;rcases Za hc with m | m
 ·rcases K7 _ c m with h | h
  ·exact .inl h
  ·exact .inr (.inr h)
 ·split at m
  ·rcases List.mem_cons.mp m with m | m
   ·exact .inr (.inl m)
   ·exact .inr (.inr (O7 _ c m))
  ·cases m
theorem L4:∀ w ∈ arcs,∀ c ∈ w,97<=c/\c<=122:=by decide
theorem A86 {a b:List Nat} (ha:32 ∉ a) (hb:32 ∉ b):splL [32] (a++32 :: b)=[a,b]:=by
 have:=O2 (c:=32) (y':=[]) (ps:=[a,b]) (List.cons_ne_nil _ _) (fun p hp=>by
  rcases List.mem_cons.mp hp with rfl | hp
  ·exact ha
  ·rw [Zn hp]; exact hb)
 have e:D7 [32] [a,b]=a++32 :: b:=by show a++[32]++b=_; simp
 rw [e] at this; exact this
theorem A4c {a b d:List Nat} (ha:32 ∉ a) (hb:32 ∉ b) (hd:32 ∉ d):splL [32] (a++32 :: (b++32 :: d))=[a,b,d]:=by
 have:=O2 (c:=32) (y':=[]) (ps:=[a,b,d]) (List.cons_ne_nil _ _) (fun p hp=>by
  rcases List.mem_cons.mp hp with rfl | hp
  ·exact ha
  ·rcases List.mem_cons.mp hp with rfl | hp
   ·exact hb
   ·rw [Zn hp]; exact hd)
 have e:D7 [32] [a,b,d]=a++32 :: (b++32 :: d):=by show a++[32]++(b++[32]++d)=_; simp
 rw [e] at this; exact this
theorem W6 (q:Rat):32 ∉ rtL q:=fun m=>by rcases A17 q 32 m with h | h | h <;> omega
theorem C1u (n:Int):32 ∉ whL n:=fun m=>by rcases K7 n 32 m with h | h <;> omega
theorem C5f {p:Rat × Rat} (h:StOk p):stL (stT p)=some p:=by
 rw [D0h];unfold stT;rw [A86 (W6 _) (W6 _)];show stP (qIn _) (qIn _)=_;rw [A2f h.n1 h.d1,A2f h.n2 h.d2];exact if_neg (Rat.not_lt.mpr h.nn)
theorem C8p {n:Int} (h0:0<=n) (h1:n<=99):nIn (whL n)=some n:=by
 unfold nIn;have hl:(dgs n.natAbs).length<=60:=(dgs_len (k:=59)).mp (Nat.lt_of_le_of_lt (show n.natAbs<=99 by omega) (by decide +kernel));rw [A5j hl];exact if_pos ⟨h0,h1⟩
theorem C9t {p:List Nat × Int × Rat} (h:CaOk p):caW (splL [32] (caT p))=some p:=by
 unfold caT;rw [A4c (fun m=>by have:=L4 _ h.w 32 m; omega) (C1u _) (W6 _)];show caP p.1 (nIn (whL p.2.1)) (qIn (rtL p.2.2))=_;rw [C8p h.n0 h.n1,A2f h.n2 h.d2];unfold caP;rw [if_pos h.w];exact if_pos h.ps
theorem C2a (p:Rat × Rat):44 ∉ stT p:=fun m=>by
 unfold stT at m;rcases Za m with m | m
 ·rcases A17 _ 44 m with h | h | h <;> omega
 ·rcases List.mem_cons.mp m with m | m
  ·omega
  ·rcases A17 _ 44 m with h | h | h <;> omega
theorem C4v {p:List Nat × Int × Rat} (h:CaOk p):44 ∉ caT p:=fun m=>by
 unfold caT at m;rcases Za m with m | m
 ·have:=L4 _ h.w 44 m; omega
 ·rcases List.mem_cons.mp m with m | m
  ·omega
  ·rcases Za m with m | m
   ·rcases K7 _ 44 m with h | h <;> omega
   ·rcases List.mem_cons.mp m with m | m
    ·omega
    ·rcases A17 _ 44 m with h | h | h <;> omega
theorem B0q {ps:LR} (h:ps≠[]):splL [44,32] (plT ps)=ps.map stT:=by
 unfold plT;refine O2 (by simpa using h) fun p hp=>?_;obtain ⟨q,_,rfl⟩:=List.mem_map.mp hp;exact C2a q
theorem C6n {ps:LR} (h:ps≠[]) (hs:∀ p ∈ ps,StOk p):okP (plT ps)=true/\vaP (plT ps)=ps.map fun p=>oS (some p):=by
 unfold okP vaP;rw [B0q h];constructor
 ·rw [List.all_map];refine List.all_eq_true.mpr fun p hp=>?_;show (stL (stT p)).isSome=true;rw [C5f (hs p hp)]; rfl
 ·rw [List.map_map];refine List.map_congr_left fun p hp=>?_;show oS (stL (stT p))=_;rw [C5f (hs p hp)]
theorem B06 {ps:List (List Nat × Int × Rat)} (h:ps≠[]) (hs:∀ p ∈ ps,CaOk p):splL [44,32] (paT ps)=ps.map caT:=by
 unfold paT;rw [if_neg h];refine O2 (by simpa using h) fun p hp=>?_;obtain ⟨q,hq,rfl⟩:=List.mem_map.mp hp;exact C4v (hs q hq)
theorem C6w {ps:List (List Nat × Int × Rat)} (h:ps≠[]) (hs:∀ p ∈ ps,CaOk p):okC (paT ps)=true/\vaC (paT ps)=ps.map fun p=>oC (some p):=by
 unfold okC vaC;rw [B06 h hs];constructor
 ·rw [List.all_map];refine List.all_eq_true.mpr fun p hp=>?_;show (caW (splL [32] (caT p))).isSome=true;rw [C9t (hs p hp)]; rfl
 ·rw [List.map_map];refine List.map_congr_left fun p hp=>?_;show oC (caW (splL [32] (caT p)))=_;rw [C9t (hs p hp)]
def strC (c:Nat):Bool:=!digB c && !(c == 45) && !(c == 47) && !(c == 44) && !(c == 32) && !(decide (97<=c) && decide (c<=122)) && decide (c < 128)
theorem K8 {c:Nat} (h:strC c=true):digB c=false/\c≠45/\c≠47/\c≠44/\c≠32/\¬ (97<=c/\c<=122):=by
 unfold strC at h;simp only [Bool.and_eq_true,Bool.not_eq_true',beq_eq_false_iff_ne,decide_eq_true_eq,Bool.and_eq_false_iff,decide_eq_false_iff_not] at h;obtain ⟨⟨⟨⟨⟨⟨a,b⟩,c1⟩,d⟩,e⟩,f⟩,_⟩:=h;exact ⟨a,b,c1,d,e,fun w=>f.elim (fun z=>z w.1) fun z=>z w.2⟩
theorem C5e {c:Nat} {l:List Nat} (h:strC c=true) (hc:c ∈ l):stL l=none:=by
 obtain ⟨a,b,d,e,f,g⟩:=K8 h;unfold stL;obtain ⟨es,k⟩:=R0 32 l;rw [<- es,List.append_assoc] at hc;rcases Za hc with m | m
 ·rw [T8 m a b d]; rfl
 ·rcases k with ⟨k1,k2⟩ | k
  ·rw [k1,k2] at m; cases m
  ·rw [k] at m;rcases Za m with m | m
   ·exact absurd (Zn m) f
   ·rw [T8 m a b d]; exact A01 _
theorem C9s {c:Nat} {l:List Nat} (h:strC c=true) (hc:c ∈ l):caW (splL [32] l)=none:=by
 obtain ⟨a,b,d,e,f,g⟩:=K8 h;obtain ⟨w,hw,hm⟩:=A02 (y:=[32]) hc (fun z=>f (Zn z));rcases hs:splL [32] l with _ | ⟨p,_ | ⟨q,_ | ⟨r,_ | ⟨s,t⟩⟩⟩⟩
 ·rfl
 ·rfl
 ·rfl
 ·rw [hs] at hw;show caP p (nIn q) (qIn r)=none;unfold caP;rcases List.mem_cons.mp hw with rfl | hw
  ·exact if_neg fun z=>g (L4 _ z c hm)
  ·split
   ·rcases List.mem_cons.mp hw with rfl | hw
    ·unfold nIn;rw [A4d hm a b]
    ·rw [Zn hw] at hm;rw [T8 hm a b d];cases nIn q <;> rfl
   ·rfl
 ·rfl
theorem B6z {c:Nat} {l:List Nat} (h:strC c=true) (hc:c ∈ l):okP l=false:=by
 obtain ⟨a,b,d,e,f,g⟩:=K8 h;obtain ⟨p,hp,hm⟩:=A02 (y:=[44,32]) hc (fun z=>by
  rcases List.mem_cons.mp z with z | z
  ·exact e z
  ·exact f (Zn z))
 refine Bool.eq_false_iff.mpr fun z=>?_;have:=List.all_eq_true.mp z p hp;rw [C5e h hm] at this;cases this
theorem B00 {c:Nat} {l:List Nat} (h:strC c=true) (hc:c ∈ l):okC l=false:=by
 obtain ⟨a,b,d,e,f,g⟩:=K8 h;obtain ⟨p,hp,hm⟩:=A02 (y:=[44,32]) hc (fun z=>by
  rcases List.mem_cons.mp z with z | z
  ·exact e z
  ·exact f (Zn z))
 refine Bool.eq_false_iff.mpr fun z=>?_;have:=List.all_eq_true.mp z p hp;rw [C9s h hm] at this;cases this
theorem B79 (l:List Nat):l.length<=(G4 l).length + 1:=by
 cases l with
 | nil=>exact Nat.zero_le _
 | cons c r =>
  show r.length + 1<=(if c=45 then r else c :: r).length + 1;split
  ·exact Zv _
  ·exact Nat.le_succ _
theorem m32:Str.ofString " "=sO [32]:=by decide +kernel
theorem mSep:Str.ofString ", "=sO [44,32]:=by decide +kernel
theorem A0x {y:List Nat} {m:Nat}:∀ {ls:List (List Nat)},(∀ l ∈ ls,l.length<=m)->((ls.map sO).map fun z=>z.length + (sO y).length).sum<=ls.length * (m + (sO y).length)
 | [],_=>Nat.zero_le _
 | l :: r,h=>by
  have ih:=A0x (y:=y) (ls:=r) fun z hz=>h z (Zr _ hz);have h1:=h l Zy;rw [List.map_cons,List.map_cons,List.sum_cons,List.length_cons,Nat.succ_mul];have h2:(sO l).length=l.length:=B3 l;omega
theorem B8y {p:Rat × Rat} (h:StOk p):(stT p).length<=261:=by
 unfold stT;have a:=W7 h.n1 h.d1;have b:=W7 h.n2 h.d2;rw [Ze,List.length_cons]; omega
theorem wh99 {n:Int} (h0:0<=n) (h1:n<=99):(whL n).length<=2:=by
 have:(dgs n.natAbs).length<=2:=(dgs_len (k:=1)).mp (by omega);unfold whL;rw [if_neg (by omega)]; exact this
theorem A70:∀ w ∈ arcs,w.length<=5:=by decide
theorem C1p {p:List Nat × Int × Rat} (h:CaOk p):(caT p).length<=139:=by
 unfold caT;have a:=W7 h.n2 h.d2;have b:=wh99 h.n0 h.n1;have c:=A70 _ h.w;rw [Ze,List.length_cons,Ze,List.length_cons]; omega
theorem mArc:Str.ofString "start"=sO [115,116,97,114,116]/\Str.ofString "end"=sO [101,110,100]/\Str.ofString "wait"=sO [119,97,105,116]/\Str.ofString "hold"=sO [104,111,108,100]:=by decide +kernel
theorem C44 (a:List Nat):([PyData.str (Str.ofString "start"),.str (Str.ofString "end"),.str (Str.ofString "wait"),.str (Str.ofString "hold")].any fun z=>z.eqv (.str (sO a)))=decide (a ∈ arcs):=by
 obtain ⟨e1,e2,e3,e4⟩:=mArc;rw [e1,e2,e3,e4];simp only [List.any_cons,List.any_nil,V1,Bool.or_false];rw [Bool.eq_iff_iff];simp only [Bool.or_eq_true,decide_eq_true_eq,arcs,List.mem_cons,List.not_mem_nil,or_false];simp only [eq_comm]
theorem U7 {α:Type} {f:α->PyData}:∀ {l:List α},(∀ x ∈ l,(f x).canLay0=true)->PyData.canLayAll0 (l.map f)=true
 | [],_=>rfl
 | a :: r,h=>by
  show ((f a).canLay0 && PyData.canLayAll0 (r.map f))=true;rw [h a Zy,U7 fun x hx=>h x (Zr _ hx)]; rfl
theorem B5v {α β:Type} {f:α->Option β} {g:Option β->PyData} (h0:(g none).eqv .none=true) (h1:∀ x,(g (some x)).eqv .none=false):∀ l:List α,((l.map fun p=>g (f p)).any fun z=>z.eqv .none)=!(l.all fun p=>(f p).isSome)
 | []=>rfl
 | a :: r=>by
  rw [List.map_cons,List.any_cons,B5v h0 h1 r,List.all_cons];cases f a with
  | none=>rw [h0]; rfl
  | some x=>rw [h1]; rfl
theorem C8b (x:Option (Rat × Rat)):(oS x).canLay0=true:=by cases x <;> rfl
theorem B74 {ws:List (List Nat)} {p:List Nat × Int × Rat} (h:caW ws=some p):p.1 ∈ arcs:=by
 rcases ws with _ | ⟨a,_ | ⟨b,_ | ⟨c,_ | ⟨d,r⟩⟩⟩⟩
 ·cases h
 ·cases h
 ·cases h
 ·have h:caP a (nIn b) (qIn c)=some p:=h;unfold caP at h;split at h
  ·rename_i m;split at h
   ·split at h
    ·cases h; exact m
    ·cases h
   ·cases h
  ·cases h
 ·cases h
theorem C8j (ws:List (List Nat)):(oC (caW ws)).canLay0=true:=by
 cases h:caW ws with
 | none=>rfl
 | some p =>
  have hl:(PyData.str (sO p.1)).canLay0=true:=K4 fun c hc=>by have:=L4 _ (B74 h) c hc; omega
  show (((PyData.str (sO p.1)).canLay0 && (true && true)) && ((true && (true && true)) && true))=true;rw [hl]; rfl
theorem B60 (l:List Nat):(((splL [44,32] l).map fun p=>oS (stL p)).any fun z=>z.eqv .none)=!okP l:=B5v rfl (fun _=>rfl) _
theorem B01 (l:List Nat):(((splL [44,32] l).map fun p=>oC (caW (splL [32] p))).any fun z=>z.eqv .none)=!okC l:=B5v (f:=fun p=>caW (splL [32] p)) rfl (fun _=>rfl) _
theorem S4 {l p:List Nat} {y:List Nat} (h:p ∈ splL y l) (ha:∀ c ∈ l,c < 128):∀ c ∈ p,c < 128:=by
 have:∀ (ps:List (List Nat)) (p:List Nat),p ∈ ps->∀ c ∈ p,c ∈ D7 y ps:=by
  intro ps;induction ps with
  | nil=>intro p h; cases h
  | cons a r ih =>
   intro p hp c hc;cases r with
   | nil=>rw [Zn hp] at hc; exact hc
   | cons b s =>
    rw [K1];rcases List.mem_cons.mp hp with rfl | hp
    ·exact Zt _ (Zt _ hc)
    ·exact Zw _ (ih p hp c hc)
 intro c hc;have:=this _ p h c hc;rw [R7] at this;exact ha c this
theorem sq60 {q:Rat} (h1:q.num.natAbs < 10 ^ 60) (h2:q.den < 10 ^ 60):SmQ 3900 q :=
 SmR.q (show SmR 200 200 q from ⟨Nat.lt_of_lt_of_le h1 (by decide +kernel),Nat.lt_of_lt_of_le h2 (by decide +kernel)⟩) (by decide) (by decide)
theorem sq0:SmQ 3900 0:=sq60 (by decide +kernel) (by decide +kernel)
theorem D0g (p:Rat × Rat):rtL p.1++[32]++rtL p.2=stT p:=by unfold stT; simp
theorem D1g (p:List Nat × Int × Rat):p.1++[32]++whL p.2.1++[32]++rtL p.2.2=caT p:=by unfold caT; simp
def parC (w:Nat) (l:List Nat):Nat->List Nat->List (List Nat)
 | a,[]=>[l.drop a]
 | a,c :: r=>(l.drop a).take (c - a) :: parC w l (c + w) r
def cutC (y l:List Nat):List (List Nat):=parC y.length l 0 (occL (fun i=>decide (i + y.length<=l.length) && ((l.drop i).take y.length == y)) y.length (List.range' 0 (l.length + 1)) 0)
open PySem.Builtin PySem.Builtin.Str PySem.StrLaws in
theorem Q5 {w:Nat} {l:List Nat}:∀ (cs:List Nat) (a:Nat),partsFrom (sO l) w a cs=(parC w l a cs).map sO
 | [],a=>by
  show [strSub (sO l) a (sO l).length]=[sO (l.drop a)];refine congrArg (· :: []) (Str.ext' (Array.toList_inj.mp ?_));rw [strSub_toList,B3];show (l.drop a).take _=l.drop a;rw [List.take_of_length_le (by rw [List.length_drop]; exact Zv _)]
 | c :: r,a=>by
  show strSub (sO l) a c :: partsFrom (sO l) w (c + w) r=sO ((l.drop a).take (c - a)) :: (parC w l (c + w) r).map sO;rw [Q5 r (c + w)];refine congrArg (· :: _) (Str.ext' (Array.toList_inj.mp ?_));rw [strSub_toList]
theorem B2r {P:Nat->Bool} {w:Nat}:∀ {ls:List Nat} {f:Nat},(∀ i ∈ ls,P i=false)->occL P w ls f=[]
 | [],_,_=>rfl
 | i :: r,f,h=>by
  show (if (decide (f<=i) && P i)=true then _ else _)=_;rw [h i Zy,Bool.and_false,if_neg (by decide)];exact B2r fun j hj=>h j (Zr _ hj)
open PySem.Builtin PySem.Builtin.Str PySem.StrLaws in
theorem D04 (y l:List Nat):occurrences (sO l) (sO y) 0 (sO l).length ((sO l).length + 1)=occL (fun i=>decide (i + y.length<=l.length) && ((l.drop i).take y.length == y)) y.length (List.range' 0 (l.length + 1)) 0:=by
 rw [occ_eq];refine (V9 _ _ _ _ _ _ (by rw [List.length_range']; show 0 + ((sO l).length + 1 - 0)<=_; omega)).trans ?_;show []++_=_;rw [List.nil_append];have e:(fun i=>decide (i + (sO y).length<=(sO l).length) && subAt (sO l) (sO y) i)=fun i=>decide (i + y.length<=l.length) && ((l.drop i).take y.length == y):=by
  funext i
  rw [B8x,B3,B3]
 rw [e,B3,B3]; rfl
open PySem.Builtin PySem.Builtin.Str PySem.StrLaws in
theorem B7t {y l:List Nat} (h:∀ c ∈ y,c < 256):¬ PySem.Builtin.Str.strKind (sO l) < PySem.Builtin.Str.strKind (sO y):=by
 have e:PySem.Builtin.Str.strKind (sO y)=1:=by
  unfold PySem.Builtin.Str.strKind;rw [if_pos (by simp only [List.all_toArray,List.all_eq_true,decide_eq_true_eq]; exact h)]
 rw [e];unfold PySem.Builtin.Str.strKind;split
 ·decide
 ·split <;> decide
open PySem.Builtin PySem.Builtin.Str PySem.StrLaws in
theorem A5u {y l:List Nat} (h:∀ c ∈ y,c < 256):splL y l=cutC y l:=by
 have one:∀ cs:List Nat,cs=[]->parC y.length l 0 cs=[l]:=fun cs e=>by rw [e]; rfl
 have key:Txt.split (sO l) (sO y)=(cutC y l).map sO:=by
  unfold Txt.split cutC;rw [D04];by_cases z:(decide ((sO l).length < (sO y).length) || decide (PySem.Builtin.Str.strKind (sO l) < PySem.Builtin.Str.strKind (sO y)))=true
  ·rw [if_pos z];rw [Bool.or_eq_true,decide_eq_true_eq,decide_eq_true_eq] at z;have z:=z.resolve_right (B7t h);rw [B3,B3] at z;rw [one _ (B2r fun i _=>by rw [Zd (by omega)]; rfl)]; rfl
  ·rw [if_neg z];generalize occL _ _ _ _=cs;cases cs with
   | nil=>rfl
   | cons c r =>
    rw [if_neg (show ¬ (c :: r).isEmpty=true from fun z=>Bool.noConfusion z),partsBetween_eq,B3,Q5]
 unfold splL;rw [key,List.map_map];exact List.map_id _
theorem C5h (l:List Nat):splL [44,32] l=cutC [44,32] l:=A5u (by decide)
theorem D0i (l:List Nat):splL [32] l=cutC [32] l:=A5u (by decide)
theorem A15 {l:List Nat} (h:l.length<=4200):l.length<=90000/\∀ p ∈ splL [44,32] l,p.length<=4200:=⟨by omega,fun p hp=>Zx (A5t hp) h⟩
def stD (p:Rat × Rat):PyData:=.tuple [dq p.1,dq p.2]
def caD (p:List Nat × Int × Rat):PyData:=.tuple [.tuple [.str (sO p.1),.int p.2.1],dq p.2.2]
def ShP (l:List Nat):Prop:=l.length<=90000/\∀ p ∈ splL [44,32] l,p.length<=4200
theorem B58:strL.all strC=true:=by decide
theorem Q6 (n:Int):Str.ofString (toString n)=sO (whL n):=by
 by_cases h:0<=n
 ·rw [O1 h];unfold whL;rw [if_neg (by omega)]
 ·obtain ⟨m,rfl⟩:∃ m:Nat,n=Int.negSucc m:=by
   cases n with
   | ofNat a=>exact absurd (Int.natCast_nonneg a) h
   | negSucc m=>exact ⟨m,rfl⟩
  have e:(toString (Int.negSucc m)).toList='-' :: Nat.toDigits 10 (m + 1):=by
   show (Int.repr _).toList=_;unfold Int.repr;show (("-":String)++Nat.repr (m + 1)).toList=_;unfold Nat.repr;simp
  rw [B81,e];unfold whL;rw [if_pos (by omega)];rfl
theorem B8m {n:Int} (h:n.natAbs < 10 ^ 60):(whL n).length<=61:=by
 have:=(dgs_len (k:=59)).mp h;unfold whL;split
 ·rw [List.length_cons]; omega
 ·omega
theorem D0b:∀ x ∈ [PyData.int 1,PyData.int 12,PyData.int 60,PyData.int (10 ^ Int.toNat 59),PyData.int 1],Pw x:=by
 intro x hx;simp only [List.mem_cons,List.not_mem_nil,or_false] at hx;rcases hx with rfl | rfl | rfl | rfl | rfl
 ·exact ⟨_,rfl,by decide +kernel,by decide +kernel⟩
 ·exact ⟨_,rfl,by decide +kernel,by decide +kernel⟩
 ·exact ⟨_,rfl,by decide +kernel,by decide +kernel⟩
 ·exact ⟨_,rfl,by decide +kernel,by decide +kernel⟩
 ·exact ⟨_,rfl,by decide +kernel,by decide +kernel⟩
theorem rt_e {q:Rat} (z:¬ (q.den:Int)=1):sO (whL q.num)++sO [47]++sO (whL (q.den:Int))=sO (rtL q):=by
 rw [D0,D0,B8l];unfold rtL;rw [if_pos (by have:=q.den_pos; omega)]; simp
theorem C9q {ps:List (List Nat × Int × Rat)} (h:∀ p ∈ ps,CaOk p):(PyData.list (ps.map caD)).canLay0=true:=by
 show PyData.canLayAll0 (ps.map caD)=true;refine U7 fun p hp=>?_;have hl:(PyData.str (sO p.1)).canLay0=true:=K4 fun c hc=>by have:=L4 _ (h p hp).w c hc; omega
 show (((PyData.str (sO p.1)).canLay0 && (true && true)) && ((true && (true && true)) && true))=true;rw [hl]; rfl
theorem A1q {α:Type} {f:α->PyData} {m:Nat}:∀ {l:List α},(∀ x ∈ l,(f x).depth<=m)->PyData.depthAll (l.map f)<=m
 | [],_=>Nat.zero_le _
 | a :: r,h=>by
  have h1:=h a Zy;have h2:=A1q (f:=f) (l:=r) fun x hx=>h x (Zr _ hx);show max (f a).depth (PyData.depthAll (r.map f))<=m;omega
theorem C9r (ps:List (List Nat × Int × Rat)):(PyData.list (ps.map caD)).depth<=60:=by
 have h:PyData.depthAll (ps.map caD)<=2:=A1q fun p _=>by
  show (PyData.tuple [.tuple [.str (sO p.1),.int p.2.1],.tuple [.int p.2.2.num,.int p.2.2.den]]).depth<=2;exact Zv _
 exact Nat.succ_le_succ (Zx h (by decide))
theorem R8 (q:Rat):∀ c ∈ rtL q,c < 128:=B6g q
theorem U8 {y:List Nat} (hy:∀ c ∈ y,c < 128):∀ {ps:List (List Nat)},(∀ p ∈ ps,∀ c ∈ p,c < 128)->∀ c ∈ D7 y ps,c < 128:=fun h c hc=>by
 rcases S8 hc with m | ⟨p,hp,m⟩
 ·exact hy c m
 ·exact h p hp c m
theorem B6a (p:Rat × Rat):∀ c ∈ stT p,c < 128:=fun c hc=>by
 unfold stT at hc;rcases Za hc with m | m
 ·exact R8 _ c m
 ·rcases List.mem_cons.mp m with m | m
  ·omega
  ·exact R8 _ c m
theorem B0r (ps:LR):∀ c ∈ plT ps,c < 128:=U8 (by decide) fun p hp=>by
 obtain ⟨q,_,rfl⟩:=List.mem_map.mp hp;exact B6a q
theorem B73 {p:List Nat × Int × Rat} (h:CaOk p):∀ c ∈ caT p,c < 128:=fun c hc=>by
 unfold caT at hc;rcases Za hc with m | m
 ·have:=L4 _ h.w c m;omega
 ·rcases List.mem_cons.mp m with m | m
  ·omega
  ·rcases Za m with m | m
   ·rcases K7 _ c m with z | z <;> omega
   ·rcases List.mem_cons.mp m with m | m
    ·omega
    ·exact R8 _ c m
theorem B07 {ps:List (List Nat × Int × Rat)} (h:∀ p ∈ ps,CaOk p):∀ c ∈ paT ps,c < 128:=by
 unfold paT;split
 ·decide
 ·exact U8 (by decide) fun p hp=>by
   obtain ⟨q,hq,rfl⟩:=List.mem_map.mp hp;exact B73 (h q hq)
theorem W0 {y:List Nat} {m:Nat}:∀ {ps:List (List Nat)},(∀ p ∈ ps,p.length<=m)->(D7 y ps).length<=ps.length * (m + y.length)
 | [],_=>Nat.zero_le _
 | [p],h=>by
  have:=h p Zy;show p.length<=1 * (m + y.length);omega
 | p :: q :: r,h=>by
  have h1:=h p Zy;have ih:=W0 (y:=y) (ps:=q :: r) fun z hz=>h z (Zr _ hz);rw [K1,Ze,Ze,List.length_cons,Nat.succ_mul];omega
theorem C6x {ps:List (List Nat × Int × Rat)} (hne:ps≠[]):paT ps≠[45]:=fun e=>by
 cases ps with
 | nil=>exact hne rfl
 | cons p r =>
  unfold paT at e;rw [if_neg (List.cons_ne_nil _ _)] at e;have:=Y1 (y:=[44,32]) (ps:=(p :: r).map caT) (p:=caT p) (Zy);rw [e] at this;unfold caT at this;rw [Ze,List.length_cons,Ze,List.length_cons] at this;have:2<=([45]:List Nat).length:=by omega
  exact absurd this (by decide)
theorem B5t:∀ x ∈ [PyData.str (Str.ofString "start"),.str (Str.ofString "end"),.str (Str.ofString "wait"),.str (Str.ofString "hold")],∃ w,x=PyData.str (sO w)/\w ∈ arcs:=by
 obtain ⟨e1,e2,e3,e4⟩:=mArc;rw [e1,e2,e3,e4];intro x hx;simp only [List.mem_cons,List.not_mem_nil,or_false] at hx;rcases hx with rfl | rfl | rfl | rfl
 ·exact ⟨_,rfl,by decide⟩
 ·exact ⟨_,rfl,by decide⟩
 ·exact ⟨_,rfl,by decide⟩
 ·exact ⟨_,rfl,by decide⟩
theorem A8z {a b:Int} (hb:0 < b) (ha:0 < a):0 < Rat.divInt a b:=by
 refine Rat.not_le.mp fun w=>?_;have e:=Rat.le_antisymm w ((Rat.divInt_nonneg_iff_of_pos_right hb).mpr (Int.le_of_lt ha));have n0:(Rat.divInt a b).num=0:=by rw [e]; rfl
 rw [Rat.num_divInt,Int.sign_eq_one_of_pos hb,Int.one_mul] at n0;have hd:((b.gcd a:Nat):Int) ∣ a:=Int.gcd_dvd_right ..;have:=Int.ediv_mul_cancel hd;rw [n0] at this;omega
theorem C4w:∀ d:Nat,d < 5->∃ n m:Int,([PyData.int 3,PyData.int 40,PyData.int (10 ^ Int.toNat 6),PyData.int (10 ^ Int.toNat 30),PyData.int (10 ^ Int.toNat 60 - 1)])[d]?=some (.int n)/\([PyData.int 1,PyData.int 12,PyData.int 60,PyData.int (10 ^ Int.toNat 59),PyData.int 1])[d]?=some (.int m)/\0 < n/\0 < m/\n + m<=10 ^ 60
 | 0,_=>⟨_,_,rfl,rfl,by decide +kernel,by decide +kernel,by decide +kernel⟩
 | 1,_=>⟨_,_,rfl,rfl,by decide +kernel,by decide +kernel,by decide +kernel⟩
 | 2,_=>⟨_,_,rfl,rfl,by decide +kernel,by decide +kernel,by decide +kernel⟩
 | 3,_=>⟨_,_,rfl,rfl,by decide +kernel,by decide +kernel,by decide +kernel⟩
 | 4,_=>⟨_,_,rfl,rfl,by decide +kernel,by decide +kernel,by decide +kernel⟩
 | n + 5,h=>absurd h (by omega)
theorem C9f {t b n m:Int} (h0:0<=t) (h1:t < n) (h3:0 < b) (h4:b<=m) (h5:n + m<=10 ^ 60):(Rat.divInt t b).num.natAbs + (Rat.divInt t b).den < 10 ^ 60:=by
 obtain ⟨e1,e2⟩:=A3m (t:=t) h3;have e:(10:Int) ^ 60=((10 ^ 60:Nat):Int):=by decide +kernel
 rw [e] at h5;generalize 10 ^ 60=N at *;omega
theorem sumL {a b c:Nat} (h:a + b < c):a < c:=Nat.lt_of_le_of_lt (Nat.le_add_right _ _) h
theorem sumR {a b c:Nat} (h:a + b < c):b < c:=Nat.lt_of_le_of_lt (Nat.le_add_left _ _) h
theorem C39 {q:Rat} (q0:0<=q) (h:q.num.natAbs + q.den < 10 ^ 60):0 < Rat.divInt (q.num + (q.den:Int)) (q.den:Int)/\(Rat.divInt (q.num + (q.den:Int)) (q.den:Int)).num.natAbs < 10 ^ 60/\(Rat.divInt (q.num + (q.den:Int)) (q.den:Int)).den < 10 ^ 60/\(q.num + (q.den:Int)).natAbs < 10 ^ 60:=by
 have n0:=Rat.num_nonneg.mpr q0;have d0:=q.den_pos;have hd:(0:Int) < (q.den:Int):=by omega
 obtain ⟨e1,e2⟩:=A3m (t:=q.num + (q.den:Int)) hd;have e3:(q.num + (q.den:Int)).natAbs=q.num.natAbs + q.den:=by omega
 refine ⟨A8z hd (by omega),Nat.lt_of_le_of_lt e1 (by rw [e3]; exact h),Nat.lt_of_le_of_lt e2 (sumR h),by rw [e3]; exact h⟩
theorem Z0 {α:Type} (f:α->PyData) (ps:List α) (n:Nat):cutD (ps.map f) none (some (n:Int))=(ps.take n).map f:=by
 unfold cutD;have e1:HT.sIx (ps.map f).length 0 none=0:=rfl;have e2:HT.sIx (ps.map f).length (ps.map f).length (some (n:Int))=min n ps.length:=by
  unfold HT.sIx;simp;intro h;omega
 rw [e1,e2,List.drop_zero,Nat.sub_zero,<- List.map_take];congr 1
 rw [List.take_eq_take_iff]; omega
theorem C2y {l a b:List Nat} {c:Nat} (hc:c < 128) (h:l=a++b) (ha:∀ z ∈ l,z < 128):∀ z ∈ a++c :: b,z < 128:=fun z hz=>by
 rcases Za hz with m | m
 ·exact ha z (by rw [h]; exact Zt _ m)
 ·rcases List.mem_cons.mp m with m | m
  ·omega
  ·exact ha z (by rw [h]; exact Zw _ m)
theorem C19 {c:Nat} (h:strC c=true):c < 128:=by
 unfold strC at h;simp only [Bool.and_eq_true,decide_eq_true_eq] at h;exact h.2
def wBnd:List Nat:=[98,101,110,100]
def wPap:List Nat:=[112,97,112,101,114]
def wBar:List Nat:=[98,97,114]
def wNon:List Nat:=[110,111,110,101,32]
theorem mBnd:Str.ofString "bend"=sO wBnd:=by decide +kernel
theorem mPap:Str.ofString "paper"=sO wPap:=by decide +kernel
theorem mBar:Str.ofString "bar"=sO wBar:=by decide +kernel
theorem mNon:Str.ofString "none "=sO wNon:=by decide +kernel
theorem mNl:Str.ofString "\n"=sO [10]:=by decide +kernel
def papI (t:List Nat):Option LP:=if t=[45] then some [] else if okC t=true/\(splL [44,32] t).length<=100 then some (vaC t) else none
def plnI (t:List Nat):Option LP:=if okP t=true/\(splL [44,32] t).length<=10 then some (vaP t) else none
def oL:Option LP->PyData
 | none=>.none
 | some xs=>.list xs
def oX:Option PyData->PyData
 | none=>.none
 | some x=>x
def bndP (a b:Option Rat) (p:Option LP):Option PyData:=match a,b,p with
 | some a,some b,some p=>some (.tuple [dq a,dq b,.list p])
 | _,_,_=>none
def bndI (l:List Nat):Option PyData:=bndP (qIn (parS 32 l).1) (qIn (parS 32 (parS 32 l).2.2).1) (plnI (parS 32 (parS 32 l).2.2).2.2)
def rowP (b p:Nat) (w t:List Nat):Option PyData :=
 if p < b then (if w=wPap then (papI t).map .list else none)
 else if w=wBnd then bndI t
 else if w=wBar/\0 < b then (papI t).map .list else none
def rowR (b p:Nat) (r:List Nat):Option PyData:=rowP b p (parS 32 r).1 (parS 32 r).2.2
def oW (w:List Nat):Option PyData->PyData
 | none=>.none
 | some x=>.tuple [.str (sO w),x]
abbrev S3:=LP × LP × LP
def putS (s:S3) (w:List Nat) (x:PyData):S3:=if w=wBnd then (s.1++[x],s.2.1,s.2.2) else if w=wPap then (s.1,s.2.1++[x],s.2.2) else (s.1,s.2.1,s.2.2++[x])
def stpS (s:S3) (r:List Nat):Option S3:=if 0 < s.2.2.length then none else (rowR s.1.length s.2.1.length r).map fun x=>putS s (parS 32 r).1 x
def runS:Nat->S3->List (List Nat)->S3 ⊕ Nat
 | k,s,[]=>if s.2.2.length=0 then .inr k else .inl s
 | k,s,r :: rs=>match stpS s r with
  | none=>.inr k
  | some s'=>runS (k + 1) s' rs
def rdR (rows:List (List Nat)):PyData ⊕ Nat :=
 if (rows.headD []).take 5=wNon then (match papI (parS 32 (rows.headD [])).2.2 with
  | none=>.inr 0
  | some p=>if 1 < rows.length then .inr 1 else .inl (.tuple [.str "none",.list p]))
 else match runS 0 ([],[],[]) rows with
  | .inl s=>.inl (.tuple [.str "stair",.list s.1,.list s.2.1,s.2.2.headD .none])
  | .inr k=>.inr k
structure ShS (l:List Nat):Prop where
 le:l.length<=90000
 as:∀ c ∈ l,c < 128
 rw:∀ r ∈ splL [10] l,r.length<=4200
theorem N8 {w t:List Nat} (h:32 ∉ w):parS 32 (w++32 :: t)=(w,[32],t):=by
 unfold parS;rw [T0 h]
theorem A4q {r:List Nat} {c:Nat} (h:c ∈ r) (h32:c≠32):c ∈ (parS 32 r).1\/c ∈ (parS 32 r).2.2:=by
 obtain ⟨e,k⟩:=R0 32 r;rw [<- e] at h;rcases Za h with h | h
 ·rcases Za h with h | h
  ·exact .inl h
  ·rcases k with ⟨k,_⟩ | k
   ·rw [k] at h; cases h
   ·rw [k] at h; exact absurd (Zn h) h32
 ·exact .inr h
theorem X4 (l:List Nat):(parS 32 l).1.length<=l.length/\(parS 32 l).2.2.length<=l.length:=by
 have:=congrArg List.length (R0 32 l).1;rw [Ze,Ze] at this;omega
theorem A4p (l:List Nat):(∀ c ∈ (parS 32 l).1,c ∈ l)/\(∀ c ∈ (parS 32 l).2.1,c ∈ l)/\∀ c ∈ (parS 32 l).2.2,c ∈ l:=by
 have e:=(R0 32 l).1;refine ⟨fun c h=>?_,fun c h=>?_,fun c h=>?_⟩ <;> rw [<- e] <;> simp [h]
theorem C5z {b p:Nat} (r:List Nat) (h:p < b):rowR b p r=rowR 1 0 r:=by
 unfold rowR rowP;rw [if_pos h,if_pos (show 0 < 1 by decide)]
theorem C5y {b p:Nat} (r:List Nat) (h:¬ p < b) (h0:0 < b):rowR b p r=rowR 1 1 r:=by
 unfold rowR rowP;have e:((parS 32 r).1=wBar/\0 < b)=((parS 32 r).1=wBar/\0 < 1):=by simp [h0]
 rw [if_neg h,if_neg (show ¬ 1 < 1 by decide)];simp only [e]
theorem B02 {c:Nat} {t:List Nat} (h:strC c=true) (hc:c ∈ t):papI t=none:=by
 unfold papI;rw [if_neg (fun e=>by rw [e] at hc; exact (K8 h).2.1 (Zn hc)),B00 h hc,if_neg (fun z=>by cases z.1)]
theorem C3a {c:Nat} {t:List Nat} (h:strC c=true) (hc:c ∈ t):plnI t=none:=by
 unfold plnI;rw [B6z h hc,if_neg (fun z=>by cases z.1)]
theorem A7u {a b:Option Rat} {p:Option LP} (h:a=none\/b=none\/p=none):bndP a b p=none:=by
 rcases h with rfl | rfl | rfl
 ·rfl
 ·cases a <;> rfl
 ·cases a <;> cases b <;> rfl
theorem C4y {c:Nat} {l:List Nat} (h:strC c=true) (hc:c ∈ l):bndI l=none:=by
 obtain ⟨h1,h2,h3,_,h5,_⟩:=K8 h;rcases A4q hc h5 with m | m
 ·exact A7u (.inl (T8 m h1 h2 h3))
 ·rcases A4q m h5 with m | m
  ·exact A7u (.inr (.inl (T8 m h1 h2 h3)))
  ·exact A7u (.inr (.inr (C3a h m)))
theorem B53 {c:Nat} {w:List Nat} (h:strC c=true) (hc:c ∈ w):w≠wPap/\w≠wBnd/\w≠wBar:=by
 have h6:=(K8 h).2.2.2.2.2;refine ⟨fun e=>?_,fun e=>?_,fun e=>?_⟩ <;> rw [e] at hc <;> refine h6 ?_
 ·have:∀ c ∈ wPap,97<=c/\c<=122:=by decide
  exact this c hc
 ·have:∀ c ∈ wBnd,97<=c/\c<=122:=by decide
  exact this c hc
 ·have:∀ c ∈ wBar,97<=c/\c<=122:=by decide
  exact this c hc
theorem A4h {b p c:Nat} {r:List Nat} (h:strC c=true) (hc:c ∈ r):rowR b p r=none:=by
 unfold rowR rowP;rcases A4q hc (K8 h).2.2.2.2.1 with m | m
 ·obtain ⟨h1,h2,h3⟩:=B53 h m;rw [if_neg h1,if_neg h2];split
  ·rfl
  ·exact if_neg fun z=>h3 z.1
 ·rw [B02 h m,C4y h m];simp
def stB (x:List Nat):Prop:=if x.take 5=wNon then papI (parS 32 x).2.2=none else rowR 0 0 x=none
theorem C2b {c:Nat} {r:List Nat} (h:strC c=true) (hc:c ∈ r):stB r:=by
 unfold stB;split
 ·rename_i z;have e:r=wNon++r.drop 5:=by rw [<- z,List.take_append_drop]
  have e2:parS 32 r=([110,111,110,101],[32],r.drop 5):=by
   rw [e];exact N8 (w:=[110,111,110,101]) (by decide)
  rw [e2];refine B02 h ?_;rw [e] at hc;rcases Za hc with m | m
  ·exfalso;have:∀ c ∈ wNon,¬ strC c=true:=by decide
   exact this c m h
  ·exact m
 ·exact A4h h hc
def folS:S3->List (List Nat)->Option S3
 | s,[]=>some s
 | s,r :: rs=>match stpS s r with
  | none=>none
  | some s'=>folS s' rs
theorem M9:∀ {a b:List (List Nat)} {k:Nat} {s s':S3},folS s a=some s'->runS k s (a++b)=runS (k + a.length) s' b
 | [],b,k,s,s',h=>by
  cases h; rfl
 | r :: rs,b,k,s,s',h=>by
  unfold folS at h;show runS k s (r :: (rs++b))=_;rw [runS];cases e:stpS s r with
  | none=>rw [e] at h; cases h
  | some s1 =>
   rw [e] at h;show runS (k + 1) s1 (rs++b)=_;rw [M9 h,List.length_cons,Nat.add_assoc,Nat.add_comm 1]
theorem W2:∀ {a b:List (List Nat)} {s s':S3},folS s a=some s'->folS s (a++b)=folS s' b
 | [],b,s,s',h=>by
  cases h; rfl
 | r :: rs,b,s,s',h=>by
  unfold folS at h;show folS s (r :: (rs++b))=_;rw [folS];cases e:stpS s r with
  | none=>rw [e] at h; cases h
  | some s1 =>
   rw [e] at h;exact W2 h
theorem V4 {k:Nat} {s:S3} {x:List Nat} {rest:List (List Nat)} (h:stpS s x=none):runS k s (x :: rest)=.inr k:=by
 rw [runS,h]
structure BdOk (b:Rat × Rat × LR):Prop where
 n1:b.1.num.natAbs < 10 ^ 60
 d1:b.1.den < 10 ^ 60
 n2:b.2.1.num.natAbs < 10 ^ 60
 d2:b.2.1.den < 10 ^ 60
 ne:b.2.2≠[]
 le:b.2.2.length<=10
 ok:∀ p ∈ b.2.2,StOk p
structure PpOk (ps:List (List Nat × Int × Rat)):Prop where
 le:ps.length<=23
 ok:∀ p ∈ ps,CaOk p
def bdT (b:Rat × Rat × LR):List Nat:=wBnd++32 :: (rtL b.1++32 :: (rtL b.2.1++32 :: plT b.2.2))
def bdD (b:Rat × Rat × LR):PyData:=.tuple [dq b.1,dq b.2.1,.list (b.2.2.map stD)]
def ppT (ps:List (List Nat × Int × Rat)):List Nat:=wPap++32 :: paT ps
def brT (ps:List (List Nat × Int × Rat)):List Nat:=wBar++32 :: paT ps
def ppD (ps:List (List Nat × Int × Rat)):PyData:=.list (ps.map caD)
abbrev BP:=(Rat × Rat × LR) × List (List Nat × Int × Rat)
def E6:List BP->List (List Nat)
 | []=>[]
 | x :: r=>bdT x.1 :: ppT x.2 :: E6 r
theorem A6c {ps:List (List Nat × Int × Rat)} (h:∀ p ∈ ps,CaOk p) (hl:ps.length<=100):papI (paT ps)=some (ps.map caD):=by
 unfold papI;by_cases hne:ps=[]
 ·subst hne;exact if_pos rfl
 ·obtain ⟨p1,p2⟩:=C6w hne h;rw [if_neg (C6x hne),if_pos ⟨p1,by rw [B06 hne h,Zl]; exact hl⟩,p2]; rfl
theorem C6l {ps:LR} (hne:ps≠[]) (h:∀ p ∈ ps,StOk p) (hl:ps.length<=10):plnI (plT ps)=some (ps.map stD):=by
 unfold plnI;obtain ⟨p1,p2⟩:=C6n hne h;rw [if_pos ⟨p1,by rw [B0q hne,Zl]; exact hl⟩,p2]; rfl
theorem C9v {b:Rat × Rat × LR} (h:BdOk b):bndI (rtL b.1++32 :: (rtL b.2.1++32 :: plT b.2.2))=some (bdD b):=by
 unfold bndI;rw [N8 (W6 _)];dsimp only;rw [N8 (W6 _)];dsimp only;rw [A2f h.n1 h.d1,A2f h.n2 h.d2,C6l h.ne h.ok h.le]; rfl
theorem A94 {k p:Nat} {b:Rat × Rat × LR} (h:BdOk b) (hk:¬ p < k):rowR k p (bdT b)=some (bdD b)/\(parS 32 (bdT b)).1=wBnd:=by
 unfold rowR bdT;rw [N8 (by decide)];refine ⟨?_,rfl⟩;dsimp only;unfold rowP;rw [if_neg hk,if_pos rfl,C9v h]
theorem C2i {k p:Nat} {ps:List (List Nat × Int × Rat)} (h:PpOk ps) (hk:p < k):rowR k p (ppT ps)=some (ppD ps)/\(parS 32 (ppT ps)).1=wPap:=by
 unfold rowR ppT;rw [N8 (by decide)];refine ⟨?_,rfl⟩;dsimp only;unfold rowP;rw [if_pos hk,if_pos rfl,A6c h.ok (by have:=h.le; omega)]; rfl
theorem C2j {k p:Nat} {ps:List (List Nat × Int × Rat)} (h:PpOk ps) (hk:¬ p < k) (h0:0 < k):rowR k p (brT ps)=some (ppD ps)/\(parS 32 (brT ps)).1=wBar:=by
 unfold rowR brT;rw [N8 (by decide)];refine ⟨?_,rfl⟩;dsimp only;unfold rowP;rw [if_neg hk,if_neg (by decide),if_pos ⟨rfl,h0⟩,A6c h.ok (by have:=h.le; omega)]; rfl
theorem W1:∀ {xs:List BP} {s:S3},(∀ x ∈ xs,BdOk x.1/\PpOk x.2)->s.1.length=s.2.1.length->s.2.2=[] ->
  folS s (E6 xs)=some (s.1++xs.map (fun x=>bdD x.1),s.2.1++xs.map (fun x=>ppD x.2),[])
 | [],s,_,_,h0=>by
  show some s=_;rw [List.map_nil,List.map_nil,List.append_nil,List.append_nil,<- h0]
 | x :: r,(b,p,q),h,hl,h0=>by
  have h0:q=[]:=h0;subst h0;have hl:b.length=p.length:=hl;obtain ⟨hb,hp⟩:=h x Zy;obtain ⟨e1,w1⟩:=A94 (k:=b.length) (p:=p.length) hb (by omega);obtain ⟨e2,w2⟩:=C2i (k:=(b++[bdD x.1]).length) (p:=p.length) hp (by rw [Ze]; show _ < _ + 1; omega);have s1:stpS (b,p,[]) (bdT x.1)=some (b++[bdD x.1],p,[]):=by
   unfold stpS;rw [if_neg (by simp)];dsimp only;rw [e1,w1]; rfl
  have s2:stpS (b++[bdD x.1],p,[]) (ppT x.2)=some (b++[bdD x.1],p++[ppD x.2],[]):=by
   unfold stpS;rw [if_neg (by simp)];dsimp only;rw [e2,w2]; rfl
  show folS (b,p,[]) (bdT x.1 :: ppT x.2 :: E6 r)=_;rw [folS,s1];dsimp only;rw [folS,s2];dsimp only;rw [W1 (fun y hy=>h y (Zr _ hy)) (by simp [hl]) rfl];simp
theorem D1:∀ xs:List BP,(E6 xs).length=2 * xs.length
 | []=>rfl
 | x :: r=>by
  show (E6 r).length + 1 + 1=2 * (r.length + 1);rw [D1 r]; omega
theorem P5:∀ (xs:List BP) (m:Nat),(E6 xs).take (2 * m)=E6 (xs.take m)
 | _,0=>by rw [List.take_zero]; rfl
 | [],m + 1=>by rw [List.take_nil]; show List.take _ []=_; rw [List.take_nil]; rfl
 | x :: r,m + 1=>by
  show (bdT x.1 :: ppT x.2 :: E6 r).take (2 * m + 1 + 1)=_;rw [List.take_succ_cons,List.take_succ_cons,P5 r m,List.take_succ_cons]; rfl
theorem A18:∀ (xs:List BP) (m:Nat) (h:m < xs.length),(E6 xs).take (2 * m + 1)=E6 (xs.take m)++[bdT xs[m].1]
 | [],m,h=>absurd h (Nat.not_lt_zero _)
 | x :: r,0,_=>rfl
 | x :: r,m + 1,h=>by
  show (bdT x.1 :: ppT x.2 :: E6 r).take (2 * m + 1 + 1 + 1)=_;rw [List.take_succ_cons,List.take_succ_cons,A18 r m (Nat.lt_of_succ_lt_succ h),List.take_succ_cons]; rfl
theorem A7k {xs:List BP} {i:Nat} (h:∀ x ∈ xs,BdOk x.1/\PpOk x.2) (hi:i<=2 * xs.length) :
  ∃ s:S3,folS ([],[],[]) ((E6 xs).take i)=some s/\s.1.length=(i + 1) / 2/\s.2.1.length=i / 2/\s.2.2=[]:=by
 have ht:∀ m,∀ x ∈ xs.take m,BdOk x.1/\PpOk x.2:=fun m x hx=>h x (List.mem_of_mem_take hx);rcases Nat.mod_two_eq_zero_or_one i with z | z
 ·obtain ⟨m,rfl⟩:∃ m,i=2 * m:=⟨i / 2,by omega⟩;rw [P5,W1 (ht m) rfl rfl];refine ⟨_,rfl,?_,?_,rfl⟩
  ·simp; omega
  ·simp; omega
 ·obtain ⟨m,rfl⟩:∃ m,i=2 * m + 1:=⟨i / 2,by omega⟩;have hm:m < xs.length:=by omega
  rw [A18 xs m hm,W2 (W1 (ht m) rfl rfl)];obtain ⟨e1,w1⟩:=A94 (k:=(xs.take m).length) (p:=(xs.take m).length) (h _ (List.getElem_mem hm)).1 (by omega);refine ⟨(([]++(xs.take m).map fun x=>bdD x.1)++[bdD xs[m].1],[]++(xs.take m).map (fun x=>ppD x.2),[]),?_,?_,?_,rfl⟩
  ·rw [folS];have:stpS ([]++(xs.take m).map (fun x=>bdD x.1),[]++(xs.take m).map (fun x=>ppD x.2),[]) (bdT xs[m].1)=some (([]++(xs.take m).map fun x=>bdD x.1)++[bdD xs[m].1],[]++(xs.take m).map (fun x=>ppD x.2),[]):=by
    unfold stpS;rw [if_neg (by simp)];dsimp only;rw [List.nil_append,List.nil_append,Zl,Zl,e1,w1]; rfl
   rw [this]; rfl
  ·simp; omega
  ·simp; omega
theorem A1s (b:Rat × Rat × LR) (rest:List (List Nat)):((bdT b :: rest).headD []).take 5≠wNon:=by
 show (98 :: _)≠_;intro e;injection e with e _
 cases e
theorem C51 {xs:List BP} {i:Nat} {x:List Nat} {rest tl:List (List Nat)} (h:∀ x ∈ xs,BdOk x.1/\PpOk x.2) (h0:0 < i) (hi:i<=2 * xs.length)
  (ho:i % 2=1->rowR 1 0 x=none) (he:i % 2=0->rowR 1 1 x=none):rdR ((E6 xs++tl).take i++x :: rest)=.inr i:=by
 obtain ⟨s,f,l1,l2,l3⟩:=A7k h hi;have et:(E6 xs++tl).take i=(E6 xs).take i:=List.take_append_of_le_length (by rw [D1]; exact hi);rw [et];unfold rdR;have hh:¬ ((((E6 xs).take i++x :: rest).headD []).take 5=wNon):=by
  cases xs with
  | nil=>simp at hi; omega
  | cons y r =>
   obtain ⟨j,rfl⟩:∃ j,i=j + 1:=⟨i - 1,by omega⟩;exact A1s y.1 _
 rw [if_neg hh,M9 f,Nat.zero_add,List.length_take,D1,Nat.min_eq_left hi,V4];unfold stpS;rw [l3,if_neg (by simp),l1,l2];rcases Nat.mod_two_eq_zero_or_one i with z | z
 ·rw [C5y x (by omega) (by omega),he z]; rfl
 ·rw [C5z x (by omega),ho z]; rfl
theorem A05 {x:List Nat} {rest:List (List Nat)} (h:stB x):rdR (x :: rest)=.inr 0:=by
 unfold stB at h;unfold rdR;show (if x.take 5=wNon then _ else _)=_;split at h
 ·rename_i z;rw [if_pos z];show (match papI (parS 32 x).2.2 with | none=>_ | some p=>_)=_;rw [h]
 ·rename_i z;rw [if_neg z,V4];unfold stpS;rw [if_neg (by simp)];dsimp only [List.length_nil];rw [h]; rfl
theorem C50:rdR [[]]=.inr 0:=A05 (by
 unfold stB;rw [if_neg (by decide)];decide +kernel)
theorem B6k {xs:List BP} {i:Nat} {tl:List (List Nat)} (h:∀ x ∈ xs,BdOk x.1/\PpOk x.2) (h0:0 < i) (hi:i<=2 * xs.length):rdR ((E6 xs++tl).take i)=.inr i:=by
 obtain ⟨s,f,l1,l2,l3⟩:=A7k h hi;have et:(E6 xs++tl).take i=(E6 xs).take i:=List.take_append_of_le_length (by rw [D1]; exact hi);rw [et];unfold rdR;have hh:¬ ((((E6 xs).take i).headD []).take 5=wNon):=by
  cases xs with
  | nil=>simp at hi; omega
  | cons y r =>
   obtain ⟨j,rfl⟩:∃ j,i=j + 1:=⟨i - 1,by omega⟩;exact A1s y.1 _
 rw [if_neg hh];have:=M9 (b:=[]) (k:=0) f;rw [List.append_nil] at this;rw [this,Nat.zero_add,List.length_take,D1,Nat.min_eq_left hi];unfold runS;rw [l3,if_pos (show ([]:LP).length=0 from rfl)]
theorem B44 {xs:List BP} {ps:List (List Nat × Int × Rat)} (h:∀ x ∈ xs,BdOk x.1/\PpOk x.2) (hp:PpOk ps) (hx:xs≠[]) :
  folS ([],[],[]) (E6 xs++[brT ps])=some (xs.map (fun x=>bdD x.1),xs.map (fun x=>ppD x.2),[ppD ps]):=by
 rw [W2 (W1 h rfl rfl)];have hl:0 < xs.length:=List.length_pos_iff.mpr hx;obtain ⟨e1,w1⟩:=C2j (k:=xs.length) (p:=xs.length) hp (by omega) hl;rw [folS];have:stpS ([]++xs.map (fun x=>bdD x.1),[]++xs.map (fun x=>ppD x.2),[]) (brT ps)=some (xs.map (fun x=>bdD x.1),xs.map (fun x=>ppD x.2),[ppD ps]):=by
  unfold stpS;rw [if_neg (by simp)];dsimp only;rw [List.nil_append,List.nil_append,Zl,Zl,e1,w1]; rfl
 rw [this]; rfl
theorem C52 {xs:List BP} {ps:List (List Nat × Int × Rat)} (h:∀ x ∈ xs,BdOk x.1/\PpOk x.2) (hp:PpOk ps) (hx:xs≠[]) :
  rdR (E6 xs++[brT ps])=.inl (.tuple [.str "stair",.list (xs.map fun x=>bdD x.1),.list (xs.map fun x=>ppD x.2),ppD ps]):=by
 unfold rdR;have hh:¬ ((((E6 xs++[brT ps])).headD []).take 5=wNon):=by
  cases xs with
  | nil=>exact absurd rfl hx
  | cons y r=>exact A1s y.1 _
 have:=M9 (b:=[]) (k:=0) (B44 h hp hx);rw [List.append_nil] at this;rw [if_neg hh,this];unfold runS;rw [if_neg (by simp)]; rfl
theorem C2n {xs:List BP} {ps:List (List Nat × Int × Rat)} {x:List Nat} {rest:List (List Nat)} (h:∀ x ∈ xs,BdOk x.1/\PpOk x.2) (hp:PpOk ps) (hx:xs≠[]):rdR (E6 xs++[brT ps]++x :: rest)=.inr (2 * xs.length + 1):=by
 unfold rdR;have hh:¬ ((((E6 xs++[brT ps]++x :: rest)).headD []).take 5=wNon):=by
  cases xs with
  | nil=>exact absurd rfl hx
  | cons y r=>exact A1s y.1 _
 rw [if_neg hh,M9 (B44 h hp hx),V4 (by unfold stpS; rw [if_pos (by simp)]),Ze,D1,Nat.zero_add]; rfl
theorem A6z (t:List Nat):parS 32 (wNon++t)=([110,111,110,101],[32],t):=N8 (w:=[110,111,110,101]) (by decide)
theorem C2m {ps:List (List Nat × Int × Rat)} (h:PpOk ps):rdR [wNon++paT ps]=.inl (.tuple [.str "none",ppD ps]):=by
 unfold rdR;rw [if_pos (by exact rfl)];show (match papI (parS 32 (wNon++paT ps)).2.2 with | none=>_ | some p=>_)=_;rw [A6z];dsimp only;rw [A6c h.ok (by have:=h.le; omega)]; rfl
theorem A5z {ps:List (List Nat × Int × Rat)} {x:List Nat} {rest:List (List Nat)} (h:PpOk ps):rdR ((wNon++paT ps) :: x :: rest)=.inr 1:=by
 unfold rdR;rw [if_pos (by exact rfl)];show (match papI (parS 32 (wNon++paT ps)).2.2 with | none=>_ | some p=>_)=_;rw [A6z];dsimp only;rw [A6c h.ok (by have:=h.le; omega)];show (if 1 < rest.length + 1 + 1 then _ else _)=_;rw [if_pos (by omega)]
def papB (t:List Nat):Bool:=decide (t=[45]) || ((cutC [44,32] t).all (fun p=>(caW (cutC [32] p)).isSome) && decide ((cutC [44,32] t).length<=100))
def plnB (t:List Nat):Bool:=(cutC [44,32] t).all (fun p=>(stL p).isSome) && decide ((cutC [44,32] t).length<=10)
theorem B04 {t:List Nat} (h:papB t=false):papI t=none:=by
 unfold papB at h;rw [Bool.or_eq_false_iff,decide_eq_false_iff_not] at h;unfold papI okC;rw [if_neg h.1];simp only [C5h,D0i];refine if_neg fun z=>?_;rw [z.1,Zk z.2] at h;cases h.2
theorem C6m {t:List Nat} (h:plnB t=false):plnI t=none:=by
 unfold plnB at h;unfold plnI okP;rw [C5h];refine if_neg fun z=>?_;rw [z.1,Zk z.2] at h;cases h
def bndB (l:List Nat):Bool:=(qIn (parS 32 l).1).isSome && (qIn (parS 32 (parS 32 l).2.2).1).isSome && plnB (parS 32 (parS 32 l).2.2).2.2
theorem C9w {l:List Nat} (h:bndB l=false):bndI l=none:=by
 unfold bndB at h;rw [Bool.and_eq_false_iff,Bool.and_eq_false_iff] at h;refine A7u ?_;rcases h with (h | h) | h
 ·exact .inl (by simpa using h)
 ·exact .inr (.inl (by simpa using h))
 ·exact .inr (.inr (C6m h))
def rowB (b p:Nat) (r:List Nat):Bool :=
 if p < b then (decide ((parS 32 r).1=wPap) && papB (parS 32 r).2.2)
 else if (parS 32 r).1=wBnd then bndB (parS 32 r).2.2
 else (decide ((parS 32 r).1=wBar/\0 < b) && papB (parS 32 r).2.2)
theorem R9 {b p:Nat} {r:List Nat} (h:rowB b p r=false):rowR b p r=none:=by
 unfold rowB at h;unfold rowR rowP;split
 ·rename_i z;rw [if_pos z,Bool.and_eq_false_iff] at h;split
  ·rename_i y;rw [Zk y] at h;rw [B04 (h.resolve_left fun z=>by cases z)]; rfl
  ·rfl
 ·rename_i z;rw [if_neg z] at h;split
  ·rename_i y;rw [if_pos y] at h;exact C9w h
  ·rename_i y;rw [if_neg y,Bool.and_eq_false_iff] at h;split
   ·rename_i x;rw [Zk x] at h;rw [B04 (h.resolve_left fun z=>by cases z)]; rfl
   ·rfl
def stBB (x:List Nat):Bool:=if x.take 5=wNon then papB (parS 32 x).2.2 else rowB 0 0 x
theorem A5s {x:List Nat} (h:stBB x=false):stB x:=by
 unfold stBB at h;unfold stB;split
 ·rename_i z;rw [if_pos z] at h;exact B04 h
 ·rename_i z;rw [if_neg z] at h;exact R9 h
structure RwOk (r:List Nat):Prop where
 le:r.length<=4200
 as:∀ c ∈ r,c < 128
 nl:10 ∉ r
structure SrOk (xs:List BP) (ps:List (List Nat × Int × Rat)):Prop where
 h:∀ x ∈ xs,BdOk x.1/\PpOk x.2
 hp:PpOk ps
 le:xs.length<=8
def srT (xs:List BP) (ps:List (List Nat × Int × Rat)):List (List Nat):=if xs=[] then [wNon++paT ps] else E6 xs++[brT ps]
def srD (xs:List BP) (ps:List (List Nat × Int × Rat)):PyData:=if xs=[] then .tuple [.str "none",ppD ps] else .tuple [.str "stair",.list (xs.map fun x=>bdD x.1),.list (xs.map fun x=>ppD x.2),ppD ps]
theorem C87 {c:Nat} {y:List Nat} {ps:List (List Nat)} (hy:c ∉ y) (h:∀ p ∈ ps,c ∉ p):c ∉ D7 y ps:=fun z=>by
 rcases S8 z with z | ⟨p,hp,z⟩
 ·exact hy z
 ·exact h p hp z
theorem B61 (ps:LR):10 ∉ plT ps:=C87 (by decide) fun p hp=>by
 obtain ⟨q,_,rfl⟩:=List.mem_map.mp hp;intro z;rcases Za z with z | z
 ·rcases A17 _ _ z with h | h | h <;> omega
 ·rcases List.mem_cons.mp z with h | z
  ·omega
  ·rcases A17 _ _ z with h | h | h <;> omega
theorem B65 {ps:List (List Nat × Int × Rat)} (h:∀ p ∈ ps,CaOk p):10 ∉ paT ps:=by
 unfold paT;split
 ·decide
 ·refine C87 (by decide) fun p hp=>?_;obtain ⟨q,hq,rfl⟩:=List.mem_map.mp hp;intro z;unfold caT at z;rcases Za z with z | z
  ·have:=L4 _ (h q hq).w 10 z;omega
  ·rcases List.mem_cons.mp z with z | z
   ·omega
   ·rcases Za z with z | z
    ·rcases K7 _ _ z with h | h <;> omega
    ·rcases List.mem_cons.mp z with z | z
     ·omega
     ·rcases A17 _ _ z with h | h | h <;> omega
theorem A6e {ps:List (List Nat × Int × Rat)} (h:PpOk ps):(paT ps).length<=3300:=by
 unfold paT;split
 ·decide
 ·have:=W0 (y:=[44,32]) (m:=139) (ps:=ps.map caT) fun w hw=>by
   obtain ⟨p,hp,rfl⟩:=List.mem_map.mp hw;exact C1p (h.ok p hp)
  rw [Zl] at this;have h2:=h.le;have e:([44,32]:List Nat).length=2:=rfl;rw [e] at this;omega
theorem B9d {ps:LR} (hl:ps.length<=10) (h:∀ p ∈ ps,StOk p):(plT ps).length<=2700:=by
 have:=W0 (y:=[44,32]) (m:=261) (ps:=ps.map stT) fun w hw=>by
  obtain ⟨p,hp,rfl⟩:=List.mem_map.mp hw;exact B8y (h p hp)
 rw [Zl] at this;have e:([44,32]:List Nat).length=2:=rfl;rw [e] at this;unfold plT;omega
structure RwM (r:List Nat):Prop where
 le:r.length<=4000
 as:∀ c ∈ r,c < 128
 nl:10 ∉ r
theorem RwM.ok {r:List Nat} (h:RwM r):RwOk r:=⟨by have:=h.le; omega,h.as,h.nl⟩
theorem A9y {w:List Nat} {ps:List (List Nat × Int × Rat)} (h:PpOk ps) (w1:w.length<=6) (w2:∀ c ∈ w,c < 128) (w3:10 ∉ w):RwM (w++paT ps):=⟨by
 have:=A6e h;rw [Ze]; omega,fun c hc=>by
 rcases Za hc with m | m
 ·exact w2 c m
 ·exact B07 h.ok c m,fun z=>by
 rcases Za z with m | m
 ·exact w3 m
 ·exact B65 h.ok m⟩
theorem C5s {ps:List (List Nat × Int × Rat)} (h:PpOk ps):RwM (ppT ps):=by
 have:=A9y (w:=wPap++[32]) h (by decide) (by decide) (by decide);rw [List.append_assoc] at this; exact this
theorem C5u {ps:List (List Nat × Int × Rat)} (h:PpOk ps):RwM (brT ps):=by
 have:=A9y (w:=wBar++[32]) h (by decide) (by decide) (by decide);rw [List.append_assoc] at this; exact this
theorem C5t {ps:List (List Nat × Int × Rat)} (h:PpOk ps):RwM (wNon++paT ps):=A9y h (by decide) (by decide) (by decide)
theorem A91 (q:Rat):10 ∉ rtL q:=fun z=>by rcases A17 _ _ z with h | h | h <;> omega
theorem C5v {b:Rat × Rat × LR} (h:BdOk b):RwM (bdT b):=by
 have h1:=W7 h.n1 h.d1;have h2:=W7 h.n2 h.d2;have h3:=B9d h.le h.ok;refine ⟨?_,?_,?_⟩
 ·unfold bdT;simp only [List.length_append,List.length_cons];have:wBnd.length=4:=rfl;omega
 ·intro c hc;unfold bdT at hc;rcases Za hc with m | m
  ·have:∀ c ∈ wBnd,c < 128:=by decide
   exact this c m
  rcases List.mem_cons.mp m with m | m
  ·omega
  rcases Za m with m | m
  ·exact R8 _ c m
  rcases List.mem_cons.mp m with m | m
  ·omega
  rcases Za m with m | m
  ·exact R8 _ c m
  rcases List.mem_cons.mp m with m | m
  ·omega
  ·exact B0r _ c m
 ·intro hc;unfold bdT at hc;rcases Za hc with m | m
  ·revert m; decide
  rcases List.mem_cons.mp m with m | m
  ·omega
  rcases Za m with m | m
  ·exact A91 _ m
  rcases List.mem_cons.mp m with m | m
  ·omega
  rcases Za m with m | m
  ·exact A91 _ m
  rcases List.mem_cons.mp m with m | m
  ·omega
  ·exact B61 _ m
theorem A93:∀ {xs:List BP},(∀ x ∈ xs,BdOk x.1/\PpOk x.2)->∀ r ∈ E6 xs,RwM r
 | [],_,r,hr=>nomatch hr
 | x :: xs,h,r,hr=>by
  rcases List.mem_cons.mp hr with rfl | hr
  ·exact C5v (h x Zy).1
  ·rcases List.mem_cons.mp hr with rfl | hr
   ·exact C5s (h x Zy).2
   ·exact A93 (fun y hy=>h y (Zr _ hy)) r hr
theorem C2c {xs:List BP} {ps:List (List Nat × Int × Rat)} (h:SrOk xs ps):∀ r ∈ srT xs ps,RwM r:=fun r hr=>by
 unfold srT at hr;split at hr
 ·rw [Zn hr]; exact C5t h.hp
 ·rcases Za hr with m | m
  ·exact A93 h.h r m
  ·rw [Zn m]; exact C5u h.hp
theorem J8 {xs:List BP} {ps:List (List Nat × Int × Rat)}:(srT xs ps).length=2 * xs.length + 1:=by
 unfold srT;split
 ·rename_i z; rw [z]; rfl
 ·rw [Ze,D1]; rfl
structure SpR (rows:List (List Nat)) (i:Nat):Prop where
 ok:∀ r ∈ rows,RwOk r
 le:rows.length<=19
 bad:rdR (if rows=[] then [[]] else rows)=.inr i
theorem A9s {rows:List (List Nat)} (h:∀ r ∈ rows,RwOk r):splL [10] (D7 [10] rows)=if rows=[] then [[]] else rows:=by
 split
 ·rename_i z;subst z;have:=O2 (c:=10) (y':=[]) (ps:=[[]]) (by simp) (by simp);exact this
 ·rename_i z;exact O2 z fun p hp=>(h p hp).nl
theorem B8z {rows:List (List Nat)} (h:∀ r ∈ rows,RwOk r) (hl:rows.length<=19):ShS (D7 [10] rows):=by
 refine ⟨?_,?_,?_⟩
 ·have:=W0 (y:=[10]) (m:=4200) (ps:=rows) fun w hw=>(h w hw).le;have e:([10]:List Nat).length=1:=rfl;rw [e] at this;omega
 ·exact U8 (by decide) fun p hp=>(h p hp).as
 ·intro r hr;rw [A9s h] at hr;split at hr
  ·rw [Zn hr]; decide
  ·exact (h r hr).le
theorem C2o {rows:List (List Nat)} {i:Nat} (h:SpR rows i):rdR (splL [10] (D7 [10] rows))=.inr i:=by
 rw [A9s h.ok]; exact h.bad
theorem A92:∀ {xs:List BP} {i:Nat} {x:List Nat},(E6 xs)[i]?=some x->∃ y ∈ xs,(i % 2=0/\x=bdT y.1)\/(i % 2=1/\x=ppT y.2)
 | [],i,x,h=>by simp [E6] at h
 | y :: r,0,x,h=>⟨y,Zy,.inl ⟨rfl,by cases h; rfl⟩⟩
 | y :: r,1,x,h=>⟨y,Zy,.inr ⟨rfl,by cases h; rfl⟩⟩
 | y :: r,i + 2,x,h=>by
  obtain ⟨z,hz,e⟩:=A92 (xs:=r) (i:=i) h;exact ⟨z,Zr _ hz,by rw [Nat.add_mod_right]; exact e⟩
theorem C9z (b:Rat × Rat × LR):rowR 1 0 (bdT b)=none:=by
 unfold rowR bdT;rw [N8 (by decide)];rfl
theorem C6k (ps:List (List Nat × Int × Rat)):rowR 1 1 (ppT ps)=none:=by
 unfold rowR ppT;rw [N8 (by decide)];rfl
theorem C9u (ps:List (List Nat × Int × Rat)):rowR 1 0 (brT ps)=none:=by
 unfold rowR brT;rw [N8 (by decide)];rfl
theorem D0s (ps:List (List Nat × Int × Rat)):stB (ppT ps):=by
 unfold stB;rw [if_neg (by intro e; injection e with e _; cases e)];unfold rowR ppT;rw [N8 (by decide)];rfl
def WrR (many i:Nat) (x:List Nat):Prop:=RwOk x/\(i=0->i < many->stB x)/\(0 < i->i < many->i % 2=1->rowR 1 0 x=none)/\(0 < i->i < many->i % 2=0->rowR 1 1 x=none)
theorem B5u {a b:List (List Nat)} (ha:∀ r ∈ a,RwOk r) (hb:∀ r ∈ b,RwOk r):∀ r ∈ a++b,RwOk r:=fun r hr=>(Za hr).elim (ha r) (hb r)
theorem C4u {a:List Nat} {b:List (List Nat)} (ha:RwOk a) (hb:∀ r ∈ b,RwOk r):∀ r ∈ a :: b,RwOk r:=fun r hr=>(List.mem_cons.mp hr).elim (fun e=>by rw [e]; exact ha) (hb r)
theorem A9k {a:List (List Nat)} {n:Nat} (ha:∀ r ∈ a,RwOk r):∀ r ∈ a.take n,RwOk r:=fun r hr=>ha r (List.mem_of_mem_take hr)
theorem Y7 {a:List (List Nat)} {n:Nat} (ha:∀ r ∈ a,RwOk r):∀ r ∈ a.drop n,RwOk r:=fun r hr=>ha r (List.mem_of_mem_drop hr)
theorem M0 {xs:List BP} {ps:List (List Nat × Int × Rat)} (h:SrOk xs ps):∀ r ∈ srT xs ps,RwOk r:=fun r hr=>(C2c h r hr).ok
theorem C8r {a b:List (List Nat)} {x:List Nat}:¬ (a++x :: b=[]):=fun z=>by simp at z
theorem B6j {xs:List BP} {ps:List (List Nat × Int × Rat)} {i:Nat} {x:List Nat} {rest:List (List Nat)} (h:SrOk xs ps) (hi:i<=(srT xs ps).length) (w:WrR (srT xs ps).length i x) :
  rdR ((srT xs ps).take i++x :: rest)=.inr i:=by
 obtain ⟨_,w1,w2,w3⟩:=w;rw [J8] at w1 w2 w3 hi;by_cases hx:xs=[]
 ·subst hx;have hi:i<=1:=hi;rcases Nat.lt_or_ge i 1 with z | z
  ·have:i=0:=by omega
   subst this;exact A05 (w1 rfl (by decide))
  ·have:i=1:=by omega
   subst this;exact A5z h.hp
 ·have e:srT xs ps=E6 xs++[brT ps]:=if_neg hx;rw [e];rcases Nat.lt_or_ge i (2 * xs.length + 1) with z | z
  ·rcases Nat.eq_zero_or_pos i with y | y
   ·subst y;exact A05 (w1 rfl z)
   ·exact C51 h.h y (by omega) (w2 y z) (w3 y z)
  ·have:i=2 * xs.length + 1:=by omega
   subst this;rw [List.take_of_length_le (by rw [Ze,D1]; exact Zv _)];exact C2n h.h h.hp hx
theorem V3 {xs:List BP} {ps:List (List Nat × Int × Rat)} {i:Nat} {x:List Nat} {rest:List (List Nat)} (h:SrOk xs ps) (hi:i<=(srT xs ps).length) (w:WrR (srT xs ps).length i x)
  (hr:∀ r ∈ rest,RwOk r) (hl:i + rest.length<=18):SpR ((srT xs ps).take i++x :: rest) i :=
 ⟨B5u (A9k (M0 h)) (C4u w.1 hr),by rw [Ze,List.length_take,List.length_cons]; omega,by rw [if_neg C8r]; exact B6j h hi w⟩
theorem C5k {xs:List BP} {ps:List (List Nat × Int × Rat)} {i:Nat} (h:SrOk xs ps) (hi:i < (srT xs ps).length):SpR ((srT xs ps).take i) i:=by
 have hi':=hi;rw [J8] at hi;have hl:=h.le;refine ⟨A9k (M0 h),by rw [List.length_take]; omega,?_⟩;rcases Nat.eq_zero_or_pos i with y | y
 ·subst y;rw [List.take_zero,if_pos rfl]; exact C50
 ·have hx:xs≠[]:=fun z=>by rw [z] at hi; simp at hi; omega
  rw [if_neg fun z=>by
   have:=congrArg List.length z;rw [List.length_take,Nat.min_eq_left (Nat.le_of_lt hi')] at this;exact absurd this (by show ¬ i=0; omega)]
  have e:srT xs ps=E6 xs++[brT ps]:=if_neg hx;rw [e];exact B6k h.h y (by omega)
theorem A75 {xs:List BP} {ps:List (List Nat × Int × Rat)} {i:Nat} {a b:List Nat} {c:Nat} (h:SrOk xs ps) (hi:i < (srT xs ps).length) (he:(srT xs ps)[i]?=some (a++b)) (hc:strC c=true) (h10:c≠10) :
  SpR ((srT xs ps).take i++(a++c :: b) :: (srT xs ps).drop (i + 1)) i:=by
 have m:=C2c h _ (Zm he);have hl:=h.le;have hm:c ∈ a++c :: b:=by simp
 have len:=J8 (xs:=xs) (ps:=ps);refine V3 h (Nat.le_of_lt hi) ⟨⟨?_,?_,?_⟩,fun _ _=>C2b hc hm,fun _ _ _=>A4h hc hm,fun _ _ _=>A4h hc hm⟩ (Y7 (M0 h)) (by rw [List.length_drop]; omega)
 ·have:=m.le;rw [Ze] at this;rw [Ze,List.length_cons]; omega
 ·exact C2y (C19 hc) rfl m.as
 ·intro z;rcases Za z with z | z
  ·exact m.nl (Zt _ z)
  ·rcases List.mem_cons.mp z with z | z
   ·exact h10 z.symm
   ·exact m.nl (Zw _ z)
theorem C5i {xs:List BP} {ps:List (List Nat × Int × Rat)} (h:SrOk xs ps) (hx:(srT xs ps).length=1):SpR (srT xs ps++srT xs ps) 1:=by
 have:xs=[]:=List.length_eq_zero_iff.mp (by rw [J8] at hx; omega);subst this;refine ⟨B5u (M0 h) (M0 h),by rw [Ze,J8]; decide,?_⟩;rw [if_neg (by exact List.cons_ne_nil _ _)];exact A5z h.hp
theorem A46 {α:Type} {l:List α} {i:Nat} {x:α} (h:l[i]?=some x):l.drop i=x :: l.drop (i + 1):=by
 obtain ⟨hi,e⟩:=Zs h;rw [List.drop_eq_getElem_cons hi,e]
theorem C5g {xs:List BP} {ps:List (List Nat × Int × Rat)} {i:Nat} (hx:xs≠[]) (hi:i < (srT xs ps).length):∃ x,(srT xs ps)[i]?=some x/\((i < 2 * xs.length/\i % 2=0/\∃ b,x=bdT b)\/(i < 2 * xs.length/\i % 2=1/\∃ q,x=ppT q)\/(i=2 * xs.length/\∃ q,x=brT q)):=by
 refine ⟨(srT xs ps)[i],Zg hi,?_⟩;have g:=Zg hi;rw [J8] at hi;generalize (srT xs ps)[i]=x at *;have e:srT xs ps=E6 xs++[brT ps]:=if_neg hx;rw [e] at g;rcases Nat.lt_or_ge i (2 * xs.length) with z | z
 ·rw [List.getElem?_append_left (by rw [D1]; exact z)] at g;obtain ⟨y,_,⟨m,rfl⟩ | ⟨m,rfl⟩⟩:=A92 g
  ·exact .inl ⟨z,m,_,rfl⟩
  ·exact .inr (.inl ⟨z,m,_,rfl⟩)
 ·have:i=2 * xs.length:=by omega
  subst this;rw [List.getElem?_append_right (by rw [D1]; exact Zv _),D1,Nat.sub_self] at g;cases g;exact .inr (.inr ⟨rfl,_,rfl⟩)
theorem C2d {xs:List BP} {ps:List (List Nat × Int × Rat)} {i:Nat} (h:SrOk xs ps) (hi:i + 1 < (srT xs ps).length):SpR ((srT xs ps).take i++(srT xs ps).drop (i + 1)) i:=by
 have len:=J8 (xs:=xs) (ps:=ps);have hl:=h.le;have hx:xs≠[]:=fun z=>by
  have:xs.length=0:=by rw [z]; rfl
  omega
 obtain ⟨x,hx1,hx2⟩:=C5g (ps:=ps) hx hi;rw [A46 hx1];refine V3 h (by omega) ⟨(M0 h) x (Zm hx1),?_,?_,?_⟩ (Y7 (M0 h)) (by rw [List.length_drop]; omega)
 ·intro i0 _;subst i0;rcases hx2 with ⟨_,m,_⟩ | ⟨_,m,q,rfl⟩ | ⟨m,_⟩
  ·omega
  ·exact D0s q
  ·omega
 ·intro i0 _ m1;rcases hx2 with ⟨_,m,b,rfl⟩ | ⟨_,m,q,rfl⟩ | ⟨m,q,rfl⟩
  ·exact C9z b
  ·omega
  ·exact C9u q
 ·intro i0 _ m1;rcases hx2 with ⟨_,m,b,rfl⟩ | ⟨_,m,q,rfl⟩ | ⟨m,q,rfl⟩
  ·omega
  ·exact C6k q
  ·omega
theorem C5j {xs:List BP} {ps:List (List Nat × Int × Rat)} {i:Nat} (h:SrOk xs ps) (hi:i + 1 < (srT xs ps).length):SpR ((srT xs ps).take (i + 1)++(srT xs ps).drop i) (i + 1):=by
 have len:=J8 (xs:=xs) (ps:=ps);have hl:=h.le;have hx:xs≠[]:=fun z=>by
  have:xs.length=0:=by rw [z]; rfl
  omega
 obtain ⟨x,hx1,hx2⟩:=C5g (ps:=ps) hx (show i < (srT xs ps).length by omega);rw [A46 hx1];refine V3 h (by omega) ⟨(M0 h) x (Zm hx1),?_,?_,?_⟩ (Y7 (M0 h)) (by rw [List.length_drop]; omega)
 ·intro i0 _;omega
 ·intro i0 _ m1;rcases hx2 with ⟨_,m,b,rfl⟩ | ⟨_,m,q,rfl⟩ | ⟨m,q,rfl⟩
  ·exact C9z b
  ·omega
  ·exact C9u q
 ·intro i0 _ m1;rcases hx2 with ⟨_,m,b,rfl⟩ | ⟨_,m,q,rfl⟩ | ⟨m,q,rfl⟩
  ·omega
  ·exact C6k q
  ·omega
theorem D0l {xs:List BP} {ps:List (List Nat × Int × Rat)} (h:SrOk xs ps):rdR (splL [10] (D7 [10] (srT xs ps)))=.inl (srD xs ps):=by
 rw [A9s (M0 h),if_neg fun z=>by
  have:=congrArg List.length z;rw [J8] at this;exact absurd this (by simp)]
 by_cases hx:xs=[]
 ·subst hx;exact C2m h.hp
 ·unfold srT srD;rw [if_neg hx,if_neg hx];exact C52 h.h h.hp hx
structure OdR (x:List Nat):Prop where
 ok:RwOk x
 s:stB x
 a:rowR 1 0 x=none
 b:rowR 1 1 x=none
def odR (x:List Nat):Bool:=decide (x.length<=4200) && x.all (fun c=>decide (c < 128)) && x.all (fun c=>!(c == 10)) && !stBB x && !rowB 1 0 x && !rowB 1 1 x
theorem B2q {x:List Nat} (h:odR x=true):OdR x:=by
 unfold odR at h;simp only [Bool.and_eq_true,decide_eq_true_eq,Bool.not_eq_true'] at h;obtain ⟨⟨⟨⟨⟨h1,h2⟩,h3⟩,h4⟩,h5⟩,h6⟩:=h;refine ⟨⟨h1,fun c hc=>of_decide_eq_true (List.all_eq_true.mp h2 c hc),fun z=>?_⟩,A5s h4,R9 h5,R9 h6⟩;have:=List.all_eq_true.mp h3 10 z;cases this
theorem sub4 {l m:List Nat} (h:∀ c ∈ m,c ∈ l) (ha:∀ c ∈ l,c < 128):∀ c ∈ m,c < 128:=fun c hc=>ha c (h c hc)
theorem V8 {l:List Nat} {p:LP} {Q:SV->Prop} (h:papI l=some p) (q:Q (.own p)):if l=[45] then Q (.own []) else if okC l=true/\(splL [44,32] l).length<=100 then Q (.own (vaC l)) else Q (.d .none):=by
 unfold papI at h;split
 ·rename_i z;rw [if_pos z] at h; cases h; exact q
 ·rename_i z;rw [if_neg z] at h;split
  ·rename_i y;rw [if_pos y] at h; cases h; exact q
  ·rename_i y;rw [if_neg y] at h; cases h
theorem A1e {l:List Nat} {Q:SV->Prop} (h:papI l=none) (q:Q (.d .none)):if l=[45] then Q (.own []) else if okC l=true/\(splL [44,32] l).length<=100 then Q (.own (vaC l)) else Q (.d .none):=by
 unfold papI at h;split
 ·rename_i z;rw [if_pos z] at h; cases h
 ·rename_i z;rw [if_neg z] at h;split
  ·rename_i y;rw [if_pos y] at h; cases h
  ·exact q
theorem B6x {l:List Nat} {p:LP} {Q:SV->Prop} (h:plnI l=some p) (q:Q (.own p)):if okP l=true/\(splL [44,32] l).length<=10 then Q (.own (vaP l)) else Q (.d .none):=by
 unfold plnI at h;split
 ·rename_i y;rw [if_pos y] at h; cases h; exact q
 ·rename_i y;rw [if_neg y] at h; cases h
theorem B6y {l:List Nat} {Q:SV->Prop} (h:plnI l=none) (q:Q (.d .none)):if okP l=true/\(splL [44,32] l).length<=10 then Q (.own (vaP l)) else Q (.d .none):=by
 unfold plnI at h;split
 ·rename_i y;rw [if_pos y] at h; cases h
 ·exact q
def NoS:PyData->PyData->Prop
 | .str y,z=>ShS y.cps.toList/\∃ k:Nat,rdR (splL [10] y.cps.toList)=.inr k/\z=.int k
 | .dict _,_=>False
 | _,z=>z=.int 0
theorem C4z {l:List Nat} {x:PyData} (h:bndI l=some x):isNo x=false:=by
 unfold bndI bndP at h;split at h
 ·cases h; rfl
 ·cases h
theorem C54 {r0:List Nat} {rr:List (List Nat)} {x:PyData ⊕ Nat} (h:rdR (r0 :: rr)=x) (z:r0.take 5=wNon):(papI (parS 32 r0).2.2=none/\x=.inr 0)\/∃ p,papI (parS 32 r0).2.2=some p/\((rr≠[]/\x=.inr 1)\/(rr=[]/\x=.inl (.tuple [.str "none",.list p]))):=by
 have e:rdR (r0 :: rr)=(match papI (parS 32 r0).2.2 with | none=>.inr 0 | some p=>if 1 < (r0 :: rr).length then .inr 1 else .inl (.tuple [.str "none",.list p])):=if_pos z;rw [e] at h;cases hp:papI (parS 32 r0).2.2 with
 | none=>rw [hp] at h; exact .inl ⟨rfl,h.symm⟩
 | some p =>
  rw [hp] at h;cases rr with
  | nil=>exact .inr ⟨p,rfl,.inr ⟨rfl,h.symm⟩⟩
  | cons r1 rr=>exact .inr ⟨p,rfl,.inl ⟨List.cons_ne_nil _ _,h.symm.trans (if_pos (by simp))⟩⟩
theorem C53 {r0:List Nat} {rr:List (List Nat)} {x:PyData ⊕ Nat} (h:rdR (r0 :: rr)=x) (z:¬ r0.take 5=wNon):(∃ s,runS 0 ([],[],[]) (r0 :: rr)=.inl s/\x=.inl (.tuple [.str "stair",.list s.1,.list s.2.1,s.2.2.headD .none]))\/∃ k,runS 0 ([],[],[]) (r0 :: rr)=.inr k/\x=.inr k:=by
 have e:rdR (r0 :: rr)=(match runS 0 ([],[],[]) (r0 :: rr) with | .inl s=>.inl (.tuple [.str "stair",.list s.1,.list s.2.1,s.2.2.headD .none]) | .inr k=>.inr k):=if_neg z;rw [e] at h;cases hp:runS 0 ([],[],[]) (r0 :: rr) with
 | inl s=>rw [hp] at h; exact .inl ⟨s,rfl,h.symm⟩
 | inr k=>rw [hp] at h; exact .inr ⟨k,rfl,h.symm⟩
theorem A0a (l:List Nat):Txt.startswith (sO l) (sO wNon)=decide (l.take 5=wNon):=by
 unfold Txt.startswith;rw [PySem.StrLaws.subAt_eq];have e1:(sO wNon).length=5:=rfl;have e2:(sO l).cps.toList=l:=rfl;have e3:(sO wNon).cps.toList=wNon:=rfl;rw [e1,B3,e2,e3,List.drop_zero];by_cases h:l.take 5=wNon
 ·have:5<=l.length:=by
   have:=congrArg List.length h;rw [List.length_take] at this;have e:wNon.length=5:=rfl;omega
  rw [h,Zk this]; rfl
 ·rw [Zd h];have:(l.take 5 == wNon)=false:=by simpa using h
  rw [this,Bool.and_false]
theorem A7h {α:Type} {f:α->PyData} {xs:List α} {pg:PyData->PEnv->(PEnv->Prop)->Prop} {pb:PSt} {D:PEnds} {env:PEnv} (Iv:Nat->PEnv->Prop) (h0:Iv 0 env)
  (hs:∀ (i:Nat) a e,xs[i]?=some a->Iv i e->pg (.tuple [.int (i:Int),f a]) e fun e2=>pb ⟨Iv (i + 1),D.rt,D.nx,Iv (i + 1)⟩ e2) (hd:∀ e,Iv xs.length e->D.nx e):B1z (A1o (xs.map f)) pg pb D env:=by
 refine ⟨Iv,h0,fun i x e hx hi=>?_,fun e h=>hd e (by rwa [A3k,List.length_map] at h)⟩;obtain ⟨y,hy,rfl⟩:=B49 hx;rw [Zh] at hy;cases hz:xs[i]? with
 | none=>rw [hz] at hy; cases hy
 | some z =>
  rw [hz] at hy; cases hy;exact hs i z e hz hi
theorem B85 {b p:Nat} {r:List Nat} {x:PyData} (h:rowR b p r=some x):(parS 32 r).1=wBnd\/(parS 32 r).1=wPap\/(parS 32 r).1=wBar:=by
 unfold rowR rowP at h;split at h
 ·split at h
  ·rename_i z; exact .inr (.inl z)
  ·cases h
 ·split at h
  ·rename_i z; exact .inl z
  ·split at h
   ·rename_i z; exact .inr (.inr z.1)
   ·cases h
theorem A7l {rs:List (List Nat)} {i:Nat} {r:List Nat} {s0 s s':S3} (h:folS s0 (rs.take i)=some s) (hi:rs[i]?=some r) (hs:stpS s r=some s'):folS s0 (rs.take (i + 1))=some s':=by
 rw [List.take_add_one,hi,Option.toList_some,W2 h,folS,hs]; rfl
theorem C5w {rs:List (List Nat)} {i:Nat} {r:List Nat} {s0 s:S3} (h:folS s0 (rs.take i)=some s) (hi:rs[i]?=some r):runS 0 s0 rs=runS i s (r :: rs.drop (i + 1)):=by
 have hl:=(Zs hi).1;have:=M9 (b:=rs.drop i) (k:=0) h;rw [List.take_append_drop,Nat.zero_add,List.length_take,Nat.min_eq_left (Nat.le_of_lt hl),A46 hi] at this;exact this
theorem A9z {rs:List (List Nat)} {i:Nat} {r:List Nat} {s0 s:S3} (h:folS s0 (rs.take i)=some s) (hi:rs[i]?=some r) (hs:stpS s r=none):runS 0 s0 rs=.inr i:=by
 rw [C5w h hi,V4 hs]
theorem A90 {rs:List (List Nat)} {s0 s:S3} (h:folS s0 rs=some s):runS 0 s0 rs=if s.2.2.length=0 then .inr rs.length else .inl s:=by
 have:=M9 (b:=[]) (k:=0) h;rw [List.append_nil,Nat.zero_add] at this;rw [this]; rfl
def dlE (l:Addr) (a b c:Addr) (s:S3):SV:=.dl l [(sO wBnd,a,s.1),(sO wPap,b,s.2.1),(sO wBar,c,s.2.2)]
theorem A45:∀ {rs:List (List Nat)} {s s':S3},folS s rs=some s'->s'.1.length + s'.2.1.length + s'.2.2.length=s.1.length + s.2.1.length + s.2.2.length + rs.length
 | [],s,s',h=>by cases h; rfl
 | r :: rs,s,s',h=>by
  unfold folS at h;cases e:stpS s r with
  | none=>rw [e] at h; cases h
  | some s1 =>
   rw [e] at h;have:=A45 h;unfold stpS at e;split at e
   ·cases e
   cases e2:rowR s.1.length s.2.1.length r with
   | none=>rw [e2] at e; cases e
   | some x =>
    rw [e2] at e;cases e;unfold putS at this;split at this
    ·simp only [List.length_append,List.length_cons,List.length_nil] at this ⊢;omega
    ·split at this
     ·simp only [List.length_append,List.length_cons,List.length_nil] at this ⊢;omega
     ·simp only [List.length_append,List.length_cons,List.length_nil] at this ⊢;omega
theorem B59 {t t':S3} {r:List Nat} (h:stpS t r=some t'):t.2.2=[]/\∃ x,rowR t.1.length t.2.1.length r=some x/\t'=putS t (parS 32 r).1 x:=by
 unfold stpS at h;split at h
 ·cases h
 rename_i z;cases e:rowR t.1.length t.2.1.length r with
 | none=>rw [e] at h; cases h
 | some x =>
  rw [e] at h; cases h;exact ⟨List.length_eq_zero_iff.mp (by omega),x,rfl,rfl⟩
theorem C5d (ps:LR):(PyData.list (ps.map stD)).canLay0=true:=U7 (f:=stD) fun _ _=>rfl
theorem C9x (b:Rat × Rat × LR):(bdD b).canLay0=true:=by
 show ((true && (true && true)) && ((true && (true && true)) && ((PyData.list (b.2.2.map stD)).canLay0 && true)))=true;rw [C5d]; rfl
theorem C9y (b:Rat × Rat × LR):(bdD b).depth<=4:=by
 have h:PyData.depthAll (b.2.2.map stD)<=2:=A1q fun p _=>Zv _;show max (max 0 (max 0 0) + 1) (max (max 0 (max 0 0) + 1) (max (PyData.depthAll (b.2.2.map stD) + 1) 0)) + 1<=4;omega
theorem C78 {n:Nat} {ps:LR} (hl:ps.length < 1000):okA (n + 3) (.list (ps.map stD)):=by
 show (ps.map stD).length < 1000/\∀ x ∈ ps.map stD,okA (n + 2) x;refine ⟨by rw [Zl]; omega,fun x hx=>?_⟩;obtain ⟨p,_,rfl⟩:=List.mem_map.mp hx;show 2 < 1000/\∀ x ∈ [dq p.1,dq p.2],okA (n + 1) x;refine ⟨by decide,fun x hx=>?_⟩;rcases List.mem_cons.mp hx with rfl | hx
 ·exact A25 _ n
 ·rw [Zn hx]; exact A25 _ n
theorem B2o {n:Nat} {ps:List (List Nat × Int × Rat)} (h:PpOk ps):okA (n + 3) (ppD ps):=by
 show (ps.map caD).length < 1000/\∀ x ∈ ps.map caD,okA (n + 2) x;refine ⟨by rw [Zl]; have:=h.le; omega,fun x hx=>?_⟩;obtain ⟨p,hp,rfl⟩:=List.mem_map.mp hx;show 2 < 1000/\∀ x ∈ [PyData.tuple [.str (sO p.1),.int p.2.1],dq p.2.2],okA (n + 1) x;refine ⟨by decide,fun x hx=>?_⟩;rcases List.mem_cons.mp hx with rfl | hx
 ·show 2 < 1000/\∀ x ∈ [PyData.str (sO p.1),.int p.2.1],okA n x;refine ⟨by decide,fun x hx=>?_⟩;rcases List.mem_cons.mp hx with rfl | hx
  ·have hl:(PyData.str (sO p.1)).canLay0=true:=K4 fun c hc=>by have:=L4 _ (h.ok p hp).w c hc; omega
   cases n <;> exact hl
  ·rw [Zn hx]; cases n <;> exact True.intro
 ·rw [Zn hx]; exact A25 _ n
theorem C79 {n:Nat} {b:Rat × Rat × LR} (h:BdOk b):okA (n + 4) (bdD b):=by
 show 3 < 1000/\∀ x ∈ [dq b.1,dq b.2.1,.list (b.2.2.map stD)],okA (n + 3) x;refine ⟨by decide,fun x hx=>?_⟩;rcases List.mem_cons.mp hx with rfl | hx
 ·exact A25 _ (n + 2)
 rcases List.mem_cons.mp hx with rfl | hx
 ·exact A25 _ (n + 2)
 ·rw [Zn hx]; exact C78 (by have:=h.le; omega)
theorem A6s {n m:Nat} {α:Type} {f:α->PyData} {xs:List α} (hl:xs.length < 1000) (e:m=n + 1) (h:∀ x ∈ xs,okA n (f x)):okA m (.list (xs.map f)):=by
 subst e;show (xs.map f).length < 1000/\∀ x ∈ xs.map f,okA n x;refine ⟨by rw [Zl]; exact hl,fun x hx=>?_⟩;obtain ⟨p,hp,rfl⟩:=List.mem_map.mp hx;exact h p hp
theorem B2n {n:Nat} {s:Str} (h:(PyData.str s).canLay0=true):okA n (.str s):=by cases n <;> exact h
theorem C8a {xs:List BP} {ps:List (List Nat × Int × Rat)} (ok:SrOk xs ps):okA 8 (srD xs ps):=by
 have hl:=ok.le;unfold srD;split
 ·show 2 < 1000/\∀ x ∈ [PyData.str "none",ppD ps],okA 7 x;refine ⟨by decide,fun x hx=>?_⟩;rcases List.mem_cons.mp hx with rfl | hx
  ·exact B2n (by decide +kernel)
  ·rw [Zn hx]; exact B2o ok.hp
 ·show 4 < 1000/\∀ x ∈ [PyData.str "stair",.list (xs.map fun x=>bdD x.1),.list (xs.map fun x=>ppD x.2),ppD ps],okA 7 x;refine ⟨by decide,fun x hx=>?_⟩;rcases List.mem_cons.mp hx with rfl | hx
  ·exact B2n (by decide +kernel)
  rcases List.mem_cons.mp hx with rfl | hx
  ·exact A6s (by omega) rfl fun x hx=>C79 (ok.h x hx).1
  rcases List.mem_cons.mp hx with rfl | hx
  ·exact A6s (by omega) rfl fun x hx=>B2o (ok.h x hx).2
  ·rw [Zn hx]; exact B2o ok.hp
theorem A19:∀ (a b:List BP),E6 (a++b)=E6 a++E6 b
 | [],b=>rfl
 | x :: r,b=>by
  show bdT x.1 :: ppT x.2 :: E6 (r++b)=_;rw [A19 r b]; rfl
theorem A77 {xs:List BP} {i:Nat} {x:BP} (h:xs[i]?=some x):(E6 xs).take (2 * (i + 1))=(E6 xs).take (2 * i)++[bdT x.1,ppT x.2]:=by
 rw [P5,P5,List.take_add_one,h,Option.toList_some,A19]; rfl
def rwB (x:List Nat):Bool:=decide (x.length<=4200) && x.all (fun c=>decide (c < 128)) && x.all (fun c=>!(c == 10))
theorem A16 {x:List Nat} (h:rwB x=true):RwOk x:=by
 unfold rwB at h;simp only [Bool.and_eq_true,decide_eq_true_eq] at h;obtain ⟨⟨h1,h2⟩,h3⟩:=h;refine ⟨h1,fun c hc=>of_decide_eq_true (List.all_eq_true.mp h2 c hc),fun z=>?_⟩;have:=List.all_eq_true.mp h3 10 z;cases this
def odD:PyData->Bool
 | .str z=>odR z.cps.toList
 | _=>false
theorem C0k {y:PyData} (h:odD y=true):∃ x,y=.str (sO x)/\OdR x:=by
 cases y with
 | str z=>exact ⟨z.cps.toList,rfl,B2q h⟩
 | _=>cases h
def AllO (ds:LP):Prop:=∀ y ∈ ds,∃ x,y=PyData.str (sO x)/\OdR x
theorem T3 {ds:LP} (h:ds.all odD=true):AllO ds:=fun y hy=>C0k (List.all_eq_true.mp h y hy)
theorem AllO.app {a b:LP} (ha:AllO a) (hb:AllO b):AllO (a++b):=fun y hy=>(Za hy).elim (ha y) (hb y)
theorem A7i:∀ (n:Nat) (a b:Array Nat),((List.replicate n a).foldl (fun x1 x2=>x1++x2) b).toList=b.toList++(List.replicate n a.toList).flatten
 | 0,a,b=>by simp
 | n + 1,a,b=>by
  rw [List.replicate_succ,List.foldl_cons,A7i n,List.replicate_succ,List.flatten_cons,Array.toList_append,List.append_assoc]
theorem A60 {l:List Nat} {n:Int} (h:2<=n) (hl:l≠[]):Txt.mul (sO l) n=sO (List.replicate n.toNat l).flatten:=by
 have hlen:(sO l).length≠0:=by rw [B3]; exact fun z=>hl (List.length_eq_zero_iff.mp z)
 unfold Txt.mul;rw [if_neg (by omega),if_neg (by
  rw [Bool.or_eq_true,beq_iff_eq,beq_iff_eq];rintro (z | z)
  ·omega
  ·exact hlen z)]
 have e:=A7i n.toNat (sO l).cps #[];have e2:(sO l).cps.toList=l:=rfl;rw [e2,show (#[]:Array Nat).toList=[] from rfl,List.nil_append] at e;have:(List.foldl (fun x1 x2=>x1++x2) #[] (List.replicate n.toNat (sO l).cps))=(sO (List.replicate n.toNat l).flatten).cps:=Array.ext' e;rw [this]
theorem A3a (y w:List Nat):∀ k:Nat,D7 y (List.replicate (k + 1) w)=(List.replicate k (w++y)).flatten++w
 | 0=>rfl
 | k + 1=>by
  have:=A3a y w k;show D7 y (w :: w :: List.replicate k w)=_;rw [K1];have e:w :: List.replicate k w=List.replicate (k + 1) w:=rfl;rw [e,this,List.replicate_succ,List.flatten_cons,List.append_assoc,List.append_assoc,List.append_assoc]
def wEnd:List Nat:=[101,110,100,32,49,32,49]
def M6:List Nat:=D7 [44,32] (List.replicate 101 wEnd)
theorem C8s:Txt.mul (Str.ofString "end 1 1, ") 100++Str.ofString "end 1 1"=sO M6:=by
 rw [show Str.ofString "end 1 1, "=sO (wEnd++[44,32]) by decide +kernel,show Str.ofString "end 1 1"=sO wEnd by decide +kernel,A60 (by decide) (by decide),D0];unfold M6;rw [A3a]; rfl
theorem C8t:(Txt.mul (Str.ofString "end 1 1, ") 100).length=900:=by
 rw [show Str.ofString "end 1 1, "=sO (wEnd++[44,32]) by decide +kernel,A60 (by decide) (by decide),B3]; decide +kernel
theorem B3r (w:List Nat):sO (w++[32])++Txt.mul (Str.ofString "end 1 1, ") 100++Str.ofString "end 1 1"=sO (w++32 :: M6):=by
 rw [Str.append_assoc,C8s,D0,List.append_assoc]; rfl
theorem B03:papI M6=none:=by
 have h:splL [44,32] M6=List.replicate 101 wEnd:=O2 (by decide) fun p hp=>by rw [List.eq_of_mem_replicate hp]; decide
 unfold papI;rw [if_neg (by decide +kernel),h,List.length_replicate,if_neg fun z=>absurd z.2 (by decide)]
theorem B6f:(rwB (wPap++32 :: M6) && rwB (wBar++32 :: M6) && rwB ([110,111,110,101]++32 :: M6))=true:=by decide +kernel
theorem A41 {w:List Nat} (h:w=wPap\/w=wBar\/w=[110,111,110,101]):OdR (w++32 :: M6):=by
 have hr:=B6f;rw [Bool.and_eq_true,Bool.and_eq_true] at hr;have e:parS 32 (w++32 :: M6)=(w,[32],M6):=by
  rcases h with rfl | rfl | rfl <;> exact N8 (by decide)
 have pm:=B03;have h5:(w++32 :: M6).take 5=wNon ↔ w=[110,111,110,101]:=by
  generalize M6=t;rcases h with rfl | rfl | rfl
  ·exact ⟨(fun z=>absurd (List.cons.inj z).1 (by decide)),(fun z=>absurd (List.cons.inj z).1 (by decide))⟩
  ·exact ⟨(fun z=>absurd (List.cons.inj z).1 (by decide)),(fun z=>absurd (List.cons.inj z).1 (by decide))⟩
  ·exact ⟨fun _=>rfl,fun _=>rfl⟩
 have row:∀ b p:Nat,(b=1\/(b=0/\w≠wPap) \/(b=0/\p=0))->rowR b p (w++32 :: M6)=none:=fun b p hb=>by
  unfold rowR;rw [e];show rowP b p w M6=none;unfold rowP;rw [pm];have nb:w≠wBnd:=by rcases h with rfl | rfl | rfl <;> decide
  rw [if_neg nb];split
  ·split <;> rfl
  ·split <;> rfl
 refine ⟨?_,?_,row 1 0 (.inl rfl),row 1 1 (.inl rfl)⟩
 ·rcases h with rfl | rfl | rfl
  ·exact A16 hr.1.1
  ·exact A16 hr.1.2
  ·exact A16 hr.2
 ·unfold stB;by_cases z:(w++32 :: M6).take 5=wNon
  ·rw [if_pos z,e]; exact pm
  ·rw [if_neg z]; exact row 0 0 (.inr (.inr ⟨rfl,rfl⟩))
theorem C8u:([Str.ofString "paper ",Str.ofString "bar ",Str.ofString "none "]).map (fun s=>s++Txt.mul (Str.ofString "end 1 1, ") 100++Str.ofString "end 1 1")=[sO (wPap++32 :: M6),sO (wBar++32 :: M6),sO ([110,111,110,101]++32 :: M6)]:=by
 rw [List.map_cons,List.map_cons,List.map_cons,List.map_nil,show Str.ofString "paper "=sO (wPap++[32]) by decide +kernel,show Str.ofString "bar "=sO (wBar++[32]) by decide +kernel,show Str.ofString "none "=sO ([110,111,110,101]++[32]) by decide +kernel,B3r,B3r,B3r]
theorem B7o:AllO (([Str.ofString "paper ",Str.ofString "bar ",Str.ofString "none "]).map fun s=>PyData.str (s++Txt.mul (Str.ofString "end 1 1, ") 100++Str.ofString "end 1 1")):=by
 have e:(([Str.ofString "paper ",Str.ofString "bar ",Str.ofString "none "]).map fun s=>PyData.str (s++Txt.mul (Str.ofString "end 1 1, ") 100++Str.ofString "end 1 1"))=(([Str.ofString "paper ",Str.ofString "bar ",Str.ofString "none "]).map (fun s=>s++Txt.mul (Str.ofString "end 1 1, ") 100++Str.ofString "end 1 1")).map PyData.str:=by rw [List.map_map]; rfl
 rw [e,C8u];intro y hy;simp only [List.map_cons,List.map_nil,List.mem_cons,List.not_mem_nil,or_false] at hy;rcases hy with rfl | rfl | rfl
 ·exact ⟨_,rfl,A41 (.inl rfl)⟩
 ·exact ⟨_,rfl,A41 (.inr (.inl rfl))⟩
 ·exact ⟨_,rfl,A41 (.inr (.inr rfl))⟩
def AllR (P:List Nat->Prop) (ds:LP):Prop:=∀ y ∈ ds,∃ x,y=PyData.str (sO x)/\RwOk x/\P x
theorem W3 {P:List Nat->Prop}:AllR P []:=fun _ h=>nomatch h
theorem P2 {P:List Nat->Prop} {x:List Nat} {ds:LP} (h0:RwOk x) (h:P x) (r:AllR P ds):AllR P (.str (sO x) :: ds):=fun y hy=>by
 rcases List.mem_cons.mp hy with rfl | hy
 ·exact ⟨x,rfl,h0,h⟩
 ·exact r y hy
theorem L5 {P:List Nat->Prop} {s:Str} {ds:LP} (h0:rwB s.cps.toList=true) (h:P s.cps.toList) (r:AllR P ds):AllR P (.str s :: ds):=P2 (x:=s.cps.toList) (A16 h0) h r
theorem AllR.imp {P Q:List Nat->Prop} {ds:LP} (h:AllR P ds) (f:∀ x,RwOk x->P x->Q x):AllR Q ds:=fun y hy=>by
 obtain ⟨x,e,h0,hp⟩:=h y hy;exact ⟨x,e,h0,f x h0 hp⟩
theorem Q2 {α:Type} (f:α->PyData) (ps:List α) (n:Nat):cutD (ps.map f) (some (n:Int)) none=(ps.drop n).map f:=by
 unfold cutD;have e2:HT.sIx (ps.map f).length (ps.map f).length none=(ps.map f).length:=rfl;have e1:HT.sIx (ps.map f).length 0 (some (n:Int))=min n ps.length:=by
  unfold HT.sIx;simp;intro h;omega
 rw [e1,e2,Zl,<- List.map_drop];rcases Nat.le_total n ps.length with h | h
 ·rw [Nat.min_eq_left h];exact List.take_of_length_le (by rw [Zl,List.length_drop]; exact Zv _)
 ·rw [Nat.min_eq_right h,List.drop_of_length_le (Zv _),List.drop_of_length_le h,Nat.sub_self];rfl
theorem B3q (a b:List (List Nat)) (x:List Nat):(a.map fun r=>PyData.str (sO r))++[.str (sO x)]++(b.map fun r=>PyData.str (sO r))=(a++x :: b).map fun r=>PyData.str (sO r):=by simp
theorem A1l (a b:List (List Nat)):(a.map fun r=>PyData.str (sO r))++(b.map fun r=>PyData.str (sO r))=(a++b).map fun r=>PyData.str (sO r):=by simp
theorem C2k (n:Nat) (x:List Nat):(List.replicate n [PyData.str (sO x)]).flatten=(List.replicate n x).map fun r=>PyData.str (sO r):=by
 induction n with
 | zero=>rfl
 | succ n ih=>rw [List.replicate_succ,List.flatten_cons,ih,List.replicate_succ]; rfl
theorem A0y {rows:List (List Nat)} (h:∀ r ∈ rows,RwOk r) (hl:rows.length<=19):((rows.map sO).map fun z=>z.length + (sO [10]).length).sum<=90000:=by
 refine Zx (A0x (m:=4200) fun l h1=>(h l h1).le) ?_;rw [B3];exact Zx (Zu _ hl) (by decide)
theorem W4 (rows:List (List Nat)):A0z (rows.map fun r=>PyData.str (sO r))=some (rows.map sO):=R6 rows
def tTen:List Nat:=(List.replicate 10 [48,32,49,44,32]).flatten
theorem B3n:Txt.mul (Str.ofString "0 1, ") 10=sO tTen:=by
 rw [show Str.ofString "0 1, "=sO [48,32,49,44,32] by decide +kernel,A60 (by decide) (by decide)]; rfl
theorem B3o:Txt.mul (Str.ofString "9") 61=sO (List.replicate 61 [57]).flatten:=by
 rw [show Str.ofString "9"=sO [57] by decide +kernel,A60 (by decide) (by decide)]; rfl
def wB12:List Nat:=[98,101,110,100,32,49,32,50,32]
theorem six_e:Str.ofString "bend 1 2 "++Txt.mul (Str.ofString "0 1, ") 10++Str.ofString "0 1"=sO (wB12++tTen++[48,32,49])/\Str.ofString "bend "++Txt.mul (Str.ofString "9") 61++Str.ofString " 2 3 4"=sO (wBnd++[32]++(List.replicate 61 [57]).flatten++[32,50,32,51,32,52]):=by
 rw [B3n,B3o,show Str.ofString "bend 1 2 "=sO wB12 by decide +kernel,show Str.ofString "0 1"=sO [48,32,49] by decide +kernel,show Str.ofString "bend "=sO (wBnd++[32]) by decide +kernel,show Str.ofString " 2 3 4"=sO [32,50,32,51,32,52] by decide +kernel,D0,D0,D0,D0];exact ⟨rfl,rfl⟩
theorem D0j:(Txt.mul (Str.ofString "0 1, ") 10).length=50/\(Txt.mul (Str.ofString "9") 61).length=61:=by
 rw [B3n,B3o,B3,B3];exact ⟨by decide +kernel,by decide +kernel⟩
theorem six_ok:odR (wB12++tTen++[48,32,49])=true/\odR (wBnd++[32]++(List.replicate 61 [57]).flatten++[32,50,32,51,32,52])=true:=⟨by decide +kernel,by decide +kernel⟩
theorem C2g:AllO [.str (Str.ofString "bend 1 2 "++Txt.mul (Str.ofString "0 1, ") 10++Str.ofString "0 1"),.str (Str.ofString "bend "++Txt.mul (Str.ofString "9") 61++Str.ofString " 2 3 4"),.str (Str.ofString "paper end 100 1")]:=by
 rw [six_e.1,six_e.2];intro y hy;simp only [List.mem_cons,List.not_mem_nil,or_false] at hy;rcases hy with rfl | rfl | rfl
 ·exact ⟨_,rfl,B2q six_ok.1⟩
 ·exact ⟨_,rfl,B2q six_ok.2⟩
 ·exact C0k (by decide +kernel)
theorem lit5 {Y:LP} {X:PyData} {o0 o3 o4 o5 o6:Option SV} {Q:SV->PEnv->Prop} (h:Q (.own [.none,.int 0,.bool true,.list Y,X]) [o0,some (.d X),some (.d (.list Y)),o3,o4,o5,o6]) (s2:SV) (h2:s2=.own Y\/s2=.d (.list Y)) :
  pLst (A1f (pdat (pC PyData.none)) (A1f (pdat (pC (PyData.int 0))) (A1f (pdat (pC (PyData.bool true))) (A1f (pdat (pVar 2)) (A1f (pdat (pVar 1)) pNil))))) [o0,some (.d X),some s2,o3,o4,o5,o6] Q:=by
 rcases h2 with rfl | rfl <;> first | exact h | exact ⟨Nat.le_of_ble_eq_true rfl,h⟩
section
variable {P:Program} {w:World} {K:PySem.W.Frag} {mg:Str->Option Value} {base:Heap} {D:Adr}
theorem A1i (T:Txt K mg D):FnOk P w K mg base CX0 1 D.a_a1 D.d_a1 ["one","other"] (Pu.spOf K [.dat,.dat] C6j):=by
 refine T.B.F_a1.ok sc_a1 (Zz rfl) (fun cdv A outer s H vs Q E hr h=>?_);refine ⟨_,(QSs.out (A2 (X1 (i:=0) (j:=1) rfl sc_a1.nd rfl rfl (by decide) rfl rfl (A0 (C2 Z5 (by rfl) T.z_abs (by rfl) (A0 (qpv 0) A1)) (A0 (C2 Z5 (by rfl) T.z_abs (by rfl) (A0 (qpv 1) A1)) A1)) rfl)
   (A2 (W9 Zf (A6 (R3 (K:=K) rfl hr.units) (qpv 1) A3 (B2 _))
    (A5 (X1 (i:=0) (j:=1) rfl sc_a1.nd rfl rfl (by decide) rfl rfl (A0 (qpv 1) (A0 (A8 J1 (qpv 0) (qpv 1)) A1)) rfl)))
   (A5 (B0 (qpv 0)))))),?_⟩
 haveI:=T.c2_ARC_WORDS
 refine Pu.G3 h ?_;rintro as Qp ⟨a,b,rfl,k⟩;trivial;refine ⟨fun m e=>∃ x y:Int,e=[some (.d (.int x)),some (.d (.int y))]/\0<=x/\0<=y/\m=y.toNat/\Int.gcd x y=Int.gcd a b,⟨_,_,_,rfl,by split <;> omega,by split <;> omega,rfl,C4l a b⟩,?_⟩
 rintro m e ⟨x,y,rfl,hx,hy,rfl,hg⟩;trivial;refine ite2 (fun e=>?_) (fun hn=>?_)
 ·subst e;have:=A7g x hx;rw [hg] at this;rw [<- this]; exact k
 ·have h1:=Int.emod_lt_of_pos x (show 0 < y by omega);have h2:=Int.emod_nonneg x hn;exact ⟨by omega,(x % y).toNat,by omega,y,x % y,rfl,hy,h2,rfl,by rw [B41,hg]⟩
theorem A20 (T:Txt K mg D):FnOk P w K mg base CX0 1 D.a_b6 D.d_b6 ["one","other"] (Pu.spOf K [.dat,.dat] C23):=by
 refine T.B.F_b6.ok sc_b6 (Zz rfl) (fun cdv A outer s H vs Q E hr h=>?_);refine ⟨_,(QSs.out (A5 (B0 (G9 A8k (A8 N1 (qix K (qpv 0) A3) (qix K (qpv 1) A3)) (A8 N1 (qix K (qpv 1) A3) (qix K (qpv 0) A3)) (B2 _))))),?_⟩
 haveI:=T.c2_ARC_WORDS
 refine Pu.G3 h ?_;rintro as Qp ⟨p,q,rfl,sp,sq,k⟩;trivial;have p1:=sp.1.mono (l:=8000) (by decide);have p2:=sp.2.mono (l:=8000) (by decide);have q1:=sq.1.mono (l:=8000) (by decide);have q2:=sq.2.mono (l:=8000) (by decide);refine ⟨⟨p1,q2⟩,⟨q1,p2⟩,?_⟩;rw [B7p]; exact k
def A09:Pu.PSp:=fun as Q=>∃ n:Int,as=[.d (.int n)]/\n.natAbs < 10 ^ 300/\Q (.d (.str (sO (whL n))))
theorem A1h (T:Txt K mg D):FnOk P w K mg base CX0 1 D.a_a2 D.d_a2 ["number"] (Pu.spOf K [.dat] A09):=by
 refine T.B.F_a2.ok sc_a2 (Zz rfl) (fun cdv A outer s H vs Q E hr h=>?_);refine ⟨_,(QSs.out (A2 (qst 1 sc_a2 (B6 A1))
   (A2 (qst 2 sc_a2 (C2 Z5 (by rfl) T.z_abs (by rfl) (A0 (qpv 0) A1)))
   (A2 (W9 Zf (A6 C75 (qpv 2) (G8 (v:=.int 1000000000000000000) rfl T.ci_CHUNK.choose_spec ⟨_,rfl⟩) (B2 _))
    (A2 (L7 (C2 A3y (by rfl) T.z_divmod (by rfl) (A0 (qpv 2) (A0 (G8 (v:=.int 1000000000000000000) rfl T.ci_CHUNK.choose_spec ⟨_,rfl⟩) A1))) (E8 (K:=K) (n:=2) rfl rfl (B1 (qgn 2 sc_a2) (B1 (qgn 3 sc_a2) E7)) rfl rfl))
    (A5 (G6 (C0 (K:=K) rfl Z1 Z2 Z3 F1 (qpv 1) (A0 (C0 (K:=K) rfl PySem.F.plainAttrs_str PySem.F.slot_str_zfill PySem.F.type_str_zfill B3p (F7 M5 (by rfl) T.z_str (by rfl) (A0 (qpv 3) A1)) (A0 (G8 (v:=.int 18) rfl T.ci_CHUNK_FIGURES.choose_spec ⟨_,rfl⟩) A1)) A1))))))
   (A2 (G6 (C0 (K:=K) rfl Z1 Z2 Z3 F1 (qpv 1) (A0 (F7 M5 (by rfl) T.z_str (by rfl) (A0 (qpv 2) A1)) A1)))
   (A2 (qst 4 sc_a2 (C0 (K:=K) rfl PySem.F.plainAttrs_str PySem.F.slot_str_join PySem.F.type_str_join (Q0 (K:=K) rfl) A4 (A0 (A54 (K:=K) rfl (qpv 1) (B9a B8p A3)) A1)))
   (A5 (B0 (G7 (A6 A8k (qpv 0) A3 (B2 _)) (B6o (FP.cons A4 (FP.cons (C2u (qpv 4)) FP.nil))) (qpv 4)))))))))),?_⟩
 haveI:=T.c2_ARC_WORDS
 refine Pu.G3 h ?_;rintro as Qp ⟨n,rfl,hn,k⟩;refine hd fun R hR=>?_;trivial;subst hR;refine hd fun R hR=>?_;trivial;rw [B3m];subst hR;have hl:=C9n hn;refine hd fun R hR=>?_;refine B54 (fun m e=>∃ (a:Nat) (cs:List (List Nat)) (o:Option SV),e=[some (.d (.int n)),some (.own (cs.map fun c=>.str (sO c))),some (.d (.int (a:Int))),o,none]/\m=a/\dgs n.natAbs=dgs a++cs.reverse.flatten/\∀ c ∈ cs,c.length=18) ⟨_,n.natAbs,[],_,rfl,rfl,by simp,fun _ z=>nomatch z⟩ ?_;rintro a e ⟨_,cs,o,rfl,rfl,ed,hc⟩;have hfl:=A7m (ls:=cs.reverse) (k:=18) fun l z=>hc l (List.mem_reverse.mp z);have hll:(dgs a).length + cs.reverse.flatten.length<=300:=by rw [<- Ze,<- ed]; exact hl
 rw [List.length_reverse] at hfl;have a300:a < 10 ^ 300:=(dgs_len (k:=299)).mpr (by omega);trivial;refine ite2 (fun z=>?_) (fun z=>?_)
 ·have z':10 ^ 18<=a:=by omega
  have hC:(10:Nat) ^ 18=1000000000000000000:=by decide
  have e1:((a:Nat):Int) / 1000000000000000000=((a / 10 ^ 18:Nat):Int):=by rw [hC]; omega
  have e2:((a:Nat):Int) % 1000000000000000000=((a % 10 ^ 18:Nat):Int):=by rw [hC]; omega
  have hr:a % 10 ^ 18 < 10 ^ 18:=Nat.mod_lt a (by decide);refine ⟨by decide,by unfold Sm; decide,?_⟩;rw [e1,e2];trivial;refine ⟨A8u (i:=((a % 10 ^ 18:Nat):Int)) (Nat.lt_of_lt_of_le hr (by decide +kernel)),by decide,?_⟩;rw [O1 (Int.natCast_nonneg _),show (((a % 10 ^ 18:Nat):Int)).natAbs=a % 10 ^ 18 from rfl,B50 hr];trivial;refine ⟨by omega,a / 10 ^ 18,by omega,a / 10 ^ 18,cs++[padN 18 (a % 10 ^ 18)],_,by rw [Zc]; rfl,rfl,?_,fun c h=>?_⟩
  ·have:=B5c (k:=18) (q:=a / 10 ^ 18) (r:=a % 10 ^ 18) (Nat.div_pos z' (by decide)) hr;rw [Nat.div_add_mod] at this;rw [ed,this,List.reverse_append,List.append_assoc]; rfl
  ·rcases Za h with h | h
   ·exact hc c h
   ·rw [Zn h]; exact A6d _ _
 subst hR;refine hd fun R hR=>?_;trivial;refine ⟨A8u (i:=((a:Nat):Int)) a300,by omega,?_⟩;rw [O1 (Int.natCast_nonneg _),show ((a:Nat):Int).natAbs=a from rfl];subst hR;refine hd fun R hR=>?_;trivial;have em:(cs.map fun c=>PyData.str (sO c))++[.str (sO (dgs a))]=(cs++[dgs a]).map fun c=>PyData.str (sO c):=by rw [Zc]; rfl
 rw [em,<- List.map_reverse];have ef:((cs++[dgs a]).reverse).flatten=dgs n.natAbs:=by rw [ed,List.reverse_append]; rfl
 rw [mE];refine ⟨_,R6 _,by rw [B8w,ef]; omega,?_⟩;rw [B4t,ef];subst hR;trivial;refine ite2 (fun h=>?_) (fun h=>?_)
 ·have ew:sO (whL n)=Str.empty++sO [45]++sO (dgs n.natAbs):=by
   show _=sO []++sO [45]++sO (dgs n.natAbs);rw [D0,D0];unfold whL;rw [if_pos h]; rfl
  rw [m45];rw [ew] at k;have h1:(Str.empty++sO [45]).length=1:=rfl;exact ⟨by decide,by rw [B3]; omega,by rw [h1,B3]; omega,k⟩
 ·have ew:whL n=dgs n.natAbs:=by unfold whL; rw [if_neg h]
  rw [ew] at k;exact k
def A8b:Pu.PSp:=fun as Q=>∃ l:List Nat,as=[.d (.str (sO l))]/\l.length<=4200/\Q (.d (oI (wIn l)))
theorem U2 (T:Txt K mg D):FnOk P w K mg base CX0 2 D.a_b0 D.d_b0 ["text"] (Pu.spOf K [.dat] A8b):=by
 refine T.B.F_b0.ok sc_b0 (Zz rfl) (fun cdv A outer s H vs Q E hr h=>?_);refine ⟨_,(QSs.out (A2 (qst 1 sc_b0 (G7 (F9 (C0 (K:=K) rfl PySem.F.plainAttrs_str PySem.F.slot_str_startswith PySem.F.type_str_startswith U4 (qpv 0) (A0 A4 A1))) (C3 A9v (qpv 0) (D5 A3) D6) (qpv 0)))
   (A2 (B7 (QW.pt (K3 (N0 (A2c B7d B7d A3 (qln K T.z_len (qpv 1)) (G8 (v:=.int 60) rfl T.ci_MOST_FIGURES.choose_spec ⟨_,rfl⟩))) (J9 (N0 (F9 (C2 (B5o (K:=K) rfl) (by rfl) T.z_all (by rfl) (A0 (V7 rfl (M4 ["sign"] [none]) (C2s (qpv 1)) (fun _ _ _=>(qgc 0 ["sign"])) (fun _ _ _=>P6) (fun _ _ _=>(G9 C73 (qpv 0) (G8 (v:=.str "0123456789") rfl T.cs_FIGURES.choose_spec ⟨_,rfl⟩) (by with_unfolding_all rfl)))) A1)))))))
    (A5 (B0 B8))
    A9)
   (A2 (qst 2 sc_b0 (F7 B5n (by rfl) T.z_int (by rfl) (A0 (qpv 0) A1)))
   (A5 (B0 (G7 (A6 (B9 (K:=K) rfl hr.units) (qcK (A1h (K:=K) T) hr.mo (A34 T) (A0 (qpv 2) A1)) (qpv 0) (B2 _)) (qpv 2) B8))))))),?_⟩
 haveI:=T.c2_ARC_WORDS
 refine Pu.G3 h ?_;rintro as Qp ⟨l,rfl,hl,k⟩;have hb:(G4 l).length<=l.length:=by
  cases l with
  | nil=>exact Zv _
  | cons c r =>
   show (if c=45 then r else c :: r).length<=_;split
   ·exact Nat.le_succ _
   ·exact Zv _
 refine C8 (fun e=>e=[some (.d (.str (sO l))),some (.d (.str (sO (G4 l)))),none]) (fun R hR=>?_) ?_
 ·trivial;rw [m45,A74];cases l with
  | nil=>exact ite2 (fun z=>by cases z) fun _=>hR _ rfl
  | cons c r =>
   refine ite2 (fun z=>?_) (fun z=>?_)
   ·have:c=45:=by simpa using z
    subst this;have eb:G4 (45 :: r)=r:=by
     show (if 45=45 then r else 45 :: r)=r;exact if_pos rfl
    refine ⟨by rw [B3]; omega,?_⟩;rw [A76];exact hR _ (by rw [eb])
   ·have ne:¬ c=45:=fun h=>z (by rw [h]; rfl);have eb:G4 (c :: r)=c :: r:=by
     show (if c=45 then r else c :: r)=c :: r;exact if_neg ne
    exact hR _ (by rw [eb])
 rintro e rfl;have no:¬ (1<=(G4 l).length/\(G4 l).length<=60/\(G4 l).all digB=true)->Qp (.d .none):=fun h=>by
  unfold wIn at k;rw [if_neg h] at k; exact k
 refine hd fun R hR=>?_;trivial;rw [B3];refine ⟨by omega,ite2 (fun h1=>ite2 (fun h2=>?_) fun h2=>no fun z=>by omega) fun h1=>no fun z=>by omega⟩;refine ⟨by rw [A5x,Zl]; omega,?_⟩;rw [A5x];refine Q3 (f:=sgn) (xs:=G4 l) (fun i e ys=>∃ o:Option SV,e=[o]/\ys=(((G4 l).take i).map digB).map .bool) ⟨_,rfl,rfl⟩ ?_ ?_
 ·rintro i c e ys hi ⟨o,rfl,rfl⟩;unfold sgn;trivial;rw [mFig,C9m];refine ⟨_,rfl,?_⟩;rw [List.take_add_one,hi,Zc,Zc]; rfl
 rintro e ys ⟨o,rfl,rfl⟩;rw [List.take_length];trivial;refine ⟨_,A7v _,?_⟩;have ea:((G4 l).map digB).all id=(G4 l).all digB:=by rw [List.all_map]; rfl
 rw [ea];refine ite2 (fun h3=>no fun z=>by rw [z.2.2] at h3; cases h3) fun h3=>?_;have h3:(G4 l).all digB=true:=by cases q:(G4 l).all digB with
  | true=>rfl
  | false=>exact absurd q h3
 have h1:1<=(G4 l).length:=by omega
 have h2:(G4 l).length<=60:=by omega
 subst hR;trivial;refine ⟨_,C9b h3 h1 hl,by rw [B3]; have:=B79 l; omega,_,rfl,A73 (A88 h3 h2),?_⟩;have l1:∀ c ∈ l,c < 128:=fun c hc=>by
  have hd':=A1p h3;cases l with
  | nil=>cases hc
  | cons x r =>
   have eb:G4 (x :: r)=if x=45 then r else x :: r:=rfl;rw [eb] at hd';split at hd'
   ·rcases List.mem_cons.mp hc with m | m
    ·omega
    ·have:=hd' c m;omega
   ·have:=hd' c hc;omega
 have l2:∀ c ∈ whL (valL l),c < 128:=fun c hc=>by
  have:=K7 _ c hc;omega
 unfold wIn at k;rw [if_pos ⟨h1,h2,h3⟩] at k;trivial;rw [V1];refine ⟨K4 l2,K4 l1,ite2 (fun z=>?_) (fun z=>?_)⟩
 ·rw [if_pos (of_decide_eq_true z)] at k; exact k
 ·rw [if_neg (fun y=>z (Zk y))] at k; exact k
def A8e:Pu.PSp:=fun as Q=>∃ l:List Nat,as=[.d (.str (sO l))]/\l.length<=4200/\Q (.d (oR (rIn l)))
theorem M2 (T:Txt K mg D):FnOk P w K mg base CX0 3 D.a_ae D.d_ae ["text"] (Pu.spOf K [.dat] A8e):=by
 refine T.B.F_ae.ok sc_ae (Zz rfl) (fun cdv A outer s H vs Q E hr h=>?_);refine ⟨_,(QSs.out (A2 (L7 (C0 (K:=K) rfl PySem.F.plainAttrs_str PySem.F.slot_str_partition PySem.F.type_str_partition N3 (qpv 0) (A0 A4 A1)) (E8 (K:=K) (n:=3) rfl rfl (B1 (qgn 1 sc_ae) (B1 (qgn 2 sc_ae) (B1 (qgn 3 sc_ae) E7))) rfl rfl))
   (A2 (qst 4 sc_ae (qcK (U2 (K:=K) T) hr.mo (Z6 T) (A0 (qpv 1) A1)))
   (A2 (qst 5 sc_ae (G7 (A6 (B9 (K:=K) rfl hr.units) (qpv 2) A4 (B2 _)) (qcK (U2 (K:=K) T) hr.mo (Z6 T) (A0 (qpv 3) A1)) A3))
   (A2 (B7 (QW.pt (K3 (A6 G0 (qpv 4) B8 (B2 _)) (J9 (A6 G0 (qpv 5) B8 (B2 _)))))
    (A5 (B0 B8))
    A9)
   (A2 (B7 (QW.pt (A06 (A6 (B9 (K:=K) rfl hr.units) (qpv 2) A4 (B2 _)) (V6 (QW.pt (K3 (A6 A8k (qpv 5) A3 (B2 _)) (J9 (A6 (R3 (K:=K) rfl hr.units) (qcK (A1i (K:=K) T) hr.mo (A36 T) (A0 (qpv 4) (A0 (qpv 5) A1))) A3 (B2 _))))))))
    (A5 (B0 B8))
    A9)
   (A5 (B0 (C4 (A0 (qpv 4) (A0 (qpv 5) A1))))))))))),?_⟩
 haveI:=T.c2_ARC_WORDS
 refine Pu.G3 h ?_;rintro as Qp ⟨l,rfl,hl,k⟩;obtain ⟨esum,hsl⟩:=R0 47 l;have hlen:(parS 47 l).1.length + (parS 47 l).2.1.length + (parS 47 l).2.2.length=l.length:=by
  have:=congrArg List.length esum;rw [Ze,Ze] at this; exact this
 have ly:∀ c ∈ (parS 47 l).2.1,c < 128:=fun c hc=>by
  rcases hsl with z | z
  ·rw [z.1] at hc; cases hc
  ·rw [z] at hc;have:=Zn hc;omega
 refine hd fun R hR=>?_;trivial;rw [m47,Q9];refine ⟨rfl,by rw [B3]; omega,?_⟩;subst hR;unfold rIn at k;generalize (parS 47 l).1=p1 at *;generalize (parS 47 l).2.1=p2 at *;generalize (parS 47 l).2.2=p3 at *;refine hd fun R hR=>?_;trivial;refine ⟨p1,rfl,by omega,?_⟩;trivial;subst hR;refine C8 (fun e=>e=[some (.d (.str (sO l))),some (.d (.str (sO p1))),some (.d (.str (sO p2))),some (.d (.str (sO p3))),some (.d (oI (wIn p1))),some (.d (oI (if p2=[47] then wIn p3 else some 1)))]) (fun R hR=>?_) ?_
 ·trivial;rw [m47,V1];refine ⟨K4 ly,C8z,ite2 (fun z=>?_) (fun z=>?_)⟩
  ·have z:=of_decide_eq_true z;refine ⟨p3,rfl,by omega,?_⟩;trivial;exact hR _ (by rw [if_pos z])
  ·exact hR _ (by rw [if_neg (fun y=>z (Zk y))]; rfl)
 rintro e rfl;trivial;rw [m47,V1];cases h1:wIn p1 with
 | none =>
  rw [h1] at k;rw [if_pos (show isNo (oI none)=true from rfl)]; exact k
 | some t =>
  cases h2:(if p2=[47] then wIn p3 else some 1) with
  | none =>
   rw [h1,h2] at k;rw [if_neg (show ¬ isNo (oI (some t))=true from fun z=>Bool.noConfusion z),if_pos (show isNo (oI none)=true from rfl)]; exact k
  | some b =>
   rw [h1,h2] at k;have k:Qp (.d (oR (if p2=[47]/\(b < 2\/((Int.gcd t b:Nat):Int)≠1) then none else some (t,b)))):=k;rw [if_neg (show ¬ isNo (oI (some t))=true from fun z=>Bool.noConfusion z),if_neg (show ¬ isNo (oI (some b))=true from fun z=>Bool.noConfusion z)];refine ⟨K4 ly,C8z,ite2 (fun z=>?_) (fun z=>?_)⟩
   ·have z:=of_decide_eq_true z;unfold oI;trivial;refine ite2 (fun y=>?_) (fun y=>?_)
    ·rw [if_pos ⟨z,.inl y⟩] at k; exact k
    ·refine ⟨t,b,rfl,?_⟩;trivial;refine ite2 (fun w=>?_) (fun w=>?_)
     ·rw [if_neg (fun q=>q.2.elim y fun q=>q w)] at k; exact k
     ·rw [if_pos ⟨z,.inr w⟩] at k; exact k
   ·rw [if_neg (fun y=>z (Zk y.1))] at k; exact k
def A4n:Pu.PSp:=fun as Q=>∃ l:List Nat,as=[.d (.str (sO l))]/\l.length<=4200/\Q (.d (oI (nIn l)))
theorem A4w (T:Txt K mg D):FnOk P w K mg base CX0 3 D.a_a9 D.d_a9 ["text"] (Pu.spOf K [.dat] A4n):=by
 refine T.B.F_a9.ok sc_a9 (Zz rfl) (fun cdv A outer s H vs Q E hr h=>?_);refine ⟨_,(QSs.out (A2 (qst 1 sc_a9 (qcK (U2 (K:=K) T) hr.mo (Z6 T) (A0 (qpv 0) A1)))
   (A5 (B0 (G7 (QW.pt (A06 (A6 B7c (qpv 1) B8 (B2 _)) (V6 (A2c B7d B7d A3 (qpv 1) (G8 (v:=.int 99) rfl T.ci_MOST_NUMBER.choose_spec ⟨_,rfl⟩))))) (qpv 1) B8))))),?_⟩
 haveI:=T.c2_ARC_WORDS
 refine Pu.G3 h ?_;rintro as Qp ⟨l,rfl,hl,k⟩;trivial;refine ⟨l,rfl,hl,?_⟩;unfold nIn at k;cases h:wIn l with
 | none =>
  rw [h] at k;trivial;rw [if_neg (show ¬ isNo (oI none)=false from fun z=>Bool.noConfusion z)];exact k
 | some n =>
  rw [h] at k;have k:Qp (.d (oI (if 0<=n/\n<=99 then some n else none))):=k;trivial;rw [if_pos (show isNo (oI (some n))=false from rfl)];unfold oI;trivial;refine ite2 (fun z=>ite2 (fun y=>?_) (fun y=>?_)) (fun z=>?_)
  ·rw [if_pos ⟨z,y⟩] at k; exact k
  ·rw [if_neg fun w=>y w.2] at k; exact k
  ·rw [if_neg fun w=>z w.1] at k; exact k
def B0g:Pu.PSp:=fun as Q=>∃ l:List Nat,as=[.d (.str (sO l))]/\l.length<=4200/\Q (.d (oS (stL l)))
theorem B2f (T:Txt K mg D):FnOk P w K mg base CX0 4 D.a_b8 D.d_b8 ["text"] (Pu.spOf K [.dat] B0g):=by
 refine T.B.F_b8.ok sc_b8 (Zz rfl) (fun cdv A outer s H vs Q E hr h=>?_);refine ⟨_,(QSs.out (A2 (L7 (C0 (K:=K) rfl PySem.F.plainAttrs_str PySem.F.slot_str_partition PySem.F.type_str_partition N3 (qpv 0) (A0 A4 A1)) (E8 (K:=K) (n:=3) rfl rfl (B1 (qgn 1 sc_b8) (B1 (qgn 2 sc_b8) (B1 (qgn 3 sc_b8) E7))) rfl rfl))
   (A2 (X1 (i:=4) (j:=5) rfl sc_b8.nd rfl rfl (by decide) rfl rfl (A0 (qcK (M2 (K:=K) T) hr.mo (O8 T) (A0 (qpv 1) A1)) (A0 (qcK (M2 (K:=K) T) hr.mo (O8 T) (A0 (qpv 3) A1)) A1)) rfl)
   (A2 (B7 (QW.pt (K3 (A6 G0 (qpv 4) B8 (B2 _)) (K3 (A6 G0 (qpv 5) B8 (B2 _)) (J9 (F9 (qcK (A20 (K:=K) T) hr.mo (A7x T) (A0 (qpv 5) (A0 (G8 (v:=.ref D.k_NOUGHT) rfl T.c_NOUGHT rfl) A1))))))))
    (A5 (B0 B8))
    A9)
   (A5 (B0 (C4 (A0 (qpv 4) (A0 (qpv 5) A1))))))))),?_⟩
 haveI:=T.c2_NOUGHT
 haveI:=T.c2_ARC_WORDS
 refine Pu.G3 h ?_;rintro as Qp ⟨l,rfl,hl,k⟩;trivial;rw [m32,Q9];obtain ⟨esum,_⟩:=R0 32 l;have hlen:(parS 32 l).1.length + (parS 32 l).2.1.length + (parS 32 l).2.2.length=l.length:=by
  have:=congrArg List.length esum;rw [Ze,Ze] at this; exact this
 unfold stL at k;generalize (parS 32 l).1=p1 at *;generalize (parS 32 l).2.1=p2 at *;generalize (parS 32 l).2.2=p3 at *;refine ⟨rfl,by rw [B3]; omega,p1,rfl,by omega,?_⟩;rw [B0d];trivial;refine ⟨p3,rfl,by omega,?_⟩;rw [B0d];trivial;cases h1:qIn p1 with
 | none =>
  rw [h1] at k;rw [if_pos (show isNo (oQ none)=true from rfl)]; exact k
 | some a =>
  cases h2:qIn p3 with
  | none =>
   rw [h1,h2] at k;rw [if_neg (show ¬ isNo (oQ (some a))=true from fun z=>Bool.noConfusion z),if_pos (show isNo (oQ none)=true from rfl)]; exact k
  | some b =>
   rw [h1,h2] at k;have k:Qp (.d (oS (if b < 0 then none else some (a,b)))):=k;rw [if_neg (show ¬ isNo (oQ (some a))=true from fun z=>Bool.noConfusion z),if_neg (show ¬ isNo (oQ (some b))=true from fun z=>Bool.noConfusion z)];obtain ⟨b1,b2⟩:=C6e h2;refine ⟨b,0,rfl,sq60 b1 b2,sq0,?_⟩;trivial;refine ite2 (fun z=>?_) (fun z=>?_)
   ·rw [if_pos z] at k; exact k
   ·rw [if_neg z] at k; exact k
def A2j:Pu.PSp:=fun as Q=>∃ l:List Nat,as=[.d (.str (sO l))]/\l.length<=4200/\(∀ c ∈ l,c < 128)/\Q (.d (oC (caW (splL [32] l))))
theorem A21 (T:Txt K mg D):FnOk P w K mg base CX0 4 D.a_a6 D.d_a6 ["text"] (Pu.spOf K [.dat] A2j):=by
 refine T.B.F_a6.ok sc_a6 (Zz rfl) (fun cdv A outer s H vs Q E hr h=>?_);refine ⟨_,(QSs.out (A2 (qst 1 sc_a6 (C0 (K:=K) rfl PySem.F.plainAttrs_str PySem.F.slot_str_split PySem.F.type_str_split O6 (qpv 0) (A0 A4 A1)))
   (A2 (B7 (QW.pt (K3 (A6 (R3 (K:=K) rfl hr.units) (qln K T.z_len (qpv 1)) A3 (B2 _)) (J9 (A6 (A8j (K:=K) rfl hr.units) (qix K (qpv 1) A3) (G8 (v:=.ref D.k_ARC_WORDS) rfl T.c_ARC_WORDS rfl) (by with_unfolding_all rfl)))))
    (A5 (B0 B8))
    A9)
   (A2 (X1 (i:=2) (j:=3) rfl sc_a6.nd rfl rfl (by decide) rfl rfl (A0 (qcK (A4w (K:=K) T) hr.mo (A82 T) (A0 (qix K (qpv 1) A3) A1)) (A0 (qcK (M2 (K:=K) T) hr.mo (O8 T) (A0 (qix K (qpv 1) A3) A1)) A1)) rfl)
   (A2 (B7 (QW.pt (K3 (A6 G0 (qpv 2) B8 (B2 _)) (K3 (A6 G0 (qpv 3) B8 (B2 _)) (J9 (N0 (F9 (qcK (A20 (K:=K) T) hr.mo (A7x T) (A0 (G8 (v:=.ref D.k_NOUGHT) rfl T.c_NOUGHT rfl) (A0 (qpv 3) A1)))))))))
    (A5 (B0 B8))
    A9)
   (A5 (B0 (C4 (A0 (C4 (A0 (qix K (qpv 1) A3) (A0 (qpv 2) A1))) (A0 (qpv 3) A1)))))))))),?_⟩
 haveI:=T.c2_NOUGHT
 haveI:=T.c2_ARC_WORDS
 refine Pu.G3 h ?_;rintro as Qp ⟨l,rfl,hl,ha,k⟩;trivial;rw [m32,T6];refine ⟨rfl,by rw [B3]; omega,?_⟩;have hw:∀ p ∈ splL [32] l,p.length<=l.length:=fun p hp=>A5t hp;have hz:∀ p ∈ splL [32] l,∀ c ∈ p,c < 128:=fun p hp=>S4 hp ha;generalize splL [32] l=ws at *;rw [Zl];refine ite2 (fun z=>?_) (fun z=>?_)
 ·rcases ws with _ | ⟨a,_ | ⟨b,_ | ⟨c,_ | ⟨d,r⟩⟩⟩⟩
  ·cases z
  ·cases z
  ·cases z
  ·have wa:=hw a (by simp);have wb:=hw b (by simp);have wc:=hw c (by simp);have k:Qp (.d (oC (caP a (nIn b) (qIn c)))):=k;trivial;rw [C44];refine ⟨by decide +kernel,K4 (hz a (by simp)),ite2 (fun y=>?_) (fun y=>?_)⟩
   ·unfold caP at k;rw [if_neg (of_decide_eq_false y)] at k; exact k
   ·have hm:a ∈ arcs:=by
     by_cases m:a ∈ arcs
     ·exact m
     ·exact absurd (Zd m) y
    unfold caP at k;rw [if_pos hm] at k;refine ⟨b,rfl,by omega,?_⟩;trivial;refine ⟨c,rfl,by omega,?_⟩;rw [B0d];trivial;cases h1:nIn b with
    | none =>
     rw [h1] at k;rw [if_pos (show isNo (oI none)=true from rfl)]; exact k
    | some n =>
     cases h2:qIn c with
     | none =>
      rw [h1,h2] at k;rw [if_neg (show ¬ isNo (oI (some n))=true from fun z=>Bool.noConfusion z),if_pos (show isNo (oQ none)=true from rfl)]; exact k
     | some q =>
      rw [h1,h2] at k;have k:Qp (.d (oC (if 0 < q then some (a,n,q) else none))):=k;rw [if_neg (show ¬ isNo (oI (some n))=true from fun z=>Bool.noConfusion z),if_neg (show ¬ isNo (oQ (some q))=true from fun z=>Bool.noConfusion z)];obtain ⟨b1,b2⟩:=C6e h2;refine ⟨0,q,rfl,sq0,sq60 b1 b2,?_⟩;trivial;refine ite2 (fun z=>?_) (fun z=>?_)
      ·rw [if_pos z] at k; exact k
      ·rw [if_neg z] at k; exact k
  ·exfalso;simp only [List.length_cons] at z;omega
 ·have e:caW ws=none:=by
   rcases ws with _ | ⟨a,_ | ⟨b,_ | ⟨c,_ | ⟨d,r⟩⟩⟩⟩
   ·rfl
   ·rfl
   ·rfl
   ·exact absurd rfl z
   ·rfl
  rw [e] at k; exact k
def B0i:Pu.PSp:=fun as Q=>∃ l:List Nat,as=[.d (.str (sO l))]/\ShP l/\if okP l=true/\(splL [44,32] l).length<=10 then Q (.own (vaP l)) else Q (.d .none)
theorem B2g (T:Txt K mg D):FnOk P w K mg base CX0 5 D.a_b7 D.d_b7 ["text"] (Pu.spOf K [.dat] B0i):=by
 refine T.B.F_b7.ok sc_b7 (Zz rfl) (fun cdv A outer s H vs Q E hr h=>?_);refine ⟨_,(QSs.out (A2 (X0 (i:=1) rfl sc_b7.nd rfl rfl (M4 ["part"] [none]) (X2 (K:=K) rfl (C0 (K:=K) rfl PySem.F.plainAttrs_str PySem.F.slot_str_split PySem.F.type_str_split O6 (qpv 0) (A0 A4 A1))) (fun _ _ _=>(qgc 0 ["part"])) (fun _ _ _=>P6) (fun _ _ _=>(qcK (B2f (K:=K) T) hr.mo (B8c T) (A0 (qpv 0) A1))) rfl)
   (A5 (A2d (QW.pt (K3 (A6 (B2e (K:=K) rfl hr.units) B8 (qpv 1) (by with_unfolding_all rfl)) (J9 (A6 A1g (qln K T.z_len (qpv 1)) (G8 (v:=.int 10) rfl T.ci_MOST_STEPS.choose_spec ⟨_,rfl⟩) (B2 _))))) B8 (qpv 1))))),?_⟩
 haveI:=T.c2_ARC_WORDS
 refine Pu.G3 h ?_;rintro as Qp ⟨l,rfl,hl,k⟩;trivial;rw [mSep,T6,List.map_map];have hlen:=P4 44 [32] l;have hcnt:l.count 44<=l.length:=List.count_le_length;have h9:=hl.1;refine ⟨rfl,by rw [B3]; exact hl.1,by rw [Zl]; omega,Q3 (f:=PyData.str ∘ sO) (xs:=splL [44,32] l) (fun i e ys=>(∃ o1:Option SV,e=[o1])/\ys=((splL [44,32] l).take i).map fun p=>oS (stL p)) ⟨⟨_,rfl⟩,rfl⟩ ?_ ?_⟩
 ·rintro i p e ys hi ⟨⟨o1,rfl⟩,rfl⟩;have hp:=hl.2 p (Zm hi);trivial;refine ⟨p,rfl,hp,?_⟩;trivial;refine ⟨⟨_,rfl⟩,?_⟩;rw [List.take_add_one,hi,Zc]; rfl
 ·rintro e ys ⟨⟨o1,rfl⟩,rfl⟩;rw [List.take_length];trivial;rw [B60];refine ⟨U7 fun x _=>C8b _,ite2 (fun z=>?_) (fun z=>?_)⟩
  ·rw [if_neg (fun w=>by rw [w.1] at z; cases z)] at k; exact k
  have z:okP l=true:=by cases h:okP l with
   | true=>rfl
   | false=>rw [h] at z; exact absurd rfl z
  refine ite2 (fun y=>?_) (fun y=>?_)
  ·rw [if_neg (fun w=>by omega)] at k; exact k
  ·rw [if_pos ⟨z,by omega⟩] at k;exact k
def A8f:Pu.PSp:=fun as Q=>∃ l:List Nat,as=[.d (.str (sO l))]/\ShP l/\(∀ c ∈ l,c < 128)/\if l=[45] then Q (.own []) else if okC l=true/\(splL [44,32] l).length<=100 then Q (.own (vaC l)) else Q (.d .none)
theorem P9 (T:Txt K mg D):FnOk P w K mg base CX0 5 D.a_ad D.d_ad ["text"] (Pu.spOf K [.dat] A8f):=by
 refine T.B.F_ad.ok sc_ad (Zz rfl) (fun cdv A outer s H vs Q E hr h=>?_);refine ⟨_,(QSs.out (A2 (B7 (A6 (B9 (K:=K) rfl hr.units) (qpv 0) A4 (B2 _))
    (A5 (B0 (B6 A1)))
    A9)
   (A2 (X0 (i:=1) rfl sc_ad.nd rfl rfl (M4 ["part"] [none]) (X2 (K:=K) rfl (C0 (K:=K) rfl PySem.F.plainAttrs_str PySem.F.slot_str_split PySem.F.type_str_split O6 (qpv 0) (A0 A4 A1))) (fun _ _ _=>(qgc 0 ["part"])) (fun _ _ _=>P6) (fun _ _ _=>(qcK (A21 (K:=K) T) hr.mo (A5b T) (A0 (qpv 0) A1))) rfl)
   (A5 (A2d (QW.pt (K3 (A6 (B2e (K:=K) rfl hr.units) B8 (qpv 1) (by with_unfolding_all rfl)) (J9 (A6 A1g (qln K T.z_len (qpv 1)) (G8 (v:=.int 100) rfl T.ci_MOST_ARCS.choose_spec ⟨_,rfl⟩) (B2 _))))) B8 (qpv 1)))))),?_⟩
 haveI:=T.c2_ARC_WORDS
 refine Pu.G3 h ?_;rintro as Qp ⟨l,rfl,hl,ha,k⟩;trivial;rw [m45,V1];refine ⟨K4 ha,K4 (by decide),ite2 (fun z=>?_) (fun z=>?_)⟩
 ·rw [if_pos (of_decide_eq_true z)] at k; exact k
 rw [if_neg (fun y=>z (Zk y))] at k;rw [mSep,T6,List.map_map];have hlen:=P4 44 [32] l;have hcnt:l.count 44<=l.length:=List.count_le_length;have h9:=hl.1;refine ⟨rfl,by rw [B3]; exact hl.1,by rw [Zl]; omega,Q3 (f:=PyData.str ∘ sO) (xs:=splL [44,32] l) (fun i e ys=>(∃ o1:Option SV,e=[o1])/\ys=((splL [44,32] l).take i).map fun p=>oC (caW (splL [32] p))) ⟨⟨_,rfl⟩,rfl⟩ ?_ ?_⟩
 ·rintro i p e ys hi ⟨⟨o1,rfl⟩,rfl⟩;have hm:=Zm hi;have hp:=hl.2 p hm;trivial;refine ⟨p,rfl,hp,S4 hm ha,?_⟩;trivial;refine ⟨⟨_,rfl⟩,?_⟩;rw [List.take_add_one,hi,Zc]; rfl
 ·rintro e ys ⟨⟨o1,rfl⟩,rfl⟩;rw [List.take_length];trivial;rw [B01];refine ⟨U7 fun x _=>C8j _,ite2 (fun z=>?_) (fun z=>?_)⟩
  ·rw [if_neg (fun w=>by rw [w.1] at z; cases z)] at k; exact k
  have z:okC l=true:=by cases h:okC l with
   | true=>rfl
   | false=>rw [h] at z; exact absurd rfl z
  refine ite2 (fun y=>?_) (fun y=>?_)
  ·rw [if_neg (fun w=>by omega)] at k; exact k
  ·rw [if_pos ⟨z,by omega⟩] at k;exact k
theorem A8n (T:Txt K mg D):FnOk P w K mg base CX0 1 D.a_b1 D.d_b1 ["_law_script","_law_k"] (A5v K):=by
 refine T.B.F_b1.ok sc_b1 (fun vs H Q E h=>?_) (fun cdv A outer s H vs Q E hr h=>?_)
 ·obtain ⟨a,ns,k,rfl,_⟩:=h; rfl
 ·obtain ⟨a,ns,k,rfl,ha,k0,k1,kk⟩:=h;refine ⟨_,(J4 (A0f (i:=2) sc_b1.nd rfl (Or.inl rfl) C9)
   (J4 (C24 (B0e A8k (pv 1) (A1d call_len_seq (by rfl) T.z_len PySem.boot_len (pa_cons (pv 0) pa_nil)) (B2 _))
    (T9 (A0f (i:=2) sc_b1.nd rfl (Or.inl rfl) (A1b ix_list (pv 0) (pv 1) (fun _ _=>rfl))))
    A4l)
   (T9 (A2h (B9g (pa_cons (pv 2) (pa_cons (K6 J1 (K6 J2 (K6 J2 (K6 J1 (pv 2) C9) (K6 N1 (K6 N1 C9 (pv 1)) (pv 1))) C9) C9) (pa_cons (A1c C75 (pv 2) (K6 A0j C9 C9) (B2 _)) pa_nil)))))))),?_⟩
  have fin:∀ c:Int,∃ v,([some (V.ref a),some (V.int k),some (V.int c)]:St)[2]?=some (some v) /\
    (J3 (tOp (rI (fun _ j=>0 < j) fun i j=>.int (i % j)) (tOp (rI0 fun i j=>.int (i + j)) (tOp (rI0 fun i j=>.int (i + j)) (tOp (rI (fun _ j=>0 < j) fun i j=>.int (i % j)) (tVar 2) (tC (.int 2147483587)))
     (tOp (rI B8k fun i j=>.int (i * j)) (tOp (rI B8k fun i j=>.int (i * j)) (tC (.int 104729)) (tVar 1)) (tVar 1))) (tC (.int 7))) (tC (.int 2147483587)))
     (J3 (tOp (rI0 fun i j=>.bl (decide (j<=i))) (tVar 2) (tOp (rI CPow fun i j=>.int (i ^ j.toNat)) (tC (.int 10)) (tC (.int 18)))) tNil)) [some (V.ref a),some (V.int k),some (V.int c)] H
     fun xs H1=>(v :: xs).length<=sizeLine/\∀ p,H1 p=none->Q (.ref p) (upd H1 p (.lst (v :: xs))):=by
   intro c;refine ⟨_,rfl,_,rfl,_,_,rfl,rfl,(by show (0:Int) < 2147483587; decide),_,rfl,_,_,rfl,rfl,⟨A0c 0,A5w k0 k1⟩,_,rfl,_,_,rfl,rfl,⟨(Sm.mul (k:=20) (l:=20) (by unfold Sm; decide) (C5m k0 k1)).mono (by decide),A5w k0 k1⟩,
    _,_,rfl,rfl,_,_,rfl,rfl,_,_,rfl,rfl,(by show (0:Int) < 2147483587; decide),_,rfl,_,_,rfl,rfl,A0o 18,_,_,rfl,rfl,by show 3<=sizeLine; decide,fun p hp=>?_⟩
   have e1:=Int.emod_nonneg (c % 2147483587 + 104729 * k * k + 7) (show (2147483587:Int)≠0 by decide);have e2:=Int.emod_lt_of_pos (c % 2147483587 + 104729 * k * k + 7) (show (0:Int) < 2147483587 by decide);exact kk p _ hp ⟨_,_,_,B5,e1,by omega⟩ (Same.upd hp).kp
  refine ⟨_,rfl,_,rfl,a,_,rfl,.inl ha,_,_,rfl,rfl,_,rfl,?_⟩;refine ifD (fun hn=>?_) (fun hn=>?_)
  ·have hk:(ns.map V.int)[k.toNat]?=some (V.int (ns.getD k.toNat 0)):=by
    have hlt:k.toNat < ns.length:=by rw [Zl] at hn; omega
    rw [Zh,Zg hlt,List.getD_eq_getElem?_getD,Zg hlt]; rfl
   have hk':atI (ns.map V.int) k=some (V.int (ns.getD k.toNat 0)):=by
    have:=K2 hk
    rwa [show ((k.toNat:Nat):Int)=k by omega] at this
   refine ⟨_,rfl,_,rfl,a,_,k,_,rfl,rfl,ha,hk',?_⟩;exact fin _
  ·exact fin 0
theorem X8 (T:Txt K mg D):FnOk P w K mg base CX0 1 D.a_b1 D.d_b1 ["_law_script","_law_k"] (Pu.spOf K [.vw,.dat] Pu.A58):=FnOk.imp (A8n T) Pu.B8b
theorem B2i (T:Txt K mg D):FnOk P w K mg base CX0 1 D.a_bc D.d_bc ["_law_state","_law_many"] A9u:=by
 refine T.B.F_bc.ok sc_bc (fun vs H Q E h=>?_) (fun cdv A outer s H vs Q E hr h=>?_)
 ·obtain ⟨p,n,rfl,_⟩:=h; rfl
 ·obtain ⟨p,n,rfl,S0,n0,sn,k⟩:=h;refine ⟨_,(J4 (C24 (B9c (A1b ix_list (pv 0) C9 (fun _ _=>rfl)))
    (J4 (A0f (i:=2) sc_bc.nd rfl (Or.inl rfl) (K6 J1 (A1b ix_list (pv 0) C9 (fun _ _=>rfl)) (pv 1)))
    (J4 (A59 (K6 J5 (A1b ix_list (pv 0) C9 (fun _ _=>rfl)) (pv 1)) (B0t (pv 0) C9 A04))
    (J4 (A59 (A1c A1g (A1b ix_list (pv 0) C9 (fun _ _=>rfl)) C9 (B2 _)) (B0t (pv 0) C9 A04))
    (T9 (A2h (pv 2))))))
    A4l)
   (J4 (A0f (i:=3) sc_bc.nd rfl (Or.inl rfl) C9)
   (J4 (B0j Zf rfl (A2o rfl T.z_range (pa_cons (K6 J2 C9 (K6 N1 C9 (A2q A3x (by rfl) T.z_int (by rfl) (pa_cons (A1c A1g (pv 1) (K6 A0j C9 C9) (B2 _)) pa_nil)))) pa_nil)) (B0u (i:=4) sc_bc.nd rfl (Or.inl rfl) (Or.inl rfl))
    (J4 (A59 (K6 J1 (K6 J2 (K6 N1 (A1b ix_list (pv 0) C9 (fun _ _=>rfl)) C9) C9) C9) (B0t (pv 0) C9 A04))
    (T9 (A0f (i:=3) sc_bc.nd rfl (Or.inl rfl) (K6 J2 (K6 N1 (pv 3) C9) (K6 J1 (K6 N1 (A1b ix_list (pv 0) C9 (fun _ _=>rfl)) (A1b ix_list (pv 0) C9 (fun _ _=>rfl))) C9))))))
   (T9 (A2h (K6 J1 (K6 J5 (pv 3) C9) (pv 1))))))),?_⟩
  obtain ⟨c,m,f,hp,m0,m1⟩:=S0.ex;refine ⟨_,rfl,p,_,_,_,rfl,rfl,SqL.of hp,at2,f,rfl,?_⟩;have s8:Sm 8000 n:=sn.mono (by decide);cases f with
  | true =>
   refine iteT ?_;refine ⟨_,rfl,p,_,_,_,rfl,rfl,SqL.of hp,at0,_,rfl,_,_,rfl,rfl,n0,?_⟩;refine ⟨_,rfl,p,_,_,_,rfl,rfl,SqL.of hp,at0,_,rfl,_,_,rfl,rfl,⟨by omega,s8⟩,_,rfl,p,_,_,0,rfl,rfl,hp,rfl,?_⟩;refine ⟨_,rfl,p,_,_,_,rfl,rfl,SqL.of B5,at0,_,_,rfl,rfl,_,rfl,p,_,_,2,rfl,rfl,B5,rfl,?_⟩;refine ⟨_,rfl,?_⟩;exact k _ _ (Int.emod_nonneg c (by omega)) (Int.emod_lt_of_pos c n0) ⟨_,_,_,B5,m0,m1⟩ (Kp.upd.trans Kp.upd)
  | false =>
   refine iteF ?_;refine ⟨_,rfl,_,_,rfl,rfl,A0o 6,_,_,rfl,rfl,.inr ⟨_,rfl,_,_,rfl,rfl,⟨A0c 0,C5n _⟩,_,_,rfl,rfl,_,rfl,?_,?_,B43 (lo:=0)
    (fun i σ H'=>∃ (m' md:Int) (x:Option V),σ=[some (V.ref p),some (V.int n),none,some (V.int md),x]/\H' p=some (.lst [.int c,.int m',.bl false])/\0<=m'/\m' < 2147483648/\Kp p H H'/\Sm (40 * i + 1) md)
    ⟨m,0,none,rfl,hp,m0,m1,Kp.refl,by unfold Sm; decide⟩ ?_ ?_⟩⟩
   ·split <;> omega
   ·split <;> omega
   ·rintro i σ H' hi ⟨m',md,x,rfl,hp',h0,h1,kk,sd⟩;have hi9:i < 9:=by
     refine Nat.lt_of_lt_of_le hi ?_;split <;> decide
    refine ⟨_,rfl,p,_,_,_,rfl,rfl,SqL.of hp',at1,_,_,rfl,rfl,⟨sm32 h0 h1,A0c 0⟩,_,_,rfl,rfl,_,_,rfl,rfl,(by show (0:Int) < 2147483647; decide),_,rfl,p,_,_,1,rfl,rfl,hp',rfl,?_⟩;have e1:=Int.emod_nonneg (m' * 39373 + 17) (show (2147483647:Int)≠0 by decide);have e2:=Int.emod_lt_of_pos (m' * 39373 + 17) (show (0:Int) < 2147483647 by decide);have sm:=sm32 e1 (by omega);refine ⟨_,rfl,_,_,rfl,rfl,⟨sd.mono (by omega),A0c 0⟩,_,rfl,p,_,_,_,rfl,rfl,SqL.of B5,at1,_,rfl,p,_,_,_,rfl,rfl,SqL.of B5,at1,_,_,rfl,rfl,⟨sm,sm⟩,_,_,rfl,rfl,(by show (0:Int) < 2147483587; decide),_,_,rfl,rfl,?_⟩;have g1:=Int.emod_nonneg ((m' * 39373 + 17) % 2147483647 * ((m' * 39373 + 17) % 2147483647)) (show (2147483587:Int)≠0 by decide);have g2:=Int.emod_lt_of_pos ((m' * 39373 + 17) % 2147483647 * ((m' * 39373 + 17) % 2147483647)) (show (0:Int) < 2147483587 by decide);refine ⟨_,_,_,rfl,B5,e1,by omega,kk.trans Kp.upd,?_⟩;refine Sm.mono (k:=40 * i + 1 + 32 + 1) (Sm.add (sd.mul (l:=32) (by unfold Sm; decide)) ?_) (by omega);exact Sm.mono (k:=32) (by unfold Sm; omega) (by omega)
   ·rintro σ H' ⟨m',md,x,rfl,hp',h0,h1,kk,sd⟩;refine ⟨_,rfl,_,_,rfl,rfl,⟨by decide,A0c 0⟩,_,rfl,_,_,rfl,rfl,n0,?_⟩;exact k _ _ (Int.emod_nonneg _ (by omega)) (Int.emod_lt_of_pos _ n0) ⟨_,_,_,hp',h0,h1⟩ kk
theorem D8 (T:Txt K mg D):FnOk P w K mg base CX0 1 D.a_bc D.d_bc ["_law_state","_law_many"] (Pu.spOf K [.st,.dat] Pu.B0f):=FnOk.imp (B2i T) Pu.C1z
theorem B2l (T:Txt K mg D):FnOk P w K mg base CX0 1 D.a_bd D.d_bd ["_law_top","_law_bottom"] (Pu.spOf K [.dat,.dat] C22):=by
 refine T.B.F_bd.ok sc_bd (Zz rfl) (fun cdv A outer s H vs Q E hr h=>?_);refine ⟨_,(QSs.out (A2 (qst 2 sc_bd (qpv 0))
   (A2 (qst 3 sc_bd (qpv 1))
   (A2 (W9 Zf (A6 (R3 (K:=K) rfl hr.units) (qpv 3) A3 (B2 _))
    (A5 (X1 (i:=2) (j:=3) rfl sc_bd.nd rfl rfl (by decide) rfl rfl (A0 (qpv 3) (A0 (A8 J1 (qpv 2) (qpv 3)) A1)) rfl)))
   (A5 (B0 (C4 (A0 (A8 J5 (qpv 0) (qpv 2)) (A0 (A8 J5 (qpv 1) (qpv 2)) A1))))))))),?_⟩
 haveI:=T.c2_ARC_WORDS
 refine Pu.G3 h ?_;rintro as Qp ⟨t,b,rfl,hb,st,sb,k⟩;trivial;refine ⟨fun m e=>∃ x y:Int,e=[some (.d (.int t)),some (.d (.int b)),some (.d (.int x)),some (.d (.int y))]/\0<=y/\(y=0->0 < x)/\m=y.toNat/\Int.gcd x y=Int.gcd t b,⟨_,_,_,rfl,by omega,fun e=>by omega,rfl,rfl⟩,?_⟩;rintro m e ⟨x,y,rfl,hy,hx,rfl,hg⟩;trivial;refine ite2 (fun e=>?_) (fun hn=>?_)
 ·subst e;have hx0:=hx rfl;have e1:x=sh t b:=by
   have:=A7g x (by omega);rw [hg] at this;unfold sh; rw [if_neg (by omega)]; exact this.symm
  subst e1;have hb0:b≠0:=by omega
  refine ⟨⟨C5q hb0,C5l sb hb0⟩,⟨C5q hb0,C5l sb hb0⟩,?_⟩;rw [B3s hb0,C4b hb0]; exact k
 ·have h1:=Int.emod_lt_of_pos x (show 0 < y by omega);have h2:=Int.emod_nonneg x hn;exact ⟨by omega,(x % y).toNat,by omega,y,x % y,rfl,h2,fun _=>by omega,rfl,by rw [B41,hg]⟩
theorem A1j (T:Txt K mg D):∀ n:Nat,FnOk P w K mg base CX0 (n + 1) D.a_bb D.d_bb ["_law_found","_law_due"] (Pu.spOf K [.dat,.dat] (Pu.A6a n)):=by
 have step:∀ (n:Nat) (psI:Pu.PSp),FnOk P w K mg base CX0 n D.a_bb D.d_bb ["_law_found","_law_due"] (Pu.spOf K [.dat,.dat] psI)->(∀ xs,(okA n (.list xs)\/okA n (.tuple xs))->xs.length < 1000/\∀ x ∈ xs,∀ Q:SV->Prop,Q (.d (.bool true))->psI [.d x,.d x] Q) ->
   FnOk P w K mg base CX0 (n + 1) D.a_bb D.d_bb ["_law_found","_law_due"] (Pu.spOf K [.dat,.dat] (Pu.A6a n)):=by
  intro n psI IH hI;refine T.B.F_bb.ok sc_bb (Zz rfl) (fun cdv A outer s H vs Q E hr h=>?_);refine ⟨_,(QSs.out (A2 (B7 (A6 G0 (qpv 1) B8 (B2 _))
    (A5 (B0 (G9 G0 (qpv 0) B8 (B2 _))))
    A9)
   (A2 (B7 (F9 (C2 (D9 (K:=K) rfl) (by rfl) T.z_isinstance (by rfl) (A0 (qpv 1) (A0 (F8 (v:=.ty "str") rfl T.z_str (by rfl) rfl) A1))))
    (A5 (B0 (T7 (C2 (D9 (K:=K) rfl) (by rfl) T.z_isinstance (by rfl) (A0 (qpv 0) (A0 (F8 (v:=.ty "str") rfl T.z_str (by rfl) rfl) A1))) (X3 (G9 (B9 (K:=K) rfl hr.units) (qpv 0) (qpv 1) (B2 _))))))
    A9)
   (A2 (B7 (F9 (C2 (D9 (K:=K) rfl) (by rfl) T.z_isinstance (by rfl) (A0 (qpv 1) (A0 (F8 (v:=.ty "bool") rfl T.z_bool (by rfl) rfl) A1))))
    (A5 (B0 (T7 (C2 (D9 (K:=K) rfl) (by rfl) T.z_isinstance (by rfl) (A0 (qpv 0) (A0 (F8 (v:=.ty "bool") rfl T.z_bool (by rfl) rfl) A1))) (X3 (G9 (B9 (K:=K) rfl hr.units) (qpv 0) (qpv 1) (B2 _))))))
    A9)
   (A2 (B7 (F9 (C2 (D9 (K:=K) rfl) (by rfl) T.z_isinstance (by rfl) (A0 (qpv 1) (A0 (F8 (v:=.ty "int") rfl T.z_int (by rfl) rfl) A1))))
    (A5 (B0 (T7 (C2 (D9 (K:=K) rfl) (by rfl) T.z_isinstance (by rfl) (A0 (qpv 0) (A0 (F8 (v:=.ty "int") rfl T.z_int (by rfl) rfl) A1))) (T7 (C2t (C2 (D9 (K:=K) rfl) (by rfl) T.z_isinstance (by rfl) (A0 (qpv 0) (A0 (F8 (v:=.ty "bool") rfl T.z_bool (by rfl) rfl) A1)))) (X3 (G9 (B9 (K:=K) rfl hr.units) (qpv 0) (qpv 1) (B2 _)))))))
    A9)
   (A2 (B7 (QW.pt (K3 (A6 (R3 (K:=K) rfl hr.units) (C2 (D9 (K:=K) rfl) (by rfl) T.z_isinstance (by rfl) (A0 (qpv 1) (A0 (F8 (v:=.ty "list") rfl T.z_list (by rfl) rfl) A1))) (C2 (D9 (K:=K) rfl) (by rfl) T.z_isinstance (by rfl) (A0 (qpv 0) (A0 (F8 (v:=.ty "list") rfl T.z_list (by rfl) rfl) A1))) (B2 _)) (J9 (A6 (R3 (K:=K) rfl hr.units) (C2 (D9 (K:=K) rfl) (by rfl) T.z_isinstance (by rfl) (A0 (qpv 1) (A0 (F8 (v:=.ty "tuple") rfl T.z_tuple (by rfl) rfl) A1))) (C2 (D9 (K:=K) rfl) (by rfl) T.z_isinstance (by rfl) (A0 (qpv 0) (A0 (F8 (v:=.ty "tuple") rfl T.z_tuple (by rfl) rfl) A1))) (B2 _)))))
    (A5 (B0 N7))
    A9)
   (A2 (B7 (A6 (R3 (K:=K) rfl hr.units) (qln K T.z_len (qpv 0)) (qln K T.z_len (qpv 1)) (B2 _))
    (A5 (B0 N7))
    A9)
   (A2 (Q8 Zf rfl (C3b (K:=K) rfl rfl T.z_zip (A0 (qpv 0) (A0 (qpv 1) A1))) (E8 (K:=K) (n:=2) rfl rfl (B1 (qgn 2 sc_bb) (B1 (qgn 3 sc_bb) E7)) rfl rfl)
    (A5 (B7 (N0 (F9 (qcK IH hr.mo (A1t T) (A0 (qpv 2) (A0 (qpv 3) A1)))))
     (A5 (B0 N7))
     A9)))
   (A5 (B0 N7)))))))))),?_⟩
  refine Pu.G3 h ?_;rintro as Qp ⟨x,rfl,ox,k⟩;cases x with
  | none =>
   trivial;exact k
  | bool b =>
   trivial;exact k
  | int i =>
   trivial;exact k
  | str t =>
   have oy:(PyData.str t).canLay0=true:=by cases n <;> exact ox
   trivial;exact ⟨oy,oy,k⟩
  | dict kvs=>unfold okA at ox; exact ox.elim
  | list xs =>
   obtain ⟨hl,hx⟩:=hI xs (.inl ox);trivial;refine ⟨fun i e=>∃ o1 o2:Option SV,e=[some (.d (.list xs)),some (.d (.list xs)),o1,o2],⟨_,_,rfl⟩,?_,?_⟩
   ·rintro i x e hxi ⟨o1,o2,rfl⟩;obtain ⟨a,ha,rfl⟩:=A1v hxi;trivial;refine hx a (Zm ha) _ ?_;trivial;exact ⟨_,_,rfl⟩
   ·rintro e ⟨o1,o2,rfl⟩;trivial;exact k
  | tuple xs =>
   obtain ⟨hl,hx⟩:=hI xs (.inr ox);trivial;refine ⟨fun i e=>∃ o1 o2:Option SV,e=[some (.d (.tuple xs)),some (.d (.tuple xs)),o1,o2],⟨_,_,rfl⟩,?_,?_⟩
   ·rintro i x e hxi ⟨o1,o2,rfl⟩;obtain ⟨a,ha,rfl⟩:=A1v hxi;trivial;refine hx a (Zm ha) _ ?_;trivial;exact ⟨_,_,rfl⟩
   ·rintro e ⟨o1,o2,rfl⟩;trivial;exact k
 intro n;induction n with
 | zero=>exact step 0 _ (B7y rfl) fun xs h=>by rcases h with h | h <;> (unfold okA at h; exact h.elim)
 | succ n ih =>
  refine step (n + 1) _ ih fun xs h=>?_;have h':xs.length < 1000/\∀ x ∈ xs,okA n x:=by rcases h with h | h <;> (unfold okA at h; exact h)
  exact ⟨h'.1,fun x hx Q q=>⟨x,rfl,h'.2 x hx,q⟩⟩
def A8h:Pu.PSp:=fun as Q=>∃ q:Rat,as=[.d (dq q)]/\q.num.natAbs < 10 ^ 60/\q.den < 10 ^ 60/\Q (.d (.str (sO (rtL q))))
theorem M3 (T:Txt K mg D):FnOk P w K mg base CX0 1 D.a_ab D.d_ab ["_law_one"] (Pu.spOf K [.dat] A8h):=by
 refine T.B.F_ab.ok sc_ab (Zz rfl) (fun cdv A outer s H vs Q E hr h=>?_);refine ⟨_,(QSs.out (A2 (B7 (A6 (B9 (K:=K) rfl hr.units) (qix K (qpv 0) A3) A3 (B2 _))
    (A5 (B0 (F7 M5 (by rfl) T.z_str (by rfl) (A0 (qix K (qpv 0) A3) A1))))
    A9)
   (A5 (B0 (A8 C5 (A8 C5 (F7 M5 (by rfl) T.z_str (by rfl) (A0 (qix K (qpv 0) A3) A1)) A4) (F7 M5 (by rfl) T.z_str (by rfl) (A0 (qix K (qpv 0) A3) A1))))))),?_⟩
 haveI:=T.c2_ARC_WORDS
 refine Pu.G3 h ?_;rintro as Qp ⟨q,rfl,h1,h2,k⟩;have hl:=W7 h1 h2;have hw:=B8m h1;have hv:=B8m (n:=(q.den:Int)) h2;trivial;rw [Q6,Q6,m47];refine ite2 (fun z=>⟨A8u (A73 h1),?_⟩) (fun z=>⟨A8u (A73 h1),?_,A8u (i:=(q.den:Int)) (A73 h2),?_,?_⟩)
 ·have:rtL q=whL q.num:=by unfold rtL; rw [if_neg (by omega),List.append_nil]
  rw [this] at k;exact k
 ·rw [B3,B3]; show _ + 1<=_; omega
 ·rw [D0,B3,B3,Ze]; show _ + 1 + _<=_; omega
 ·rw [rt_e z]; exact k
def A1a:Pu.PSp:=fun as Q=>∃ ps:List (List Nat × Int × Rat),as=[.d (.list (ps.map caD))]/\ps.length<=100/\(∀ p ∈ ps,CaOk p)/\Q (.d (.str (sO (paT ps))))
theorem N2 (T:Txt K mg D):FnOk P w K mg base CX0 2 D.a_a0 D.d_a0 ["_law_paper_here"] (Pu.spOf K [.dat] A1a):=by
 refine T.B.F_a0.ok sc_a0 (Zz rfl) (fun cdv A outer s H vs Q E hr h=>?_);refine ⟨_,(QSs.out (A2 (B7 (A6 (B9 (K:=K) rfl hr.units) (qpv 0) (B6 A1) (B2 _))
    (A5 (B0 A4))
    A9)
   (A5 (B0 (C0 (K:=K) rfl PySem.F.plainAttrs_str PySem.F.slot_str_join PySem.F.type_str_join (Q0 (K:=K) rfl) A4 (A0 (V7 rfl (M4 ["_law_arc","_law_amount"] [none,none]) (X2 (K:=K) rfl (qpv 0)) (fun _ _ _=>(E8 (K:=K) (n:=2) rfl rfl (B1 (qgc 0 ["_law_arc","_law_amount"]) (B1 (qgc 1 ["_law_arc","_law_amount"]) E7)) rfl rfl)) (fun _ _ _=>P6) (fun _ _ _=>(A8 C5 (A8 C5 (A8 C5 (A8 C5 (qix K (qpv 0) A3) A4) (F7 M5 (by rfl) T.z_str (by rfl) (A0 (qix K (qpv 0) A3) A1))) A4) (qcK (M3 (K:=K) T) hr.mo (P1 T) (A0 (qpv 1) A1))))) A1)))))),?_⟩
 haveI:=T.c2_ARC_WORDS
 refine Pu.G3 h ?_;rintro as Qp ⟨ps,rfl,hl,hs,k⟩;trivial;refine ⟨C9q hs,C9r ps,ite2 (fun z=>?_) (fun z=>?_)⟩
 ·have:ps=[]:=by cases ps with
   | nil=>rfl
   | cons a r=>exact absurd z (fun w=>Bool.noConfusion w)
  subst this;have e:paT []=[45]:=rfl;rw [e] at k;rw [m45]; exact k
 have hne:ps≠[]:=fun w=>z (by rw [w]; rfl);refine ⟨by omega,Q3 (f:=caD) (xs:=ps) (fun i e ys=>(∃ o1 o2:Option SV,e=[o1,o2])/\ys=((ps.take i).map caT).map fun l=>PyData.str (sO l)) ⟨⟨_,_,rfl⟩,rfl⟩ ?_ ?_⟩
 ·rintro i p e ys hi ⟨⟨o1,o2,rfl⟩,rfl⟩;have hp:=hs p (Zm hi);have h5:=A70 _ hp.w;have h2:=wh99 hp.n0 hp.n1;have h1:=W7 hp.n2 hp.d2;have n300:p.2.1.natAbs < 10 ^ 300:=by
   have a:=hp.n0;have b:=hp.n1;exact Nat.lt_of_le_of_lt (show p.2.1.natAbs<=99 by omega) (by decide +kernel)
  unfold caD;trivial;rw [Q6,m32];simp only [D0,B3];refine ⟨by show _ + 1<=_; omega,A8u (i:=p.2.1) n300,by rw [Ze]; show _ + 1 + _<=_; omega,by rw [Ze,Ze]; show _ + 1 + _ + 1<=_; omega,p.2.2,rfl,hp.n2,hp.d2,?_⟩;trivial;simp only [D0,B3];refine ⟨by rw [Ze,Ze,Ze]; show _ + 1 + _ + 1 + _<=_; omega,⟨_,_,rfl⟩,?_⟩;rw [List.take_add_one,hi,Option.toList_some,Zc,Zc,D1g]; rfl
 ·rintro e ys ⟨⟨o1,o2,rfl⟩,rfl⟩;rw [List.take_length];trivial;rw [mSep];refine ⟨_,R6 _,?_,?_⟩
  ·refine Zx (A0x (m:=139) fun l h=>?_) ?_
   ·obtain ⟨p,hp,rfl⟩:=List.mem_map.mp h;exact C1p (hs p hp)
   ·rw [Zl,B3];exact Zx (Zu _ hl) (by decide)
  ·rw [N6];unfold paT at k;rw [if_neg hne] at k; exact k
def A2l:Pu.PSp:=fun as Q=>∃ ps:LR,as=[.d (.list (ps.map stD))]/\ps.length<=10/\(∀ p ∈ ps,StOk p)/\Q (.d (.str (sO (plT ps))))
theorem A23 (T:Txt K mg D):FnOk P w K mg base CX0 2 D.a_a4 D.d_a4 ["_law_plan_here"] (Pu.spOf K [.dat] A2l):=by
 refine T.B.F_a4.ok sc_a4 (Zz rfl) (fun cdv A outer s H vs Q E hr h=>?_);refine ⟨_,(QSs.out (A5 (B0 (C0 (K:=K) rfl PySem.F.plainAttrs_str PySem.F.slot_str_join PySem.F.type_str_join (Q0 (K:=K) rfl) A4 (A0 (V7 rfl (M4 ["_law_start","_law_time"] [none,none]) (X2 (K:=K) rfl (qpv 0)) (fun _ _ _=>(E8 (K:=K) (n:=2) rfl rfl (B1 (qgc 0 ["_law_start","_law_time"]) (B1 (qgc 1 ["_law_start","_law_time"]) E7)) rfl rfl)) (fun _ _ _=>P6) (fun _ _ _=>(A8 C5 (A8 C5 (qcK (M3 (K:=K) T) hr.mo (P1 T) (A0 (qpv 0) A1)) A4) (qcK (M3 (K:=K) T) hr.mo (P1 T) (A0 (qpv 1) A1))))) A1))))),?_⟩
 haveI:=T.c2_ARC_WORDS
 refine Pu.G3 h ?_;rintro as Qp ⟨ps,rfl,hl,hs,k⟩;trivial;refine ⟨by omega,Q3 (f:=stD) (xs:=ps) (fun i e ys=>(∃ o1 o2:Option SV,e=[o1,o2])/\ys=((ps.take i).map stT).map fun l=>PyData.str (sO l)) ⟨⟨_,_,rfl⟩,rfl⟩ ?_ ?_⟩
 ·rintro i p e ys hi ⟨⟨o1,o2,rfl⟩,rfl⟩;have hp:=hs p (Zm hi);have r1:=W7 hp.n1 hp.d1;have r2:=W7 hp.n2 hp.d2;unfold stD;trivial;refine ⟨p.1,rfl,hp.n1,hp.d1,?_⟩;trivial;rw [m32];simp only [D0,B3];refine ⟨by show _ + 1<=_; omega,p.2,rfl,hp.n2,hp.d2,?_⟩;trivial;simp only [D0,B3];refine ⟨by rw [Ze]; show _ + 1 + _<=_; omega,⟨_,_,rfl⟩,?_⟩;rw [List.take_add_one,hi,Option.toList_some,Zc,Zc,D0g]; rfl
 ·rintro e ys ⟨⟨o1,o2,rfl⟩,rfl⟩;rw [List.take_length];trivial;rw [mSep];refine ⟨_,R6 _,?_,?_⟩
  ·refine Zx (A0x (m:=261) fun l h=>?_) ?_
   ·obtain ⟨p,hp,rfl⟩:=List.mem_map.mp h;exact B8y (hs p hp)
   ·rw [Zl,B3];exact Zx (Zu _ hl) (by decide)
  ·rw [N6]; exact k
def B0k:Pu.PSp:=fun as Q=>∃ l:List Nat,as=[.d (.str (sO l))]/\l.length<=4200/\Q (.d (oX (bndI l)))
theorem B2h (T:Txt K mg D):FnOk P w K mg base CX0 6 D.a_b5 D.d_b5 ["text"] (Pu.spOf K [.dat] B0k):=by
 refine T.B.F_b5.ok sc_b5 (Zz rfl) (fun cdv A outer s H vs Q E hr h=>?_);refine ⟨_,(QSs.out (A2 (L7 (C0 (K:=K) rfl PySem.F.plainAttrs_str PySem.F.slot_str_partition PySem.F.type_str_partition N3 (qpv 0) (A0 A4 A1)) (E8 (K:=K) (n:=3) rfl rfl (B1 (qgn 1 sc_b5) (B1 (qgn 2 sc_b5) (B1 (qgn 3 sc_b5) E7))) rfl rfl))
   (A2 (L7 (C0 (K:=K) rfl PySem.F.plainAttrs_str PySem.F.slot_str_partition PySem.F.type_str_partition N3 (qpv 3) (A0 A4 A1)) (E8 (K:=K) (n:=3) rfl rfl (B1 (qgn 4 sc_b5) (B1 (qgn 2 sc_b5) (B1 (qgn 5 sc_b5) E7))) rfl rfl))
   (A2 (B6m (i:=6) (j:=7) (k:=8) rfl sc_b5.nd rfl rfl rfl (by decide) (by decide) (by decide) rfl rfl rfl (A0 (qcK (M2 (K:=K) T) hr.mo (O8 T) (A0 (qpv 1) A1)) (A0 (qcK (M2 (K:=K) T) hr.mo (O8 T) (A0 (qpv 4) A1)) (A0 (qcK (B2g (K:=K) T) hr.mo (B8d T) (A0 (qpv 5) A1)) A1))) rfl rfl)
   (A5 (B0 (G7 (QW.pt (K3 (A6 G0 (qpv 6) B8 (B2 _)) (K3 (A6 G0 (qpv 7) B8 (B2 _)) (J9 (A6 G0 (qpv 8) B8 (B2 _)))))) B8 (C4 (A0 (qpv 6) (A0 (qpv 7) (A0 (qpv 8) A1))))))))))),?_⟩
 haveI:=T.c2_ARC_WORDS
 refine Pu.G3 h ?_;rintro as Qp ⟨l,rfl,hl,k⟩;have h1:=X4 l;have h2:=X4 (parS 32 l).2.2;unfold bndI at k;refine hd fun R hR=>?_;trivial;rw [m32,Q9];refine ⟨rfl,by rw [B3]; omega,?_⟩;subst hR;generalize (parS 32 l).1=p1 at *;generalize (parS 32 l).2.2=p3 at *;refine hd fun R hR=>?_;trivial;rw [m32,Q9];refine ⟨rfl,by rw [B3]; omega,?_⟩;subst hR;generalize (parS 32 p3).1=q1 at *;generalize (parS 32 p3).2.2=q3 at *;trivial;refine ⟨p1,rfl,by omega,?_⟩;rw [B0d];trivial;refine ⟨q1,rfl,by omega,?_⟩;rw [B0d];trivial;refine ⟨q3,rfl,A15 (by omega),?_⟩;cases hp:plnI q3 with
 | none =>
  refine B6y hp ?_;rw [hp] at k;trivial;cases h1:qIn p1 with
  | none =>
   rw [h1] at k;rw [if_pos (show isNo (oQ none)=true from rfl)]; exact k
  | some a =>
   rw [if_neg (show ¬ isNo (oQ (some a))=true from fun z=>Bool.noConfusion z)];rw [h1] at k;cases h2:qIn q1 with
   | none =>
    rw [h2] at k;rw [if_pos (show isNo (oQ none)=true from rfl)]; exact k
   | some b =>
    rw [h2] at k;rw [if_neg (show ¬ isNo (oQ (some b))=true from fun z=>Bool.noConfusion z)]; exact k
 | some p =>
  refine B6x hp ?_;rw [hp] at k;trivial;cases h1:qIn p1 with
  | none =>
   rw [h1] at k;rw [if_pos (show isNo (oQ none)=true from rfl)]; exact k
  | some a =>
   rw [if_neg (show ¬ isNo (oQ (some a))=true from fun z=>Bool.noConfusion z)];rw [h1] at k;cases h2:qIn q1 with
   | none =>
    rw [h2] at k;rw [if_pos (show isNo (oQ none)=true from rfl)]; exact k
   | some b =>
    rw [h2] at k;rw [if_neg (show ¬ isNo (oQ (some b))=true from fun z=>Bool.noConfusion z)]; exact k
def A4m:Pu.PSp:=fun as Q=>∃ (r:List Nat) (p:LP),as=[.d (.list [.str (sO r)])]/\r.length<=4200/\(∀ c ∈ r,c < 128)/\papI (parS 32 r).2.2=some p/\Q (.d (.tuple [.str "none",.list p]))
theorem X6 (T:Txt K mg D):FnOk P w K mg base CX0 6 D.a_aa D.d_aa ["rows"] (Pu.spOf K [.dat] A4m):=by
 refine T.B.F_aa.ok sc_aa (Zz rfl) (fun cdv A outer s H vs Q E hr h=>?_);refine ⟨_,(QSs.out (A2 (L7 (C0 (K:=K) rfl PySem.F.plainAttrs_str PySem.F.slot_str_partition PySem.F.type_str_partition N3 (qix K (qpv 0) A3) (A0 A4 A1)) (E8 (K:=K) (n:=3) rfl rfl (B1 (qgn 1 sc_aa) (B1 (qgn 2 sc_aa) (B1 (qgn 3 sc_aa) E7))) rfl rfl))
   (A2 (qst 4 sc_aa (qcK (P9 (K:=K) T) hr.mo (T1 T) (A0 (qpv 3) A1)))
   (A2 (B7 (A6 G0 (qpv 4) B8 (B2 _))
    (A5 O4)
    A9)
   (A2 (B7 (A6 A1g (qln K T.z_len (qpv 0)) A3 (B2 _))
    (A5 O4)
    A9)
   (A5 (B0 (C4 (A0 A4 (A0 (qpv 4) A1)))))))))),?_⟩
 haveI:=T.c2_ARC_WORDS
 refine Pu.G3 h ?_;rintro as Qp ⟨r,p,rfl,hl,ha,hp,k⟩;have h1:=X4 r;have h2:=A4p r;refine hd fun R hR=>?_;trivial;rw [m32,Q9];refine ⟨rfl,by rw [B3]; omega,?_⟩;subst hR;trivial;generalize (parS 32 r).1=w at *;generalize (parS 32 r).2.1=w2 at *;generalize (parS 32 r).2.2=t at *;refine ⟨t,rfl,A15 (by omega),sub4 h2.2.2 ha,?_⟩;refine V8 hp ?_;trivial;exact k
def A2g:List SV->PyData->Prop:=fun as z=>∃ (r:List Nat) (rest:LP),as=[.d (.list (.str (sO r) :: rest))]/\r.length<=4200/\rest.length < 90002/\(∀ c ∈ r,c < 128)/\((papI (parS 32 r).2.2=none/\z=.int 0)\/∃ p,papI (parS 32 r).2.2=some p/\rest≠[]/\z=.int 1)
theorem A2y (T:Txt K mg D):FnOk P w K mg base (CX2 P w) 6 D.a_aa D.d_aa ["rows"] (Pu.spE2 K [.dat] D.k_NoText "row" A2g):=by
 haveI:=T.c2_ARC_WORDS
 refine Pu.okxL T.B.F_aa sc_aa rfl (fun cdv A outer s H E w0 z hr hk=>(A2 (A0e (L7 (C0 (K:=K) rfl PySem.F.plainAttrs_str PySem.F.slot_str_partition PySem.F.type_str_partition N3 (qix K (qpv 0) A3) (A0 A4 A1)) (E8 (K:=K) (n:=3) rfl rfl (B1 (qgn 1 sc_aa) (B1 (qgn 2 sc_aa) (B1 (qgn 3 sc_aa) E7))) rfl rfl))) (A2 (A0e (qst 4 sc_aa (qcK (P9 (K:=K) T) hr.mo (T1 T) (A0 (qpv 3) A1)))) (A2 (B7 (A0d (A6 G0 (qpv 4) B8 (B2 _))) (A5 (M1 hk T.J_NoText.choose_spec.choose_spec hr.mo (by rfl) T.c_NoText A3)) A9) (A2 (B7 (A0d (A6 A1g (qln K T.z_len (qpv 0)) A3 (B2 _))) (A5 (M1 hk T.J_NoText.choose_spec.choose_spec hr.mo (by rfl) T.c_NoText A3)) A9) A2b))))) (fun w0 z=>inferInstance) ?_;rintro as z ⟨r,rest,rfl,hl,hn,ha,hp⟩;have h1:=X4 r;have h2:=A4p r;refine hd fun R hR=>?_;trivial;rw [m32,Q9];refine ⟨rfl,by rw [B3]; omega,?_⟩;subst hR;trivial;generalize (parS 32 r).1=w at *;generalize (parS 32 r).2.1=w2 at *;generalize (parS 32 r).2.2=t at *;refine ⟨t,rfl,A15 (by omega),sub4 h2.2.2 ha,?_⟩;rcases hp with ⟨hp,rfl⟩ | ⟨p,hp,hr,rfl⟩
 ·refine A1e hp ?_;trivial
 ·refine V8 hp ?_;trivial;rw [if_pos (by have:=List.length_pos_iff.mpr hr; omega)];exact True.intro
def A8d:Pu.PSp:=fun as Q=>∃ (bs ps:LP) (l:List Nat),as=[.bor bs,.bor ps,.d (.str (sO l))]/\l.length<=4200/\(∀ c ∈ l,c < 128)/\Q (.d (oW (parS 32 l).1 (rowR bs.length ps.length l)))
theorem A0k (T:Txt K mg D):FnOk P w K mg base CX0 7 D.a_af D.d_af ["bends","papers","row"] (Pu.spOf K [.vw,.vw,.dat] A8d):=by
 refine T.B.F_af.ok sc_af (Zz rfl) (fun cdv A outer s H vs Q E hr h=>?_);refine ⟨_,(QSs.out (A2 (L7 (C0 (K:=K) rfl PySem.F.plainAttrs_str PySem.F.slot_str_partition PySem.F.type_str_partition N3 (qpv 2) (A0 A4 A1)) (E8 (K:=K) (n:=3) rfl rfl (B1 (qgn 3 sc_af) (B1 (qgn 4 sc_af) (B1 (qgn 5 sc_af) E7))) rfl rfl))
   (A2 (B7 (A6 A8k (qln K T.z_len (qpv 1)) (qln K T.z_len (qpv 0)) (B2 _))
    (A5 (qst 6 sc_af (G7 (A6 (B9 (K:=K) rfl hr.units) (qpv 3) A4 (B2 _)) (qcK (P9 (K:=K) T) hr.mo (T1 T) (A0 (qpv 5) A1)) B8)))
    (A5 (B7 (A6 (B9 (K:=K) rfl hr.units) (qpv 3) A4 (B2 _))
     (A5 (qst 6 sc_af (qcK (B2h (K:=K) T) hr.mo (B8e T) (A0 (qpv 5) A1))))
     (A5 (qst 6 sc_af (G7 (QW.pt (A06 (A6 (B9 (K:=K) rfl hr.units) (qpv 3) A4 (B2 _)) (V6 (A6 A1g (qln K T.z_len (qpv 0)) A3 (B2 _))))) (qcK (P9 (K:=K) T) hr.mo (T1 T) (A0 (qpv 5) A1)) B8))))))
   (A5 (B0 (G7 (A6 G0 (qpv 6) B8 (B2 _)) B8 (C4 (A0 (qpv 3) (A0 (qpv 6) A1))))))))),?_⟩
 haveI:=T.c2_ARC_WORDS
 refine Pu.G3 h ?_;rintro as Qp ⟨bs,ps,l,rfl,hl,ha,k⟩;have h1:=X4 l;have h2:=A4p l;unfold rowR at k;refine hd fun R hR=>?_;trivial;rw [m32,Q9];refine ⟨rfl,by rw [B3]; omega,?_⟩;subst hR;generalize (parS 32 l).1=w at *;generalize (parS 32 l).2.1=w2 at *;generalize (parS 32 l).2.2=t at *;refine C8 (fun e=>∃ s:SV,e=[some (.bor bs),some (.bor ps),some (.d (.str (sO l))),some (.d (.str (sO w))),some (.d (.str (sO w2))),some (.d (.str (sO t))),some s]/\((s=.d .none/\rowP bs.length ps.length w t=none)\/∃ x,rowP bs.length ps.length w t=some x/\(s=.d x/\isNo x=false\/∃ p,x=.list p/\s=.own p))) (fun R hR=>?_) ?_
 ·trivial;rw [mPap,mBnd,mBar,V1,V1,V1];have lw:=K4 (sub4 h2.1 ha);have ht:=sub4 h2.2.2 ha;refine ite2 (fun z=>⟨lw,K4 (by decide),ite2 (fun y=>⟨t,rfl,A15 (by omega),ht,?_⟩) (fun y=>?_)⟩) (fun z=>⟨lw,K4 (by decide),ite2 (fun y=>⟨t,rfl,by omega,?_⟩) (fun y=>⟨lw,K4 (by decide),ite2 (fun x=>ite2 (fun v=>⟨t,rfl,A15 (by omega),ht,?_⟩) (fun v=>?_)) (fun x=>?_)⟩)⟩)
  ·have e:rowP bs.length ps.length w t=(papI t).map .list:=by
    unfold rowP;rw [if_pos (by omega),if_pos (of_decide_eq_true y)]
   cases hp:papI t with
   | none =>
    refine A1e hp ?_;rw [hp] at e;trivial;exact hR _ ⟨_,rfl,.inl ⟨rfl,e⟩⟩
   | some p =>
    refine V8 hp ?_;rw [hp] at e;trivial;exact hR _ ⟨_,rfl,.inr ⟨_,e,.inr ⟨_,rfl,rfl⟩⟩⟩
  ·refine hR _ ⟨_,rfl,.inl ⟨rfl,?_⟩⟩;unfold rowP;rw [if_pos (by omega),if_neg fun q=>y (Zk q)]
  ·have e:rowP bs.length ps.length w t=bndI t:=by
    unfold rowP;rw [if_neg (by omega),if_pos (of_decide_eq_true y)]
   cases hp:bndI t with
   | none =>
    rw [hp] at e;trivial;exact hR _ ⟨_,rfl,.inl ⟨rfl,e⟩⟩
   | some p =>
    rw [hp] at e;trivial;exact hR _ ⟨_,rfl,.inr ⟨_,e,.inl ⟨rfl,C4z hp⟩⟩⟩
  ·have e:rowP bs.length ps.length w t=(papI t).map .list:=by
    unfold rowP;rw [if_neg (by omega),if_neg fun q=>y (Zk q),if_pos ⟨of_decide_eq_true x,by omega⟩]
   cases hp:papI t with
   | none =>
    refine A1e hp ?_;rw [hp] at e;trivial;exact hR _ ⟨_,rfl,.inl ⟨rfl,e⟩⟩
   | some p =>
    refine V8 hp ?_;rw [hp] at e;trivial;exact hR _ ⟨_,rfl,.inr ⟨_,e,.inr ⟨_,rfl,rfl⟩⟩⟩
  ·refine hR _ ⟨_,rfl,.inl ⟨rfl,?_⟩⟩;unfold rowP;rw [if_neg (by omega),if_neg fun q=>y (Zk q),if_neg fun q=>v (by omega)]
  ·refine hR _ ⟨_,rfl,.inl ⟨rfl,?_⟩⟩;unfold rowP;rw [if_neg (by omega),if_neg fun q=>y (Zk q),if_neg fun q=>x (Zk q.1)]
 rintro e ⟨s,rfl,⟨rfl,e⟩ | ⟨x,e,⟨rfl,hn⟩ | ⟨p,rfl,rfl⟩⟩⟩
 ·rw [e] at k;trivial;exact k
 ·rw [e] at k;trivial;rw [hn];exact k
 ·rw [e] at k;trivial;exact k
def A2i:Pu.PSp:=fun as Q=>∃ (l:List Nat) (x:PyData),as=[.d (.str (sO l))]/\ShS l/\rdR (splL [10] l)=.inl x/\Q (.d x)
theorem A2z (T:Txt K mg D):FnOk P w K mg base CX0 8 D.a_a7 D.d_a7 ["text"] (Pu.spOf K [.dat] A2i):=by
 refine T.B.F_a7.ok sc_a7 (Zz rfl) (fun cdv A outer s H vs Q E hr h=>?_);refine ⟨_,(QSs.out (A2 (B7 (N0 (F9 (C2 (D9 (K:=K) rfl) (by rfl) T.z_isinstance (by rfl) (A0 (qpv 0) (A0 (F8 (v:=.ty "str") rfl T.z_str (by rfl) rfl) A1)))))
    (A5 O4)
    A9)
   (A2 (qst 1 sc_a7 (C0 (K:=K) rfl PySem.F.plainAttrs_str PySem.F.slot_str_split PySem.F.type_str_split O6 (qpv 0) (A0 A4 A1)))
   (A2 (B7 (F9 (C0 (K:=K) rfl PySem.F.plainAttrs_str PySem.F.slot_str_startswith PySem.F.type_str_startswith U4 (qix K (qpv 1) A3) (A0 A4 A1)))
    (A5 (B0 (qcK (X6 (K:=K) T) hr.mo (U9 T) (A0 (qpv 1) A1))))
    A9)
   (A2 (qst 2 sc_a7 (A55 (P7 A4 (B6 A1) (P7 A4 (B6 A1) (P7 A4 (B6 A1) A99))) (by rfl) (by rfl) (by decide) (by decide)))
   (A2 (Q8 Zf rfl (A2e (K:=K) rfl rfl T.z_enumerate (A0 (qpv 1) A1)) (E8 (K:=K) (n:=2) rfl rfl (B1 (qgn 3 sc_a7) (B1 (qgn 4 sc_a7) E7)) rfl rfl)
    (A2 (qst 5 sc_a7 (qcK (A0k (K:=K) T) hr.mo (A35 T) (A0 (F6 (u1 hr.units) (qpv 2) A4 (fun _ _=>rfl)) (A0 (F6 (u1 hr.units) (qpv 2) A4 (fun _ _=>rfl)) (A0 (qpv 4) A1)))))
    (A2 (B7 (QW.pt (K3 (A6 A1g (qln K T.z_len (F6 (u1 hr.units) (qpv 2) A4 (fun _ _=>rfl))) A3 (B2 _)) (J9 (A6 G0 (qpv 5) B8 (B2 _)))))
     (A5 O4)
     A9)
    (A5 (G6 (C0 (K:=K) rfl Z1 Z2 Z3 F1 (F6 (u1 hr.units) (qpv 2) (qix K (qpv 5) A3) (fun _ _=>rfl)) (A0 (qix K (qpv 5) A3) A1)))))))
   (A2 (B7 (A6 (B9 (K:=K) rfl hr.units) (qln K T.z_len (F6 (u1 hr.units) (qpv 2) A4 (fun _ _=>rfl))) A3 (B2 _))
    (A5 O4)
    A9)
   (A5 (B0 (C4 (A0 A4 (A0 (F6 (u1 hr.units) (qpv 2) A4 (fun _ _=>rfl)) (A0 (F6 (u1 hr.units) (qpv 2) A4 (fun _ _=>rfl)) (A0 (qix K (F6 (u1 hr.units) (qpv 2) A4 (fun _ _=>rfl)) A3) A1)))))))))))))),?_⟩
 haveI:=T.c2_ARC_WORDS
 refine Pu.G3 h ?_;rintro as Qp ⟨l,x,rfl,hl,hx,k⟩;refine hd fun R hR=>?_;trivial;subst hR;refine hd fun R hR=>?_;trivial;rw [mNl,T6];refine ⟨rfl,by rw [B3]; exact hl.le,?_⟩;have hne:=A9t [10] l;have hrw:=hl.rw;have has:∀ r ∈ splL [10] l,∀ c ∈ r,c < 128:=fun r hr=>S4 hr hl.as;have hcnt:=P4 10 [] l;have hc2:l.count 10<=l.length:=List.count_le_length;have h9:=hl.le;generalize splL [10] l=rs at *;cases rs with
 | nil=>exact absurd rfl hne
 | cons r0 rr =>
 subst hR;refine hd fun R hR=>?_;trivial;rw [mNon,A0a];refine ite2 (fun z=>?_) (fun z=>?_)
 ·obtain ⟨_,h⟩ | ⟨p,hp,⟨_,h⟩ | ⟨rfl,h⟩⟩:=C54 hx (of_decide_eq_true z)
  ·cases h
  ·cases h
  cases h;refine ⟨r0,p,rfl,hrw _ Zy,has _ Zy,hp,?_⟩;trivial;exact k
 obtain ⟨s,hs,h⟩ | ⟨m,hs,h⟩:=C53 hx fun y=>z (Zk y)
 rotate_left
 ·cases h
 cases h;subst hR;refine hd fun R hR=>?_;trivial;rw [mBnd,mPap,mBar];refine ⟨by decide,fun L a b c=>?_⟩;subst hR;refine hd fun R hR=>?_;trivial;have em:(PyData.str (sO r0) :: List.map PyData.str (List.map sO rr))=(r0 :: rr).map (fun r=>PyData.str (sO r)):=by rw [List.map_map]; rfl
 rw [em];refine A7h (f:=fun r=>PyData.str (sO r)) (xs:=r0 :: rr) (fun i e=>∃ (t:S3) (o3 o4 o5:Option SV),folS ([],[],[]) ((r0 :: rr).take i)=some t/\e=[some (.d (.str (sO l))),some (.d (.list ((r0 :: rr).map fun r=>PyData.str (sO r)))),some (dlE L a b c t),o3,o4,o5]) ⟨_,_,_,_,rfl,rfl⟩ ?_ ?_
 ·rintro i r e hi ⟨⟨t1,t2,t3⟩,o3,o4,o5,f,rfl⟩;have hr:=Zm hi;have hlen:=A45 f;unfold dlE;simp only [S2,A07,A57,B0c,List.set_cons_succ,List.set_cons_zero,List.length_cons,List.length_nil,Nat.zero_add,Nat.reduceAdd,true_and];refine hd fun R hR=>?_;trivial;refine ⟨0,_,_,by rw [mBnd]; rfl,1,_,_,by rw [mPap]; rfl,?_⟩;refine ⟨t1,t2,r,rfl,hrw r hr,has r hr,?_⟩;trivial;subst hR;cases ht:stpS (t1,t2,t3) r with
  | none=>rw [A9z f hi ht] at hs; cases hs
  | some t' =>
  have f':=A7l f hi ht;obtain ⟨h0,x,hx1,rfl⟩:=B59 ht;have h0:t3=[]:=h0;subst h0;have hw:=B85 hx1;rw [hx1];unfold oW;refine hd fun R hR=>?_;trivial;refine ⟨2,_,_,by rw [mBar]; rfl,?_⟩;rw [if_neg (by decide)];subst hR;have el:t1.length + t2.length + 0=i:=by
   have e0:((r0 :: rr).take i).length=i:=by rw [List.length_take]; have:=(Zs hi).1; omega
   simp only [List.length_nil] at hlen;omega
  have hi9:=(Zs hi).1;rcases hw with hw | hw | hw <;> rw [hw] at f' ⊢ <;> trivial
  ·exact ⟨0,_,_,rfl,_,rfl,by omega,_,_,_,_,f',rfl⟩
  ·exact ⟨1,_,_,rfl,_,rfl,by omega,_,_,_,_,f',rfl⟩
  ·exact ⟨2,_,_,rfl,_,rfl,by decide,_,_,_,_,f',rfl⟩
 ·rintro e ⟨t,o3,o4,o5,f,rfl⟩;rw [List.take_length] at f;rw [A90 f] at hs;unfold dlE;subst hR;split at hs
  ·cases hs
  rename_i hz;cases hs;trivial;refine ⟨2,_,_,by rw [mBar]; rfl,?_⟩;rw [if_neg (by omega)];refine ⟨0,_,_,by rw [mBnd]; rfl,0,_,_,by rw [mPap]; rfl,0,_,_,by rw [mBar]; rfl,?_⟩;cases e2:s.2.2 with
  | nil=>rw [e2] at hz; exact absurd rfl hz
  | cons y ys =>
   rw [e2] at k;trivial;exact k
def A08:List SV->PyData->Prop:=fun as z=>∃ x:PyData,as=[.d x]/\NoS x z
theorem S5 (T:Txt K mg D):FnOk P w K mg base (CX2 P w) 8 D.a_a7 D.d_a7 ["text"] (Pu.spE2 K [.dat] D.k_NoText "row" A08):=by
 haveI:=T.c2_ARC_WORDS
 refine Pu.okxL T.B.F_a7 sc_a7 rfl (fun cdv A outer s H E w0 z hr hk=>(A2 (B7 (A0d (N0 (F9 (C2 (D9 (K:=K) rfl) (by rfl) T.z_isinstance (by rfl) (A0 (qpv 0) (A0 (F8 (v:=.ty "str") rfl T.z_str (by rfl) rfl) A1)))))) (A5 (M1 hk T.J_NoText.choose_spec.choose_spec hr.mo (by rfl) T.c_NoText A3)) A9) (A2 (A0e (qst 1 sc_a7 (C0 (K:=K) rfl PySem.F.plainAttrs_str PySem.F.slot_str_split PySem.F.type_str_split O6 (qpv 0) (A0 A4 A1)))) (A2 (B7 (A0d (F9 (C0 (K:=K) rfl PySem.F.plainAttrs_str PySem.F.slot_str_startswith PySem.F.type_str_startswith U4 (qix K (qpv 1) A3) (A0 A4 A1)))) (A5 (B0 (D0n (D0o (qcK (X6 (K:=K) T) hr.mo (U9 T) (A0 (qpv 1) A1))) (A8a hk (A2y (K:=K) T) hr.mo rfl T.m_aa T.B.F_aa.kp (U9 T).b (A0 (qpv 1) A1))))) A9) (A2 (A0e (qst 2 sc_a7 (A55 (P7 A4 (B6 A1) (P7 A4 (B6 A1) (P7 A4 (B6 A1) A99))) (by rfl) (by rfl) (by decide) (by decide)))) (A2 (B6n (A2e (K:=K) rfl rfl T.z_enumerate (A0 (qpv 1) A1)) (E8 (K:=K) (n:=2) rfl rfl (B1 (qgn 3 sc_a7) (B1 (qgn 4 sc_a7) E7)) rfl rfl) (A2 (A0e (qst 5 sc_a7 (qcK (A0k (K:=K) T) hr.mo (A35 T) (A0 (F6 (u1 hr.units) (qpv 2) A4 (fun _ _=>rfl)) (A0 (F6 (u1 hr.units) (qpv 2) A4 (fun _ _=>rfl)) (A0 (qpv 4) A1)))))) (A2 (B7 (A0d (QW.pt (K3 (A6 A1g (qln K T.z_len (F6 (u1 hr.units) (qpv 2) A4 (fun _ _=>rfl))) A3 (B2 _)) (J9 (A6 G0 (qpv 5) B8 (B2 _)))))) (A5 (M1 hk T.J_NoText.choose_spec.choose_spec hr.mo (by rfl) T.c_NoText (qpv 3))) A9) (A5 (A0e (G6 (C0 (K:=K) rfl Z1 Z2 Z3 F1 (F6 (u1 hr.units) (qpv 2) (qix K (qpv 5) A3) (fun _ _=>rfl)) (A0 (qix K (qpv 5) A3) A1)))))))) (A2 (B7 (A0d (A6 (B9 (K:=K) rfl hr.units) (qln K T.z_len (F6 (u1 hr.units) (qpv 2) A4 (fun _ _=>rfl))) A3 (B2 _))) (A5 (M1 hk T.J_NoText.choose_spec.choose_spec hr.mo (by rfl) T.c_NoText (qln K T.z_len (qpv 1)))) A9) A2b))))))) (fun w0 z=>inferInstance) ?_;rintro as z ⟨x,rfl,ox⟩;cases x with
 | str y =>
  obtain ⟨hl,n,hx,rfl⟩:=ox;have ey:y=sO y.cps.toList:=rfl;generalize y.cps.toList=l at *;subst ey;trivial;rw [mNl,T6];refine ⟨rfl,by rw [B3]; exact hl.le,?_⟩;have hne:=A9t [10] l;have hrw:=hl.rw;have has:∀ r ∈ splL [10] l,∀ c ∈ r,c < 128:=fun r hr=>S4 hr hl.as;have hcnt:=P4 10 [] l;have hc2:l.count 10<=l.length:=List.count_le_length;have h9:=hl.le;generalize splL [10] l=rs at *;cases rs with
  | nil=>exact absurd rfl hne
  | cons r0 rr =>
  trivial;rw [mNon,A0a];refine ite2 (fun z=>?_) (fun z=>?_)
  ·right;refine ⟨r0,rr.map fun r=>PyData.str (sO r),by rw [List.map_map]; rfl,hrw _ Zy,by rw [Zl]; simp only [List.length_cons] at hcnt; omega,has _ Zy,?_⟩;obtain ⟨hp,h⟩ | ⟨p,hp,⟨hr,h⟩ | ⟨rfl,h⟩⟩:=C54 hx (of_decide_eq_true z)
   ·cases h; exact .inl ⟨hp,rfl⟩
   ·cases h; exact .inr ⟨p,hp,fun y=>hr (by simpa using y),rfl⟩
   ·cases h
  obtain ⟨s,hs,h⟩ | ⟨m,hs,h⟩:=C53 hx fun y=>z (Zk y)
  ·cases h
  cases h;refine ⟨⟨by decide +kernel,by decide +kernel,by decide +kernel⟩,fun L a b c=>?_⟩;have em:(PyData.str (sO r0) :: List.map PyData.str (List.map sO rr))=(r0 :: rr).map (fun r=>PyData.str (sO r)):=by rw [List.map_map]; rfl
  rw [em];refine A7h (f:=fun r=>PyData.str (sO r)) (xs:=r0 :: rr) (fun i e=>∃ (t:S3) (o3 o4 o5:Option SV),folS ([],[],[]) ((r0 :: rr).take i)=some t/\e=[some (.d (.str (sO l))),some (.d (.list ((r0 :: rr).map fun r=>PyData.str (sO r)))),some (dlE L a b c t),o3,o4,o5]) ⟨_,_,_,_,rfl,by unfold dlE; rw [mBnd,mPap,mBar]⟩ ?_ ?_
  ·rintro i r e hi ⟨⟨t1,t2,t3⟩,o3,o4,o5,f,rfl⟩;have hr:=Zm hi;have hlen:=A45 f;unfold dlE;simp only [S2,A07,A57,B0c,List.set_cons_succ,List.set_cons_zero,List.length_cons,List.length_nil,Nat.zero_add,Nat.reduceAdd,true_and];refine hd fun R hR=>?_;trivial;refine ⟨0,_,_,by rw [mBnd]; rfl,1,_,_,by rw [mPap]; rfl,?_⟩;refine ⟨t1,t2,r,rfl,hrw r hr,has r hr,?_⟩;trivial;subst hR;refine hd fun R hR=>?_;trivial;refine ⟨2,_,_,by rw [mBar]; rfl,ite2 (fun y=>?_) (fun y=>?_)⟩
   ·have ht:stpS (t1,t2,t3) r=none:=if_pos (by show 0 < t3.length; omega);rw [A9z f hi ht] at hs; cases hs; rfl
   have y3:t3=[]:=List.length_eq_zero_iff.mp (by omega);subst y3;cases e1:rowR t1.length t2.length r with
   | none =>
    have ht:stpS (t1,t2,[]) r=none:=by
     unfold stpS;rw [if_neg (show ¬ 0 < ([]:LP).length by decide)];show Option.map _ (rowR t1.length t2.length r)=none;rw [e1]; rfl
    rw [A9z f hi ht] at hs; cases hs;rw [if_pos (show isNo (oW (parS 32 r).1 none)=true from rfl)]
   | some x =>
    have ht:stpS (t1,t2,[]) r=some (putS (t1,t2,[]) (parS 32 r).1 x):=by
     unfold stpS;rw [if_neg (show ¬ 0 < ([]:LP).length by decide)];show Option.map _ (rowR t1.length t2.length r)=_;rw [e1]; rfl
    have f':=A7l f hi ht;have hw:=B85 e1;unfold oW;rw [if_neg (fun z=>Bool.noConfusion z)];subst hR;have el:t1.length + t2.length + 0=i:=by
     have e0:((r0 :: rr).take i).length=i:=by rw [List.length_take]; have:=(Zs hi).1; omega
     simp only [List.length_nil] at hlen;omega
    have hi9:=(Zs hi).1;rcases hw with hw | hw | hw <;> rw [hw] at f' ⊢ <;> trivial
    ·exact ⟨0,_,_,rfl,_,rfl,by omega,_,_,_,_,f',rfl⟩
    ·exact ⟨1,_,_,rfl,_,rfl,by omega,_,_,_,_,f',rfl⟩
    ·exact ⟨2,_,_,rfl,_,rfl,by decide,_,_,_,_,f',rfl⟩
  ·rintro e ⟨t,o3,o4,o5,f,rfl⟩;rw [List.take_length] at f;rw [A90 f] at hs;unfold dlE;split at hs
   ·rename_i hz;cases hs;trivial;refine ⟨2,_,_,by rw [mBar]; rfl,?_⟩;rw [if_pos (by omega)];exact True.intro
   ·cases hs
 | dict kvs=>exact ox.elim
 | _ =>
  trivial;exact ox.symm
def A2m:Pu.PSp:=fun as Q=>∃ far:Bool,as=[.st,.d (.bool far)]/\∀ q:Rat,0<=q->q.num.natAbs + q.den < 10 ^ 60->Q (.d (dq q))
theorem J6 (T:Txt K mg D):FnOk P w K mg base CX0 2 D.a_a3 D.d_a3 ["_law_state","_law_far"] (Pu.spOf K [.st,.dat] A2m):=by
 refine T.B.F_a3.ok sc_a3 (Zz rfl) (fun cdv A outer s H vs Q E hr h=>?_);refine ⟨_,(QSs.out (A2 (qst 2 sc_a3 (qcK (D8 (K:=K) T) hr.mo (G1 T) (A0 (qpv 0) (A0 A3 A1))))
   (A2 (B7 (F9 (qpv 1))
    (A5 (qst 2 sc_a3 (A8 J2 A3 (qcK (D8 (K:=K) T) hr.mo (G1 T) (A0 (qpv 0) (A0 A3 A1))))))
    A9)
   (A2 (qst 3 sc_a3 (qcK (D8 (K:=K) T) hr.mo (G1 T) (A0 (qpv 0) (A0 (qix K (B6 (A0 A3 (A0 A3 (A0 (A8 A0j A3 A3) (A0 (A8 A0j A3 A3) (A0 (A8 A0i (A8 A0j A3 A3) A3) A1)))))) (qpv 2)) A1))))
   (A5 (B0 (qcK (B2l (K:=K) T) hr.mo (C1r T) (A0 (qpv 3) (A0 (A8 J2 A3 (qcK (D8 (K:=K) T) hr.mo (G1 T) (A0 (qpv 0) (A0 (qix K (B6 (A0 A3 (A0 A3 (A0 A3 (A0 (A8 A0j A3 A3) (A0 A3 A1)))))) (qpv 2)) A1)))) A1))))))))),?_⟩
 haveI:=T.c2_ARC_WORDS
 refine Pu.G3 h ?_;rintro as Qp ⟨far,rfl,k⟩;refine hd fun R hR=>?_;trivial;refine ⟨3,rfl,by decide,sm4 3,fun way w0 w4=>?_⟩;trivial;subst hR;refine C8 (fun e=>∃ d:Int,e=[some .st,some (.d (.bool far)),some (.d (.int d)),none]/\0<=d/\d < 5) (fun R hR=>?_) ?_
 ·trivial;cases far with
  | false =>
   trivial;exact hR _ ⟨way,rfl,w0,by omega⟩
  | true =>
   trivial;refine ⟨2,rfl,by decide,sm4 2,fun c c0 c2=>?_⟩;trivial;exact hR _ ⟨3 + c,rfl,by omega,by omega⟩
 rintro e ⟨d,rfl,d0,d5⟩;refine hd fun R hR=>?_;trivial;refine ⟨A0o 6,A0o 30,A0o 60,?_⟩;obtain ⟨dn,rfl⟩:=Zi d0;obtain ⟨n,m,en,em,n0,m0,nm⟩:=C4w dn (by omega);have n1:n<=10 ^ 60:=Int.le_trans (by omega) nm;have m1:m<=10 ^ 60:=Int.le_trans (by omega) nm;refine K0 (K2 en) ?_;trivial;refine ⟨n,rfl,n0,(smz (by omega) n1).mono (by decide),fun t t0 t1=>?_⟩;trivial;subst hR;nofun
 refine ⟨A0o 59,?_⟩;refine K0 (K2 em) ?_;trivial;refine ⟨m,rfl,m0,(smz (by omega) m1).mono (by decide),fun b b0 b1=>?_⟩;trivial;have hb0:0 < 1 + b:=by omega
 refine ⟨t,1 + b,rfl,hb0,(smz t0 (by omega)).mono (by decide),(smz (by omega) (by omega)).mono (by decide),?_⟩;trivial;exact k _ ((Rat.divInt_nonneg_iff_of_pos_right hb0).mpr t0) (C9f t0 t1 hb0 (by omega) nm)
def B0m:Pu.PSp:=fun as Q=>∃ far:Bool,as=[.st,.d (.bool far)]/\∀ ps:List (List Nat × Int × Rat),PpOk ps->Q (.own (ps.map caD))
theorem A24 (T:Txt K mg D):FnOk P w K mg base CX0 3 D.a_b3 D.d_b3 ["_law_state","_law_far"] (Pu.spOf K [.st,.dat] B0m):=by
 refine T.B.F_b3.ok sc_b3 (Zz rfl) (fun cdv A outer s H vs Q E hr h=>?_);refine ⟨_,(QSs.out (A2 (qst 2 sc_b3 (B6 A1))
   (A2 (Q8 Zf rfl (P8 rfl T.z_range (A0 (A8 J2 (qix K (B6 (A0 A3 (A0 A3 (A0 A3 (A0 A3 A1))))) (qcK (D8 (K:=K) T) hr.mo (G1 T) (A0 (qpv 0) (A0 A3 A1)))) (A8 N1 A3 (F7 A3w (by rfl) T.z_int (by rfl) (A0 (qpv 1) A1)))) A1)) (qgn 3 sc_b3)
    (A2 (qst 4 sc_b3 (qcK (J6 (K:=K) T) hr.mo (K5 T) (A0 (qpv 0) (A0 (T7 (qpv 1) (X3 (G9 (B9 (K:=K) rfl hr.units) (qpv 3) A3 (B2 _)))) A1))))
    (A2 (qst 5 sc_b3 (qix K (B6 (A0 A4 (A0 A4 (A0 A4 (A0 A4 A1))))) (qcK (D8 (K:=K) T) hr.mo (G1 T) (A0 (qpv 0) (A0 A3 A1)))))
    (A5 (G6 (C0 (K:=K) rfl Z1 Z2 Z3 F1 (qpv 2) (A0 (C4 (A0 (C4 (A0 (qpv 5) (A0 (qcK (D8 (K:=K) T) hr.mo (G1 T) (A0 (qpv 0) (A0 A3 A1))) A1))) (A0 (qcK (B2l (K:=K) T) hr.mo (C1r T) (A0 (A8 J2 (qix K (qpv 4) A3) (qix K (qpv 4) A3)) (A0 (qix K (qpv 4) A3) A1))) A1))) A1)))))))
   (A5 (B0 (qpv 2)))))),?_⟩
 haveI:=T.c2_ARC_WORDS
 refine Pu.G3 h ?_;rintro as Qp ⟨far,rfl,k⟩;refine hd fun R hR=>?_;trivial;subst hR;trivial;refine ⟨4,rfl,by decide,sm4 4,fun n n0 n4=>?_⟩;trivial;obtain ⟨_,⟨m,rfl,hm⟩,em⟩:=A0r (P:=fun x=>∃ m:Nat,x=PyData.int (m:Int)/\m<=3) (xs:=[PyData.int 0,PyData.int 1,PyData.int 2,PyData.int 3]) (d:=n) (by
  intro x hx;simp only [List.mem_cons,List.not_mem_nil,or_false] at hx;rcases hx with rfl | rfl | rfl | rfl
  ·exact ⟨0,rfl,by decide⟩
  ·exact ⟨1,rfl,by decide⟩
  ·exact ⟨2,rfl,by decide⟩
  ·exact ⟨3,rfl,by decide⟩) n0 n4
 refine K0 em ?_;trivial;obtain ⟨z,ez,hz,cz⟩:∃ z:Nat,((m:Int) + 20 * if far=true then 1 else 0)=(z:Int)/\z<=23/\B8k 20 (if far=true then 1 else 0):=by
  cases far
  ·exact ⟨m,by simp,by omega,by unfold My.Sm; decide,by unfold My.Sm; decide⟩
  ·exact ⟨m + 20,by simp,by omega,by unfold My.Sm; decide,by unfold My.Sm; decide⟩
 refine ⟨cz,?_⟩;rw [ez,Int.toNat_natCast];refine ⟨⟨by omega,by omega⟩,?_⟩;refine Y6 (fun i e=>∃ (ps:List (List Nat × Int × Rat)) (o3 o4 o5:Option SV),e=[some .st,some (.d (.bool far)),some (.own (ps.map caD)),o3,o4,o5]/\ps.length=i/\∀ p ∈ ps,CaOk p) ⟨[],_,_,_,rfl,rfl,fun _ z=>nomatch z⟩ ?_ ?_
 ·rintro i e hi ⟨ps,o3,o4,o5,rfl,hpl,hps⟩;refine C8 (fun e=>∃ q:Rat,e=[some .st,some (.d (.bool far)),some (.own (ps.map caD)),some (.d (.int (i:Int))),some (.d (dq q)),o5]/\0<=q/\q.num.natAbs + q.den < 10 ^ 60) (fun R hR=>?_) ?_
  ·cases far
   ·trivial;refine ⟨_,rfl,fun q q0 qs=>?_⟩;trivial;exact hR _ ⟨q,rfl,q0,qs⟩
   ·trivial;refine ⟨_,rfl,fun q q0 qs=>?_⟩;trivial;exact hR _ ⟨q,rfl,q0,qs⟩
  rintro e ⟨q,rfl,q0,qs⟩;refine hd fun R hR=>?_;trivial;refine ⟨4,rfl,by decide,sm4 4,fun c c0 c4=>?_⟩;trivial;obtain ⟨_,⟨w,rfl,hw⟩,ew⟩:=A0r (P:=fun x=>∃ w,x=PyData.str (sO w)/\w ∈ arcs) (d:=c) B5t c0 c4;refine K0 ew ?_;trivial;subst hR;trivial;refine ⟨100,rfl,by decide,sm4 100,fun d d0 d1=>?_⟩;trivial;obtain ⟨g1,g2,g3,g4⟩:=C39 q0 qs;refine ⟨_,_,rfl,by have:=q.den_pos; omega,C5o (A73 g4),C5o (A73 (show ((q.den:Int)).natAbs < 10 ^ 60 from sumR qs)),?_⟩;trivial;generalize Rat.divInt (q.num + (q.den:Int)) (q.den:Int)=r at *;refine ⟨by omega,ps++[(w,d,r)],_,_,_,by rw [Zc]; rfl,by rw [Ze,hpl]; rfl,fun z hz=>?_⟩;rcases Za hz with m | m
  ·exact hps z m
  ·rw [Zn m]; exact ⟨hw,d0,by show d<=99; omega,g2,g3,g1⟩
 ·rintro e ⟨ps,o3,o4,o5,rfl,hpl,hps⟩;trivial;exact k ps ⟨by omega,hps⟩
def B6v:Pu.PSp:=fun as Q=>∃ far:Bool,as=[.st,.d (.bool far)]/\∀ ps:LR,ps≠[]->ps.length<=10->(∀ p ∈ ps,StOk p)->Q (.own (ps.map stD))
theorem B7f (T:Txt K mg D):FnOk P w K mg base CX0 3 D.a_b9 D.d_b9 ["_law_state","_law_far"] (Pu.spOf K [.st,.dat] B6v):=by
 refine T.B.F_b9.ok sc_b9 (Zz rfl) (fun cdv A outer s H vs Q E hr h=>?_);refine ⟨_,(QSs.out (A2 (qst 2 sc_b9 (B6 A1))
   (A2 (Q8 Zf rfl (P8 rfl T.z_range (A0 (A8 J2 A3 (qcK (D8 (K:=K) T) hr.mo (G1 T) (A0 (qpv 0) (A0 (qix K (B6 (A0 A3 (A0 A3 A1))) (F7 A3w (by rfl) T.z_int (by rfl) (A0 (qpv 1) A1))) A1)))) A1)) (qgn 3 sc_b9)
    (A2 (qst 4 sc_b9 (qcK (J6 (K:=K) T) hr.mo (K5 T) (A0 (qpv 0) (A0 (T7 (qpv 1) (X3 (G9 (B9 (K:=K) rfl hr.units) (qpv 3) A3 (B2 _)))) A1))))
    (A2 (B7 (A6 (B9 (K:=K) rfl hr.units) (qcK (D8 (K:=K) T) hr.mo (G1 T) (A0 (qpv 0) (A0 A3 A1))) A3 (B2 _))
     (A5 (qst 4 sc_b9 (C4 (A0 (A8 A0i A3 (qix K (qpv 4) A3)) (A0 (qix K (qpv 4) A3) A1)))))
     A9)
    (A5 (G6 (C0 (K:=K) rfl Z1 Z2 Z3 F1 (qpv 2) (A0 (C4 (A0 (qpv 4) (A0 (qcK (J6 (K:=K) T) hr.mo (K5 T) (A0 (qpv 0) (A0 N7 A1))) A1))) A1)))))))
   (A5 (B0 (qpv 2)))))),?_⟩
 haveI:=T.c2_ARC_WORDS
 refine Pu.G3 h ?_;rintro as Qp ⟨far,rfl,k⟩;refine hd fun R hR=>?_;trivial;subst hR;trivial;have hg:∃ m:Nat,L2.atI [PyData.int 3,PyData.int 10] (if far=true then 1 else 0)=some (.int (m:Int))/\3<=m/\m<=10:=by
  cases far
  ·exact ⟨3,rfl,by decide,by decide⟩
  ·exact ⟨10,rfl,by decide,by decide⟩
 obtain ⟨m,em,m3,m10⟩:=hg;refine K0 em ?_;trivial;refine ⟨m,rfl,by omega,smN (n:=m) (by omega),fun n n0 n1=>?_⟩;trivial;obtain ⟨z,ez,hz⟩:∃ z:Nat,1 + n=(z:Int)/\0 < z/\z<=10:=⟨(1 + n).toNat,by omega,by omega,by omega⟩;rw [ez,Int.toNat_natCast];refine ⟨⟨by omega,by omega⟩,?_⟩;refine Y6 (fun i e=>∃ (ps:LR) (o3 o4:Option SV),e=[some .st,some (.d (.bool far)),some (.own (ps.map stD)),o3,o4]/\ps.length=i/\∀ p ∈ ps,StOk p) ⟨[],_,_,rfl,rfl,fun _ z=>nomatch z⟩ ?_ ?_
 ·rintro i e hi ⟨ps,o3,o4,rfl,hpl,hps⟩;refine C8 (fun e=>∃ q:Rat,e=[some .st,some (.d (.bool far)),some (.own (ps.map stD)),some (.d (.int (i:Int))),some (.d (dq q))]/\0<=q/\q.num.natAbs + q.den < 10 ^ 60) (fun R hR=>?_) ?_
  ·cases far
   ·trivial;refine ⟨_,rfl,fun q q0 qs=>?_⟩;trivial;exact hR _ ⟨q,rfl,q0,qs⟩
   ·trivial;refine ⟨_,rfl,fun q q0 qs=>?_⟩;trivial;exact hR _ ⟨q,rfl,q0,qs⟩
  rintro e ⟨q,rfl,q0,qs⟩;have q1:=sumL qs;have q2:=sumR qs;refine C8 (fun e=>∃ q:Rat,e=[some .st,some (.d (.bool far)),some (.own (ps.map stD)),some (.d (.int (i:Int))),some (.d (dq q))]/\q.num.natAbs < 10 ^ 60/\q.den < 10 ^ 60) (fun R hR=>?_) ?_
  ·trivial;refine ⟨4,rfl,by decide,sm4 4,fun c c0 c3=>?_⟩;trivial;refine ite2 (fun _=>?_) (fun _=>?_)
   ·rw [Int.zero_sub,B5a];exact hR _ ⟨-q,rfl,by show (-q.num).natAbs < _; rw [Int.natAbs_neg]; exact q1,q2⟩
   ·exact hR _ ⟨q,rfl,q1,q2⟩
  rintro e ⟨p,rfl,p1,p2⟩;trivial;refine ⟨_,rfl,fun r r0 rs=>?_⟩;have r1:=sumL rs;have r2:=sumR rs;trivial;refine ⟨by omega,ps++[(p,r)],_,_,by rw [Zc]; rfl,by rw [Ze,hpl]; rfl,fun z hz=>?_⟩;rcases Za hz with m | m
  ·exact hps z m
  ·rw [Zn m]; exact ⟨p1,p2,r1,r2,r0⟩
 ·rintro e ⟨ps,o3,o4,rfl,hpl,hps⟩;trivial;exact k ps (fun w=>by rw [w] at hpl; exact absurd hpl (by show ¬ 0=z; omega)) (by omega) hps
def B0l:Pu.PSp:=fun as Q=>∃ ns:List Int,as=[.d (.list (ns.map .int))]/\ns.length<=9/\∀ xs ps,SrOk xs ps->Q (.d (srD xs ps))
theorem B2j (T:Txt K mg D):FnOk P w K mg base CX0 4 D.a_b4 D.d_b4 ["_law_cells"] (Pu.spOf K [.dat] B0l):=by
 refine T.B.F_b4.ok sc_b4 (Zz rfl) (fun cdv A outer s H vs Q E hr h=>?_);refine ⟨_,(QSs.out (A2 (qst 1 sc_b4 (B6 A1))
   (A2 (qst 2 sc_b4 (B6 A1))
   (A2 (Q8 Zf rfl (A79 rfl T.z_range (A0 A3 (A0 (qln K T.z_len (qpv 0)) A1))) (qgn 3 sc_b4)
    (A2 (qst 4 sc_b4 (qcK (X8 (K:=K) T) hr.mo (A1u T) (A0 (qpv 0) (A0 (qpv 3) A1))))
    (A2 (qst 5 sc_b4 (qcK (J6 (K:=K) T) hr.mo (K5 T) (A0 (qpv 4) (A0 N7 A1))))
    (A2 (B7 (A6 (B9 (K:=K) rfl hr.units) (qcK (D8 (K:=K) T) hr.mo (G1 T) (A0 (qpv 4) (A0 A3 A1))) A3 (B2 _))
     (A5 (qst 5 sc_b4 (C4 (A0 (A8 A0i A3 (qix K (qpv 5) A3)) (A0 (qix K (qpv 5) A3) A1)))))
     A9)
    (A2 (qst 6 sc_b4 (qcK (J6 (K:=K) T) hr.mo (K5 T) (A0 (qpv 4) (A0 (G9 (B9 (K:=K) rfl hr.units) (qpv 3) A3 (B2 _)) A1))))
    (A2 (B7 (A6 (B9 (K:=K) rfl hr.units) (qcK (D8 (K:=K) T) hr.mo (G1 T) (A0 (qpv 4) (A0 A3 A1))) A3 (B2 _))
     (A5 (qst 6 sc_b4 (C4 (A0 (A8 A0i A3 (qix K (qpv 6) A3)) (A0 (qix K (qpv 6) A3) A1)))))
     A9)
    (A2 (G6 (C0 (K:=K) rfl Z1 Z2 Z3 F1 (qpv 1) (A0 (C4 (A0 (qpv 5) (A0 (qpv 6) (A0 (qcK (B7f (K:=K) T) hr.mo (C42 T) (A0 (qpv 4) (A0 (G9 (B9 (K:=K) rfl hr.units) (qpv 3) A3 (B2 _)) A1))) A1)))) A1)))
    (A5 (G6 (C0 (K:=K) rfl Z1 Z2 Z3 F1 (qpv 2) (A0 (qcK (A24 (K:=K) T) hr.mo (A7y T) (A0 (qpv 4) (A0 (G9 (B9 (K:=K) rfl hr.units) (qpv 3) A3 (B2 _)) A1))) A1)))))))))))
   (A2 (qst 7 sc_b4 (qcK (A24 (K:=K) T) hr.mo (A7y T) (A0 (qcK (X8 (K:=K) T) hr.mo (A1u T) (A0 (qpv 0) (A0 A3 A1))) (A0 N7 A1))))
   (A2 (B7 (A6 (B9 (K:=K) rfl hr.units) (qpv 1) (B6 A1) (B2 _))
    (A5 (B0 (C4 (A0 A4 (A0 (qpv 7) A1)))))
    A9)
   (A5 (B0 (C4 (A0 A4 (A0 (qpv 1) (A0 (qpv 2) (A0 (qpv 7) A1))))))))))))),?_⟩
 haveI:=T.c2_ARC_WORDS
 refine Pu.G3 h ?_;rintro as Qp ⟨ns,rfl,hn,k⟩;refine hd fun R hR=>?_;trivial;subst hR;refine hd fun R hR=>?_;trivial;subst hR;refine hd fun R hR=>?_;trivial;refine ⟨⟨by decide,by decide,by omega,by omega⟩,?_⟩;refine Y6 (fun i e=>∃ (xs:List BP) (o3 o4 o5 o6:Option SV),e=[some (.d (.list (ns.map .int))),some (.own (xs.map fun x=>bdD x.1)),some (.own (xs.map fun x=>ppD x.2)),o3,o4,o5,o6,none]/\xs.length=i/\∀ x ∈ xs,BdOk x.1/\PpOk x.2) ⟨[],_,_,_,_,rfl,rfl,fun _ z=>nomatch z⟩ ?_ ?_
 ·rintro i e hi ⟨xs,o3,o4,o5,o6,rfl,hx,hok⟩;refine hd fun R hR=>?_;trivial;refine ⟨ns,1 + (i:Int),rfl,by omega,by omega,?_⟩;trivial;subst hR;refine hd fun R hR=>?_;trivial;refine ⟨_,rfl,fun q q0 qs=>?_⟩;have q1:=sumL qs;have q2:=sumR qs;trivial;subst hR;refine C8 (fun e=>∃ q:Rat,e=[some (.d (.list (ns.map .int))),some (.own (xs.map fun x=>bdD x.1)),some (.own (xs.map fun x=>ppD x.2)),some (.d (.int (1 + (i:Int)))),some .st,some (.d (dq q)),o6,none]/\q.num.natAbs < 10 ^ 60/\q.den < 10 ^ 60) (fun R hR=>?_) ?_
  ·trivial;refine ⟨4,rfl,by decide,sm4 4,fun c c0 c3=>?_⟩;trivial;refine ite2 (fun _=>?_) (fun _=>hR _ ⟨q,rfl,q1,q2⟩);rw [Int.zero_sub,B5a];exact hR _ ⟨-q,rfl,by show (-q.num).natAbs < _; rw [Int.natAbs_neg]; exact q1,q2⟩
  rintro e ⟨p,rfl,p1,p2⟩;clear q1 q2 qs q0;refine hd fun R hR=>?_;trivial;refine ⟨_,rfl,fun q q0 qs=>?_⟩;have q1:=sumL qs;have q2:=sumR qs;trivial;subst hR;refine C8 (fun e=>∃ q:Rat,e=[some (.d (.list (ns.map .int))),some (.own (xs.map fun x=>bdD x.1)),some (.own (xs.map fun x=>ppD x.2)),some (.d (.int (1 + (i:Int)))),some .st,some (.d (dq p)),some (.d (dq q)),none]/\q.num.natAbs < 10 ^ 60/\q.den < 10 ^ 60) (fun R hR=>?_) ?_
  ·trivial;refine ⟨4,rfl,by decide,sm4 4,fun c c0 c3=>?_⟩;trivial;refine ite2 (fun _=>?_) (fun _=>hR _ ⟨q,rfl,q1,q2⟩);rw [Int.zero_sub,B5a];exact hR _ ⟨-q,rfl,by show (-q.num).natAbs < _; rw [Int.natAbs_neg]; exact q1,q2⟩
  rintro e ⟨r,rfl,r1,r2⟩;refine hd fun R hR=>?_;trivial;refine ⟨_,rfl,fun pl pne pl10 plok=>?_⟩;trivial;refine ⟨by omega,?_⟩;subst hR;trivial;refine ⟨_,rfl,fun pa pok=>?_⟩;trivial;refine ⟨by omega,xs++[((p,r,pl),pa)],_,_,_,_,by rw [Zc,Zc]; rfl,by rw [Ze,hx]; rfl,fun z hz=>?_⟩;rcases Za hz with m | m
  ·exact hok z m
  ·rw [Zn m]; exact ⟨⟨p1,p2,r1,r2,pne,pl10,plok⟩,pok⟩
 ·rintro e ⟨xs,o3,o4,o5,o6,rfl,hx,hok⟩;subst hR;dsimp only;refine hd fun R hR=>?_;trivial;refine ⟨ns,0,rfl,by decide,by omega,?_⟩;trivial;refine ⟨_,rfl,fun ps pok=>?_⟩;trivial;subst hR;by_cases hx0:xs=[]
  ·subst hx0;trivial;exact k [] ps ⟨(fun _ z=>nomatch z),pok,by decide⟩
  ·trivial;have ne:¬ ((PyData.list (xs.map fun x=>bdD x.1)).eqv (.list [])=true):=by
    cases xs with
    | nil=>exact absurd rfl hx0
    | cons a r=>intro z; cases z
   rw [if_neg ne];have hz:=k xs ps ⟨hok,pok,by omega⟩;unfold srD at hz;rw [if_neg hx0] at hz;refine ⟨U7 fun x _=>C9x _,?_,hz⟩;have h:PyData.depthAll (xs.map fun x=>bdD x.1)<=4:=A1q fun p _=>C9y _;exact Nat.succ_le_succ (Zx h (by decide))
def B6u:Pu.PSp:=fun as Q=>∃ xs ps,as=[.d (srD xs ps)]/\SrOk xs ps/\Q (.own ((srT xs ps).map fun r=>.str (sO r)))
theorem B7e (T:Txt K mg D):FnOk P w K mg base CX0 3 D.a_ba D.d_ba ["_law_stair_here"] (Pu.spOf K [.dat] B6u):=by
 refine T.B.F_ba.ok sc_ba (Zz rfl) (fun cdv A outer s H vs Q E hr h=>?_);refine ⟨_,(QSs.out (A2 (B7 (A6 (B9 (K:=K) rfl hr.units) (qix K (qpv 0) A3) A4 (B2 _))
    (A5 (B0 (B6 (A0 (A8 C5 A4 (qcK (N2 (K:=K) T) hr.mo (O9 T) (A0 (qix K (qpv 0) A3) A1))) A1))))
    A9)
   (A2 (qst 1 sc_ba (B6 A1))
   (A2 (Q8 Zf rfl (P8 rfl T.z_range (A0 (qln K T.z_len (qix K (qpv 0) A3)) A1)) (qgn 2 sc_ba)
    (A2 (L7 (qix K (qix K (qpv 0) A3) (qpv 2)) (E8 (K:=K) (n:=3) rfl rfl (B1 (qgn 3 sc_ba) (B1 (qgn 4 sc_ba) (B1 (qgn 5 sc_ba) E7))) rfl rfl))
    (A2 (qst 6 sc_ba (A8 C5 (A8 C5 (A8 C5 A4 (qcK (M3 (K:=K) T) hr.mo (P1 T) (A0 (qpv 3) A1))) A4) (qcK (M3 (K:=K) T) hr.mo (P1 T) (A0 (qpv 4) A1))))
    (A2 (G6 (C0 (K:=K) rfl Z1 Z2 Z3 F1 (qpv 1) (A0 (A8 C5 (A8 C5 (qpv 6) A4) (qcK (A23 (K:=K) T) hr.mo (A5d T) (A0 (qpv 5) A1))) A1)))
    (A5 (G6 (C0 (K:=K) rfl Z1 Z2 Z3 F1 (qpv 1) (A0 (A8 C5 A4 (qcK (N2 (K:=K) T) hr.mo (O9 T) (A0 (qix K (qix K (qpv 0) A3) (qpv 2)) A1))) A1))))))))
   (A2 (G6 (C0 (K:=K) rfl Z1 Z2 Z3 F1 (qpv 1) (A0 (A8 C5 A4 (qcK (N2 (K:=K) T) hr.mo (O9 T) (A0 (qix K (qpv 0) A3) A1))) A1)))
   (A5 (B0 (qpv 1)))))))),?_⟩
 haveI:=T.c2_ARC_WORDS
 refine Pu.G3 h ?_;rintro as Qp ⟨xs,ps,rfl,ok,k⟩;by_cases hx:xs=[]
 ·subst hx;have e:srD [] ps=.tuple [.str "none",ppD ps]:=if_pos rfl;rw [e];trivial;refine ⟨by decide +kernel,by decide +kernel,ps,rfl,by have:=ok.hp.le; omega,ok.hp.ok,?_⟩;trivial;have hl:=A6e ok.hp;rw [mNon,D0,B3,B3];exact ⟨by show 5 + _<=_; omega,k⟩
 ·have e:srD xs ps=.tuple [.str "stair",.list (xs.map fun x=>bdD x.1),.list (xs.map fun x=>ppD x.2),ppD ps]:=if_neg hx;have ek:srT xs ps=E6 xs++[brT ps]:=if_neg hx;rw [ek] at k;rw [e];refine hd fun R hR=>?_;trivial;refine ⟨by decide +kernel,by decide +kernel,?_⟩;rw [if_neg (by decide +kernel)];subst hR;refine hd fun R hR=>?_;trivial;subst hR;refine hd fun R hR=>?_;trivial;have hle:=ok.le;rw [Int.toNat_natCast];refine ⟨⟨by omega,by omega⟩,?_⟩;refine Y6 (fun i e=>∃ (o2 o3 o4 o5 o6:Option SV),e=[some (.d (.tuple [.str "stair",.list (xs.map fun x=>bdD x.1),.list (xs.map fun x=>ppD x.2),ppD ps])),some (.own (((E6 xs).take (2 * i)).map fun r=>.str (sO r))),o2,o3,o4,o5,o6]) ⟨_,_,_,_,_,rfl⟩ ?_ ?_
  ·rintro i e hi ⟨o2,o3,o4,o5,o6,rfl⟩;have hix:xs[i]?=some xs[i]:=Zg (by omega);have hio:=ok.h _ (List.getElem_mem (show i < xs.length by omega));generalize xs[i]=x at hix hio;refine hd fun R hR=>?_;trivial;refine K0 (K2 (by rw [Zh,hix]; rfl)) ?_;unfold bdD;trivial;subst hR;refine hd fun R hR=>?_;trivial;have bo:=hio.1;have r1:=W7 bo.n1 bo.d1;have r2:=W7 bo.n2 bo.d2;have r3:=B9d bo.le bo.ok;have r4:=A6e hio.2;refine ⟨x.1.1,rfl,bo.n1,bo.d1,?_⟩;trivial;rw [show Str.ofString "bend "=sO (wBnd++[32]) by decide +kernel,m32];simp only [D0,B3];have e5:(wBnd++[32]).length=5:=rfl;refine ⟨by omega,by rw [Ze,e5]; show _ + 1<=_; omega,x.1.2.1,rfl,bo.n2,bo.d2,?_⟩;trivial;simp only [D0,B3];refine ⟨by simp only [List.length_append,List.length_cons,List.length_nil,e5]; omega,?_⟩;subst hR;refine hd fun R hR=>?_;trivial;rw [m32];simp only [D0,B3];refine ⟨by simp only [List.length_append,List.length_cons,List.length_nil,e5]; omega,x.1.2.2,rfl,bo.le,bo.ok,?_⟩;trivial;simp only [D0,B3];refine ⟨by simp only [List.length_append,List.length_cons,List.length_nil,e5]; omega,by rw [List.length_take,D1]; omega,?_⟩;subst hR;trivial;refine K0 (K2 (by rw [Zh,hix]; rfl)) ?_;trivial;refine ⟨x.2,rfl,by have:=hio.2.le; omega,hio.2.ok,?_⟩;trivial;rw [show Str.ofString "paper "=sO (wPap++[32]) by decide +kernel];simp only [D0,B3];have e6:(wPap++[32]).length=6:=rfl;have b1:wBnd++[32]++rtL x.1.1++[32]++rtL x.1.2.1++[32]++plT x.1.2.2=bdT x.1:=by unfold bdT; simp
   have b2:wPap++[32]++paT x.2=ppT x.2:=by unfold ppT; simp
   rw [A77 hix,Zc,b1,b2,List.append_assoc];exact ⟨by simp only [List.length_append,List.length_cons,List.length_nil,e6]; omega,by rw [Ze,Zl,List.length_take,D1]; show _ + 1 < _; omega,_,_,_,_,_,rfl⟩
  ·rintro e ⟨o2,o3,o4,o5,o6,rfl⟩;subst hR;dsimp only;refine hd fun R hR=>?_;trivial;have hl:=A6e ok.hp;refine ⟨ps,rfl,by have:=ok.hp.le; omega,ok.hp.ok,?_⟩;trivial;rw [show Str.ofString "bar "=sO (wBar++[32]) by decide +kernel];simp only [D0,B3];have e4:(wBar++[32]).length=4:=rfl;refine ⟨by omega,by rw [List.length_take]; omega,?_⟩;subst hR;trivial;rw [List.take_of_length_le (by rw [D1]; exact Zv _)];rw [Zc] at k;have eb:wBar++[32]++paT ps=brT ps:=by unfold brT; simp
   rw [eb];exact k
def B0n:Pu.PSp:=fun as Q=>∃ d:Int,as=[.d (.int d)]/\0<=d/\d < 100000/\∀ x,OdR x->Q (.d (.str (sO x)))
theorem X7 (T:Txt K mg D):FnOk P w K mg base CX0 1 D.a_be D.d_be ["_law_turn"] (Pu.spOf K [.dat] B0n):=by
 refine T.B.F_be.ok sc_be (Zz rfl) (fun cdv A outer s H vs Q E hr h=>?_);refine' Exists.intro _ (And.intro (QSs.out ?h) ?g)
 case h =>
  exact (A2 (qst 1 sc_be (B6 (A0 A4 (A0 A4 (A0 A4 (A0 A4 (A0 A4 (A0 A4 (A0 A4 (A0 A4 (A0 A4 A1)))))))))))
   (A2 (qst 1 sc_be (A8 (G2 (K:=K) rfl) (qpv 1) (B6 (A0 A4 (A0 A4 (A0 A4 (A0 A4 (A0 A4 (A0 A4 A1)))))))))
   (A2 (qst 1 sc_be (A8 (G2 (K:=K) rfl) (qpv 1) (B6 (A0 A4 (A0 A4 (A0 A4 (A0 A4 (A0 A4 (A0 A4 (A0 A4 (A0 A4 A1)))))))))))
   (A2 (qst 1 sc_be (A8 (G2 (K:=K) rfl) (qpv 1) (B6 (A0 A4 (A0 A4 (A0 A4 (A0 A4 (A0 A4 (A0 A4 (A0 A4 (A0 A4 (A0 A4 A1))))))))))))
   (A2 (qst 1 sc_be (A8 (G2 (K:=K) rfl) (qpv 1) (B6 (A0 A4 (A0 A4 (A0 A4 (A0 A4 (A0 A4 (A0 A4 (A0 A4 (A0 A4 A1)))))))))))
   (A2 (qst 1 sc_be (A8 (G2 (K:=K) rfl) (qpv 1) (V7 rfl (M4 ["_law_word"] [none]) (X2 (K:=K) rfl (B6 (A0 A4 (A0 A4 (A0 A4 A1))))) (fun _ _ _=>(qgc 0 ["_law_word"])) (fun _ _ _=>P6) (fun _ _ _=>(A8 C5 (A8 C5 (qpv 0) (A8 A4v A4 A3)) A4)))))
   (A2 (qst 1 sc_be (A8 (G2 (K:=K) rfl) (qpv 1) (B6 (A0 (A8 C5 (A8 C5 A4 (A8 A4v A4 A3)) A4) (A0 (A8 C5 (A8 C5 A4 (A8 A4v A4 A3)) A4) (A0 A4 A1))))))
   (A5 (B0 (qix K (qpv 1) (A8 J1 (qpv 0) A3)))))))))))
 case g =>
  haveI:=T.c2_NOUGHT
  haveI:=T.c2_ARC_WORDS
  refine Pu.G3 h ?_;rintro as Qp ⟨d,rfl,d0,d1,k⟩;refine C8 (fun e=>∃ ds:LP,e=[some (.d (.int d)),some (.own ds)]/\ds.length=9/\AllO ds) (fun R hR=>?_) ?_
  ·simp only [pSeq,pAsg];trivial;exact hR _ ⟨_,rfl,rfl,T3 (by decide +kernel)⟩
  rintro e ⟨ds,rfl,hl,ho⟩;refine C8 (fun e=>∃ ds:LP,e=[some (.d (.int d)),some (.own ds)]/\ds.length=15/\AllO ds) (fun R hR=>?_) ?_
  ·simp only [pSeq,pAsg];trivial;exact ⟨by omega,hR _ ⟨_,rfl,by rw [Ze,hl]; rfl,ho.app (T3 (by decide +kernel))⟩⟩
  clear hl ho ds;rintro e ⟨ds,rfl,hl,ho⟩;refine C8 (fun e=>∃ ds:LP,e=[some (.d (.int d)),some (.own ds)]/\ds.length=23/\AllO ds) (fun R hR=>?_) ?_
  ·simp only [pSeq,pAsg];trivial;exact ⟨by omega,hR _ ⟨_,rfl,by rw [Ze,hl]; rfl,ho.app (T3 (by decide +kernel))⟩⟩
  clear hl ho ds;rintro e ⟨ds,rfl,hl,ho⟩;refine C8 (fun e=>∃ ds:LP,e=[some (.d (.int d)),some (.own ds)]/\ds.length=32/\AllO ds) (fun R hR=>?_) ?_
  ·simp only [pSeq,pAsg];trivial;exact ⟨by omega,hR _ ⟨_,rfl,by rw [Ze,hl]; rfl,ho.app (T3 (by decide +kernel))⟩⟩
  clear hl ho ds;rintro e ⟨ds,rfl,hl,ho⟩;refine C8 (fun e=>∃ ds:LP,e=[some (.d (.int d)),some (.own ds)]/\ds.length=40/\AllO ds) (fun R hR=>?_) ?_
  ·simp only [pSeq,pAsg];trivial;exact ⟨by omega,hR _ ⟨_,rfl,by rw [Ze,hl]; rfl,ho.app (T3 (by decide +kernel))⟩⟩
  clear hl ho ds;rintro e ⟨ds,rfl,hl,ho⟩;refine C8 (fun e=>∃ ds:LP,e=[some (.d (.int d)),some (.own ds)]/\ds.length=43/\AllO ds) (fun R hR=>?_) ?_
  ·simp only [pSeq,pAsg];trivial;have hm:=C8t;have hxs:∀ s ∈ [Str.ofString "paper ",Str.ofString "bar ",Str.ofString "none "],s.length<=6:=by decide +kernel
   refine ⟨by decide,Q3 (f:=PyData.str) (xs:=[Str.ofString "paper ",Str.ofString "bar ",Str.ofString "none "]) (fun i e ys=>(∃ o1:Option SV,e=[o1])/\ys=(([Str.ofString "paper ",Str.ofString "bar ",Str.ofString "none "]).take i).map fun s=>PyData.str (s++Txt.mul (Str.ofString "end 1 1, ") 100++Str.ofString "end 1 1")) ⟨⟨_,rfl⟩,rfl⟩ ?_ ?_⟩
   ·rintro i p e ys hi ⟨⟨o1,rfl⟩,rfl⟩;have hp:=hxs p (Zm hi);trivial;refine ⟨by decide,by decide +kernel,by rw [hm]; omega,?_,⟨_,rfl⟩,?_⟩
    ·have e1:(p++Txt.mul (Str.ofString "end 1 1, ") 100).length=p.length + 900:=by rw [M7,hm]
     have e2:(Str.ofString "end 1 1").length=7:=by decide +kernel
     rw [e1,e2]; omega
    ·rw [List.take_add_one,hi,Option.toList_some,Zc]; rfl
   ·rintro e ys ⟨⟨o1,rfl⟩,rfl⟩;rw [List.take_length];trivial;exact ⟨by omega,hR _ ⟨_,rfl,by rw [Ze,hl]; rfl,ho.app B7o⟩⟩
  clear hl ho ds;rintro e ⟨ds,rfl,hl,ho⟩;refine C8 (fun e=>∃ ds:LP,e=[some (.d (.int d)),some (.own ds)]/\ds.length=46/\AllO ds) (fun R hR=>?_) ?_
  ·simp only [pSeq,pAsg];trivial;have e1:(Str.ofString "bend 1 2 ").length=9:=by decide +kernel
   have e2:(Str.ofString "0 1").length=3:=by decide +kernel
   have e3:(Str.ofString "bend ").length=5:=by decide +kernel
   have e4:(Str.ofString " 2 3 4").length=6:=by decide +kernel
   have e5:=D0j;exact ⟨by decide,by decide +kernel,by rw [e1,e5.1]; decide,by rw [M7,e1,e5.1,e2]; decide,by decide,by decide +kernel,by rw [e3,e5.2]; decide,by rw [M7,e3,e5.2,e4]; decide,by omega,hR _ ⟨_,rfl,by rw [Ze,hl]; rfl,ho.app C2g⟩⟩
  clear hl ho ds;rintro e ⟨ds,rfl,hl,ho⟩;trivial;obtain ⟨_,⟨x,rfl,ox⟩,e⟩:=A0r (P:=fun y=>∃ x,y=PyData.str (sO x)/\OdR x) (xs:=ds) (d:=d % 46) ho (Int.emod_nonneg d (by decide)) (by rw [hl]; exact Int.emod_lt_of_pos d (by decide));exact ⟨by decide,K0 e (k x ox)⟩
def A2k:Pu.PSp:=fun as Q=>∃ (a m t:Nat),as=[.d (.int (a:Int)),.d (.int (m:Int)),.d (.int (t:Int))]/\a<=m/\0 < m/\m<=17/\t < 100000/\∀ x,WrR m a x->Q (.d (.str (sO x)))
theorem A22 (T:Txt K mg D):FnOk P w K mg base CX0 2 D.a_a5 D.d_a5 ["_law_at","_law_many","_law_turn"] (Pu.spOf K [.dat,.dat,.dat] A2k):=by
 refine T.B.F_a5.ok sc_a5 (Zz rfl) (fun cdv A outer s H vs Q E hr h=>?_);refine ⟨_,(QSs.out (A2 (qst 3 sc_a5 (B6 (A0 A4 (A0 A4 (A0 A4 (A0 (qcK (X7 (K:=K) T) hr.mo (A37 T) (A0 (A8 J5 (qpv 2) A3) A1)) A1))))))
   (A2 (B7 (A6 (B9 (K:=K) rfl hr.units) (qpv 0) A3 (B2 _))
    (A5 (qst 3 sc_a5 (B6 (A0 A4 (A0 A4 (A0 (qcK (X7 (K:=K) T) hr.mo (A37 T) (A0 (A8 J5 (qpv 2) A3) A1)) (A0 A4 A1)))))))
    A9)
   (A2 (B7 (A6 (B9 (K:=K) rfl hr.units) (A8 J1 (qpv 0) A3) A3 (B2 _))
    (A5 (qst 3 sc_a5 (B6 (A0 A4 (A0 A4 (A0 A4 (A0 (qcK (X7 (K:=K) T) hr.mo (A37 T) (A0 (A8 J5 (qpv 2) A3) A1)) A1)))))))
    A9)
   (A2 (B7 (A6 (B9 (K:=K) rfl hr.units) (qpv 0) (qpv 1) (B2 _))
    (A5 (qst 3 sc_a5 (B6 (A0 A4 (A0 A4 (A0 A4 (A0 A4 (A0 (qcK (X7 (K:=K) T) hr.mo (A37 T) (A0 (A8 J5 (qpv 2) A3) A1)) (A0 A4 A1)))))))))
    A9)
   (A5 (B0 (qix K (qpv 3) (A8 J1 (qpv 2) (qln K T.z_len (qpv 3))))))))))),?_⟩
 haveI:=T.c2_ARC_WORDS
 refine Pu.G3 h ?_;rintro as Qp ⟨a,m,t,rfl,am,m0,m17,ht,k⟩;have odd:∀ {R:List Nat->Prop},((∀ x,OdR x->R x)->(C99 (t:Int) 8/\B0n [SV.d (PyData.int ((t:Int).fdiv 8))] fun s=>∃ x,s=.d (.str (sO x))/\R x)):=fun h=>by
  rw [Int.fdiv_eq_ediv_of_nonneg _ (by decide)];exact ⟨⟨by decide,by unfold My.Sm; decide⟩,(t:Int) / 8,rfl,by omega,by omega,fun x ox=>⟨x,rfl,h x ox⟩⟩
 refine C8 (fun e=>∃ ds,e=[some (.d (.int (a:Int))),some (.d (.int (m:Int))),some (.d (.int (t:Int))),some (.own ds)]/\ds.length=4/\AllR (fun x=>rowR 1 1 x=none) ds) (fun R hR=>?_) ?_
 ·trivial;rw [Int.fdiv_eq_ediv_of_nonneg _ (by decide)];refine ⟨⟨by decide,by unfold My.Sm; decide⟩,(t:Int) / 8,rfl,by omega,by omega,fun x ox=>?_⟩;trivial;exact hR _ ⟨_,rfl,rfl,L5 (by decide +kernel) (R9 (by decide +kernel)) (L5 (by decide +kernel) (R9 (by decide +kernel)) (L5 (by decide +kernel) (R9 (by decide +kernel)) (P2 ox.ok ox.b W3)))⟩
 rintro e ⟨ds,rfl,dl,dw⟩;refine C8 (fun e=>∃ ds,e=[some (.d (.int (a:Int))),some (.d (.int (m:Int))),some (.d (.int (t:Int))),some (.own ds)]/\ds.length=4/\AllR (fun x=>(a=0->stB x)/\(0 < a->rowR 1 1 x=none)) ds) (fun R hR=>?_) ?_
 ·trivial;refine ite2 (fun z=>?_) (fun z=>hR _ ⟨_,rfl,dl,dw.imp fun x _ h=>⟨fun y=>absurd y (by omega),fun _=>h⟩⟩);rw [Int.fdiv_eq_ediv_of_nonneg _ (by decide)];refine ⟨⟨by decide,by unfold My.Sm; decide⟩,(t:Int) / 8,rfl,by omega,by omega,fun x ox=>?_⟩;trivial;have no:0 < a->∀ x,rowR 1 1 x=none:=fun y=>absurd y (by omega);exact hR _ ⟨_,rfl,rfl,L5 (by decide +kernel) ⟨fun _=>A5s (by decide +kernel),fun y=>no y _⟩ (L5 (by decide +kernel) ⟨fun _=>A5s (by decide +kernel),fun y=>no y _⟩ (P2 ox.ok ⟨fun _=>ox.s,fun y=>no y _⟩ (L5 (by decide +kernel) ⟨fun _=>A5s (by decide +kernel),fun y=>no y _⟩ W3)))⟩
 clear dl dw ds;rintro e ⟨ds,rfl,dl,dw⟩;refine C8 (fun e=>∃ ds,e=[some (.d (.int (a:Int))),some (.d (.int (m:Int))),some (.d (.int (t:Int))),some (.own ds)]/\ds.length=4/\AllR (fun x=>(a=0->stB x)/\(0 < a->a % 2=0->rowR 1 1 x=none)/\(a % 2=1->rowR 1 0 x=none)) ds) (fun R hR=>?_) ?_
 ·trivial;refine ⟨by decide,ite2 (fun z=>?_) (fun z=>hR _ ⟨_,rfl,dl,dw.imp fun x _ h=>⟨h.1,fun y _=>h.2 y,fun y=>absurd y (by omega)⟩⟩)⟩;rw [Int.fdiv_eq_ediv_of_nonneg _ (by decide)];refine ⟨⟨by decide,by unfold My.Sm; decide⟩,(t:Int) / 8,rfl,by omega,by omega,fun x ox=>?_⟩;trivial;have no:∀ x,a % 2=0->rowR 1 1 x=none:=fun x y=>absurd y (by omega);have no2:∀ x,a=0->stB x:=fun x y=>absurd y (by omega);exact hR _ ⟨_,rfl,rfl,L5 (by decide +kernel) ⟨no2 _,fun _=>no _,fun _=>R9 (by decide +kernel)⟩ (L5 (by decide +kernel) ⟨no2 _,fun _=>no _,fun _=>R9 (by decide +kernel)⟩ (L5 (by decide +kernel) ⟨no2 _,fun _=>no _,fun _=>R9 (by decide +kernel)⟩ (P2 ox.ok ⟨no2 _,fun _=>no _,fun _=>ox.a⟩ W3)))⟩
 clear dl dw ds;rintro e ⟨ds,rfl,dl,dw⟩;refine C8 (fun e=>∃ ds,e=[some (.d (.int (a:Int))),some (.d (.int (m:Int))),some (.d (.int (t:Int))),some (.own ds)]/\(0 < ds.length/\ds.length<=6)/\AllR (fun x=>WrR m a x) ds) (fun R hR=>?_) ?_
 ·trivial;refine ite2 (fun z=>?_) (fun z=>hR _ ⟨_,rfl,by omega,dw.imp fun x h0 h=>⟨h0,fun y _=>h.1 y,fun _ _ y=>h.2.2 y,fun y _ v=>h.2.1 y v⟩⟩);rw [Int.fdiv_eq_ediv_of_nonneg _ (by decide)];refine ⟨⟨by decide,by unfold My.Sm; decide⟩,(t:Int) / 8,rfl,by omega,by omega,fun x ox=>?_⟩;trivial;have any:∀ x,RwOk x->WrR m a x:=fun x h=>⟨h,fun _ y=>absurd y (by omega),fun _ y=>absurd y (by omega),fun _ y=>absurd y (by omega)⟩;have any2:∀ s:Str,rwB s.cps.toList=true->WrR m a s.cps.toList:=fun s h=>any _ (A16 h);exact hR _ ⟨_,rfl,⟨Nat.zero_lt_succ _,Zv 6⟩,L5 (by decide +kernel) (any2 _ (by decide +kernel)) (L5 (by decide +kernel) (any2 _ (by decide +kernel)) (L5 (by decide +kernel) (any2 _ (by decide +kernel)) (L5 (by decide +kernel) (any2 _ (by decide +kernel)) (P2 ox.ok (any _ ox.ok) (L5 (by decide +kernel) (any2 _ (by decide +kernel)) W3)))))⟩
 clear dl dw ds odd;rintro e ⟨ds,rfl,dl,dw⟩;trivial;obtain ⟨_,⟨x,rfl,_,hx⟩,e⟩:=A0r (P:=fun y=>∃ x,y=PyData.str (sO x)/\RwOk x/\WrR m a x) (xs:=ds) (d:=(t:Int) % (ds.length:Int)) dw (Int.emod_nonneg _ (by omega)) (Int.emod_lt_of_pos _ (by omega));exact ⟨by omega,K0 e (k x hx)⟩
def A4o:Pu.PSp:=fun as Q=>∃ (l:List Nat) (t:Int),as=[.d (.str (sO l)),.d (.int t)]/\l.length<=4100/\0<=t/\t < 1000000/\∀ c a b,strC c=true->c≠10->l=a++b->Q (.d (.str (sO (a++c :: b))))
theorem A4x (T:Txt K mg D):FnOk P w K mg base CX0 1 D.a_a8 D.d_a8 ["_law_text","_law_turn"] (Pu.spOf K [.dat,.dat] A4o):=by
 refine T.B.F_a8.ok sc_a8 (Zz rfl) (fun cdv A outer s H vs Q E hr h=>?_);refine ⟨_,(QSs.out (A2 (qst 2 sc_a8 A4)
   (A2 (qst 3 sc_a8 (A8 J1 (A8 J5 (qpv 1) A3) (A8 J2 (qln K T.z_len (qpv 0)) A3)))
   (A5 (B0 (A8 C5 (A8 C5 (C3 A9v (qpv 0) D6 (D5 (qpv 3))) (qix K (qpv 2) (A8 J1 (qpv 1) A3))) (C3 A9v (qpv 0) (D5 (qpv 3)) D6))))))),?_⟩
 haveI:=T.c2_ARC_WORDS
 refine Pu.G3 h ?_;rintro as Qp ⟨l,t,rfl,hl,t0,t1,k⟩;trivial;rw [B3,mStr,Int.fdiv_eq_ediv_of_nonneg t (by decide)];obtain ⟨i,hi,ei⟩:∃ i:Nat,i<=l.length/\t / 51 % ((l.length:Int) + 1)=(i:Int):=by
  have a0:=Int.emod_nonneg (t / 51) (show (l.length:Int) + 1≠0 by omega);have a1:=Int.emod_lt_of_pos (t / 51) (show 0 < (l.length:Int) + 1 by omega);exact ⟨(t / 51 % ((l.length:Int) + 1)).toNat,by omega,by omega⟩
 rw [ei,B6b hi,B6c hi];obtain ⟨c,hc,ec⟩:∃ c,(strC c=true/\c≠10)/\L2.atI strL (t % 51)=some c:=by
  have a0:=Int.emod_nonneg t (show (51:Int)≠0 by decide);have a1:=Int.emod_lt_of_pos t (show (0:Int) < 51 by decide);obtain ⟨j,ej⟩:=Zi a0;have hj:j < strL.length:=by rw [show strL.length=51 from rfl]; omega
  refine ⟨strL[j],⟨List.all_eq_true.mp B58 _ (List.getElem_mem hj),?_⟩,?_⟩
  ·have:∀ c ∈ strL,c≠10:=by decide
   exact this _ (List.getElem_mem hj)
  rw [ej];exact K2 (Zg hj)
 have g:=k c _ _ hc.1 hc.2 (List.take_append_drop i l).symm;have e0:sO (l.take i)++sO [c]++sO (l.drop i)=sO (l.take i++c :: l.drop i):=by rw [D0,D0]; simp
 have hlt:(l.take i).length=i:=by rw [List.length_take]; omega
 have hld:(l.drop i).length=l.length - i:=by rw [List.length_drop]
 refine ⟨⟨by decide,by unfold Sm; decide⟩,by omega,by omega,by omega,by decide,by decide,c,ec,?_⟩;unfold sgn;trivial;rw [show (⟨#[c]⟩:Str)=sO [c] from rfl,e0,D0];refine ⟨by rw [B3,B3]; show _ + 1<=_; omega,by omega,by rw [B3,B3,Ze]; show _ + 1 + _<=_; omega,g⟩
def A8g:Pu.PSp:=fun as Q=>∃ xs ps,as=[.d (.list ((srT xs ps).map fun r=>.str (sO r))),.st]/\SrOk xs ps/\∀ rows i,SpR rows i->Q (.d (.tuple [.list (rows.map fun r=>.str (sO r)),.int (i:Int)]))
theorem A8m (T:Txt K mg D):FnOk P w K mg base CX0 3 D.a_ac D.d_ac ["_law_rows_here","_law_state"] (Pu.spOf K [.dat,.st] A8g):=by
 refine T.B.F_ac.ok sc_ac (Zz rfl) (fun cdv A outer s H vs Q E hr h=>?_);refine ⟨_,(QSs.out (A2 (qst 2 sc_ac (qcK (D8 (K:=K) T) hr.mo (G1 T) (A0 (qpv 1) (A0 A3 A1))))
   (A2 (qst 3 sc_ac (qcK (D8 (K:=K) T) hr.mo (G1 T) (A0 (qpv 1) (A0 (A8 J2 (qln K T.z_len (qpv 0)) A3) A1))))
   (A2 (qst 4 sc_ac (qcK (D8 (K:=K) T) hr.mo (G1 T) (A0 (qpv 1) (A0 A3 A1))))
   (A2 (B7 (A6 A8k (qpv 2) A3 (B2 _))
    (A2 (qst 5 sc_ac (qix K (B6 (A0 (C3 (F4 (K:=K) rfl) (qpv 0) (D5 (qpv 3)) D6) (A0 (C3 (F4 (K:=K) rfl) (qpv 0) (D5 (A8 J2 (qpv 3) A3)) D6) (A0 (B6 A1) A1)))) (qcK (D8 (K:=K) T) hr.mo (G1 T) (A0 (qpv 1) (A0 A3 A1)))))
    (A2 (qst 5 sc_ac (A8 (G2 (K:=K) rfl) (qpv 5) (A8 C35 (B6 (A0 (qcK (X7 (K:=K) T) hr.mo (A37 T) (A0 (A8 J5 (qpv 4) A3) A1)) A1)) (qcK (D8 (K:=K) T) hr.mo (G1 T) (A0 (qpv 1) (A0 A3 A1))))))
    (A5 (B0 (C4 (A0 (A8 (G2 (K:=K) rfl) (A8 (G2 (K:=K) rfl) (C3 (F4 (K:=K) rfl) (qpv 0) D6 (D5 (qpv 3))) (B6 (A0 (qcK (A22 (K:=K) T) hr.mo (A5c T) (A0 (qpv 3) (A0 (qln K T.z_len (qpv 0)) (A0 (qpv 4) A1)))) A1))) (qpv 5)) (A0 (qpv 3) A1)))))))
    A9)
   (A2 (B7 (A6 (B9 (K:=K) rfl hr.units) (qpv 2) A3 (B2 _))
    (A2 (qst 3 sc_ac (A8 J1 (qpv 3) (qln K T.z_len (qpv 0))))
    (A5 (B0 (C4 (A0 (C3 (F4 (K:=K) rfl) (qpv 0) D6 (D5 (qpv 3))) (A0 (qpv 3) A1))))))
    A9)
   (A2 (B7 (A6 (B9 (K:=K) rfl hr.units) (qpv 2) A3 (B2 _))
    (A2 (qst 3 sc_ac (A8 J1 (qpv 3) (qln K T.z_len (qpv 0))))
    (A5 (B0 (C4 (A0 (A8 (G2 (K:=K) rfl) (A8 (G2 (K:=K) rfl) (C3 (F4 (K:=K) rfl) (qpv 0) D6 (D5 (qpv 3))) (B6 (A0 (qcK (A4x (K:=K) T) hr.mo (A83 T) (A0 (qix K (qpv 0) (qpv 3)) (A0 (qpv 4) A1))) A1))) (C3 (F4 (K:=K) rfl) (qpv 0) (D5 (A8 J2 (qpv 3) A3)) D6)) (A0 (qpv 3) A1))))))
    A9)
   (A2 (B7 (A6 (B9 (K:=K) rfl hr.units) (qln K T.z_len (qpv 0)) A3 (B2 _))
    (A5 (B0 (C4 (A0 (A8 (G2 (K:=K) rfl) (qpv 0) (qpv 0)) (A0 A3 A1)))))
    A9)
   (A2 (qst 3 sc_ac (A8 J1 (qpv 3) (A8 A0i (qln K T.z_len (qpv 0)) A3)))
   (A2 (B7 (A6 (B9 (K:=K) rfl hr.units) (qpv 3) (A8 A0i (qln K T.z_len (qpv 0)) A3) (B2 _))
    (A5 (B0 (C4 (A0 (A8 (G2 (K:=K) rfl) (C3 (F4 (K:=K) rfl) (qpv 0) D6 (D5 (qpv 3))) (C3 (F4 (K:=K) rfl) (qpv 0) (D5 (A8 J2 (qpv 3) A3)) D6)) (A0 (qpv 3) A1)))))
    A9)
   (A2 (B7 (A6 (B9 (K:=K) rfl hr.units) (A8 J1 (qpv 4) A3) A3 (B2 _))
    (A5 (B0 (C4 (A0 (A8 (G2 (K:=K) rfl) (C3 (F4 (K:=K) rfl) (qpv 0) D6 (D5 (qpv 3))) (C3 (F4 (K:=K) rfl) (qpv 0) (D5 (A8 J2 (qpv 3) A3)) D6)) (A0 (qpv 3) A1)))))
    A9)
   (A5 (B0 (C4 (A0 (A8 (G2 (K:=K) rfl) (C3 (F4 (K:=K) rfl) (qpv 0) D6 (D5 (A8 J2 (qpv 3) A3))) (C3 (F4 (K:=K) rfl) (qpv 0) (D5 (qpv 3)) D6)) (A0 (A8 J2 (qpv 3) A3) A1)))))))))))))))),?_⟩
 haveI:=T.c2_ARC_WORDS
 refine Pu.G3 h ?_;rintro as Qp ⟨xs,ps,rfl,ok,k⟩;have hle:=ok.le;have hlen:=J8 (xs:=xs) (ps:=ps);refine hd fun R hR=>?_;trivial;refine ⟨5,rfl,by decide,sm4 5,fun way w0 w5=>?_⟩;trivial;subst hR;refine hd fun R hR=>?_;trivial;refine ⟨((srT xs ps).length:Int) + 1,rfl,by omega,smN (n:=(srT xs ps).length + 1) (by omega),fun a a0 a1=>?_⟩;obtain ⟨i,rfl⟩:=Zi a0;trivial;subst hR;refine hd fun R hR=>?_;trivial;refine ⟨100000,rfl,by decide,by unfold My.Sm; decide,fun t t0 t1=>?_⟩;obtain ⟨t,rfl⟩:=Zi t0;trivial;subst hR;refine hd fun R hR=>?_;trivial;refine ite2 (fun z=>?_) (fun z=>?_)
 ·refine ⟨3,rfl,by decide,sm4 3,fun c c0 c3=>?_⟩;trivial;rw [Q2,show ((i:Int) + 1)=((i + 1:Nat):Int) from rfl,Q2];have hrow:=M0 ok;have hil:i<=(srT xs ps).length:=by omega
  obtain ⟨_,⟨q,rfl,hq,ql⟩,eq⟩:=A0r (P:=fun y=>∃ q:List (List Nat),y=PyData.list (q.map fun r=>PyData.str (sO r))/\(∀ r ∈ q,RwOk r)/\i + q.length<=17) (d:=c) (xs:=[.list (((srT xs ps).drop i).map fun r=>PyData.str (sO r)),.list (((srT xs ps).drop (i + 1)).map fun r=>PyData.str (sO r)),.list []]) (by
   intro y hy;simp only [List.mem_cons,List.not_mem_nil,or_false] at hy;rcases hy with rfl | rfl | rfl
   ·exact ⟨_,rfl,Y7 hrow,by rw [List.length_drop]; omega⟩
   ·exact ⟨_,rfl,Y7 hrow,by rw [List.length_drop]; omega⟩
   ·exact ⟨[],rfl,(fun _ z=>nomatch z),by show i + 0<=_; omega⟩) c0 c3
  refine K0 eq ?_;trivial;rw [Int.fdiv_eq_ediv_of_nonneg _ (by decide)];refine ⟨⟨by decide,by unfold My.Sm; decide⟩,(t:Int) / 7,rfl,by omega,by omega,fun x ox=>?_⟩;trivial;refine ⟨_,rfl,2,rfl,by decide,sm4 2,fun d d0 d2=>?_⟩;trivial;refine ⟨d,rfl,d0,by omega,?_⟩;rw [C2k];have hd2:d.toNat<=1:=by omega
  generalize d.toNat=n at *;refine ⟨by rw [Zl,List.length_replicate]; omega,?_⟩;rw [A1l];have hq2:∀ r ∈ q++List.replicate n x,RwOk r:=B5u hq fun r hr=>by rw [List.eq_of_mem_replicate hr]; exact ox.ok
  have hl2:i + (q++List.replicate n x).length<=18:=by rw [Ze,List.length_replicate]; omega
  generalize q++List.replicate n x=rest at *;trivial;refine ⟨i,(srT xs ps).length,t,rfl,hil,by omega,by omega,by omega,fun y w=>?_⟩;trivial;rw [Z0];have hk:=k _ i (V3 ok hil w hq2 hl2);have l1:((srT xs ps).take i).length<=17:=by rw [List.length_take]; omega
  rw [<- B3q] at hk;exact ⟨by rw [Zl]; omega,by rw [Ze,Zl]; show _ + 1 + _<=_; omega,hk⟩
 ·subst hR;refine hd fun R hR=>?_;trivial;have hz:(0:Int) < ((srT xs ps).length:Int):=by omega
  have hmod:∀ m:Nat,0 < m->∃ j:Nat,(i:Int) % (m:Int)=(j:Int)/\j < m:=fun m h0=>⟨i % m,by rfl,Nat.mod_lt _ h0⟩;refine ite2 (fun z2=>?_) (fun z2=>?_)
  ·trivial;obtain ⟨j,ej,hj⟩:=hmod (srT xs ps).length (by omega);rw [ej,Z0];exact ⟨hz,k _ j (C5k ok hj)⟩
  subst hR;refine hd fun R hR=>?_;trivial;refine ite2 (fun z4=>?_) (fun z4=>?_)
  ·trivial;obtain ⟨j,ej,hj⟩:=hmod (srT xs ps).length (by omega);rw [ej];have hx:=Zg hj;have hm:=(C2c ok _ (List.getElem_mem hj)).le;generalize (srT xs ps)[j]=x at hx hm;refine ⟨hz,K0 (K2 (by rw [Zh,hx]; rfl)) ?_⟩;trivial;refine ⟨x,(t:Int),rfl,by omega,by omega,by omega,fun c a b hc h10 hab=>?_⟩;subst hab;trivial;rw [Z0,show ((j:Int) + 1)=((j + 1:Nat):Int) from rfl,Q2];have hk:=k _ j (A75 ok hj hx hc h10);have l1:((srT xs ps).take j).length<=17:=by rw [List.length_take]; omega
   have l2:((srT xs ps).drop (j + 1)).length<=17:=by rw [List.length_drop]; omega
   rw [<- B3q] at hk;exact ⟨by rw [Zl]; omega,by rw [Ze,Zl,Zl]; show _ + 1 + _<=_; omega,hk⟩
  subst hR;refine hd fun R hR=>?_;trivial;refine ite2 (fun z5=>?_) (fun z5=>?_)
  ·trivial;have hk:=k _ 1 (C5i ok (by omega));rw [<- A1l] at hk;exact ⟨by omega,hk⟩
  subst hR;refine hd fun R hR=>?_;trivial;obtain ⟨j,ej,hj⟩:=hmod ((srT xs ps).length - 1) (by omega);rw [show ((((srT xs ps).length - 1:Nat):Nat):Int)=((srT xs ps).length:Int) - 1 by omega] at ej;rw [ej];refine ⟨by omega,?_⟩;subst hR;have l1:∀ j,((srT xs ps).take j).length<=17:=fun j=>by rw [List.length_take]; omega
  have l2:∀ j,((srT xs ps).drop j).length<=17:=fun j=>by rw [List.length_drop]; omega
  have l3:=l1 j;have l4:=l2 (j + 1);have hk:=k _ j (C2d ok (by omega));rw [<- A1l] at hk;refine hd fun R hR=>?_;trivial;rw [Z0,show ((j:Int) + 1)=((j + 1:Nat):Int) from rfl,Q2];refine ite2 (fun z6=>?_) (fun z6=>?_)
  ·exact ⟨by rw [Zl,Zl]; omega,hk⟩
  subst hR;refine hd fun R hR=>?_;trivial;refine ⟨by decide,?_⟩;rw [Z0,show ((j:Int) + 1)=((j + 1:Nat):Int) from rfl,Q2];refine ite2 (fun z7=>?_) (fun z7=>?_)
  ·exact ⟨by rw [Zl,Zl]; omega,hk⟩
  subst hR;trivial;have hk:=k _ (j + 1) (C5j ok (by omega));rw [<- A1l] at hk;have l5:=l1 (j + 1);have l6:=l2 j;rw [show ((j:Int) + 1)=((j + 1:Nat):Int) from rfl,Z0,Q2];exact ⟨by rw [Zl,Zl]; omega,hk⟩
def C26:Pu.PSp:=fun as Q=>∃ x y:PyData,as=[.d x]/\NoS x y/\Q (.d y)
theorem B2k (T:Txt K mg D):FnOk P w K mg base CX0 9 D.a_bf D.d_bf ["_law_thing"] (Pu.spOf K [.dat] C26):=by
 refine T.B.F_bf.ok sc_bf (Zz rfl) (fun cdv A outer s H vs Q E hr h=>?_);refine ⟨_,(QSs.out (A2 (qst 1 sc_bf B8)
   (A2 (A52 (S5 (K:=K) T) hr.mo (by rfl) T.m_a7 T.B.F_a7.kp (R4 T).b (A0 (qpv 0) A1) (B0a (C:=D.k_NoText) (i:=2) (by rfl) T.c_NoText T.xm_NoText_NoText sc_bf.nd (by rfl) (by rfl) (C2r (i:=2) (j:=1) T.J_NoText.choose_spec.choose_spec (ExC.of T.xga_NoText T.xgn_NoText T.xgc_NoText T.xsb_NoText T.xso_NoText T.xhd_NoText T.xty_NoText) rfl rfl sc_bf.nd rfl rfl)))
   (A5 (B0 (qpv 1)))))),?_⟩
 haveI:=T.c2_ARC_WORDS
 refine Pu.G3 h ?_;rintro as Qp ⟨x,y,rfl,ox,k⟩;trivial;exact ⟨y,⟨x,rfl,ox⟩,k⟩
def B0o:Pu.PSp:=fun as Q=>∃ x y:PyData,as=[.d x]/\NoS x y/\Q (.d (.bool true))
theorem B2m (T:Txt K mg D):FnOk P w K mg base CX0 9 D.a_b2 D.d_b2 ["_law_thing"] (Pu.spOf K [.dat] B0o):=by
 refine T.B.F_b2.ok sc_b2 (Zz rfl) (fun cdv A outer s H vs Q E hr h=>?_);refine ⟨_,(QSs.out (A2 (qst 1 sc_b2 N7)
   (A2 (A52 (S5 (K:=K) T) hr.mo (by rfl) T.m_a7 T.B.F_a7.kp (R4 T).b (A0 (qpv 0) A1) (B0a (C:=D.k_NoText) (i:=2) (by rfl) T.c_HurryError T.xm_NoText_HurryError sc_b2.nd (by rfl) (by rfl) (B6l (i:=2) (j:=1) sc_b2.nd rfl rfl (fun _ _ he=>(C1g (C4f he (ExC.of T.xga_NoText T.xgn_NoText T.xgc_NoText T.xsb_NoText T.xso_NoText T.xhd_NoText T.xty_NoText) (by rfl) T.z_isinstance (by rfl) (Or.inl (by rfl)) (D1b (by rfl) T.z_ValueError (by rfl)) T.xi_NoText_ValueError) (C1g (C1f (C4f he (ExC.of T.xga_NoText T.xgn_NoText T.xgc_NoText T.xsb_NoText T.xso_NoText T.xhd_NoText T.xty_NoText) (by rfl) T.z_isinstance (by rfl) (Or.inl (by rfl)) (C1h (by rfl) T.c_NoPaper) T.xi_NoText_NoPaper)) (C86 (C1f (C4f he (ExC.of T.xga_NoText T.xgn_NoText T.xgc_NoText T.xsb_NoText T.xso_NoText T.xhd_NoText T.xty_NoText) (by rfl) T.z_isinstance (by rfl) (Or.inl (by rfl)) (C1h (by rfl) T.c_NoRow) T.xi_NoText_NoRow)))))))))
   (A5 (B0 (qpv 1)))))),?_⟩
 haveI:=T.c2_ARC_WORDS
 refine Pu.G3 h ?_;rintro as Qp ⟨x,y,rfl,ox,k⟩;trivial;exact ⟨y,⟨x,rfl,ox⟩,k⟩
theorem C77 (T:Txt K mg D):FnOk P w K mg base CX0 10 D.a_c0 D.d_c0 ["_law_script"] (C2e K):=by
 refine FnOk.imp (sp:=Pu.spOf K [.vw] Pu.pLaw) ?_ Pu.C80;refine T.F_c0.ok sc_c0 (Zz rfl) (fun cdv A outer s H vs Q E hr h=>?_);refine ⟨_,(QSs.out (A2 (qst 1 sc_c0 (qcK (B2j (K:=K) T) hr.mo (B8f T) (A0 (C3 (F4 (K:=K) rfl) (qpv 0) D6 (D5 A3)) A1)))
   (A2 (qst 2 sc_c0 (qcK (B7e (K:=K) T) hr.mo (C41 T) (A0 (qpv 1) A1)))
   (A2 (qst 3 sc_c0 (C3 (F4 (K:=K) rfl) (qpv 0) D6 (D5 A3)))
   (A2 (B7 (A6 (B9 (K:=K) rfl hr.units) (qpv 3) (B6 A1) (B2 _))
    (A5 (qst 3 sc_c0 (B6 (A0 A3 A1))))
    A9)
   (A2 (Q8 Zf rfl (P8 rfl T.z_range (A0 (qln K T.z_len (qpv 3)) A1)) (qgn 4 sc_c0)
    (A2 (L7 (qcK (A8m (K:=K) T) hr.mo (B5r T) (A0 (qpv 2) (A0 (qcK (X8 (K:=K) T) hr.mo (A1u T) (A0 (A54 (K:=K) rfl (qpv 3) (B9a B8p A3)) (A0 (qpv 4) A1))) A1))) (E8 (K:=K) (n:=2) rfl rfl (B1 (qgn 5 sc_c0) (B1 (qgn 6 sc_c0) E7)) rfl rfl))
    (A2 (B7 (N0 (F9 (qcK (A1j (K:=K) T 8) hr.mo (A1t T) (A0 (qcK (B2k (K:=K) T) hr.mo (C1q T) (A0 (C0 (K:=K) rfl PySem.F.plainAttrs_str PySem.F.slot_str_join PySem.F.type_str_join (Q0 (K:=K) rfl) A4 (A0 (qpv 5) A1)) A1)) (A0 (qpv 6) A1)))))
     (A5 (B0 N7))
     A9)
    (A5 (B7 (QW.pt (A06 (A6 (B9 (K:=K) rfl hr.units) (qpv 4) A3 (B2 _)) (V6 (N0 (F9 (qcK (B2m (K:=K) T) hr.mo (B8g T) (A0 (C0 (K:=K) rfl PySem.F.plainAttrs_str PySem.F.slot_str_join PySem.F.type_str_join (Q0 (K:=K) rfl) A4 (A0 (qpv 5) A1)) A1)))))))
     (A5 (B0 N7))
     A9)))))
   (A2 (B7 (N0 (F9 (qcK (A1j (K:=K) T 8) hr.mo (A1t T) (A0 (qcK (B2k (K:=K) T) hr.mo (C1q T) (A0 (qix K (B6 (A0 B8 (A0 A3 (A0 N7 (A0 (qpv 2) (A0 (qpv 1) A1)))))) (A8 J1 (qix K (qpv 3) A3) A3)) A1)) (A0 A3 A1)))))
    (A5 (B0 N7))
    A9)
   (A5 (B0 (qcK (A1j (K:=K) T 8) hr.mo (A1t T) (A0 (qcK (A2z (K:=K) T) hr.mo (R4 T) (A0 (C0 (K:=K) rfl PySem.F.plainAttrs_str PySem.F.slot_str_join PySem.F.type_str_join (Q0 (K:=K) rfl) A4 (A0 (qpv 2) A1)) A1)) (A0 (qpv 1) A1)))))))))))),?_⟩
 haveI:=T.c2_ARC_WORDS
 refine Pu.G3 h ?_;rintro as Qp ⟨ns,rfl,hns,k⟩;refine hd fun R hR=>?_;trivial;rw [show (some (9:Int))=some ((9:Nat):Int) from rfl,Z0 PyData.int ns 9];refine ⟨ns.take 9,rfl,by rw [List.length_take]; omega,fun xs ps ok=>?_⟩;trivial;subst hR;refine hd fun R hR=>?_;trivial;refine ⟨xs,ps,rfl,ok,?_⟩;trivial;subst hR;refine hd fun R hR=>?_;trivial;rw [D1e];subst hR;refine C8 (fun e=>∃ ms:List Int,e=[some (.bor (ns.map .int)),some (.d (srD xs ps)),some (.own ((srT xs ps).map fun r=>.str (sO r))),some (.own (ms.map .int)),none,none,none]/\0 < ms.length/\ms.length<=63) (fun R hR=>?_) ?_
 ·trivial;refine ⟨A62 _,B70 _,ite2 (fun z=>hR _ ⟨[0],rfl,by decide,by decide⟩) (fun z=>hR _ ⟨_,rfl,?_,by rw [List.length_take]; omega⟩)⟩;cases ns with
  | nil=>exact absurd rfl z
  | cons a r=>rw [List.length_take]; show 0 < min 63 (r.length + 1); omega
 rintro e ⟨ms,rfl,m0,m1⟩;refine hd fun R hR=>?_;trivial;rw [Int.toNat_natCast];refine ⟨⟨by omega,by omega⟩,Y6 (fun i e=>∃ (s2:SV) (o4 o5 o6:Option SV),(s2=.own ((srT xs ps).map fun r=>.str (sO r))\/s2=.d (.list ((srT xs ps).map fun r=>.str (sO r))))/\e=[some (.bor (ns.map .int)),some (.d (srD xs ps)),some s2,some (.own (ms.map .int)),o4,o5,o6]) ⟨_,_,_,_,.inl rfl,rfl⟩ ?_ ?_⟩
 ·rintro i e hi ⟨s2,o4,o5,o6,h2,rfl⟩;refine C8 (fun e=>∃ rows j,SpR rows j/\e=[some (.bor (ns.map .int)),some (.d (srD xs ps)),some (.d (.list ((srT xs ps).map fun r=>.str (sO r)))),some (.own (ms.map .int)),some (.d (.int (i:Int))),some (.d (.list (rows.map fun r=>.str (sO r)))),some (.d (.int (j:Int)))]) (fun R hR=>?_) ?_
  ·rcases h2 with rfl | rfl
   ·trivial;refine ⟨ms.reverse,(i:Int),by rw [List.map_reverse],by omega,by omega,?_⟩;trivial;refine ⟨xs,ps,rfl,ok,fun rows j sp=>?_⟩;trivial;exact hR _ ⟨rows,j,sp,rfl⟩
   ·trivial;refine ⟨ms.reverse,(i:Int),by rw [List.map_reverse],by omega,by omega,?_⟩;trivial;refine ⟨xs,ps,rfl,ok,fun rows j sp=>?_⟩;trivial;exact hR _ ⟨rows,j,sp,rfl⟩
  rintro e ⟨rows,j,sp,rfl⟩;have nos:NoS (.str (sO (D7 [10] rows))) (.int (j:Int)):=⟨B8z sp.ok sp.le,j,C2o sp,rfl⟩;refine hd fun R hR=>?_;trivial;rw [mNl];refine ⟨_,W4 rows,A0y sp.ok sp.le,?_⟩;rw [N6];refine ⟨_,_,rfl,nos,?_⟩;trivial;refine ⟨_,rfl,by exact True.intro,?_⟩;trivial;subst hR;trivial;refine ite2 (fun z=>?_) (fun z=>⟨_,_,_,_,.inr rfl,rfl⟩);rw [mNl];refine ⟨_,W4 rows,A0y sp.ok sp.le,?_⟩;rw [N6];refine ⟨_,_,rfl,nos,?_⟩;trivial;exact ⟨_,_,_,_,.inr rfl,rfl⟩
 ·rintro e ⟨s2,o4,o5,o6,h2,rfl⟩;cases ms with
  | nil=>exact absurd m0 (by decide)
  | cons m mr =>
  have odd:∀ y ∈ [PyData.none,.int 0,.bool true,.list ((srT xs ps).map fun r=>.str (sO r)),srD xs ps],NoS y (.int 0):=fun y hy=>by
   simp only [List.mem_cons,List.not_mem_nil,or_false] at hy;rcases hy with rfl | rfl | rfl | rfl | rfl
   ·exact rfl
   ·exact rfl
   ·exact rfl
   ·exact rfl
   ·unfold srD; split <;> exact rfl
  obtain ⟨y,hy,e⟩:=A0r (P:=fun y=>NoS y (.int 0)) (xs:=[PyData.none,.int 0,.bool true,.list ((srT xs ps).map fun r=>.str (sO r)),srD xs ps]) (d:=m % 5) odd (Int.emod_nonneg m (by decide)) (Int.emod_lt_of_pos m (by decide));have hsh:ShS (D7 [10] (srT xs ps)):=B8z (M0 ok) (by have:=ok.le; have:=J8 (xs:=xs) (ps:=ps); omega);have hsum:=A0y (M0 ok) (by have:=ok.le; have:=J8 (xs:=xs) (ps:=ps); omega);have f1:=D0l ok;have f2:=C8a ok;have f3:=W4 (srT xs ps);generalize (srT xs ps).map (fun r=>PyData.str (sO r))=Y at *;generalize srD xs ps=X at *;subst hR;dsimp only;refine C8 (fun e=>e=[some (.bor (ns.map .int)),some (.d X),some (.d (.list Y)),some (.own ((m :: mr).map .int)),o4,o5,o6]) (fun R hR=>?_) ?_
  ·generalize hL:pLst _=PL;trivial;subst hL;refine lit5 ?_ s2 h2;trivial;refine ⟨by decide,K0 e ?_⟩;trivial;refine ⟨y,_,rfl,hy,?_⟩;trivial;exact ⟨_,rfl,by exact True.intro,hR _ rfl⟩
  rintro e rfl;trivial;rw [mNl];refine ⟨_,f3,hsum,?_⟩;rw [N6];refine ⟨_,_,rfl,hsh,f1,?_⟩;trivial;refine ⟨_,rfl,f2,?_⟩;trivial;exact k
end
theorem all_mk {l:PySem.W.OpenLaw} {w:World} {K:PySem.W.Frag} {h:Heap} {mg:Str->Option Value} {fa:Addr} (X:K.In h) (G:h.Ns mainGlobals mg) (hfa:mg "law"=some (.ref fa)) {a_a1 a_b6 a_a2 a_b0 a_ae a_a9 a_b8 a_a6 a_b7 a_ad a_b5 a_aa a_af a_a7 a_b1 a_bc a_bd a_bb a_ab a_a3 a_b3 a_a0 a_b9 a_b4 a_a4 a_ba a_be a_a5 a_a8 a_ac a_bf a_b2 k_NOUGHT k_ARC_WORDS k_NoText k_HurryError k_NoRow k_NoPaper:Addr} {d_a1 d_b6 d_a2 d_b0 d_ae d_a9 d_b8 d_a6 d_b7 d_ad d_b5 d_aa d_af d_a7 d_b1 d_bc d_bd d_bb d_ab d_a3 d_b3 d_a0 d_b9 d_b4 d_a4 d_ba d_be d_a5 d_a8 d_ac d_bf d_b2:FuncData} (B:TxB K a_a1 a_b6 a_a2 a_b0 a_ae a_a9 a_b8 a_a6 a_b7 a_ad a_b5 a_aa a_af a_a7 a_b1 a_bc a_bd a_bb a_ab a_a3 a_b3 a_a0 a_b9 a_b4 a_a4 a_ba a_be a_a5 a_a8 a_ac a_bf a_b2 k_NOUGHT k_ARC_WORDS k_NoText k_HurryError k_NoRow k_NoPaper d_a1 d_b6 d_a2 d_b0 d_ae d_a9 d_b8 d_a6 d_b7 d_ad d_b5 d_aa d_af d_a7 d_b1 d_bc d_bd d_bb d_ab d_a3 d_b3 d_a0 d_b9 d_b4 d_a4 d_ba d_be d_a5 d_a8 d_ac d_bf d_b2)
  {od_law an_law:Option Addr} {sl_law:Array (Option Value)} {oc_law kV_law dc_law pm_law cd_law ct_law:Value} {a_c0:Addr}
  {od_NOUGHT:Option Addr} {its_NOUGHT:Array Value} {n_NOUGHT:Nat} {sl_NOUGHT:Array (Option Value)} {t0_NOUGHT t1_NOUGHT:Tok}
  {od_ARC_WORDS:Option Addr} {its_ARC_WORDS:Array Value} {n_ARC_WORDS:Nat} {sl_ARC_WORDS:Array (Option Value)} {t0_ARC_WORDS t1_ARC_WORDS t2_ARC_WORDS t3_ARC_WORDS:Tok}
  {t_MOST_FIGURES:Tok}
  {t_CHUNK:Tok}
  {t_CHUNK_FIGURES:Tok}
  {t_MOST_STEPS:Tok}
  {t_MOST_ARCS:Tok}
  {t_MOST_NUMBER:Tok}
  {t_FIGURES:Tok}
  {osy:Obj}
  (g_c0:PySem.W.nsIn K mainGlobals "law"=some (some (.ref a_c0)))
  (l_law:K.lookup a_c0=some ⟨oc_law,od_law,.func (PySem.W.fnOf "law" "law" (J0 s_c0) (F2 s_c0) (A7 s_c0) .none kV_law dc_law pm_law an_law cd_law ct_law),sl_law⟩)
  (c_law:PySem.W.codeIn K cd_law "law"=true)
  (k_law:PySem.W.keepIn K (.ref a_c0)=true)
  (lq_NOUGHT:K.lookup k_NOUGHT=some ⟨.type "tuple",od_NOUGHT,.seq its_NOUGHT n_NOUGHT,sl_NOUGHT⟩)
  (vq_NOUGHT:its_NOUGHT=#[Value.int 0 t0_NOUGHT,Value.int 1 t1_NOUGHT])
  (lq_ARC_WORDS:K.lookup k_ARC_WORDS=some ⟨.type "tuple",od_ARC_WORDS,.seq its_ARC_WORDS n_ARC_WORDS,sl_ARC_WORDS⟩)
  (vq_ARC_WORDS:its_ARC_WORDS=#[Value.str "start" t0_ARC_WORDS,Value.str "end" t1_ARC_WORDS,Value.str "wait" t2_ARC_WORDS,Value.str "hold" t3_ARC_WORDS])
  (gi_MOST_FIGURES:PySem.W.nsIn K mainGlobals "MOST_FIGURES"=some (some (.int 60 t_MOST_FIGURES)))
  (gi_CHUNK:PySem.W.nsIn K mainGlobals "CHUNK"=some (some (.int 1000000000000000000 t_CHUNK)))
  (gi_CHUNK_FIGURES:PySem.W.nsIn K mainGlobals "CHUNK_FIGURES"=some (some (.int 18 t_CHUNK_FIGURES)))
  (gi_MOST_STEPS:PySem.W.nsIn K mainGlobals "MOST_STEPS"=some (some (.int 10 t_MOST_STEPS)))
  (gi_MOST_ARCS:PySem.W.nsIn K mainGlobals "MOST_ARCS"=some (some (.int 100 t_MOST_ARCS)))
  (gi_MOST_NUMBER:PySem.W.nsIn K mainGlobals "MOST_NUMBER"=some (some (.int 99 t_MOST_NUMBER)))
  (gs_FIGURES:PySem.W.nsIn K mainGlobals "FIGURES"=some (some (.str "0123456789" t_FIGURES)))
  (J_NoText:∃ fI fd,InitX K k_NoText fI "row" "row" "NoText.__init__" s_NoTextinit fd ["self","row"])
  (xm_NoText_NoText:PySem.W.exmOne K (.ref k_NoText) (.ref k_NoText)=some true)
  (xga_NoText:PySem.W.findIn K (.ref k_NoText) "__getattribute__"=some (some (.builtin "BaseException.__getattribute__")))
  (xgn_NoText:PySem.W.findIn K (.ref k_NoText) "__getattr__"=some none)
  (xgc_NoText:PySem.W.findIn K (.ref k_NoText) "__class__"=some (some (.builtin "object.__class__")))
  (xsb_NoText:PySem.W.subIn K (.ref k_NoText) (.type "BaseException")=some true)
  (xso_NoText:PySem.W.subIn K (.ref k_NoText) (.type "object")=some true)
  (xhd_NoText:PySem.W.hasDictIn K k_NoText=true)
  (xty_NoText:(K.lookup k_NoText).map (·.cls)=some (.type "type"))
  (xm_NoText_HurryError:PySem.W.exmOne K (.ref k_NoText) (.ref k_HurryError)=some true)
  (xi_NoText_NoRow:PySem.W.kitOne K (.ref k_NoText) (.ref k_NoRow)=some false)
  (xi_NoText_NoPaper:PySem.W.kitOne K (.ref k_NoText) (.ref k_NoPaper)=some false)
  (xi_NoText_ValueError:PySem.W.kitOne K (.ref k_NoText) (.type "ValueError")=some true)
  (lsy:K.lookup sysModules=some osy)
  (lsz:osy.cls≠.type "list")
  : ∃ fd:FuncData,(∀ (s:Shared) (v:Value),BindsTo s fd ⟨[v],[]⟩ [("_law_script",v)])/\∀ base:Heap,K.In base->base.Ns mainGlobals mg->FnOk l.prog w K mg base CX0 10 fa fd ["_law_script"] (sp_law K):=by
 have e:=hfa.symm.trans (Zq X G g_c0);cases e;have T:Txt K mg ⟨a_a1,d_a1,a_b6,d_b6,a_a2,d_a2,a_b0,d_b0,a_ae,d_ae,a_a9,d_a9,a_b8,d_b8,a_a6,d_a6,a_b7,d_b7,a_ad,d_ad,a_b5,d_b5,a_aa,d_aa,a_af,d_af,a_a7,d_a7,a_b1,d_b1,a_bc,d_bc,a_bd,d_bd,a_bb,d_bb,a_ab,d_ab,a_a3,d_a3,a_b3,d_b3,a_a0,d_a0,a_b9,d_b9,a_b4,d_b4,a_a4,d_a4,a_ba,d_ba,a_be,d_be,a_a5,d_a5,a_a8,d_a8,a_ac,d_ac,a_bf,d_bf,a_b2,d_b2,fa,PySem.W.fnOf "law" "law" (J0 s_c0) (F2 s_c0) (A7 s_c0) .none kV_law dc_law pm_law an_law cd_law ct_law,k_NOUGHT,k_ARC_WORDS,k_NoText,k_HurryError,k_NoRow,k_NoPaper⟩:=⟨B,Zq X G B.g_a1,Zq X G B.g_b6,Zq X G B.g_a2,Zq X G B.g_b0,Zq X G B.g_ae,Zq X G B.g_a9,Zq X G B.g_b8,Zq X G B.g_a6,Zq X G B.g_b7,Zq X G B.g_ad,Zq X G B.g_b5,Zq X G B.g_aa,Zq X G B.g_af,Zq X G B.g_a7,Zq X G B.g_b1,Zq X G B.g_bc,Zq X G B.g_bd,Zq X G B.g_bb,Zq X G B.g_ab,Zq X G B.g_a3,Zq X G B.g_b3,Zq X G B.g_a0,Zq X G B.g_b9,Zq X G B.g_b4,Zq X G B.g_a4,Zq X G B.g_ba,Zq X G B.g_be,Zq X G B.g_a5,Zq X G B.g_a8,Zq X G B.g_ac,Zq X G B.g_bf,Zq X G B.g_b2,B42 (st:=s_c0) l_law c_law k_law,Zq X G g_c0,Zq X G B.gc_NOUGHT,Zq X G B.gc_ARC_WORDS,Zq X G B.gc_NoText,Zq X G B.gc_HurryError,Zq X G B.gc_NoRow,Zq X G B.gc_NoPaper,PySem.W.mg_none_of X G B.z_ValueError,PySem.W.mg_none_of X G B.z_abs,PySem.W.mg_none_of X G B.z_all,PySem.W.mg_none_of X G B.z_bool,PySem.W.mg_none_of X G B.z_divmod,PySem.W.mg_none_of X G B.z_enumerate,PySem.W.mg_none_of X G B.z_int,PySem.W.mg_none_of X G B.z_isinstance,PySem.W.mg_none_of X G B.z_len,PySem.W.mg_none_of X G B.z_list,PySem.W.mg_none_of X G B.z_range,PySem.W.mg_none_of X G B.z_str,PySem.W.mg_none_of X G B.z_tuple,PySem.W.mg_none_of X G B.z_zip,⟨fun H=>.tup ⟨.inr ⟨_,its_NOUGHT,n_NOUGHT,lq_NOUGHT,rfl,rfl,by rw [vq_NOUGHT]; show 2<=sizeLine; decide,by rw [vq_NOUGHT]; exact .cons ⟨_,rfl⟩ (.cons ⟨_,rfl⟩ .nil)⟩,.inr L2.C8n⟩ (.cons (.int _) (.cons (.int _) .nil))⟩,⟨fun H=>.tup ⟨.inr ⟨_,its_ARC_WORDS,n_ARC_WORDS,lq_ARC_WORDS,rfl,rfl,by rw [vq_ARC_WORDS]; show 4<=sizeLine; decide,by rw [vq_ARC_WORDS]; exact .cons ⟨_,rfl⟩ (.cons ⟨_,rfl⟩ (.cons ⟨_,rfl⟩ (.cons ⟨_,rfl⟩ .nil)))⟩,.inr L2.nsi3⟩ (.cons (.str _) (.cons (.str _) (.cons (.str _) (.cons (.str _) .nil))))⟩,⟨_,Zq X G gi_MOST_FIGURES⟩,⟨_,Zq X G gi_CHUNK⟩,⟨_,Zq X G gi_CHUNK_FIGURES⟩,⟨_,Zq X G gi_MOST_STEPS⟩,⟨_,Zq X G gi_MOST_ARCS⟩,⟨_,Zq X G gi_MOST_NUMBER⟩,⟨_,Zq X G gs_FIGURES⟩,J_NoText,xm_NoText_NoText,xga_NoText,xgn_NoText,xgc_NoText,xsb_NoText,xso_NoText,xhd_NoText,xty_NoText,xm_NoText_HurryError,xi_NoText_NoRow,xi_NoText_NoPaper,xi_NoText_ValueError,⟨_,lsy,lsz⟩⟩;exact ⟨_,fun s v=>.of_eq rfl,fun base _ _=>C77 T⟩
theorem walk {l:PySem.W.OpenLaw} {q:Program} {loose:List Str} {XP:(Str->Option Value)->Heap->Prop} {YP:World->Heap->Prop} {d:DefRec} {K:Params->PySem.W.Frag} (hn:l.most=some 63) (hdf:d.params.defaults=[])
  (hY:∀ (w:World) (h:Heap),YP w h->(K w.params).In h)
  (F:∀ (w:World) (mg:Str->Option Value) (fa:Addr) (h:Heap),(K w.params).In h->h.Ns mainGlobals mg->mg d.name=some (.ref fa) ->
   ∃ fd:FuncData,(∀ (s:Shared) (u:Value),BindsTo s fd ⟨[u],[]⟩ [("_law_script",u)])/\∀ base:Heap,(K w.params).In base->base.Ns mainGlobals mg->FnOk l.prog w (K w.params) mg base CX0 10 fa fd ["_law_script"] (sp_law (K w.params))) :
  PySem.W.WalkO q loose XP YP l.row.toRowW d [] (fun f vs=>PySem.call f vs) :=
 L2.C1v (n:=63) (k:=10) (x:="_law_script") (CX:=fun _=>CX0) (sp:=fun w=>sp_law (K w.params)) hn (by decide) hdf ⟨rfl,rfl,by decide,by decide⟩ hY F (fun _ _ a ns hl _ hS=>⟨a,ns,rfl,hS,hl,fun _=>rfl⟩) fun _ _ _ _ _ z=>z
end Prf
open PySem PySem.W PyProof.Rows
set_option maxRecDepth 100000 in
set_option maxHeartbeats 0 in
theorem PySem.Challenge.cw_hurryprice_k85_stair_texts_refused_holds : PySem.Challenge.rw_hurryprice_k85_stair_texts_refused.Holds := by
 refine holds_law Prf.said fun ws=>?_;refine holds_open (q:=Prf.qq) (loose:=[]) (Xt:=Prf.xt) (XP:=XL Prf.qq []) (Yf:=Prf.hh.obs)
  (Ya:=Prf.hh.val) (YP:=Prf.hh.says) (N:=4288) Prf.left Prf.hh.of Prf.hh.keeps
  (fun s e=>xl_of s (Bool.and_eq_true_iff.mp e).1) XL.keeps
  (by rfl) (by rfl) (by rfl) (fun s e=>recFacts_of (Bool.and_eq_true_iff.mp e).2)
  (by rfl) ws (by decide +kernel)
  ⟨rfl,rfl,rfl,rfl,rfl,by decide +kernel⟩ ?hw ?hc
 case hw=>w_witness2
 refine Prf.walk (l:=PySem.Challenge.rw_hurryprice_k85_stair_texts_refused) (K:=Prf.kk) rfl rfl (fun w h Y=>PySem.W.kIn_of Y) ?F;case F =>
  intro w mg fa h KX G hmg
  k_fill
  refine' Prf.all_mk KX G hmg ⟨?g_a1,?F_a1,?g_b6,?F_b6,?g_a2,?F_a2,?g_b0,?F_b0,?g_ae,?F_ae,?g_a9,?F_a9,?g_b8,?F_b8,?g_a6,?F_a6,?g_b7,?F_b7,?g_ad,?F_ad,?g_b5,?F_b5,?g_aa,?F_aa,?g_af,?F_af,?g_a7,?F_a7,?g_b1,?F_b1,?g_bc,?F_bc,?g_bd,?F_bd,?g_bb,?F_bb,?g_ab,?F_ab,?g_a3,?F_a3,?g_b3,?F_b3,?g_a0,?F_a0,?g_b9,?F_b9,?g_b4,?F_b4,?g_a4,?F_a4,?g_ba,?F_ba,?g_be,?F_be,?g_a5,?F_a5,?g_a8,?F_a8,?g_ac,?F_ac,?g_bf,?F_bf,?g_b2,?F_b2,?gc_NOUGHT,?gc_ARC_WORDS,?gc_NoText,?gc_HurryError,?gc_NoRow,?gc_NoPaper,?z_ValueError,?z_abs,?z_all,?z_bool,?z_divmod,?z_enumerate,?z_int,?z_isinstance,?z_len,?z_list,?z_range,?z_str,?z_tuple,?z_zip⟩ ?g_c0 ?l_law ?c_law ?k_law ?lq_NOUGHT ?vq_NOUGHT ?lq_ARC_WORDS ?vq_ARC_WORDS ?gi_MOST_FIGURES ?gi_CHUNK ?gi_CHUNK_FIGURES ?gi_MOST_STEPS ?gi_MOST_ARCS ?gi_MOST_NUMBER ?gs_FIGURES ?J_NoText ?xm_NoText_NoText ?xga_NoText ?xgn_NoText ?xgc_NoText ?xsb_NoText ?xso_NoText ?xhd_NoText ?xty_NoText ?xm_NoText_HurryError ?xi_NoText_NoRow ?xi_NoText_NoPaper ?xi_NoText_ValueError ?lsy ?lsz
  (case g_a1 | F_a1 | g_b6 | F_b6 | g_a2 | F_a2 | g_b0 | F_b0 | g_ae | F_ae | g_a9 | F_a9 | g_b8 | F_b8 | g_a6 | F_a6 | g_b7 | F_b7 | g_ad | F_ad | g_b5 | F_b5 | g_aa | F_aa | g_af | F_af | g_a7 | F_a7 | g_b1 | F_b1 | g_bc | F_bc | g_bd | F_bd | g_bb | F_bb | g_ab | F_ab | g_a3 | F_a3 | g_b3 | F_b3 | g_a0 | F_a0 | g_b9 | F_b9 | g_b4 | F_b4 | g_a4 | F_a4 | g_ba | F_ba | g_be | F_be | g_a5 | F_a5 | g_a8 | F_a8 | g_ac | F_ac | g_bf | F_bf | g_b2 | F_b2=>first | (apply L2.B42 <;> k_is) | k_is)
  (case gc_NOUGHT=>k_is)
  (case gc_ARC_WORDS=>k_is)
  (case gc_NoText=>k_is)
  (case gc_HurryError=>k_is)
  (case gc_NoRow=>k_is)
  (case gc_NoPaper=>k_is)
  (case z_ValueError=>k_is)
  (case z_abs=>k_is)
  (case z_all=>k_is)
  (case z_bool=>k_is)
  (case z_divmod=>k_is)
  (case z_enumerate=>k_is)
  (case z_int=>k_is)
  (case z_isinstance=>k_is)
  (case z_len=>k_is)
  (case z_list=>k_is)
  (case z_range=>k_is)
  (case z_str=>k_is)
  (case z_tuple=>k_is)
  (case z_zip=>k_is)
  (case g_c0=>k_is)
  (case l_law=>k_is)
  (case c_law=>k_is)
  (case k_law=>k_is)
  (case lq_NOUGHT=>k_is)
  (case vq_NOUGHT=>exact rfl)
  (case lq_ARC_WORDS=>k_is)
  (case vq_ARC_WORDS=>exact rfl)
  (case gi_MOST_FIGURES=>k_is)
  (case gi_CHUNK=>k_is)
  (case gi_CHUNK_FIGURES=>k_is)
  (case gi_MOST_STEPS=>k_is)
  (case gi_MOST_ARCS=>k_is)
  (case gi_MOST_NUMBER=>k_is)
  (case gs_FIGURES=>k_is)
  (case J_NoText=>exact Exists.intro (nat_lit 60) (Exists.intro _ (L2.B7w (by apply L2.B42 <;> k_is) Prf.sc_NoTextinit (by exact rfl) (by with_unfolding_all exact rfl) (by k_is) (by k_is) ⟨_,_,_,_,rfl,fun _=>rfl⟩ (bd:=fun _ _ _ _ _ _ us hl=>by obtain ⟨_,_,rfl⟩:=L2.us2 hl; rfl))))
  (case xm_NoText_NoText=>exact rfl)
  (case xga_NoText=>k_is)
  (case xgn_NoText=>k_is)
  (case xgc_NoText=>k_is)
  (case xsb_NoText=>k_is)
  (case xso_NoText=>k_is)
  (case xhd_NoText=>k_is)
  (case xty_NoText=>exact rfl)
  (case xm_NoText_HurryError=>exact rfl)
  (case xi_NoText_NoRow=>exact rfl)
  (case xi_NoText_NoPaper=>exact rfl)
  (case xi_NoText_ValueError=>exact rfl)
  (case lsy=>k_is)
  (case lsz=>exact (fun z=>absurd (Value.type.inj z) (by decide)))