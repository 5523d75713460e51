
import PyProof.Rows.All
import Wide.All
import OpenK.AllK
import Wide.FinOn
import Lean
import PyProof.EqAt
import PyProof.EqKinds
import PyProof.TupleCall
import PySem.Challenge.RW_hurryprice_k81_plans_and_papers_written
set_option Elab.async false
set_option linter.all false
set_option maxRecDepth 100000
set_option maxHeartbeats 4000000
set_option compiler.extract_closed false
theorem Zm {α:Type u} {l:List α} {i:Nat} {a:α} (h:l[i]?=some a):a ∈ l:=List.mem_of_getElem? h
theorem Zg {α:Type u} {l:List α} {i:Nat} (h:i < l.length):l[i]?=some l[i]:=List.getElem?_eq_getElem h
theorem Zs {α:Type u} {l:List α} {i:Nat} {a:α} (h:l[i]?=some a):∃ h:i < l.length,l[i]=a:=List.getElem?_eq_some_iff.mp h
theorem Za {α:Type u} {a:α} {s t:List α} (h:a ∈ s++t):a ∈ s\/a ∈ t:=List.mem_append.mp h
theorem Zi {a:Int} (h:0<=a):∃ n:Nat,a=(n:Int):=Int.eq_ofNat_of_zero_le h
theorem Zo {α:Type u} {β:Type v} {f:α->β} {x:Option α} {b:β} (h:x.map f=some b):∃ a,x=some a/\f a=b:=Option.map_eq_some_iff.mp h
theorem Zn {α:Type u} {a b:α} (h:a ∈ [b]):a=b:=List.mem_singleton.mp h
theorem Zr {α:Type u} {a:α} {l:List α} (y:α) (h:a ∈ l):a ∈ y :: l:=List.mem_cons_of_mem y h
theorem Zu {m n:Nat} (k:Nat) (h:m<=n):m * k<=n * k:=Nat.mul_le_mul_right k h
theorem Zt {α:Type u} {a:α} {as:List α} (bs:List α) (h:a ∈ as):a ∈ as++bs:=List.mem_append_left bs h
theorem Zw {α:Type u} {b:α} (as:List α) {bs:List α} (h:b ∈ bs):b ∈ as++bs:=List.mem_append_right as h
theorem Zj {α:Type u} {a b:α} (h:some a=some b):a=b:=Option.some.inj h
theorem Zp {n m k:Nat} (h:n > 0) (g:m<=k):n ^ m<=n ^ k:=Nat.pow_le_pow_right h g
theorem Zv (n:Nat):n<=n:=Nat.le_refl n
theorem Zx {n m k:Nat} (a:n<=m) (b:m<=k):n<=k:=Nat.le_trans a b
theorem Zy {α:Type u} {a:α} {l:List α}:a ∈ a :: l:=List.mem_cons_self
theorem Zd {p:Prop} [Decidable p] (h:¬p):decide p=false:=decide_eq_false h
theorem Zk {p:Prop} [Decidable p] (h:p):decide p=true:=decide_eq_true h
def Zq:=@PySem.W.mg_of
def Z1:=@PySem.F.plainAttrs_list
def Z2:=@PySem.F.slot_list_append
def Z3:=@PySem.F.type_list_append
theorem Zl {α:Type u} {β:Type v} {as:List α} {f:α->β}:(as.map f).length=as.length:=List.length_map f
theorem Zh {α:Type u} {β:Type v} {f:α->β} {l:List α} {i:Nat}:(l.map f)[i]?=l[i]?.map f:=List.getElem?_map ..
theorem Zc {α:Type u} {β:Type v} {f:α->β} {l k:List α}:(l++k).map f=l.map f++k.map f:=List.map_append ..
theorem Ze {α:Type u} {as bs:List α}:(as++bs).length=as.length + bs.length:=List.length_append ..
abbrev LP:=List PySem.PyData
namespace L2
open PySem PySem.Spec PyProof.Rows
def J2 (s:Stmt):Arguments:=match s with
 | .FunctionDef _ a _ _ _ _ _ _ _ _=>a
 | _=>{ posonlyargs:=[],args:=[],vararg:=none,kwonlyargs:=[],kw_defaults:=[],kwarg:=none,defaults:=[] }
def G0 (s:Stmt):List Stmt:=match s with
 | .FunctionDef _ _ b _ _ _ _ _ _ _=>b
 | _=>[]
def A6 (s:Stmt):Scope:=match s with
 | .FunctionDef _ _ _ _ _ _ sc _ _ _=>sc
 | _=>{ kind:=.function,names:=[],isGenerator:=false,isCoroutine:=false }
def C7c:Stmt->Nat->Stmt
 | .ClassDef _ _ _ body _ _ _ _ _ _ _,n=>body.getD n (.Pass ⟨0,0,0,0⟩)
 | s,_=>s
open PySem.W
def T4 (tb:String->Option Builtin) (p:Program) (w:World) (m:Nat) (ann:Option Value):Nat->SharedT->Thread->Option SharedT
 | 0,_,_=>none
 | n + 1,s,t=>match through t with
  | true=>some s
  | false=>match stepOk m ann t with
   | false=>none
   | true=>match stepT (denote tb) p w s t with
    | some x=>T4 tb p w m ann n x.1 x.2
    | none=>none
theorem Z4 {tb:String->Option Builtin} {p:Program} {w:World} {m:Nat} {ann:Option Value}:∀ (n:Nat) (s r:SharedT) (t:Thread),T4 tb p w m ann n s t=some r->topRun tb p w m ann n s.abs t=some r.abs
 | 0,_,_,_,h=>by cases h
 | n + 1,s,r,t,h=>by
  unfold T4 at h;unfold topRun;cases a:through t with
  | true=>rw [a] at h; cases h; rfl
  | false =>
   rw [a] at h;cases b:stepOk m ann t with
   | false=>rw [b] at h; cases h
   | true =>
    rw [b] at h;cases c:stepT (denote tb) p w s t with
    | none=>rw [c] at h; cases h
    | some x =>
     rw [c] at h;rw [stepT_spec (s':=x.1) (t':=x.2) c];exact Z4 n x.1 r x.2 h
def mkT (os:List Obj):Nat->Nat->Nat->BT
 | 0,_,_=>.nil
 | k + 1,a,b=>match os[b]? with
  | some o=>.node o (mkT os k (2 * a) (a + b)) (mkT os k (2 * a) (2 * a + b))
  | none=>.nil
noncomputable def A8t (w:World) (os:OsState):Shared:=⟨boot_heap w.params,Array.mk [],boot_drawn,boot_toks,os⟩
noncomputable def B67 (w:World) (os:OsState):SharedT:=⟨mkT (boot_heap w.params).objs.toList 12 1 0,(boot_heap w.params).objs.size,(boot_heap w.params).life,Array.mk [],boot_drawn,boot_toks,os⟩
theorem B66 (w:World) (os:OsState):(B67 w os).abs=A8t w os:=by kernel_rfl
theorem C29 (w:World) (os:OsState):((A8t w os).heap.isNs mainGlobals && (A8t w os).gens.size == 0)=true:=by kernel_rfl
theorem C8j {p q:Program} {loose:List Str} {Xt:Shared->Bool} {α:Type} {Yf:Shared->α} {Ya:World->α} {N:Nat} (ho:opening p=plainProg p.main.scope.names) (hN:Nat.ble 600 N=true) (hf:∀ s,fenceModules? p s=some s)
  (run:∀ (w:World) (os:OsState),(T4 treeTable p w (boot_heap w.params).objs.size ((boot_heap w.params).nsMap mainGlobals "__annotations__") N (B67 w os) (topStub p)).map
   (fun x=>(staticsOk (importedModules p.main.body) (boot_heap w.params) x.abs.heap && namesBound p x.abs.heap && gensDone x.abs && laidKept (boot_heap w.params) x.abs.heap,openSeen q loose (importedModules p.main.body) Xt true x.abs,Yf x.abs))=some (true,openGood q loose,Ya w)) :
  LeftO p q loose Xt Yf Ya N:=fun w=>by
 obtain ⟨⟨h,gs,d,k,os⟩,e,z⟩:=Zo (boot_open ho hN hf w);obtain ⟨rfl,rfl,rfl,rfl⟩:h=boot_heap w.params/\gs=Array.mk []/\d=boot_drawn/\k=boot_toks:=by simpa using z
 obtain ⟨x,r,v⟩:=Zo (run w os);have r:=Z4 _ _ _ _ r;rw [B66] at r;obtain ⟨v1,v2⟩:=Prod.mk.inj v;obtain ⟨v2,v3⟩:=Prod.mk.inj v2;show ((fencedOpening treeTable p w N).bind (topFrom treeTable p w N)).map _=_;rw [e];show (topFrom treeTable p w N (A8t w os)).map _=_;have t:topFrom treeTable p w N (A8t w os)=some x.abs:=by
  unfold topFrom;rw [C29];show (topRun treeTable p w (boot_heap w.params).objs.size ((boot_heap w.params).nsMap mainGlobals "__annotations__") N (A8t w os) (topStub p)).bind _=_;rw [r];show (match staticsOk (importedModules p.main.body) (boot_heap w.params) x.abs.heap && namesBound p x.abs.heap && gensDone x.abs && laidKept (boot_heap w.params) x.abs.heap with | true=>some x.abs | false=>none)=_;rw [v1]
 rw [t];show some (openSeen q loose (importedModules p.main.body) Xt true x.abs,Yf x.abs)=_;rw [v2,v3]
noncomputable abbrev ranT (p:Program) (N:Nat) (w:World) (os:OsState):Option SharedT:=T4 treeTable p w (boot_heap w.params).objs.size ((boot_heap w.params).nsMap mainGlobals "__annotations__") N (B67 w os) (topStub p)
theorem C6m {p q:Program} {loose:List Str} {Xt:Shared->Bool} {α:Type} {Yf:Shared->α} {Ya:World->α} {N:Nat} (ho:opening p=plainProg p.main.scope.names) (hN:Nat.ble 600 N=true) (hf:∀ s,fenceModules? p s=some s)
  (a:∀ (w:World) (os:OsState),(ranT p N w os).map (fun x=>staticsOk (importedModules p.main.body) (boot_heap w.params) x.abs.heap && namesBound p x.abs.heap && gensDone x.abs && laidKept (boot_heap w.params) x.abs.heap)=some true)
  (b:∀ (w:World) (os:OsState),(ranT p N w os).map (fun x=>openSeen q loose (importedModules p.main.body) Xt true x.abs)=some (openGood q loose))
  (c:∀ (w:World) (os:OsState),(ranT p N w os).map (fun x=>Yf x.abs)=some (Ya w)):LeftO p q loose Xt Yf Ya N :=
 C8j ho hN hf fun w os=>by
  obtain ⟨x,r,e⟩:=Zo (a w os);have r':T4 treeTable p w (boot_heap w.params).objs.size ((boot_heap w.params).nsMap mainGlobals "__annotations__") N (B67 w os) (topStub p)=some x:=r;have f:openSeen q loose (importedModules p.main.body) Xt true x.abs=openGood q loose:=by have z:=b w os; rw [r] at z; exact Zj z
  have g:Yf x.abs=Ya w:=by have z:=c w os; rw [r] at z; exact Zj z
  rw [r'];show some (_,_,_)=_;rw [e,f,g]
theorem C6l {p q:Program} {loose:List Str} {Xt:Shared->Bool} {α:Type} {Yf:Shared->α} {Ya:World->α} {N:Nat} (ho:opening p=plainProg p.main.scope.names) (hN:Nat.ble 600 N=true) (hf:∀ s,fenceModules? p s=some s)
  (a:∀ (w:World) (os:OsState),(ranT p N w os).map (fun x=>staticsOk (importedModules p.main.body) (boot_heap w.params) x.abs.heap && namesBound p x.abs.heap && gensDone x.abs && laidKept (boot_heap w.params) x.abs.heap)=some true)
  (b:∀ (w:World) (os:OsState),(ranT p N w os).map (fun x=>seen ((recsOf q).map (·.name)) (ownsOf q) [] { heap:=x.abs.heap,drawn:=x.abs.drawn,toks:=x.abs.toks,os:=x.abs.os })=some (expectedOf q))
  (b1:∀ (w:World) (os:OsState),(ranT p N w os).map (fun x=>x.abs.heap.bltView)=some bltViewBooted)
  (k1:∀ (w:World) (os:OsState),(ranT p N w os).map (fun x=>x.abs.heap.keysOk (looseW q loose) ((recsOf q).map (·.name)) ((litsOf q).map (·.1)) ((clssOf q (looseW q loose)).map (·.name)))=some true)
  (k2:∀ (w:World) (os:OsState),(ranT p N w os).map (fun x=>x.abs.heap.accountedOkI (importedModules p.main.body) && x.abs.heap.isNs mainGlobals && x.abs.heap.isNs builtinsNs && tablesOk q x.abs.heap && Xt x.abs && x.abs.gens.size == 0)=some true)
  (b3:∀ (w:World) (os:OsState),(ranT p N w os).map (fun x=>(tabsOk q x.abs,pinSeenD q (drecsOf q) x.abs))=some (true,pinGoodD (drecsOf q)))
  (b5:∀ (w:World) (os:OsState),(ranT p N w os).map (fun x=>(plainSeenE q (looseW q loose) x.abs,plainSeenD q loose x.abs))=some (plainGoodE q (looseW q loose),plainGoodD q loose))
  (b4:∀ (w:World) (os:OsState),(ranT p N w os).map (fun x=>(wideSeen q x.abs,clsSeenW q loose x.abs))=some (wideGood q,clsGoodW q loose))
  (c:∀ (w:World) (os:OsState),(ranT p N w os).map (fun x=>Yf x.abs)=some (Ya w)):LeftO p q loose Xt Yf Ya N :=
 C6m ho hN hf a (fun w os=>by
  obtain ⟨x,r,e⟩:=Zo (b w os);have z1:=b1 w os;have z2:=k1 w os;have z3:=k2 w os;have z4:=b3 w os;have z6:=b4 w os;have z7:=b5 w os;rw [r] at z1 z2 z3 z4 z6 z7 ⊢;have z1:x.abs.heap.bltView=bltViewBooted:=Zj z1;have z2:x.abs.heap.keysOk (looseW q loose) ((recsOf q).map (·.name)) ((litsOf q).map (·.1)) ((clssOf q (looseW q loose)).map (·.name))=true:=Zj z2;have z3:(x.abs.heap.accountedOkI (importedModules p.main.body) && x.abs.heap.isNs mainGlobals && x.abs.heap.isNs builtinsNs && tablesOk q x.abs.heap && Xt x.abs && x.abs.gens.size == 0)=true:=Zj z3;obtain ⟨y1,y2⟩:=Prod.mk.inj (Zj z4);obtain ⟨y3,y4⟩:=Prod.mk.inj (Zj z7);obtain ⟨y5,y6⟩:=Prod.mk.inj (Zj z6);show some (seen ((recsOf q).map (·.name)) (ownsOf q) [] { heap:=x.abs.heap,drawn:=x.abs.drawn,toks:=x.abs.toks,os:=x.abs.os },x.abs.heap.bltView,(x.abs.heap.keysOk (looseW q loose) ((recsOf q).map (·.name)) ((litsOf q).map (·.1)) ((clssOf q (looseW q loose)).map (·.name)) && x.abs.heap.accountedOkI (importedModules p.main.body) && x.abs.heap.isNs mainGlobals && x.abs.heap.isNs builtinsNs && tablesOk q x.abs.heap && Xt x.abs && x.abs.gens.size == 0),tabsOk q x.abs,pinSeenD q (drecsOf q) x.abs,plainSeenE q (looseW q loose) x.abs,plainSeenD q loose x.abs,wideSeen q x.abs,clsSeenW q loose x.abs)=some (expectedOf q,bltViewBooted,true,true,pinGoodD (drecsOf q),plainGoodE q (looseW q loose),plainGoodD q loose,wideGood q,clsGoodW q loose);rw [z1,z2,Bool.true_and,z3,y1,y2,y3,y4,y5,y6];exact congrArg (fun z=>some (z,_)) e) c
end L2
namespace Prf
open PySem L2
def top (i:Nat):Stmt:=PySem.Challenge.pw_hurryprice_k81_plans_and_papers_written.main.body.getD i (.Pass ⟨0,0,0,0⟩)
abbrev s_a6:Stmt:=top 6
abbrev s_c0:Stmt:=top 9
abbrev s_a9:Stmt:=top 15
abbrev s_a8:Stmt:=top 16
abbrev s_bc:Stmt:=top 17
abbrev s_bb:Stmt:=top 18
abbrev s_b6:Stmt:=top 24
abbrev s_b1:Stmt:=top 25
abbrev s_a7:Stmt:=top 26
abbrev s_c2:Stmt:=top 27
abbrev s_af:Stmt:=top 28
abbrev s_c1:Stmt:=top 29
abbrev s_ba:Stmt:=top 30
abbrev s_b7:Stmt:=top 31
abbrev s_b0:Stmt:=top 32
abbrev s_bd:Stmt:=top 34
abbrev s_c6:Stmt:=top 35
abbrev s_c7:Stmt:=top 36
abbrev s_c5:Stmt:=top 37
abbrev s_b8:Stmt:=top 38
abbrev s_aa:Stmt:=top 39
abbrev s_c4:Stmt:=top 40
abbrev s_be:Stmt:=top 41
abbrev s_ae:Stmt:=top 42
abbrev s_a4:Stmt:=top 43
abbrev s_b2:Stmt:=top 44
abbrev s_ad:Stmt:=top 45
abbrev s_ac:Stmt:=top 46
abbrev s_b4:Stmt:=top 47
abbrev s_b9:Stmt:=top 48
abbrev s_b3:Stmt:=top 49
abbrev s_bf:Stmt:=top 50
abbrev s_ab:Stmt:=top 51
abbrev s_a3:Stmt:=top 52
abbrev s_a5:Stmt:=top 53
abbrev s_a2:Stmt:=top 54
abbrev s_b5:Stmt:=top 55
abbrev s_a1:Stmt:=top 56
abbrev s_a0:Stmt:=top 57
abbrev s_c3:Stmt:=top 58
abbrev s_c8:Stmt:=top 59
abbrev s_NoTextinit:Stmt:=C7c (top 3) 0
abbrev cO (n:Str) (a:Tok) (m:Str) (b c:Tok) (l p f:Int) (x y z u v:Value) (g k:Int) (d:Tok):Obj:=⟨.type "code",none,.fields #[.str n a,.str m b,.str "/claim/cut.py" c,.int l 0,.int p 0,.int 0 0,.int 0 0,.int f 0,x,.bool true,.int 181 0,y,.none,z,u,v,.int g 0,.int k 0,.str "/claim/cut.py" d],#[]⟩
abbrev fO (n:Str) (s:Stmt) (m:Str) (t:Tok) (c:Addr):Obj:=⟨.type "function",none,.func (PySem.W.fnOf n n (J2 s) (G0 s) (A6 s) .none .none .none (.str m t) none (.ref c) .none),#[]⟩
abbrev nE (P:Params) (x:Str) (t:Tok) (v:Value):DictEntry:=⟨PyData.keyHash P x,.str x t,v⟩
abbrev s_NoPaperinit:Stmt:=C7c (top 2) 0
noncomputable def kk:Params->PySem.W.Frag:=fun P =>
 (nat_lit 1,⟨(.type "dict"),none,(.dict #[nE P "builtins" 162 (.ref 4),nE P "__main__" 163 (.ref 5)] 2),#[]⟩) ::
 (nat_lit 3,⟨(.type "dict"),none,(.dict #[nE P "__name__" 165 (.str "law_hurryprice_k81_plans_and_papers_written" 427),nE P "__doc__" 166 .none,nE P "__package__" 167 .none,nE P "__loader__" 168 (.builtin "__main__.__loader__#opaque"),nE P "__spec__" 169 .none,nE P "__annotations__" 170 (.ref 6),nE P "__builtins__" 171 (.ref 4),nE P "__file__" 173 (.str "/claim/cut.py" 172),nE P "__cached__" 174 .none,nE P "HurryError" 206 (.ref 24),nE P "NoPaper" 231 (.ref 44),nE P "NoText" 256 (.ref 63),nE P "NoRow" 272 (.ref 75),nE P "common_part" 282 (.ref 84),nE P "NOUGHT" 287 (.ref 85),nE P "is_less" 295 (.ref 92),nE P "FIGURES" 299 (.str "0123456789" 298),nE P "MOST_FIGURES" 301 (.int 60 300),nE P "CHUNK" 303 (.int 1000000000000000000 302),nE P "CHUNK_FIGURES" 305 (.int 18 304),nE P "shown_whole" 316 (.ref 99),nE P "shown_ratio" 325 (.ref 106),nE P "whole_in" 331 (.ref 111),nE P "ratio_in" 343 (.ref 118),nE P "ARC_WORDS" 348 (.ref 119),nE P "MOST_STEPS" 352 (.int 10 351),nE P "MOST_ARCS" 354 (.int 100 353),nE P "MOST_NUMBER" 356 (.int 99 355),nE P "number_in" 364 (.ref 126),nE P "shown_plan" 370 (.ref 131),nE P "shown_paper" 376 (.ref 136),nE P "step_in" 388 (.ref 143),nE P "carried_in" 398 (.ref 150),nE P "plan_in" 404 (.ref 155),nE P "paper_in" 410 (.ref 160),nE P "read_plan" 418 (.ref 167),nE P "read_paper" 426 (.ref 174),nE P "_law_begun" 437 (.ref 181),nE P "_law_take" 448 (.ref 188),nE P "_law_low" 458 (.ref 195),nE P "_law_same" 468 (.ref 202),nE P "_law_number" 475 (.ref 209),nE P "_law_fraction" 485 (.ref 216),nE P "_law_plan" 497 (.ref 223),nE P "_law_paper" 509 (.ref 230),nE P "_law_plan_text" 515 (.ref 235),nE P "_law_paper_text" 521 (.ref 240),nE P "_law_odd_plan" 529 (.ref 247),nE P "_law_odd_paper" 537 (.ref 254),nE P "_law_number_in" 545 (.ref 261),nE P "_law_ratio_in" 557 (.ref 268),nE P "_law_plan_in" 563 (.ref 273),nE P "_law_paper_in" 575 (.ref 280),nE P "_law_put_in" 584 (.ref 287),nE P "_law_is_no_plan" 593 (.ref 294),nE P "_law_is_no_paper" 602 (.ref 301),nE P "_law_plan_holds" 612 (.ref 308),nE P "_law_paper_holds" 622 (.ref 315),nE P "_law_strange" 632 (.ref 322),nE P "_law_is_plan_read" 640 (.ref 329),nE P "_law_is_paper_read" 648 (.ref 336),nE P "_law_bent" 657 (.ref 343),nE P "law" 670 (.ref 350)] 63),#[]⟩) ::
 (nat_lit 23,⟨(.type "dict"),none,(.dict #[nE P "__module__" 196 (.str "hurryprice.errors" 187),nE P "__firstlineno__" 200 (.int 2 199),nE P "__static_attributes__" 201 (.ref 22),nE P "__weakref__" 203 (.ref 25),nE P "__doc__" 204 .none] 3),#[]⟩) ::
 (nat_lit 24,⟨(.type "type"),none,(.cls ⟨"HurryError",[(.type "ValueError")],[(.ref 24),(.type "ValueError"),(.type "Exception"),(.type "BaseException"),(.type "object")],23,"HurryError",true,[],[(.ref 44),(.ref 63),(.ref 75)],false,none,false⟩),#[(some (.ref 15)),none,(some (.str "HurryError" 189)),(some (.str "HurryError" 197)),(some (.builtin "ValueError.__new__")),(some (.bool true))]⟩) ::
 (nat_lit 40,cO "__init__" 219 "NoPaper.__init__" 220 221 6 2 3 (.ref 35) (.ref 36) (.ref 37) (.ref 38) (.ref 39) 224 6 225) ::
 (nat_lit 41,⟨(.type "function"),none,(.func (PySem.W.fnOf "__init__" "NoPaper.__init__" (J2 s_NoPaperinit) (G0 s_NoPaperinit) (A6 s_NoPaperinit) .none .none .none (.str "hurryprice.errors" 187) none (.ref 40) .none)),#[]⟩) ::
 (nat_lit 43,⟨(.type "dict"),none,(.dict #[nE P "__module__" 214 (.str "hurryprice.errors" 187),nE P "__firstlineno__" 218 (.int 4 217),nE P "__init__" 226 (.ref 41),nE P "__static_attributes__" 228 (.ref 42),nE P "__doc__" 229 .none] 2),#[]⟩) ::
 (nat_lit 44,⟨(.type "type"),none,(.cls ⟨"NoPaper",[(.ref 24)],[(.ref 44),(.ref 24),(.type "ValueError"),(.type "Exception"),(.type "BaseException"),(.type "object")],43,"NoPaper",true,[],[],false,none,false⟩),#[(some (.ref 28)),none,(some (.str "NoPaper" 207)),(some (.str "NoPaper" 215)),(some (.builtin "ValueError.__new__")),(some (.bool true))]⟩) ::
 (nat_lit 59,cO "__init__" 244 "NoText.__init__" 245 246 10 2 3 (.ref 54) (.ref 55) (.ref 56) (.ref 57) (.ref 58) 249 10 250) ::
 (nat_lit 60,⟨(.type "function"),none,(.func (PySem.W.fnOf "__init__" "NoText.__init__" (J2 s_NoTextinit) (G0 s_NoTextinit) (A6 s_NoTextinit) .none .none .none (.str "hurryprice.errors" 187) none (.ref 59) .none)),#[]⟩) ::
 (nat_lit 62,⟨(.type "dict"),none,(.dict #[nE P "__module__" 239 (.str "hurryprice.errors" 187),nE P "__firstlineno__" 243 (.int 8 242),nE P "__init__" 251 (.ref 60),nE P "__static_attributes__" 253 (.ref 61),nE P "__doc__" 254 .none] 2),#[]⟩) ::
 (nat_lit 63,⟨(.type "type"),none,(.cls ⟨"NoText",[(.ref 24)],[(.ref 63),(.ref 24),(.type "ValueError"),(.type "Exception"),(.type "BaseException"),(.type "object")],62,"NoText",true,[],[],false,none,false⟩),#[(some (.ref 47)),none,(some (.str "NoText" 232)),(some (.str "NoText" 240)),(some (.builtin "ValueError.__new__")),(some (.bool true))]⟩) ::
 (nat_lit 74,⟨(.type "dict"),none,(.dict #[nE P "__module__" 264 (.str "hurryprice.errors" 187),nE P "__firstlineno__" 268 (.int 12 267),nE P "__static_attributes__" 269 (.ref 73),nE P "__doc__" 270 .none] 2),#[]⟩) ::
 (nat_lit 75,⟨(.type "type"),none,(.cls ⟨"NoRow",[(.ref 24)],[(.ref 75),(.ref 24),(.type "ValueError"),(.type "Exception"),(.type "BaseException"),(.type "object")],74,"NoRow",true,[],[],false,none,false⟩),#[(some (.ref 66)),none,(some (.str "NoRow" 257)),(some (.str "NoRow" 265)),(some (.builtin "ValueError.__new__")),(some (.bool true))]⟩) ::
 (nat_lit 83,cO "common_part" 275 "common_part" 276 277 15 2 3 (.ref 78) (.ref 79) (.ref 80) (.ref 81) (.ref 82) 280 15 281) ::
 (nat_lit 84,fO "common_part" s_a6 "hurryprice.names" 273 83) ::
 (nat_lit 85,⟨(.type "tuple"),none,(.seq #[(.int 0 285),(.int 1 286)] 0),#[]⟩) ::
 (nat_lit 91,cO "is_less" 288 "is_less" 289 290 22 2 3 (.ref 86) (.ref 87) (.ref 88) (.ref 89) (.ref 90) 293 22 294) ::
 (nat_lit 92,fO "is_less" s_c0 "hurryprice.ratios" 283 91) ::
 (nat_lit 98,cO "shown_whole" 306 "shown_whole" 307 308 29 1 3 (.ref 93) (.ref 94) (.ref 95) (.ref 96) (.ref 97) 314 29 315) ::
 (nat_lit 99,fO "shown_whole" s_a9 "hurryprice.nettexts" 296 98) ::
 (nat_lit 105,cO "shown_ratio" 317 "shown_ratio" 318 319 38 1 3 (.ref 100) (.ref 101) (.ref 102) (.ref 103) (.ref 104) 323 38 324) ::
 (nat_lit 106,fO "shown_ratio" s_a8 "hurryprice.nettexts" 296 105) ::
 (nat_lit 110,cO "whole_in" 326 "whole_in" 327 328 41 1 3 (.ref 107) (.ref 108) .none .none (.ref 109) 329 41 330) ::
 (nat_lit 111,fO "whole_in" s_bc "hurryprice.nettexts" 296 110) ::
 (nat_lit 117,cO "ratio_in" 332 "ratio_in" 333 334 47 1 3 (.ref 112) (.ref 113) (.ref 114) (.ref 115) (.ref 116) 341 47 342) ::
 (nat_lit 118,fO "ratio_in" s_bb "hurryprice.nettexts" 296 117) ::
 (nat_lit 119,⟨(.type "tuple"),none,(.seq #[(.str "start" 344),(.str "end" 345),(.str "wait" 346),(.str "hold" 347)] 0),#[]⟩) ::
 (nat_lit 125,cO "number_in" 357 "number_in" 358 359 61 1 3 (.ref 120) (.ref 121) (.ref 122) (.ref 123) (.ref 124) 362 61 363) ::
 (nat_lit 126,fO "number_in" s_b6 "hurryprice.papertexts" 349 125) ::
 (nat_lit 130,cO "shown_plan" 365 "shown_plan" 366 367 64 1 3 (.ref 127) (.ref 128) .none .none (.ref 129) 368 64 369) ::
 (nat_lit 131,fO "shown_plan" s_b1 "hurryprice.papertexts" 349 130) ::
 (nat_lit 135,cO "shown_paper" 371 "shown_paper" 372 373 66 1 3 (.ref 132) (.ref 133) .none .none (.ref 134) 374 66 375) ::
 (nat_lit 136,fO "shown_paper" s_a7 "hurryprice.papertexts" 349 135) ::
 (nat_lit 142,cO "step_in" 377 "step_in" 378 379 70 1 3 (.ref 137) (.ref 138) (.ref 139) (.ref 140) (.ref 141) 386 70 387) ::
 (nat_lit 143,fO "step_in" s_c2 "hurryprice.papertexts" 349 142) ::
 (nat_lit 149,cO "carried_in" 389 "carried_in" 390 391 76 1 3 (.ref 144) (.ref 145) (.ref 146) (.ref 147) (.ref 148) 396 76 397) ::
 (nat_lit 150,fO "carried_in" s_af "hurryprice.papertexts" 349 149) ::
 (nat_lit 154,cO "plan_in" 399 "plan_in" 400 401 84 1 3 (.ref 151) (.ref 152) .none .none (.ref 153) 402 84 403) ::
 (nat_lit 155,fO "plan_in" s_c1 "hurryprice.papertexts" 349 154) ::
 (nat_lit 159,cO "paper_in" 405 "paper_in" 406 407 87 1 3 (.ref 156) (.ref 157) .none .none (.ref 158) 408 87 409) ::
 (nat_lit 160,fO "paper_in" s_ba "hurryprice.papertexts" 349 159) ::
 (nat_lit 166,cO "read_plan" 411 "read_plan" 412 413 92 1 3 (.ref 161) (.ref 162) (.ref 163) (.ref 164) (.ref 165) 416 92 417) ::
 (nat_lit 167,fO "read_plan" s_b7 "hurryprice.papertexts" 349 166) ::
 (nat_lit 173,cO "read_paper" 419 "read_paper" 420 421 97 1 3 (.ref 168) (.ref 169) (.ref 170) (.ref 171) (.ref 172) 424 97 425) ::
 (nat_lit 174,fO "read_paper" s_b0 "hurryprice.papertexts" 349 173) ::
 (nat_lit 180,cO "_law_begun" 429 "_law_begun" 430 431 103 2 3 (.ref 175) (.ref 176) (.ref 177) (.ref 178) (.ref 179) 435 103 436) ::
 (nat_lit 181,fO "_law_begun" s_bd "law_hurryprice_k81_plans_and_papers_written" 427 180) ::
 (nat_lit 187,cO "_law_take" 438 "_law_take" 439 440 108 2 3 (.ref 182) (.ref 183) (.ref 184) (.ref 185) (.ref 186) 446 108 447) ::
 (nat_lit 188,fO "_law_take" s_c6 "law_hurryprice_k81_plans_and_papers_written" 427 187) ::
 (nat_lit 194,cO "_law_low" 449 "_law_low" 450 451 119 2 3 (.ref 189) (.ref 190) (.ref 191) (.ref 192) (.ref 193) 456 119 457) ::
 (nat_lit 195,fO "_law_low" s_c7 "law_hurryprice_k81_plans_and_papers_written" 427 194) ::
 (nat_lit 201,cO "_law_same" 459 "_law_same" 460 461 125 2 3 (.ref 196) (.ref 197) (.ref 198) (.ref 199) (.ref 200) 466 125 467) ::
 (nat_lit 202,fO "_law_same" s_c5 "law_hurryprice_k81_plans_and_papers_written" 427 201) ::
 (nat_lit 208,cO "_law_number" 469 "_law_number" 470 471 142 1 3 (.ref 203) (.ref 204) (.ref 205) (.ref 206) (.ref 207) 473 142 474) ::
 (nat_lit 209,fO "_law_number" s_b8 "law_hurryprice_k81_plans_and_papers_written" 427 208) ::
 (nat_lit 215,cO "_law_fraction" 476 "_law_fraction" 477 478 146 2 3 (.ref 210) (.ref 211) (.ref 212) (.ref 213) (.ref 214) 483 146 484) ::
 (nat_lit 216,fO "_law_fraction" s_aa "law_hurryprice_k81_plans_and_papers_written" 427 215) ::
 (nat_lit 222,cO "_law_plan" 486 "_law_plan" 487 488 152 2 3 (.ref 217) (.ref 218) (.ref 219) (.ref 220) (.ref 221) 495 152 496) ::
 (nat_lit 223,fO "_law_plan" s_c4 "law_hurryprice_k81_plans_and_papers_written" 427 222) ::
 (nat_lit 229,cO "_law_paper" 498 "_law_paper" 499 500 161 1 3 (.ref 224) (.ref 225) (.ref 226) (.ref 227) (.ref 228) 507 161 508) ::
 (nat_lit 230,fO "_law_paper" s_be "law_hurryprice_k81_plans_and_papers_written" 427 229) ::
 (nat_lit 234,cO "_law_plan_text" 510 "_law_plan_text" 511 512 169 1 3 (.ref 231) (.ref 232) .none .none (.ref 233) 513 169 514) ::
 (nat_lit 235,fO "_law_plan_text" s_ae "law_hurryprice_k81_plans_and_papers_written" 427 234) ::
 (nat_lit 239,cO "_law_paper_text" 516 "_law_paper_text" 517 518 171 1 3 (.ref 236) (.ref 237) .none .none (.ref 238) 519 171 520) ::
 (nat_lit 240,fO "_law_paper_text" s_a4 "law_hurryprice_k81_plans_and_papers_written" 427 239) ::
 (nat_lit 246,cO "_law_odd_plan" 522 "_law_odd_plan" 523 524 175 1 3 (.ref 241) (.ref 242) (.ref 243) (.ref 244) (.ref 245) 527 175 528) ::
 (nat_lit 247,fO "_law_odd_plan" s_b2 "law_hurryprice_k81_plans_and_papers_written" 427 246) ::
 (nat_lit 253,cO "_law_odd_paper" 530 "_law_odd_paper" 531 532 180 1 3 (.ref 248) (.ref 249) (.ref 250) (.ref 251) (.ref 252) 535 180 536) ::
 (nat_lit 254,fO "_law_odd_paper" s_ad "law_hurryprice_k81_plans_and_papers_written" 427 253) ::
 (nat_lit 260,cO "_law_number_in" 538 "_law_number_in" 539 540 186 1 3 (.ref 255) (.ref 256) (.ref 257) (.ref 258) (.ref 259) 543 186 544) ::
 (nat_lit 261,fO "_law_number_in" s_ac "law_hurryprice_k81_plans_and_papers_written" 427 260) ::
 (nat_lit 267,cO "_law_ratio_in" 546 "_law_ratio_in" 547 548 193 1 3 (.ref 262) (.ref 263) (.ref 264) (.ref 265) (.ref 266) 555 193 556) ::
 (nat_lit 268,fO "_law_ratio_in" s_b4 "law_hurryprice_k81_plans_and_papers_written" 427 267) ::
 (nat_lit 272,cO "_law_plan_in" 558 "_law_plan_in" 559 560 206 1 3 (.ref 269) (.ref 270) .none .none (.ref 271) 561 206 562) ::
 (nat_lit 273,fO "_law_plan_in" s_b9 "law_hurryprice_k81_plans_and_papers_written" 427 272) ::
 (nat_lit 279,cO "_law_paper_in" 564 "_law_paper_in" 565 566 214 1 3 (.ref 274) (.ref 275) (.ref 276) (.ref 277) (.ref 278) 573 214 574) ::
 (nat_lit 280,fO "_law_paper_in" s_b3 "law_hurryprice_k81_plans_and_papers_written" 427 279) ::
 (nat_lit 286,cO "_law_put_in" 576 "_law_put_in" 577 578 226 2 3 (.ref 281) (.ref 282) (.ref 283) (.ref 284) (.ref 285) 582 226 583) ::
 (nat_lit 287,fO "_law_put_in" s_bf "law_hurryprice_k81_plans_and_papers_written" 427 286) ::
 (nat_lit 293,cO "_law_is_no_plan" 585 "_law_is_no_plan" 586 587 229 1 3 (.ref 288) (.ref 289) (.ref 290) (.ref 291) (.ref 292) 591 229 592) ::
 (nat_lit 294,fO "_law_is_no_plan" s_ab "law_hurryprice_k81_plans_and_papers_written" 427 293) ::
 (nat_lit 300,cO "_law_is_no_paper" 594 "_law_is_no_paper" 595 596 236 1 3 (.ref 295) (.ref 296) (.ref 297) (.ref 298) (.ref 299) 600 236 601) ::
 (nat_lit 301,fO "_law_is_no_paper" s_a3 "law_hurryprice_k81_plans_and_papers_written" 427 300) ::
 (nat_lit 307,cO "_law_plan_holds" 603 "_law_plan_holds" 604 605 245 1 3 (.ref 302) (.ref 303) (.ref 304) (.ref 305) (.ref 306) 610 245 611) ::
 (nat_lit 308,fO "_law_plan_holds" s_a5 "law_hurryprice_k81_plans_and_papers_written" 427 307) ::
 (nat_lit 314,cO "_law_paper_holds" 613 "_law_paper_holds" 614 615 255 1 3 (.ref 309) (.ref 310) (.ref 311) (.ref 312) (.ref 313) 620 255 621) ::
 (nat_lit 315,fO "_law_paper_holds" s_a2 "law_hurryprice_k81_plans_and_papers_written" 427 314) ::
 (nat_lit 321,cO "_law_strange" 623 "_law_strange" 624 625 265 2 3 (.ref 316) (.ref 317) (.ref 318) (.ref 319) (.ref 320) 630 265 631) ::
 (nat_lit 322,fO "_law_strange" s_b5 "law_hurryprice_k81_plans_and_papers_written" 427 321) ::
 (nat_lit 328,cO "_law_is_plan_read" 633 "_law_is_plan_read" 634 635 269 1 3 (.ref 323) (.ref 324) (.ref 325) (.ref 326) (.ref 327) 638 269 639) ::
 (nat_lit 329,fO "_law_is_plan_read" s_a1 "law_hurryprice_k81_plans_and_papers_written" 427 328) ::
 (nat_lit 335,cO "_law_is_paper_read" 641 "_law_is_paper_read" 642 643 274 1 3 (.ref 330) (.ref 331) (.ref 332) (.ref 333) (.ref 334) 646 274 647) ::
 (nat_lit 336,fO "_law_is_paper_read" s_a0 "law_hurryprice_k81_plans_and_papers_written" 427 335) ::
 (nat_lit 342,cO "_law_bent" 649 "_law_bent" 650 651 279 2 3 (.ref 337) (.ref 338) (.ref 339) (.ref 340) (.ref 341) 655 279 656) ::
 (nat_lit 343,fO "_law_bent" s_c3 "law_hurryprice_k81_plans_and_papers_written" 427 342) ::
 (nat_lit 349,cO "law" 658 "law" 659 660 284 1 3 (.ref 344) (.ref 345) (.ref 346) (.ref 347) (.ref 348) 668 284 669) ::
 (nat_lit 350,fO "law" s_c8 "law_hurryprice_k81_plans_and_papers_written" 427 349) :: []
noncomputable def qq:Program:=PySem.W.view PySem.Challenge.pw_hurryprice_k81_plans_and_papers_written [1,2,3,4,6,8,9,11,12,13,14,15,16,17,18,19,21,22,23,24,25,26,27,28,29,30,31,32,34,35,36,37,38,39,40,41,42,43,44,45,46,47,48,49,50,51,52,53,54,55,56,57,58,59]
noncomputable def aa:List Nat:=[1,3,23,24,40,41,43,44,59,60,62,63,74,75,83,84,85,91,92,98,99,105,106,110,111,117,118,119,125,126,130,131,135,136,142,143,149,150,154,155,159,160,166,167,173,174,180,181,187,188,194,195,201,202,208,209,215,216,222,223,229,230,234,235,239,240,246,247,253,254,260,261,267,268,272,273,279,280,286,287,293,294,300,301,307,308,314,315,321,322,328,329,335,336,342,343,349,350]
theorem C8p:∀ P:Params,aa=(kk P).map (·.1):=fun P=>by kernel_rfl
noncomputable abbrev hh:PySem.W.Hook:=PySem.W.kHook kk aa C8p
noncomputable abbrev xt (s:Shared):Bool:=PySem.W.xlAt qq [] s && PySem.W.recOk (PySem.W.RowW.records PySem.Challenge.rw_hurryprice_k81_plans_and_papers_written.row.toRowW) s
theorem run1 (w:World) (os:OsState):(L2.ranT PySem.Challenge.pw_hurryprice_k81_plans_and_papers_written 4694 w os).map (fun x=>PySem.W.staticsOk (importedModules PySem.Challenge.pw_hurryprice_k81_plans_and_papers_written.main.body) (PySem.W.boot_heap w.params) x.abs.heap && PySem.W.namesBound PySem.Challenge.pw_hurryprice_k81_plans_and_papers_written x.abs.heap && PySem.W.gensDone x.abs && PySem.W.laidKept (PySem.W.boot_heap w.params) x.abs.heap)=some true:=by kernel_rfl
open PySem.W PySem.Spec PyProof.Rows
theorem run2 (w:World) (os:OsState):(L2.ranT PySem.Challenge.pw_hurryprice_k81_plans_and_papers_written 4694 w os).map (fun x=>seen ((recsOf qq).map (·.name)) (ownsOf qq) [] { heap:=x.abs.heap,drawn:=x.abs.drawn,toks:=x.abs.toks,os:=x.abs.os })=some (expectedOf qq):=by kernel_rfl
theorem run4 (w:World) (os:OsState):(L2.ranT PySem.Challenge.pw_hurryprice_k81_plans_and_papers_written 4694 w os).map (fun x=>x.abs.heap.bltView)=some bltViewBooted:=by kernel_rfl
theorem run5 (w:World) (os:OsState):(L2.ranT PySem.Challenge.pw_hurryprice_k81_plans_and_papers_written 4694 w os).map (fun x=>x.abs.heap.keysOk (looseW qq []) ((recsOf qq).map (·.name)) ((litsOf qq).map (·.1)) ((clssOf qq (looseW qq [])).map (·.name)))=some true:=by kernel_rfl
theorem run6 (w:World) (os:OsState):(L2.ranT PySem.Challenge.pw_hurryprice_k81_plans_and_papers_written 4694 w os).map (fun x=>x.abs.heap.accountedOkI (importedModules PySem.Challenge.pw_hurryprice_k81_plans_and_papers_written.main.body) && x.abs.heap.isNs mainGlobals && x.abs.heap.isNs builtinsNs && tablesOk qq x.abs.heap && xt x.abs && x.abs.gens.size == 0)=some true:=by kernel_rfl
theorem run7 (w:World) (os:OsState):(L2.ranT PySem.Challenge.pw_hurryprice_k81_plans_and_papers_written 4694 w os).map (fun x=>(tabsOk qq x.abs,pinSeenD qq (drecsOf qq) x.abs))=some (true,pinGoodD (drecsOf qq)):=by kernel_rfl
theorem run9 (w:World) (os:OsState):(L2.ranT PySem.Challenge.pw_hurryprice_k81_plans_and_papers_written 4694 w os).map (fun x=>(plainSeenE qq (looseW qq []) x.abs,plainSeenD qq [] x.abs))=some (plainGoodE qq (looseW qq []),plainGoodD qq []):=by kernel_rfl
theorem run8 (w:World) (os:OsState):(L2.ranT PySem.Challenge.pw_hurryprice_k81_plans_and_papers_written 4694 w os).map (fun x=>(wideSeen qq x.abs,clsSeenW qq [] x.abs))=some (wideGood qq,clsGoodW qq []):=by kernel_rfl
theorem run3 (w:World) (os:OsState):(L2.ranT PySem.Challenge.pw_hurryprice_k81_plans_and_papers_written 4694 w os).map (fun x=>hh.obs x.abs)=some (hh.val w):=by kernel_rfl
theorem left:PySem.W.LeftO PySem.Challenge.pw_hurryprice_k81_plans_and_papers_written qq [] xt hh.obs hh.val 4694:=L2.C6l (by kernel_rfl) (by decide) (fun s=>by kernel_rfl) run1 run2 run4 run5 run6 run7 run9 run8 run3
theorem said:PySem.Challenge.rw_hurryprice_k81_plans_and_papers_written.wellSaid=true:=by
 unfold PySem.W.OpenLaw.wellSaid
 repeat' with_reducible refine Bool.and_eq_true_iff.mpr ⟨?_,?_⟩
 all_goals decide +kernel
end Prf
namespace L2
open PySem PySem.Spec PyProof.Rows
abbrev Key:=Sum Int Str
def C6x:Key->Value->Bool
 | .inl k,v=>Value.isInt k v
 | .inr x,v=>Value.isStrOf x v
def keyH (w:World):Key->Int
 | .inl k=>hashInt k
 | .inr x=>hashStr w x
theorem F1:∀ {k:Key} {v:Value},C6x k v=true->(∃ i t,k=Sum.inl i/\v=Value.int i t)\/(∃ x t,k=Sum.inr x/\v=Value.str x t)
 | .inl i,v,h=>by
  obtain ⟨t,e⟩:=Value.isInt_shape (k:=i) (v:=v) h;exact .inl ⟨i,t,rfl,e⟩
 | .inr x,v,h=>by
  obtain ⟨t,e⟩:=Value.isStrOf_shape (x:=x) (v:=v) h;exact .inr ⟨x,t,rfl,e⟩
theorem C6w (a b:Int):decide ((Sum.inl a:Key)=Sum.inl b)=(a == b):=by
 by_cases e:a=b
 ·subst e; simp
 ·have h:¬ (Sum.inl a:Key)=Sum.inl b:=fun q=>e (Sum.inl.inj q);rw [Zd h];exact (beq_eq_false_iff_ne.mpr e).symm
theorem C6t (a b:Str):decide ((Sum.inr a:Key)=Sum.inr b)=decide (a=b):=by
 by_cases e:a=b
 ·subst e; simp
 ·have h:¬ (Sum.inr a:Key)=Sum.inr b:=fun q=>e (Sum.inr.inj q);rw [Zd h,Zd e]
theorem C6v (a:Int) (b:Str):decide ((Sum.inl a:Key)=Sum.inr b)=false:=Zd (fun q=>nomatch q)
theorem C6u (a:Str) (b:Int):decide ((Sum.inr a:Key)=Sum.inl b)=false:=Zd (fun q=>nomatch q)
def B2y (prog:Program) (w:World):PySem.KeyKind prog w Key where
 is:=C6x
 hash:=keyH w
 inj:=fun v a b ha hb=>by
  rcases F1 ha with ⟨i,t,rfl,rfl⟩ | ⟨x,t,rfl,rfl⟩
  ·rcases F1 hb with ⟨j,u,rfl,e⟩ | ⟨y,u,rfl,e⟩
   ·injection e with e1 _; rw [e1]
   ·exact nomatch e
  ·rcases F1 hb with ⟨j,u,rfl,e⟩ | ⟨y,u,rfl,e⟩
   ·exact nomatch e
   ·injection e with e1 _; rw [e1]
 byValue:=fun k v h=>by
  rcases F1 h with ⟨i,t,rfl,rfl⟩ | ⟨x,t,rfl,rfl⟩ <;> rfl
 pyHash:=fun hv h=>by
  rcases F1 hv with ⟨i,t,rfl,rfl⟩ | ⟨x,t,rfl,rfl⟩
  ·exact wpAny_pyHash_int h
  ·exact wpAny_pyHash_str h
 eqBool:=fun hu hv h=>by
  rcases F1 hu with ⟨i,t,rfl,rfl⟩ | ⟨x,t,rfl,rfl⟩
  ·rcases F1 hv with ⟨j,u,rfl,rfl⟩ | ⟨y,u,rfl,rfl⟩
   ·rw [C6w] at h; exact wpAny_eqBool_int h
   ·rw [C6v] at h; exact SeqAt.EqAt.int_str i t y u _ _ _ _ h
  ·rcases F1 hv with ⟨j,u,rfl,rfl⟩ | ⟨y,u,rfl,rfl⟩
   ·rw [C6u] at h; exact SeqAt.EqAt.str_int x t j u _ _ _ _ h
   ·rw [C6t] at h; exact wpAny_eqBool_str h
 «strs»:=fun k x t v h=>by
  rcases F1 h with ⟨i,u,rfl,e⟩ | ⟨y,u,rfl,e⟩
  ·exact nomatch e
  ·injection e with e1 _
   subst e1;cases v <;> rfl
end L2
namespace L2
open PySem PySem.Spec PyProof.Rows
inductive V where
 | non | bl (b:Bool) | int (i:Int) | str (x:Str) | byt (b:Array UInt8) | flt (b:UInt64) | ref (a:Addr) | ty (n:String)
 deriving DecidableEq
def RelV:V->Value->Prop
 | .non,u=>u=Value.none
 | .bl b,u=>u=Value.bool b
 | .int i,u=>∃ t,u=Value.int i t
 | .str x,u=>∃ t,u=Value.str x t
 | .byt b,u=>∃ t,u=Value.bytes b t
 | .flt b,u=>∃ t,u=Value.float b t
 | .ref a,u=>u=Value.ref a
 | .ty n,u=>u=Value.type n
abbrev Vals:List V->List Value->Prop:=Paired RelV
theorem Vals.length {xs:List V} {us:List Value} (r:Vals xs us):xs.length=us.length:=Paired.length r
theorem Vals.get:∀ {xs:List V} {us:List Value} {i:Nat} {x:V},Vals xs us->xs[i]?=some x->∃ u,us[i]?=some u/\RelV x u
 | _,_,_,_,.nil,e=>by simp at e
 | _,_,0,_,.cons r _,e=>by simp at e; subst e; exact ⟨_,rfl,r⟩
 | _,_,i + 1,x,.cons _ t,e=>by
  obtain ⟨u,h1,h2⟩:=Vals.get (i:=i) (x:=x) t (by simpa using e);exact ⟨u,by simpa using h1,h2⟩
theorem Vals.set {x:V} {u:Value} (r:RelV x u):∀ {xs:List V} {us:List Value} (i:Nat),Vals xs us->Vals (xs.set i x) (us.set i u)
 | _,_,_,.nil=>.nil
 | _,_,0,.cons _ t=>.cons r t
 | _,_,i + 1,.cons q t=>.cons q (Vals.set r i t)
theorem Vals.append:∀ {xs ys:List V} {us ws:List Value},Vals xs us->Vals ys ws->Vals (xs++ys) (us++ws)
 | _,_,_,_,.nil,s=>s
 | _,_,_,_,.cons r t,s=>.cons r (Vals.append t s)
theorem Vals.take:∀ {xs:List V} {us:List Value} (n:Nat),Vals xs us->Vals (xs.take n) (us.take n)
 | _,_,0,_=>.nil
 | _,_,_ + 1,.nil=>.nil
 | _,_,n + 1,.cons r t=>.cons r (Vals.take n t)
theorem Vals.drop:∀ {xs:List V} {us:List Value} (n:Nat),Vals xs us->Vals (xs.drop n) (us.drop n)
 | _,_,0,r=>r
 | _,_,_ + 1,.nil=>.nil
 | _,_,n + 1,.cons _ t=>Vals.drop n t
theorem Vals.none_of:∀ {xs:List V} {us:List Value} {i:Nat},Vals xs us->xs[i]?=none->us[i]?=none:=fun {xs us i} r e=>by
 have h1:=r.length;have h2:xs.length<=i:=List.getElem?_eq_none_iff.mp e;exact List.getElem?_eq_none_iff.mpr (by omega)
def RelO:Option V->Option Value->Prop
 | some v,some u=>RelV v u
 | none,none=>True
 | _,_=>False
def KV {κ:Type}:List (κ × V)->List (κ × Value)->Prop:=Paired fun (p:κ × V) (q:κ × Value)=>p.1=q.1/\RelV p.2 q.2
def kV:Key->V
 | .inl i=>.int i
 | .inr x=>.str x
inductive HO where
  | lst (xs:List V)
  | tup (xs:List V)
  | dK (kvs:List (Key × V)) | dT (kvs:List (List Key × V))
  | set (S:Int->Bool) (n:Nat)
  | ins (C dx:Addr) (fs:List (Str × V))
  | own (x:Addr)
  | xd (fs:List (Str × V))
  | met (f x:Addr)
  | rng (lo hi:Int)
  | frz (o:Obj) (u:HO)
  | tbl (ps:Array Value)
  | ext (φ:Heap->Prop)
abbrev Hp:=Addr->Option HO
def upd (H:Hp) (a:Addr) (o:HO):Hp:=fun b=>if b=a then some o else H b
theorem B9 {H:Hp} {a:Addr} {o:HO}:upd H a o a=some o:=by unfold upd; rw [if_pos rfl]
theorem B7 {H:Hp} {a b:Addr} {o:HO} (h:b≠a):upd H a o b=H b:=by unfold upd; rw [if_neg h]
theorem C7 {H:Hp} {a b:Addr} {o:HO} (h:H a=some o) (h':H b=none):a≠b:=by
 intro e; subst e; rw [h] at h'; cases h'
section
variable (P:Program) (w:World)
def ObjOk (H:Hp) (h:Heap) (a:Addr):HO->Prop
 | .lst xs=>xs.length<=sizeLine/\∃ (its:List Value) (n:Nat),Vals xs its/\h.get? a=some { cls:=.type "list",data:=.seq its.toArray n }
 | .tup xs=>xs.length<=sizeLine/\∃ its:List Value,Vals xs its/\IsTup h a its.toArray
 | .dK kvs=>kvs.length<=sizeLine/\(a == sysModules)=false/\∃ vs,KV kvs vs/\h.DictOf (B2y P w) a vs
 | .dT kvs=>kvs.length<=sizeLine/\(a == sysModules)=false/\∃ xs:List (List Key × Addr × Value),
   Paired (fun (p:List Key × V) (q:List Key × Addr × Value)=>p.1=q.1/\H q.2.1=some (.tup (p.1.map kV))/\RelV p.2 q.2.2) kvs xs /\
   ∃ o es ep,h.get? a=some o/\o.ExactDict/\o.data=.dict es ep/\es.toList=xs.map (entryOfKey (tupleKind (B2y P w)))/\(xs.map (·.1)).Nodup
 | .set S n=>h.SetOf (intKind P w) a S n
 | .ins C dx fs=>H dx=some (.own a)/\fs.length<=1000/\dx≠a/\h.get? a=some (PySem.W.instObj C dx) /\
   ∃ mA,h.Ns1 dx mA/\(∀ f,RelO (fs.lookup f) (mA f))/\PySem.Within mA (fs.map (·.1))
 | .own _=>∃ o,h.get? a=some o
 | .xd fs=>∃ mA,h.Ns1 a mA/\∀ f,RelO (fs.lookup f) (mA f)
 | .rng lo hi=>∃ t u v,h.get? a=some { cls:=.type "range",data:=.fields #[.int lo t,.int hi u,.int 1 v] }
 | .frz o u=>h.get? a=some o/\ObjOk H h a u
 | .tbl ps=>h.get? a=some { cls:=.none,data:=.fields ps }
 | .met f x=>h.get? a=some (PySem.W.methodObj (.ref f) (.ref x))
 | .ext φ=>φ h/\(∃ o,h.get? a=some o)/\∀ h1 h2:Heap,φ h1->(∀ o,h1.get? a=some o->h2.get? a=some o)->φ h2
def HOk (H:Hp) (h:Heap):Prop:=∀ a o,H a=some o->ObjOk P w H h a o
end
section
variable {P:Program} {w:World} {H H':Hp} {h h':Heap} {a:Addr} {o:HO}
theorem ObjOk.lt (x:ObjOk P w H h a o):a < h.objs.size:=by
 cases o with
 | lst xs=>obtain ⟨_,_,_,_,e⟩:=x; exact Heap.lt_size e
 | tup xs=>obtain ⟨_,_,_,p⟩:=x; exact p.lt
 | dK kvs=>obtain ⟨_,_,_,_,o,_,_,e,_⟩:=x; exact Heap.lt_size e
 | dT kvs=>obtain ⟨_,_,_,_,o,_,_,e,_⟩:=x; exact Heap.lt_size e
 | set S n=>obtain ⟨o,_,_,_,e,_⟩:=x; exact Heap.lt_size e
 | ins C dx fs=>obtain ⟨_,_,_,e,_⟩:=x; exact Heap.lt_size e
 | own y=>obtain ⟨_,e⟩:=x; exact Heap.lt_size e
 | xd fs=>obtain ⟨_,⟨_,_,_,e,_⟩,_⟩:=x; exact Heap.lt_size e
 | rng lo hi=>obtain ⟨_,_,_,e⟩:=x; exact Heap.lt_size e
 | frz ob u=>obtain ⟨e,_⟩:=x; exact Heap.lt_size e
 | tbl ps=>exact Heap.lt_size (show h.get? a=some _ from x)
 | met f y=>exact Heap.lt_size (show h.get? a=some _ from x)
 | ext φ=>obtain ⟨_,⟨_,e⟩,_⟩:=x; exact Heap.lt_size e
theorem Paired.mapP {α β:Type} {F G:α->β->Prop}:∀ {l₁:List α} {l₂:List β},Paired F l₁ l₂->(∀ a b,F a b->G a b)->Paired G l₁ l₂
 | _,_,.nil,_=>.nil
 | _,_,.cons r t,f=>.cons (f _ _ r) (Paired.mapP t f)
theorem ObjOk.stay (x:ObjOk P w H h a o) (k:∀ b u,(b=a\/H b=some (.own a))->h.get? b=some u->h'.get? b=some u)
  (ho:∀ b,H b=some (.own a)->H' b=some (.own a)) (ht:∀ b xs,H b=some (.tup xs)->H' b=some (.tup xs)):ObjOk P w H' h' a o:=by
 induction o with
 | lst xs=>obtain ⟨z,its,n,r,e⟩:=x; exact ⟨z,its,n,r,k _ _ (.inl rfl) e⟩
 | tup xs=>obtain ⟨z,its,r,ob,e,c⟩:=x; exact ⟨z,its,r,ob,k _ _ (.inl rfl) e,c⟩
 | dK kvs=>obtain ⟨z,y,vs,r,ob,es,ep,e,c⟩:=x; exact ⟨z,y,vs,r,ob,es,ep,k _ _ (.inl rfl) e,c⟩
 | dT kvs =>
  obtain ⟨z,y,xs,r,ob,es,ep,e,c⟩:=x;exact ⟨z,y,xs,Paired.mapP r fun p q z=>⟨z.1,ht _ _ z.2.1,z.2.2⟩,ob,es,ep,k _ _ (.inl rfl) e,c⟩
 | set S n=>obtain ⟨ob,es,ep,t,e,c⟩:=x; exact ⟨ob,es,ep,t,k _ _ (.inl rfl) e,c⟩
 | ins C dx fs =>
  obtain ⟨d,z,ne,e,mA,⟨od,es,ep,e2,c⟩,r⟩:=x;exact ⟨ho _ d,z,ne,k _ _ (.inl rfl) e,mA,⟨od,es,ep,k _ _ (.inr d) e2,c⟩,r⟩
 | own y=>obtain ⟨ob,e⟩:=x; exact ⟨ob,k _ _ (.inl rfl) e⟩
 | xd fs=>obtain ⟨mA,⟨od,es,ep,e,c⟩,r⟩:=x; exact ⟨mA,⟨od,es,ep,k _ _ (.inl rfl) e,c⟩,r⟩
 | rng lo hi=>obtain ⟨t,u,v,e⟩:=x; exact ⟨t,u,v,k _ _ (.inl rfl) e⟩
 | frz ob u ih=>obtain ⟨e,q⟩:=x; exact ⟨k _ _ (.inl rfl) e,ih q⟩
 | tbl ps =>
  have e:h.get? a=some { cls:=.none,data:=.fields ps }:=x;show h'.get? a=some { cls:=.none,data:=.fields ps };exact k a _ (.inl rfl) e
 | met f y =>
  have e:h.get? a=some (PySem.W.methodObj (.ref f) (.ref y)):=x;show h'.get? a=some (PySem.W.methodObj (.ref f) (.ref y));exact k a _ (.inl rfl) e
 | ext φ=>obtain ⟨p,⟨o,e⟩,st⟩:=x; exact ⟨st _ _ p fun o q=>k _ _ (.inl rfl) q,⟨o,k _ _ (.inl rfl) e⟩,st⟩
theorem HOk.lt (x:HOk P w H h) (e:H a=some o):a < h.objs.size:=(x a o e).lt
theorem HOk.fresh (x:HOk P w H h) (e:h.objs.size<=a):H a=none:=by
 cases q:H a with
 | none=>rfl
 | some u=>exact absurd (Nat.lt_of_lt_of_le (x.lt q) e) (Nat.lt_irrefl _)
theorem HOk.kept (x:HOk P w H h) (k:∀ b u,h.get? b=some u->h'.get? b=some u):HOk P w H h':=fun a o e =>
 (x a o e).stay (fun b u _ q=>k b u q) (fun _ q=>q) fun _ _ q=>q
theorem HOk.laid (x:HOk P w H h) (k:∀ b u,h.get? b=some u->h'.get? b=some u) (hp:h.objs.size<=a) (new:ObjOk P w (upd H a o) h' a o):HOk P w (upd H a o) h':=fun b u e=>by
 have hn:=x.fresh hp;by_cases hb:b=a
 ·subst hb; rw [B9] at e; cases e; exact new
 ·rw [B7 hb] at e;exact (x b u e).stay (fun c v _ q=>k c v q) (fun c q=>by rw [B7 (C7 q hn)]; exact q) fun c xs q=>by rw [B7 (C7 q hn)]; exact q
end
def Rd (H:Hp) (a:Addr) (u:HO):Prop:=H a=some u\/∃ o,H a=some (.frz o u)
theorem Rd.ok {P:Program} {w:World} {H:Hp} {h:Heap} {a:Addr} {u:HO} (r:Rd H a u) (x:HOk P w H h):ObjOk P w H h a u:=by
 rcases r with r | ⟨o,r⟩
 ·exact x a u r
 ·obtain ⟨_,q⟩:=x a _ r;exact q
def Mut:Option HO->Prop
 | some (.lst _)=>True
 | some (.dK _)=>True
 | some (.dT _)=>True
 | some (.set _ _)=>True
 | some (.ins _ _ _)=>True
 | some (.ext _)=>True
 | _=>False
section
variable {P:Program} {w:World} {H:Hp} {h h':Heap} {x e:Addr} {o':HO}
theorem HOk.write (ok:HOk P w H h) (mu:Mut (H x)) (he:e=x\/H e=some (.own x)) (k:∀ b u,b≠e->h.get? b=some u->h'.get? b=some u) (heo:∃ u,h'.get? e=some u)
  (new:ObjOk P w (upd H x o') h' x o'):HOk P w (upd H x o') h':=fun b u q=>by
 have nown:∀ c y,H c=some (.own y)->c≠x:=fun c y r z=>by subst z; rw [r] at mu; exact mu
 have ntup:∀ c xs,H c=some (.tup xs)->c≠x:=fun c xs r z=>by subst z; rw [r] at mu; exact mu
 by_cases hb:b=x
 ·subst hb; rw [B9] at q; cases q; exact new
 ·rw [B7 hb] at q;by_cases hbe:b=e
  ·have q':H b=some (.own x):=by
    rcases he with z | z
    ·exact absurd (hbe.trans z) hb
    ·rw [hbe]; exact z
   rw [q] at q'; cases q';obtain ⟨v,hv⟩:=heo;exact ⟨v,by rw [hbe]; exact hv⟩
  ·refine (ok b u q).stay (fun c v hc r=>k c v ?_ r) (fun c r=>by rw [B7 (nown c b r)]; exact r) fun c xs r=>by rw [B7 (ntup c xs r)]; exact r
   rcases hc with rfl | hc
   ·exact hbe
   ·rintro rfl;rcases he with z | z
    ·exact nown c b hc z
    ·rw [hc] at z; cases z; exact hb rfl
end
structure Un (fs ex:List Addr) (H H':Hp) (h h':Heap):Prop where
 keep:∀ b o,h.get? b=some o->H b=none->b ∉ fs->b ∉ ex->h'.get? b=some o
 slot:∀ b o,h.get? b=some o->H b=none->b ∈ fs->b ∉ ex->∃ sl,h'.get? b=some { o with slots:=sl }
 free:∀ b o,h.get? b=some o->H b=none->b ∉ ex->H' b=none
 there:∀ b o,h.get? b=some o->b ∉ ex->∃ o',h'.get? b=some o'
 tups:∀ b xs,H b=some (.tup xs)->H' b=some (.tup xs)
 frzs:∀ b o u,H b=some (.frz o u)->H' b=some (.frz o u)
 tbls:∀ b ps,H b=some (.tbl ps)->∃ more,H' b=some (.tbl (ps++more))
section
variable {fs fs' ex ex':List Addr} {H H1 H2:Hp} {h h1 h2 h':Heap} {a x e:Addr} {o:HO}
theorem Un.any (u:Un fs ex H H1 h h1) {b:Addr} {ob:Obj} (q:h.get? b=some ob) (n:H b=none) (hx:b ∉ ex):∃ sl,h1.get? b=some { ob with slots:=sl }:=by
 by_cases hb:b ∈ fs
 ·exact u.slot b ob q n hb hx
 ·exact ⟨ob.slots,u.keep b ob q n hb hx⟩
theorem Un.kept (k:∀ b u,h.get? b=some u->h'.get? b=some u):Un fs ex H H h h' :=
 ⟨fun b ob q _ _ _=>k b ob q,fun b ob q _ _ _=>⟨ob.slots,k b ob q⟩,fun _ _ _ n _=>n,fun b ob q _=>⟨ob,k b ob q⟩,fun _ _ q=>q,fun _ _ _ q=>q,fun _ ps q=>⟨#[],by rw [q]; simp⟩⟩
theorem Un.refl:Un fs ex H H h h:=Un.kept fun _ _ q=>q
theorem Un.laid (k:∀ b u,h.get? b=some u->h'.get? b=some u) (hp:h.objs.size<=a) (hn:H a=none):Un fs ex H (upd H a o) h h' where
 keep:=fun b u q _ _ _=>k b u q
 slot:=fun b u q _ _ _=>⟨u.slots,k b u q⟩
 free:=fun b u q n _=>by rw [B7 (Nat.ne_of_lt (Nat.lt_of_lt_of_le (Heap.lt_size q) hp))]; exact n
 there:=fun b u q _=>⟨u,k b u q⟩
 tups:=fun b xs q=>by rw [B7 (C7 q hn)]; exact q
 frzs:=fun b u xs q=>by rw [B7 (C7 q hn)]; exact q
 tbls:=fun b ps q=>⟨#[],by rw [B7 (C7 q hn),q]; simp⟩
theorem Un.write (mu:Mut (H x)) (he:e=x\/H e=some (.own x)) (k:∀ b u,b≠e->h.get? b=some u->h'.get? b=some u) (heo:∃ u,h'.get? e=some u):Un fs ex H (upd H x o) h h':=by
 have hx:∀ b,H b=none->b≠x:=fun b n z=>by subst z; rw [n] at mu; exact mu
 have hb:∀ b,H b=none->b≠e:=fun b n z=>by
  subst z;rcases he with r | r
  ·exact hx b n r
  ·rw [n] at r; cases r
 have hm:∀ b u,H b=some u->¬ Mut (some u)->b≠x:=fun b u q nm z=>by subst z; rw [q] at mu; exact nm mu
 refine ⟨fun b u q n _ _=>k b u (hb b n) q,fun b u q n _ _=>⟨u.slots,k b u (hb b n) q⟩,fun b u q n _=>by rw [B7 (hx b n)]; exact n,fun b u q _=>?_,
  fun b xs q=>by rw [B7 (hm b _ q fun z=>z)]; exact q,fun b u xs q=>by rw [B7 (hm b _ q fun z=>z)]; exact q,fun b ps q=>⟨#[],by rw [B7 (hm b _ q fun z=>z),q]; simp⟩⟩
 by_cases hbe:b=e
 ·subst hbe; exact heo
 ·exact ⟨u,k b u hbe q⟩
end
def trk (h:Heap) (H:Hp):List Addr:=(List.range h.objs.size).filter fun a=>(H a).isSome
def hidT (h:Heap) (H:Hp):Heap:=PySem.W.hideAll h (trk h H)
theorem B31 (h:Heap) (H:Hp):(hidT h H).objs.size=h.objs.size:=PySem.W.hideAll_size _ _
theorem B60 {h:Heap} {H:Hp} {b:Addr} {o:Obj} (e:h.get? b=some o) (n:H b=none):(hidT h H).get? b=some o :=
 PySem.W.hideAll_get _ e fun hm=>by
  have q:(H b).isSome=true:=(List.mem_filter.mp hm).2;rw [n] at q; simp at q
theorem C2n {h:Heap} {H:Hp} {b:Addr} {o:Obj} (e:(hidT h H).get? b=some o):h.get? b=some o/\H b=none:=by
 have e':h.get? b=some o:=PySem.W.of_hideAll (trk h H) e;refine ⟨e',?_⟩;cases q:H b with
 | none=>rfl
 | some x =>
  have hm:b ∈ trk h H:=List.mem_filter.mpr ⟨List.mem_range.mpr (Heap.lt_size e'),by simp [q]⟩;have z:(hidT h H).get? b=none:=PySem.W.hideAll_none (trk h H) hm;rw [z] at e; cases e
def C3e (g h:Heap) (L:Addr):List (Addr × Obj):=(List.range h.objs.size).filterMap fun a=>if a=L\/(g.get? a).isSome=true then none else (h.get? a).map fun o=>(a,o)
def rest (g h:Heap) (L d:Addr):List (Addr × Obj):=(C3e g h L).filter fun p=>decide (p.1≠d)
end L2
namespace L2
open PySem PySem.Spec PyProof.Rows
structure Mod (K:PySem.W.Frag) (mg:Str->Option Value) (base:Heap):Prop where
 kin:K.In base
 glob:base.Ns mainGlobals mg
 blt:∃ mb,base.Ns builtinsNs mb/\∀ x:Str,x≠"__name__"->mb x=bootBuiltins x
 nolimit:base.NoLimit
structure Cx where
 prog:Program
 w:World
 K:PySem.W.Frag
 mg:Str->Option Value
 base:Heap
 A:Around
 N:List Str
 s₀:Shared
 H₀:Hp
 env:Env
 outer:List Env
 stack:List Env
 ex:List Addr
 fn:Str->Bool
 calm:Bool
 pn:List (Addr × Obj)
 xe:Value->Shared->Prop
def frs (l:List Env):List Addr:=l.filterMap (·.frame)
abbrev Cx.fs (X:Cx):List Addr:=frs X.outer
def Vis (sc:Scope) (x:Str):Prop:=sc.names.lookup x=some .local\/sc.names.lookup x=some .cell\/sc.names.lookup x=some .free
def Loc (sc:Scope) (x:Str):Prop:=sc.names.lookup x=some .local\/sc.names.lookup x=some .cell
def Look (env:Env) (h:Heap) (m:Str->Option Value) (x:Str) (u:Value):Prop :=
 (env.kindOf x=some .local/\m x=some u)\/((env.kindOf x=some .cell\/env.kindOf x=some .free)/\∃ c,env.cells.lookup x=some c/\h.IsCell c (some u))
structure Cx.Ok (X:Cx):Prop where
 mod:Mod X.K X.mg X.base
 kind:X.env.scope.kind=.function
 glob:X.env.globals=mainGlobals
 blt:X.env.builtins=builtinsNs
 above:X.s₀.heap.objs.size<=X.env.locals
 inj:∀ x y c,X.env.cells.lookup x=some c->X.env.cells.lookup y=some c->x=y
 has:∀ x,(X.env.kindOf x=some .cell\/X.env.kindOf x=some .free)->∃ c,X.env.cells.lookup x=some c
 cab:∀ x c,X.fn x=true->X.env.cells.lookup x=some c->X.s₀.heap.objs.size<=c
 hd:X.calm=true->X.A.handled=none
 frames:X.A.frames=some X.stack
 stk:X.stack=X.outer\/(X.stack=X.env :: X.outer/\X.env.frame=some X.env.locals)
 exf:∀ b ∈ X.ex,b≠X.env.locals/\∀ x c,X.env.cells.lookup x=some c->c≠b
 bs:∀ b o,X.base.get? b=some o->X.s₀.heap.get? b=some o/\X.H₀ b=none
 bsz:X.base.objs.size<=X.s₀.heap.objs.size
 noex:∀ b o,X.base.get? b=some o->b ∉ X.ex
 exfs:∀ b ∈ X.ex,b ∉ X.fs
 funs:X.s₀.heap.FunFrames X.base X.outer
 frf:∀ b ∈ X.fs,X.H₀ b=none
structure Inv (X:Cx) (pins:List (Addr × Obj)) (σ:List (Option V)) (H:Hp) (s:Shared):Prop where
 ok:X.Ok
 os:s.os=X.s₀.os
 bare:AllBare s.gens
 base:Un X.fs X.ex X.H₀ H X.s₀.heap s.heap
 loc:∃ m,s.heap.Ns X.env.locals m/\∀ (i:Nat) (x:Str) (v:V),X.N[i]?=some x->σ[i]?=some (some v)->Vis X.env.scope x->∃ u,RelV v u/\Look X.env s.heap m x u
 cell:∀ x c,X.env.cells.lookup x=some c->∃ v,s.heap.IsCell c v
 free:H X.env.locals=none
 freeC:∀ x c,X.env.cells.lookup x=some c->H c=none
 pin:∀ p ∈ X.pn++pins,s.heap.get? p.1=some p.2/\H p.1=none/\p.1≠X.env.locals/\p.1 ∉ X.fs/\∀ v,p.2.data≠.cell v
 hok:HOk X.prog X.w H s.heap
 len:σ.length=X.N.length
section
variable {X:Cx} {pins:List (Addr × Obj)} {σ:List (Option V)} {H H':Hp} {s:Shared} {h':Heap}
theorem Cx.Ok.nofr (ok:X.Ok) {b:Addr} {o:Obj} (e:X.base.get? b=some o):b ∉ X.fs:=fun hb=>by
 have:=(ok.funs.mem hb).1;rw [e] at this; cases this
theorem Inv.bs (I:Inv X pins σ H s):∀ b o,X.base.get? b=some o->s.heap.get? b=some o/\H b=none:=fun b o e =>
 ⟨I.base.keep b o (I.ok.bs b o e).1 (I.ok.bs b o e).2 (I.ok.nofr e) (I.ok.noex b o e),I.base.free b o (I.ok.bs b o e).1 (I.ok.bs b o e).2 (I.ok.noex b o e)⟩
theorem Inv.bk (I:Inv X pins σ H s):∀ b o,X.base.get? b=some o->s.heap.get? b=some o:=fun b o e=>(I.bs b o e).1
theorem Inv.mod (I:Inv X pins σ H s):Mod X.K X.mg X.base:=I.ok.mod
theorem Inv.kIn (I:Inv X pins σ H s):X.K.In s.heap:=I.ok.mod.kin.keeps I.bk
theorem Inv.lt (I:Inv X pins σ H s):X.env.locals < s.heap.objs.size:=let ⟨_,hn,_⟩:=I.loc; hn.lt
theorem Inv.sz (I:Inv X pins σ H s):X.s₀.heap.objs.size<=s.heap.objs.size:=Zx I.ok.above (Nat.le_of_lt I.lt)
theorem Inv.nofs (I:Inv X pins σ H s) {a:Addr} (h:s.heap.objs.size<=a):a ∉ X.fs:=fun hb=>by
 obtain ⟨_,o,ho,_⟩:=I.ok.funs.mem hb;exact absurd (Nat.lt_of_lt_of_le (Heap.lt_size ho) (Zx I.sz h)) (Nat.lt_irrefl _)
theorem Inv.cne (I:Inv X pins σ H s):∀ x c,X.env.cells.lookup x=some c->c≠X.env.locals:=fun x c e z=>by
 obtain ⟨v,o,ho,hd⟩:=I.cell x c e;obtain ⟨m,⟨o',es,ep,ho',hd',_⟩,_⟩:=I.loc;rw [z,ho'] at ho; cases ho; rw [hd'] at hd; cases hd
theorem Inv.funs (I:Inv X pins σ H s):s.heap.FunFrames X.base X.outer:=by
 have all:∀ (l:List Env),(∀ b ∈ frs l,b ∈ X.fs)->X.s₀.heap.FunFrames X.base l->s.heap.FunFrames X.base l:=by
  intro l;induction l with
  | nil=>intro _ _; trivial
  | cons env r ih =>
   intro hs hl;obtain ⟨hk,⟨L,o,hf,hn,ho,hd⟩,hr⟩:=hl;have hL:L ∈ X.fs:=hs L (by unfold frs; rw [List.filterMap_cons,hf]; exact Zy);obtain ⟨sl,e⟩:=I.base.slot L o ho (I.ok.frf L hL) hL fun z=>I.ok.exfs L z hL;exact ⟨hk,⟨L,_,hf,hn,e,hd⟩,ih (fun b hb=>hs b (by unfold frs; rw [List.filterMap_cons,hf]; exact Zr _ hb)) hr⟩
 exact all X.outer (fun _ hb=>hb) I.ok.funs
theorem Inv.stack (I:Inv X pins σ H s):s.heap.FunFrames X.base X.stack:=by
 rcases I.ok.stk with e | ⟨e,hf⟩
 ·rw [e]; exact I.funs
 ·rw [e];obtain ⟨m,hn,_⟩:=I.loc;refine .cons (by rw [I.ok.kind]; decide) hf hn ?_ I.funs;exact Heap.get?_none_of_le (Zx I.ok.bsz I.ok.above)
theorem Inv.stkSub (I:Inv X pins σ H s):∀ b ∈ frs X.stack,b ∈ X.env.locals :: X.fs:=fun b hb=>by
 rcases I.ok.stk with e | ⟨e,hf⟩
 ·rw [e] at hb; exact Zr _ hb
 ·rw [e] at hb;unfold frs at hb;rw [List.filterMap_cons,hf] at hb;exact hb
theorem Inv.stkFree (I:Inv X pins σ H s):∀ b ∈ frs X.stack,H b=none:=fun b hb=>by
 rcases List.mem_cons.mp (I.stkSub b hb) with e | hb
 ·rw [e]; exact I.free
 ·obtain ⟨_,o,ho,_⟩:=I.ok.funs.mem hb;exact I.base.free b o ho (I.ok.frf b hb) fun z=>I.ok.exfs b z hb
theorem Inv.step {g':Array GenState} {t':Nat} {d':Drawn} {ch:List Addr} (I:Inv X pins σ H s)
  (hch:∀ b ∈ ch,(b ∈ X.ex\/X.s₀.heap.objs.size<=b)/\b≠X.env.locals/\(∀ x c,X.env.cells.lookup x=some c->c≠b)/\∀ p ∈ X.pn++pins,p.1≠b)
  (keep:∀ b o,b≠X.env.locals->b ∉ X.fs->b ∉ ch->s.heap.get? b=some o->H b=none->h'.get? b=some o)
  (slot:∀ b o,b≠X.env.locals->b ∈ X.fs->b ∉ ch->s.heap.get? b=some o->H b=none->∃ sl,h'.get? b=some { o with slots:=sl }) (free:∀ b o,b ∉ ch->s.heap.get? b=some o->H b=none->H' b=none)
  (there:∀ b o,b ∉ ch->s.heap.get? b=some o->∃ o',h'.get? b=some o')
  (tups:∀ b xs,H b=some (.tup xs)->H' b=some (.tup xs)) (frzs:∀ b o u,H b=some (.frz o u)->H' b=some (.frz o u)) (tbls:∀ b ps,H b=some (.tbl ps)->∃ more,H' b=some (.tbl (ps++more)))
  (ns:∀ m,s.heap.Ns X.env.locals m->h'.Ns X.env.locals m) (hok:HOk X.prog X.w H' h') (hg:AllBare g') :
  Inv X pins σ H' { s with heap:=h',gens:=g',drawn:=d',toks:=t' }:=by
 have neL:∀ b o,X.s₀.heap.get? b=some o->b≠X.env.locals:=fun b o e=>Nat.ne_of_lt (Nat.lt_of_lt_of_le (Heap.lt_size e) I.ok.above);have neC:∀ b o,X.s₀.heap.get? b=some o->b ∉ X.ex->b ∉ ch:=fun b o e hx hb=>by
  rcases (hch b hb).1 with z | z
  ·exact hx z
  ·exact absurd (Nat.lt_of_lt_of_le (Heap.lt_size e) z) (Nat.lt_irrefl _)
 have cellK:∀ x c,X.env.cells.lookup x=some c->∀ v,s.heap.IsCell c v->h'.IsCell c v:=fun x c e v ⟨o,ho,hd⟩=>by
  have nch:c ∉ ch:=fun z=>(hch c z).2.2.1 x c e rfl;by_cases hc:c ∈ X.fs
  ·obtain ⟨sl,q⟩:=slot c o (I.cne x c e) hc nch ho (I.freeC x c e);exact ⟨_,q,hd⟩
  ·exact ⟨o,keep c o (I.cne x c e) hc nch ho (I.freeC x c e),hd⟩
 refine ⟨I.ok,I.os,hg,⟨fun b o e n hb hx=>?_,fun b o e n hb hx=>?_,fun b o e n hx=>?_,fun b o e hx=>?_,fun b xs e=>tups b xs (I.base.tups b xs e),fun b o xs e=>frzs b o xs (I.base.frzs b o xs e),fun b ps e=>?_⟩,?_,fun x c e=>?_,?_,fun x c e=>?_,fun p hp=>?_,hok,I.len⟩
 ·exact keep b o (neL b o e) hb (neC b o e hx) (I.base.keep b o e n hb hx) (I.base.free b o e n hx)
 ·obtain ⟨sl,e1⟩:=I.base.slot b o e n hb hx;obtain ⟨sl',e2⟩:=slot b _ (neL b o e) hb (neC b o e hx) e1 (I.base.free b o e n hx);exact ⟨sl',e2⟩
 ·obtain ⟨o',e1⟩:=I.base.there b o e hx;exact free b o' (neC b o e hx) e1 (I.base.free b o e n hx)
 ·obtain ⟨o',e1⟩:=I.base.there b o e hx;exact there b o' (neC b o e hx) e1
 ·obtain ⟨m1,e1⟩:=I.base.tbls b ps e;obtain ⟨m2,e2⟩:=tbls b _ e1;exact ⟨m1++m2,by rw [e2,Array.append_assoc]⟩
 ·obtain ⟨m,hn,hl⟩:=I.loc;refine ⟨m,ns m hn,fun i x v e1 e2 e3=>?_⟩;obtain ⟨u,r,l⟩:=hl i x v e1 e2 e3;refine ⟨u,r,?_⟩;rcases l with l | ⟨k,c,e,z⟩
  ·exact .inl l
  ·exact .inr ⟨k,c,e,cellK x c e _ z⟩
 ·obtain ⟨v,z⟩:=I.cell x c e;exact ⟨v,cellK x c e v z⟩
 ·obtain ⟨m,⟨o,_,_,ho,_⟩,_⟩:=I.loc;exact free _ o (fun z=>(hch _ z).2.1 rfl) ho I.free
 ·obtain ⟨v,o,ho,hd⟩:=I.cell x c e;exact free c o (fun z=>(hch c z).2.2.1 x c e rfl) ho (I.freeC x c e)
 ·obtain ⟨e,n,ne,nf,d⟩:=I.pin p hp;have nch:p.1 ∉ ch:=fun z=>(hch p.1 z).2.2.2 p hp rfl;exact ⟨keep p.1 p.2 ne nf nch e n,free p.1 p.2 nch e n,ne,nf,d⟩
theorem Inv.un {t':Nat} (I:Inv X pins σ H s) (u:Un X.fs [] H H' s.heap h') (hok:HOk X.prog X.w H' h'):Inv X pins σ H' { s with heap:=h',toks:=t' }:=by
 obtain ⟨m,⟨o,es,ep,ho,r⟩,_⟩:=id I.loc;obtain ⟨sl,hL⟩:=u.any ho I.free (by simp);exact I.step (g':=s.gens) (d':=s.drawn) (ch:=[]) (fun _ z=>nomatch z) (fun b o _ hb _ e n=>u.keep b o e n hb (by simp)) (fun b o _ hb _ e n=>u.slot b o e n hb (by simp)) (fun b o _ e n=>u.free b o e n (by simp)) (fun b o _ e=>u.there b o e (by simp)) u.tups u.frzs u.tbls (fun m' hm=>by
  obtain ⟨o',es',ep',ho',r'⟩:=hm;rw [ho] at ho'; cases ho';exact ⟨_,es',ep',hL,r'⟩) hok I.bare
theorem Inv.call {g':Array GenState} {t':Nat} {d':Drawn} {ch:List Addr} (I:Inv X pins σ H s) (u:Un (frs X.stack) ch H H' s.heap h') (hok:HOk X.prog X.w H' h') (hg:AllBare g')
  (hch:∀ b ∈ ch,(b ∈ X.ex\/X.s₀.heap.objs.size<=b)/\b≠X.env.locals/\(∀ x c,X.env.cells.lookup x=some c->c≠b)/\∀ p ∈ X.pn++pins,p.1≠b) :
  Inv X pins σ H' { s with heap:=h',gens:=g',drawn:=d',toks:=t' }:=by
 obtain ⟨m,⟨o,es,ep,ho,r⟩,_⟩:=id I.loc;obtain ⟨sl,hL⟩:=u.any ho I.free fun z=>(hch _ z).2.1 rfl;exact I.step (ch:=ch) hch (fun b o hL hb hc e n=>u.keep b o e n (fun z=>(List.mem_cons.mp (I.stkSub b z)).elim hL hb) hc) (fun b o _ _ hc e n=>u.any e n hc) (fun b o hc e n=>u.free b o e n hc) (fun b o hc e=>u.there b o e hc) u.tups u.frzs u.tbls (fun m' hm=>by
  obtain ⟨o',es',ep',ho',r'⟩:=hm;rw [ho] at ho'; cases ho';exact ⟨_,es',ep',hL,r'⟩) hok hg
theorem Inv.turned {t':Nat} {it:Addr} (I:Inv X pins σ H s) (k:∀ b o,b≠it->s.heap.get? b=some o->h'.get? b=some o) (hn:H it=none) (hL:it≠X.env.locals)
  (h1:it ∈ X.ex\/X.s₀.heap.objs.size<=it) (h2:∀ x c,X.env.cells.lookup x=some c->c≠it) (h3:∀ p ∈ X.pn++pins,p.1≠it):Inv X pins σ H { s with heap:=h',toks:=t' }:=by
 have nit:∀ b u,H b=some u->b≠it:=fun b u e z=>by rw [z,hn] at e; cases e
 refine I.step (g':=s.gens) (d':=s.drawn) (ch:=[it]) (fun b hb=>?_) (fun b o _ _ hc e _=>k b o (fun z=>hc (by simp [z])) e) (fun b o _ _ hc e _=>⟨o.slots,k b o (fun z=>hc (by simp [z])) e⟩) (fun _ _ _ _ n=>n)
  (fun b o hc e=>⟨o,k b o (fun z=>hc (by simp [z])) e⟩) (fun _ _ e=>e) (fun _ _ _ e=>e) (fun b ps e=>⟨#[],by rw [e]; simp⟩) (fun m hm=>?_) (fun b u e=>?_) I.bare
 ·have e:b=it:=by simpa using hb
  subst e;exact ⟨h1,hL,h2,h3⟩
 ·obtain ⟨o,es,ep,ho,r⟩:=hm;exact ⟨o,es,ep,k _ o (Ne.symm hL) ho,r⟩
 ·refine (I.hok b u e).stay (fun c v hc q=>k c v ?_ q) (fun _ q=>q) fun _ _ q=>q;rcases hc with z | z
  ·rw [z]; exact nit b u e
  ·exact nit c _ z
theorem Inv.tok (I:Inv X pins σ H s) (t:Nat):Inv X pins σ H { s with toks:=t }:=I.un (h':=s.heap) (t':=t) Un.refl I.hok
theorem Inv.kept {t':Nat} (I:Inv X pins σ H s) (k:∀ b u,s.heap.get? b=some u->h'.get? b=some u):Inv X pins σ H { s with heap:=h',toks:=t' }:=I.un (Un.kept k) (I.hok.kept k)
theorem Inv.laid {a:Addr} {o:HO} {t':Nat} (I:Inv X pins σ H s) (k:∀ b u,s.heap.get? b=some u->h'.get? b=some u) (hp:s.heap.objs.size<=a) (new:ObjOk X.prog X.w (upd H a o) h' a o) :
  Inv X pins σ (upd H a o) { s with heap:=h',toks:=t' }:=I.un (Un.laid k hp (I.hok.fresh hp)) (I.hok.laid k hp new)
theorem Inv.write {x e:Addr} {o:HO} {t':Nat} (I:Inv X pins σ H s) (mu:Mut (H x)) (he:e=x\/H e=some (.own x)) (k:∀ b u,b≠e->s.heap.get? b=some u->h'.get? b=some u) (heo:∃ u,h'.get? e=some u)
  (new:ObjOk X.prog X.w (upd H x o) h' x o):Inv X pins σ (upd H x o) { s with heap:=h',toks:=t' }:=I.un (Un.write mu he k heo) (I.hok.write mu he k heo new)
theorem Inv.pins_of {pins':List (Addr × Obj)} (I:Inv X pins σ H s) (h:∀ p ∈ pins',s.heap.get? p.1=some p.2/\H p.1=none/\p.1≠X.env.locals/\p.1 ∉ X.fs/\∀ v,p.2.data≠.cell v):Inv X pins' σ H s :=
 ⟨I.ok,I.os,I.bare,I.base,I.loc,I.cell,I.free,I.freeC,fun p hp=>(Za hp).elim (fun z=>I.pin p (Zt _ z)) (h p),I.hok,I.len⟩
theorem A1j {N:List Str} (hN:N.Nodup) {i j:Nat} {x:Str} (a:N[i]?=some x) (b:N[j]?=some x):i=j:=by
 obtain ⟨h1,e1⟩:=Zs a;obtain ⟨h2,e2⟩:=Zs b;exact (List.getElem_inj hN).mp (e1.trans e2.symm)
theorem A13 {M:Model} {A:Around} {E:Value->Shared->Prop} {i:Nat} {x:Str} {v:V} {u:Value} {Q:Unit->Shared->Prop} (I:Inv X pins σ H s) (hN:X.N.Nodup) (hi:X.N[i]?=some x) (hx:Loc X.env.scope x) (r:RelV v u)
  (h:∀ s',Inv X pins (σ.set i (some v)) H s'->(∃ a,Heap.SameBut a s.heap s'.heap/\(a=X.env.locals\/X.env.cells.lookup x=some a))->Q () s') (hf:X.fn x=true\/X.env.scope.names.lookup x=some .local:=by first | exact .inl rfl | exact .inr rfl | assumption):wpAny M A (storeName X.env x u) Q E s:=by
 obtain ⟨m,hn,hl⟩:=id I.loc;have hcls:(X.env.scope.kind == .class || (X.env.scope.kind == .module && X.env.locals != X.env.globals))=false:=by rw [I.ok.kind]; rfl
 have hiσ:i < σ.length:=by rw [I.len]; exact (Zs hi).1
 have cne:=I.cne;have tracked:∀ {a:Addr} {h':Heap},(∃ o,s.heap.get? a=some o/\H a=none)->Heap.SameBut a s.heap h'->HOk X.prog X.w H h':=fun {a h'} ha hs b ob e=>by
  obtain ⟨_,_,hfree⟩:=ha;refine (I.hok b ob e).stay (fun c w' hc q=>(hs.2 c ?_).trans q) (fun _ q=>q) fun _ _ q=>q;rintro rfl;rcases hc with rfl | hc
  ·rw [hfree] at e; cases e
  ·rw [hfree] at hc; cases hc
 rcases hx with hk | hk
 ·refine wpAny_storeName_local hk hn (fun h' hn' hs=>?_) hcls;obtain ⟨oL,_,_,hoL,_⟩:=id hn;refine h _ ⟨I.ok,I.os,I.bare,⟨fun b o e n hb hx=>?_,fun b o e n hb hx=>?_,I.base.free,fun b o e hx=>?_,I.base.tups,I.base.frzs,I.base.tbls⟩,⟨_,hn',fun j y v' e1 e2 e3=>?_⟩,fun y c e=>?_,I.free,I.freeC,fun p hp=>?_,tracked ⟨oL,hoL,I.free⟩ hs,by simpa using I.len⟩ ⟨_,hs,.inl rfl⟩
  ·exact (hs.2 b (Nat.ne_of_lt (Nat.lt_of_lt_of_le (Heap.lt_size e) I.ok.above))).trans (I.base.keep b o e n hb hx)
  ·obtain ⟨sl,e1⟩:=I.base.slot b o e n hb hx;exact ⟨sl,(hs.2 b (Nat.ne_of_lt (Nat.lt_of_lt_of_le (Heap.lt_size e) I.ok.above))).trans e1⟩
  ·obtain ⟨o',e1⟩:=I.base.there b o e hx;exact ⟨o',(hs.2 b (Nat.ne_of_lt (Nat.lt_of_lt_of_le (Heap.lt_size e) I.ok.above))).trans e1⟩
  ·by_cases hj:j=i
   ·subst hj;rw [hi] at e1; cases e1;rw [List.getElem?_set_self hiσ] at e2;cases e2;exact ⟨u,r,.inl ⟨hk,by simp⟩⟩
   ·rw [List.getElem?_set_ne (Ne.symm hj)] at e2;obtain ⟨u',r',q⟩:=hl j y v' e1 e2 e3;refine ⟨u',r',?_⟩;rcases q with ⟨k,e⟩ | ⟨k,c,e,z⟩
    ·refine .inl ⟨k,?_⟩;have:y≠x:=fun e=>hj (A1j hN e1 (e ▸ hi));simp [this,e]
    ·exact .inr ⟨k,c,e,z.sameBut hs (cne y c e)⟩
  ·obtain ⟨w',z⟩:=I.cell y c e;exact ⟨w',z.sameBut hs (cne y c e)⟩
  ·obtain ⟨e,n,ne,nf,d⟩:=I.pin p hp;exact ⟨(hs.2 p.1 ne).trans e,n,ne,nf,d⟩
 ·have hfn:X.fn x=true:=by
   rcases hf with z | z
   ·exact z
   ·rw [z] at hk; cases hk
  obtain ⟨c,hc⟩:=I.ok.has x (.inl hk);obtain ⟨w',z⟩:=I.cell x c hc;refine wpAny_storeName_cell I.ok.kind hk hc z (fun h' hc' hs=>?_);obtain ⟨oc,hoc,hocd⟩:=id z;refine h { s with heap:=h' } ⟨I.ok,I.os,I.bare,⟨fun b o e n hb hx=>?_,fun b o e n hb hx=>?_,I.base.free,fun b o e hx=>?_,I.base.tups,I.base.frzs,I.base.tbls⟩,⟨m,hn.sameBut hs (Ne.symm (cne x c hc)),fun j y v' e1 e2 e3=>?_⟩,fun y c' e=>?_,I.free,I.freeC,fun p hp=>?_,tracked ⟨oc,hoc,I.freeC x c hc⟩ hs,by simpa using I.len⟩ ⟨c,hs,.inr hc⟩
  ·exact (hs.2 b (Nat.ne_of_lt (Nat.lt_of_lt_of_le (Heap.lt_size e) (I.ok.cab x c hfn hc)))).trans (I.base.keep b o e n hb hx)
  ·obtain ⟨sl,e1⟩:=I.base.slot b o e n hb hx;exact ⟨sl,(hs.2 b (Nat.ne_of_lt (Nat.lt_of_lt_of_le (Heap.lt_size e) (I.ok.cab x c hfn hc)))).trans e1⟩
  ·obtain ⟨o',e1⟩:=I.base.there b o e hx;exact ⟨o',(hs.2 b (Nat.ne_of_lt (Nat.lt_of_lt_of_le (Heap.lt_size e) (I.ok.cab x c hfn hc)))).trans e1⟩
  ·by_cases hj:j=i
   ·subst hj;rw [hi] at e1; cases e1;rw [List.getElem?_set_self hiσ] at e2;cases e2;exact ⟨u,r,.inr ⟨.inl hk,c,hc,hc'⟩⟩
   ·rw [List.getElem?_set_ne (Ne.symm hj)] at e2;obtain ⟨u',r',q⟩:=hl j y v' e1 e2 e3;refine ⟨u',r',?_⟩;rcases q with q | ⟨k,c',e,z'⟩
    ·exact .inl q
    ·refine .inr ⟨k,c',e,z'.sameBut hs ?_⟩;rintro rfl;exact hj (A1j hN e1 (I.ok.inj _ _ _ e hc ▸ hi))
  ·by_cases hcc:c'=c
   ·subst hcc; exact ⟨_,hc'⟩
   ·obtain ⟨w2,z2⟩:=I.cell y c' e;exact ⟨w2,z2.sameBut hs hcc⟩
  ·obtain ⟨e,n,ne,nf,d⟩:=I.pin p hp;refine ⟨(hs.2 p.1 ?_).trans e,n,ne,nf,d⟩;intro q;rw [q,hoc] at e;have q':oc=p.2:=Zj e;exact d w' (by rw [<- q']; exact hocd)
theorem P2 {M:Model} {A:Around} {E:Value->Shared->Prop} {i:Nat} {x:Str} {v:V} {u:Value} {Q:Unit->Shared->Prop} (I:Inv X pins σ H s) (hN:X.N.Nodup) (hi:X.N[i]?=some x) (hx:Loc X.env.scope x) (r:RelV v u)
  (h:∀ s',Inv X pins (σ.set i (some v)) H s'->Q () s') (hf:X.fn x=true\/X.env.scope.names.lookup x=some .local:=by first | exact .inl rfl | exact .inr rfl | assumption):wpAny M A (storeName X.env x u) Q E s :=
 A13 I hN hi hx r (fun s' I' _=>h s' I') hf
theorem Inv.call' {s':Shared} {ch:List Addr} (I:Inv X pins σ H s) (ho:s'.os=s.os) (u:Un (frs X.stack) ch H H' s.heap s'.heap) (hok:HOk X.prog X.w H' s'.heap) (hg:AllBare s'.gens)
  (hch:∀ b ∈ ch,(b ∈ X.ex\/X.s₀.heap.objs.size<=b)/\b≠X.env.locals/\(∀ x c,X.env.cells.lookup x=some c->c≠b)/\∀ p ∈ X.pn++pins,p.1≠b):Inv X pins σ H' s':=by
 obtain ⟨h',g',d',t',o'⟩:=s';have e:o'=s.os:=ho;subst e;exact I.call (g':=g') (t':=t') (d':=d') u hok hg hch
end
abbrev XK:=Value->Option Addr->Hp->Prop
abbrev St:=List (Option V)
abbrev VK:=V->Hp->Prop
abbrev TE:=St->Hp->VK->Prop
abbrev TT:=St->Hp->(Bool->Hp->Prop)->Prop
abbrev TA:=St->Hp->(List V->Hp->Prop)->Prop
structure Ends where
 nx:St->Hp->Prop
 rt:VK
 bk:St->Hp->Prop:=fun _ _=>False
 ct:St->Hp->Prop:=fun _ _=>False
abbrev TS:=Ends->St->Hp->Prop
def EP (X:Cx) (pins:List (Addr × Obj)) (σ:St) (Q:VK) (u:Value) (s':Shared):Prop:=∃ v H',Inv X pins σ H' s'/\RelV v u/\Q v H'
def TP (X:Cx) (pins:List (Addr × Obj)) (σ:St) (Q:Bool->Hp->Prop) (b:Bool) (s':Shared):Prop:=∃ H',Inv X pins σ H' s'/\Q b H'
def AP (X:Cx) (pins:List (Addr × Obj)) (σ:St) (Q:List V->Hp->Prop) (us:List Value) (s':Shared):Prop:=∃ vs H',Inv X pins σ H' s'/\Vals vs us/\Q vs H'
def SP (X:Cx) (pins:List (Addr × Obj)) (D:Ends) (f:Flow) (s':Shared):Prop :=
 match f with
 | .next=>∃ σ' H',Inv X pins σ' H' s'/\D.nx σ' H'
 | .brk=>∃ σ' H',Inv X pins σ' H' s'/\D.bk σ' H'
 | .cont=>∃ σ' H',Inv X pins σ' H' s'/\D.ct σ' H'
 | .ret u=>∃ v σ' H',Inv X pins σ' H' s'/\RelV v u/\D.rt v H'
def PE (X:Cx) (e:Expr) (t:TE):Prop :=
 ∀ (pins:List (Addr × Obj)) (s:Shared) (σ:St) (H:Hp) (Q:VK),Inv X pins σ H s->t σ H Q->wpAny (model X.prog X.w) X.A (eval e X.env) (EP X pins σ Q) X.xe s
def PT (X:Cx) (e:Expr) (t:TT):Prop :=
 ∀ (pins:List (Addr × Obj)) (s:Shared) (σ:St) (H:Hp) (Q:Bool->Hp->Prop),Inv X pins σ H s->t σ H Q->wpAny (model X.prog X.w) X.A (isTrue e X.env (eval e X.env)) (TP X pins σ Q) X.xe s
def PW (X:Cx) (e:Expr) (t:TT):Prop :=
 ∀ (whole:Sem Value) (pins:List (Addr × Obj)) (s:Shared) (σ:St) (H:Hp) (Q:Bool->Hp->Prop),Inv X pins σ H s->t σ H Q->wpAny (model X.prog X.w) X.A (isTrue e X.env whole) (TP X pins σ Q) X.xe s
theorem PW.pt {X:Cx} {e:Expr} {t:TT} (h:PW X e t):PT X e t:=h _
def PA (X:Cx) (es:List Expr) (t:TA):Prop :=
 ∀ (pos:Pos) (pins:List (Addr × Obj)) (s:Shared) (σ:St) (H:Hp) (Q:List V->Hp->Prop),Inv X pins σ H s->t σ H Q->wpAny (model X.prog X.w) X.A (spliced (backTo pos (starEach es X.env))) (AP X pins σ Q) X.xe s
def PS (X:Cx) (st:Stmt) (t:TS):Prop :=
 ∀ (pins:List (Addr × Obj)) (s:Shared) (σ:St) (H:Hp) (D:Ends),Inv X pins σ H s->t D σ H->wpAny (model X.prog X.w) X.A (exec st X.env) (SP X pins D) X.xe s
def PSs (X:Cx) (st:List Stmt) (t:TS):Prop :=
 ∀ (pins:List (Addr × Obj)) (s:Shared) (σ:St) (H:Hp) (D:Ends),Inv X pins σ H s->t D σ H->wpAny (model X.prog X.w) X.A (execs st X.env) (SP X pins D) X.xe s
theorem thn {α:Type} {t:Sem α} {Q Q':α->Shared->Prop} {M:Model} {A:Around} {E:Value->Shared->Prop} {s:Shared} (h:wpAny M A t Q E s) (hQ:∀ a s,Q a s->Q' a s):wpAny M A t Q' E s:=wpAny_mono h hQ fun _ _ x=>x
end L2
namespace L2
open PySem PySem.Spec PyProof.Rows
section
variable {X:Cx}
theorem bin {a b:Expr} {ta tb:TE} (ha:PE X a ta) (hb:PE X b tb) {pins:List (Addr × Obj)} {s:Shared} {σ:St} {H:Hp} {R:V->V->Hp->Prop} (I:Inv X pins σ H s) (h:ta σ H fun x H1=>tb σ H1 fun y H2=>R x y H2)
  {α:Type} {Q:α->Shared->Prop} {f:Value->Value->Sem α}
  (hf:∀ v u s2 x y H2,Inv X pins σ H2 s2->RelV x v->RelV y u->R x y H2->wpAny (model X.prog X.w) X.A (f v u) Q X.xe s2) :
  wpAny (model X.prog X.w) X.A (eval a X.env) (fun v s₁=>wpAny (model X.prog X.w) X.A (eval b X.env) (fun u s₂=>wpAny (model X.prog X.w) X.A (f v u) Q X.xe s₂) X.xe s₁) X.xe s:=by
 refine thn (ha pins s σ H _ I h) fun v s1 ⟨x,H1,I1,r1,q1⟩=>?_;refine thn (hb pins s1 σ H1 _ I1 q1) fun u s2 ⟨y,H2,I2,r2,q2⟩=>?_;exact hf v u s2 x y H2 I2 r1 r2 q2
def tVar (i:Nat):TE:=fun σ H Q=>∃ v,σ[i]?=some (some v)/\Q v H
def tC (v:V):TE:=fun _ H Q=>Q v H
theorem A0b {i:Nat} {x:Str} {pos:Pos} (hN:X.N[i]?=some x) (hv:Vis X.env.scope x) (hd:(x == ("__debug__":Str))=false:=by decide) (hcd:(x == ("__classdict__":Str))=false:=by decide):PE X (.Name x pos) (tVar i):=by
 intro pins s σ H Q I h;obtain ⟨v,e,h⟩:=h;obtain ⟨m,hn,hl⟩:=I.loc;obtain ⟨u,r,l⟩:=hl i x v hN e hv;have fin:EP X pins σ Q u s:=⟨v,H,I,r,h⟩;rcases l with ⟨hk,hm⟩ | ⟨hk,c,hc,hcell⟩
 ·exact wpAny_Name (wpAny_loadName_local I.ok.kind hk hn hm fin) hd
 ·rcases hk with hk | hk
  ·exact wpAny_Name (wpAny_loadName_cell I.ok.kind hk hc hcell fin) hd
  ·exact wpAny_Name (wpAny_loadName_free I.ok.kind hk hc hcell fin hcd) hd
theorem D0 {i j pos}:PE X (.Constant (.int i) j pos) (tC (.int i)):=fun _ _ _ H _ I h=>wpAny_Constant_int ⟨.int i,H,I.tok _,⟨_,rfl⟩,h⟩
theorem C75 {b j pos}:PE X (.Constant (.bool b) j pos) (tC (.bl b)):=fun _ _ _ H _ I h=>Constant_bool ⟨.bl b,H,I,rfl,h⟩
theorem C4p {j pos}:PE X (.Constant .none j pos) (tC .non):=fun _ _ _ H _ I h=>Constant_none ⟨.non,H,I,rfl,h⟩
theorem C4m {x j pos}:PE X (.Constant (.str x) j pos) (tC (.str x)):=fun _ _ _ H _ I h=>Calls.Constant_str ⟨.str x,H,I.tok _,⟨_,rfl⟩,h⟩
def Gl (X:Cx) (x:Str):Prop:=X.env.kindOf x=some .globalImplicit
theorem Q9 {E:Value->Shared->Prop} {pins:List (Addr × Obj)} {s:Shared} {σ:St} {H:Hp} {x:Str} {u:Value} {pos:Pos} {Q:Value->Shared->Prop} (I:Inv X pins σ H s) (hg:Gl X x) (hm:X.mg x=some u) (h:Q u s)
  (hd:(x == ("__debug__":Str))=false:=by decide):wpAny (model X.prog X.w) X.A (eval (.Name x pos) X.env) Q E s :=
 Calls.Name_function_global I.ok.kind hg (Calls.loadGlobal_global (by rw [I.ok.glob]; exact I.mod.glob.keeps I.bk) hm h) hd
theorem X2 {E:Value->Shared->Prop} {pins:List (Addr × Obj)} {s:Shared} {σ:St} {H:Hp} {x:Str} {u:Value} {pos:Pos} {Q:Value->Shared->Prop} (I:Inv X pins σ H s) (hg:Gl X x) (hm:X.mg x=none) (hv:bootBuiltins x=some u) (h:Q u s)
  (hn:x≠"__name__":=by decide) (hd:(x == ("__debug__":Str))=false:=by decide):wpAny (model X.prog X.w) X.A (eval (.Name x pos) X.env) Q E s:=by
 obtain ⟨mb,h1,h2⟩:=I.mod.blt;exact Calls.Name_function_global I.ok.kind hg (Calls.loadGlobal_builtin (by rw [I.ok.glob]; exact I.mod.glob.keeps I.bk) hm (by rw [I.ok.blt]; exact h1.keeps I.bk) ((h2 x hn).trans hv) h) hd
theorem B0h {x:Str} {v:V} {u:Value} {pos:Pos} (hg:Gl X x) (hm:X.mg x=some u) (r:RelV v u) (hd:(x == ("__debug__":Str))=false:=by decide):PE X (.Name x pos) (tC v) :=
 fun _ _ _ H _ I h=>Q9 I hg hm ⟨v,H,I,r,h⟩ hd
theorem B0i {x:Str} {v:V} {u:Value} {pos:Pos} (hg:Gl X x) (hm:X.mg x=none) (hv:bootBuiltins x=some u) (r:RelV v u) (hn:x≠"__name__":=by decide) (hd:(x == ("__debug__":Str))=false:=by decide):PE X (.Name x pos) (tC v) :=
 fun _ _ _ H _ I h=>X2 I hg hm hv ⟨v,H,I,r,h⟩ hn hd
variable {a b:Expr} {ta tb:TE} {pos:Pos}
def PC (X:Cx) (op:CmpOp) (a b:Expr) (t:TE):Prop :=
 ∀ (pins:List (Addr × Obj)) (s:Shared) (σ:St) (H:Hp) (Q:VK),Inv X pins σ H s->t σ H Q ->
  wpAny (model X.prog X.w) X.A (eval a X.env) (fun v s₁=>wpAny (model X.prog X.w) X.A (eval b X.env) (fun u s₂=>wpAny (model X.prog X.w) X.A (compareOp op v u) (EP X pins σ Q) X.xe s₂) X.xe s₁) X.xe s
theorem B6q (b:Expr) {op:CmpOp} (h:op≠.In) (h2:op≠.NotIn):behindInMarks op b=false:=by
 have e1:(op == CmpOp.In)=false:=by cases op <;> first | rfl | exact absurd rfl h
 have e2:(op == CmpOp.NotIn)=false:=by cases op <;> first | rfl | exact absurd rfl h2
 cases b <;> simp [behindInMarks,e1,e2]
def tB (t:TE):TT:=fun σ H Q=>t σ H fun x H1=>∃ c,x=.bl c/\Q c H1
theorem C8s {op:CmpOp} {t:TE} (h:PC X op a b t) (h1:behindInMarks op b=false:=by first | exact B6q _ (by decide) (by decide) | rfl):PT X (.Compare a [op] [b] pos) (tB t):=by
 intro pins s σ H Q I hw;refine wpAny_isTrue_Compare1 (thn (h pins s σ H _ I hw) fun v s1 h1=>thn h1 fun u s2 h2=>thn h2 fun c s3 ⟨x,H1,I1,r1,q1⟩=>?_) h1;obtain ⟨d,rfl,q⟩:=q1;cases r1;exact wpAny_truthy_bool ⟨H1,I1,q⟩
theorem A93 {e:Expr} {t:TE} (h:PE X e t) (he:∀ whole,isTrue e X.env whole=(do let v <- whole; standAt e.pos; holding [v] (truthy v)):=by intro _; rfl):PT X e (tB t):=by
 intro pins s σ H Q I hw;refine isTrue_plain (thn (h pins s σ H _ I hw) fun v s1 ⟨x,H1,I1,r1,q1⟩=>?_) (he _);obtain ⟨d,rfl,q⟩:=q1;cases r1;exact wpAny_truthy_bool ⟨H1,I1,q⟩
variable {tA tB':TT} {rest:List Expr}
def tAnd (t u:TT):TT:=fun σ H Q=>t σ H fun c H1=>if c=true then u σ H1 Q else Q false H1
def tOr (t u:TT):TT:=fun σ H Q=>t σ H fun c H1=>if c=true then Q true H1 else u σ H1 Q
def tNot (t:TT):TT:=fun σ H Q=>t σ H fun c H1=>Q (!c) H1
theorem C1f (ha:PT X a tA):PW X (.BoolOp .And [a] pos) tA:=by
 intro wh pins s σ H Q I h;refine isTrue_and (thn (ha pins s σ H Q I h) fun c s1 e=>?_);cases c with
 | true=>exact isTrue_and_nil e
 | false=>exact e
theorem B79 (ha:PT X a tA):PW X (.BoolOp .Or [a] pos) tA:=by
 intro wh pins s σ H Q I h;refine isTrue_or (thn (ha pins s σ H Q I h) fun c s1 e=>?_);cases c with
 | false=>exact isTrue_or_nil e
 | true=>exact e
theorem C4e (ha:PT X a tA) (hb:PW X (.BoolOp .And (b :: rest) pos) tB'):PW X (.BoolOp .And (a :: b :: rest) pos) (tAnd tA tB'):=by
 intro wh pins s σ H Q I h;refine isTrue_and (thn (ha pins s σ H _ I h) fun c s1 ⟨H1,I1,q1⟩=>?_);cases c with
 | true=>exact hb wh pins s1 σ H1 Q I1 q1
 | false=>exact ⟨H1,I1,q1⟩
theorem C4c (ha:PT X a tA) (hb:PW X (.BoolOp .Or (b :: rest) pos) tB'):PW X (.BoolOp .Or (a :: b :: rest) pos) (tOr tA tB'):=by
 intro wh pins s σ H Q I h;refine isTrue_or (thn (ha pins s σ H _ I h) fun c s1 ⟨H1,I1,q1⟩=>?_);cases c with
 | true=>exact ⟨H1,I1,q1⟩
 | false=>exact hb wh pins s1 σ H1 Q I1 q1
theorem B8b (ha:PT X a tA):PT X (.UnaryOp .Not a pos) (tNot tA):=by
 intro pins s σ H Q I h;exact isTrue_not (ha pins s σ H (fun c H1=>Q (!c) H1) I h)
def C00 (ta tb:TE):TE:=fun σ H Q=>ta σ H fun x H1=>∃ c,x=.bl c/\if c=true then tb σ H1 Q else Q (.bl false) H1
def C0w (ta:TE):TE:=fun σ H Q=>ta σ H fun x H1=>∃ c,x=.bl c/\Q (.bl (!c)) H1
theorem B8e {op} {t:TE} (h:PE X a t):PE X (.BoolOp op [a] pos) t:=fun pins s σ H Q I hw=>BoolOp_one (h pins s σ H Q I hw)
theorem B8g (ha:PE X a ta) (hb:PE X (.BoolOp .And (b :: rest) pos) tb):PE X (.BoolOp .And (a :: b :: rest) pos) (C00 ta tb):=by
 intro pins s σ H Q I h;refine BoolOp_and (thn (ha pins s σ H _ I h) fun v s1 ⟨x,H1,I1,r1,q1⟩=>?_);obtain ⟨c,rfl,q1⟩:=q1;cases r1;refine wpAny_truthy_bool ?_;cases c with
 | true=>exact hb pins s1 σ H1 Q I1 q1
 | false=>exact ⟨.bl false,H1,I1,rfl,q1⟩
theorem C4o (ha:PE X a ta):PE X (.UnaryOp .Not a pos) (C0w ta):=by
 intro pins s σ H Q I h;refine UnaryOp_ (thn (ha pins s σ H _ I h) fun v s1 ⟨x,H1,I1,r1,q1⟩=>?_);obtain ⟨c,rfl,q1⟩:=q1;cases r1;exact not_of (wpAny_truthy_bool ⟨.bl (!c),H1,I1,rfl,q1⟩)
def tIf (t:TT) (ta tb:TE):TE:=fun σ H Q=>t σ H fun c H1=>if c=true then ta σ H1 Q else tb σ H1 Q
theorem A59 {c:Expr} (hc:PT X c tA) (ha:PE X a ta) (hb:PE X b tb):PE X (.IfExp c a b pos) (tIf tA ta tb):=by
 intro pins s σ H Q I h;refine wpAny_IfExp (thn (hc pins s σ H _ I h) fun d s1 ⟨H1,I1,q1⟩=>?_);cases d with
 | true=>exact ha pins s1 σ H1 Q I1 q1
 | false=>exact hb pins s1 σ H1 Q I1 q1
end
end L2
namespace L2
open PySem PySem.Spec PyProof.Rows
def SqL (K:PySem.W.Frag) (H:Hp) (a:Addr) (xs:List V):Prop :=
 Rd H a (.lst xs) \/
  ∃ (o:Obj) (its:Array Value) (n:Nat),K.lookup a=some o/\o.cls=.type "list"/\o.dict=none/\o.data=.seq its n/\its.size<=sizeLine/\Vals xs its.toList
def SqT (K:PySem.W.Frag) (H:Hp) (a:Addr) (xs:List V):Prop :=
 Rd H a (.tup xs) \/
  ∃ (o:Obj) (its:Array Value) (n:Nat),K.lookup a=some o/\o.cls=.type "tuple"/\o.data=.seq its n/\its.size<=sizeLine/\Vals xs its.toList
def absV:Value->Option V
 | .none=>some .non
 | .bool b=>some (.bl b)
 | .int i _=>some (.int i)
 | .str x _=>some (.str x)
 | .bytes b _=>some (.byt b)
 | .float b _=>some (.flt b)
 | .ref a=>some (.ref a)
 | .type n=>some (.ty n)
 | _=>none
theorem RelV.abs {x:V} {u:Value} (r:RelV x u):absV u=some x:=by
 cases x with
 | non=>cases r; rfl
 | bl _=>cases r; rfl
 | int _=>obtain ⟨t,rfl⟩:=r; rfl
 | str _=>obtain ⟨t,rfl⟩:=r; rfl
 | byt _=>obtain ⟨t,rfl⟩:=r; rfl
 | flt _=>obtain ⟨t,rfl⟩:=r; rfl
 | ref _=>cases r; rfl
 | ty _=>cases r; rfl
theorem RelV.inj {x y:V} {u:Value} (r:RelV x u) (q:RelV y u):x=y:=Zj (r.abs.symm.trans q.abs)
theorem Vals.inj:∀ {xs ys:List V} {us:List Value},Vals xs us->Vals ys us->xs=ys
 | _,_,_,.nil,.nil=>rfl
 | _,_,_,.cons r t,.cons r' t'=>by rw [r.inj r',Vals.inj t t']
section
variable {X:Cx} {pins:List (Addr × Obj)} {σ:St} {H:Hp} {s:Shared} {a:Addr} {xs ys:List V}
theorem SqL.of {K:PySem.W.Frag} (h:H a=some (.lst xs)):SqL K H a xs:=.inl (.inl h)
theorem SqT.of {K:PySem.W.Frag} (h:H a=some (.tup xs)):SqT K H a xs:=.inl (.inl h)
theorem Inv.list (I:Inv X pins σ H s) (h:SqL X.K H a xs):∃ its:List Value,Vals xs its/\PlainL s.heap a its.toArray/\xs.length<=sizeLine:=by
 rcases h with h | ⟨o,its,n,hk,hc,hd,hs,hz,r⟩
 ·obtain ⟨z,its,n,r,e⟩:=h.ok I.hok;exact ⟨its,r,⟨_,n,e,rfl,rfl,rfl⟩,z⟩
 ·refine ⟨its.toList,r,⟨o,n,I.kIn a o hk,hc,hd,by simpa using hs⟩,?_⟩;have e:=r.length;simp only [Array.length_toList] at e;omega
theorem Inv.tuple (I:Inv X pins σ H s) (h:SqT X.K H a xs):∃ its:List Value,Vals xs its/\IsTup s.heap a its.toArray/\xs.length<=sizeLine:=by
 rcases h with h | ⟨o,its,n,hk,hc,hs,hz,r⟩
 ·obtain ⟨z,its,r,p⟩:=h.ok I.hok;exact ⟨its,r,p,z⟩
 ·refine ⟨its.toList,r,⟨o,I.kIn a o hk,hc,n,by simpa using hs⟩,?_⟩;have e:=r.length;simp only [Array.length_toList] at e;omega
theorem Inv.list_inj (I:Inv X pins σ H s) (h:SqL X.K H a xs) (h':SqL X.K H a ys):xs=ys:=by
 obtain ⟨its,r,⟨o,n,e,_,_,d⟩,_⟩:=I.list h;obtain ⟨its',r',⟨o',n',e',_,_,d'⟩,_⟩:=I.list h';rw [e] at e'; cases e';rw [d] at d';injection d' with d1 _
 have:its=its':=by simpa using congrArg Array.toList d1
 subst this;exact r.inj r'
theorem Inv.tuple_inj (I:Inv X pins σ H s) (h:SqT X.K H a xs) (h':SqT X.K H a ys):xs=ys:=by
 obtain ⟨its,r,⟨o,e,_,n,d⟩,_⟩:=I.tuple h;obtain ⟨its',r',⟨o',e',_,n',d'⟩,_⟩:=I.tuple h';rw [e] at e'; cases e';rw [d] at d';injection d' with d1 _
 have:its=its':=by simpa using congrArg Array.toList d1
 subst this;exact r.inj r'
end
abbrev Cx.wish (X:Cx) (E:Value->Shared->Prop):Cx:={ X with xe:=E }
abbrev Cx.nox (X:Cx):Cx:=X.wish fun _ _=>False
theorem Cx.Ok.wish {X:Cx} (ok:X.Ok) (E:Value->Shared->Prop):(X.wish E).Ok :=
 ⟨ok.mod,ok.kind,ok.glob,ok.blt,ok.above,ok.inj,ok.has,ok.cab,ok.hd,ok.frames,ok.stk,ok.exf,ok.bs,ok.bsz,ok.noex,ok.exfs,ok.funs,ok.frf⟩
theorem Cx.Ok.unwish {X:Cx} {E:Value->Shared->Prop} (ok:(X.wish E).Ok):X.Ok :=
 ⟨ok.mod,ok.kind,ok.glob,ok.blt,ok.above,ok.inj,ok.has,ok.cab,ok.hd,ok.frames,ok.stk,ok.exf,ok.bs,ok.bsz,ok.noex,ok.exfs,ok.funs,ok.frf⟩
section
variable {X:Cx} {pins:List (Addr × Obj)} {σ:St} {H:Hp} {s:Shared} {E:Value->Shared->Prop}
theorem Inv.wish (I:Inv X pins σ H s) (E:Value->Shared->Prop):Inv (X.wish E) pins σ H s:=⟨I.ok.wish E,I.os,I.bare,I.base,I.loc,I.cell,I.free,I.freeC,I.pin,I.hok,I.len⟩
theorem Inv.unwish (I:Inv (X.wish E) pins σ H s):Inv X pins σ H s:=⟨I.ok.unwish,I.os,I.bare,I.base,I.loc,I.cell,I.free,I.freeC,I.pin,I.hok,I.len⟩
theorem SP.unwish {D:Ends} {f:Flow} {s':Shared} (h:SP (X.wish E) pins D f s'):SP X pins D f s':=by
 cases f with
 | next=>obtain ⟨σ',H',I,q⟩:=h; exact ⟨σ',H',I.unwish,q⟩
 | brk=>obtain ⟨σ',H',I,q⟩:=h; exact ⟨σ',H',I.unwish,q⟩
 | cont=>obtain ⟨σ',H',I,q⟩:=h; exact ⟨σ',H',I.unwish,q⟩
 | ret u=>obtain ⟨v,σ',H',I,r,q⟩:=h; exact ⟨v,σ',H',I.unwish,r,q⟩
theorem PT.nox {e:Expr} {t:TT} (h:PT X.nox e t):PT X e t:=fun pins s σ H Q I hw =>
 wpAny_mono (h pins s σ H Q (I.wish _) hw) (fun _ _ ⟨H',I',q⟩=>⟨H',I'.unwish,q⟩) fun _ _ z=>False.elim z
theorem PSs.nox {st:List Stmt} {t:TS} (h:PSs X.nox st t):PSs X st t:=fun pins s σ H D I hw =>
 wpAny_mono (h pins s σ H D (I.wish _) hw) (fun _ _ q=>q.unwish) fun _ _ z=>False.elim z
end
section
variable {X:Cx} {st:Stmt} {rest:List Stmt} {t u:TS} {e:Expr} {te:TE} {pos:Pos}
def C0x:TS:=fun D σ H=>D.nx σ H
def tSeq (t u:TS):TS:=fun D σ H=>t { D with nx:=u D } σ H
theorem A03:PSs X [] C0x:=fun _ _ σ H _ I h=>wpAny_execs_nil ⟨σ,H,I,h⟩
theorem J0 (h1:PS X st t) (h2:PSs X rest u):PSs X (st :: rest) (tSeq t u):=by
 intro pins s σ H D I h;refine wpAny_execs_cons (thn (h1 pins s σ H { D with nx:=u D } I h) fun f s1 q=>?_);cases f with
 | next =>
  obtain ⟨σ',H',I',q⟩:=q;exact h2 pins s1 σ' H' D I' q
 | ret v=>exact q
 | brk=>exact q
 | cont=>exact q
theorem Q6 (h1:PS X st t):PSs X [st] t:=by
 intro pins s σ H D I h;refine wpAny_execs_cons (thn (h1 pins s σ H D I h) fun f s1 q=>?_);cases f with
 | next=>exact wpAny_execs_nil q
 | ret v=>exact q
 | brk=>exact q
 | cont=>exact q
theorem Inv.quiet {pins:List (Addr × Obj)} {σ:St} {H:Hp} {s:Shared} (I:Inv X pins σ H s):interactive X.env=false:=by simp [interactive,I.ok.kind]
def C0y (te:TE):TS:=fun D σ H=>te σ H fun _ H1=>D.nx σ H1
theorem C1l (he:PE X e te) (hs:swapsWith e none pos.line X.env=pure false:=by rfl):PS X (.Expr e pos) (C0y te):=by
 intro pins s σ H D I h;exact wpAny_Expr_any (thn (he pins s σ H _ I h) fun v s1 ⟨x,H1,I1,r1,q1⟩=>⟨σ,H1,I1,q1⟩) I.quiet hs
def tRet (te:TE):TS:=fun D σ H=>te σ H D.rt
theorem A0a (he:PE X e te):PS X (.Return (some e) pos) (tRet te):=by
 intro pins s σ H D I h;exact wpAny_Return_some (thn (he pins s σ H _ I h) fun v s1 ⟨x,H1,I1,r1,q1⟩=>⟨x,σ,H1,I1,r1,q1⟩)
def tIfS (c:TT) (t u:TS):TS:=fun D σ H=>c σ H fun b H1=>if b=true then t D σ H1 else u D σ H1
theorem B5x {c:Expr} {a b:List Stmt} {tc:TT} (hc:PT X c tc) (ha:PSs X a t) (hb:PSs X b u):PS X (.If c a b pos) (tIfS tc t u):=by
 intro pins s σ H D I h;refine wpAny_If (thn (hc pins s σ H _ I h) fun d s1 ⟨H1,I1,q1⟩=>?_);cases d with
 | true=>exact ha pins s1 σ H1 D I1 q1
 | false=>exact hb pins s1 σ H1 D I1 q1
def A5v:TS:=fun _ _ _=>False
theorem B5w:PS X st A5v:=fun _ _ _ _ _ _ h=>h.elim
end
abbrev TG:=V->St->Hp->(St->Hp->Prop)->Prop
abbrev TGs:=List V->St->Hp->(St->Hp->Prop)->Prop
def PG (X:Cx) (target:Expr) (t:TG):Prop :=
 ∀ (pins:List (Addr × Obj)) (s:Shared) (σ:St) (H:Hp) (v:V) (u:Value) (Q:St->Hp->Prop),Inv X pins σ H s->RelV v u->t v σ H Q ->
  wpAny (model X.prog X.w) X.A (assign target X.env u) (fun _ s'=>∃ σ' H',Inv X pins σ' H' s'/\Q σ' H') X.xe s
def PGs (X:Cx) (ts:List Expr) (t:TGs):Prop :=
 ∀ (pins:List (Addr × Obj)) (s:Shared) (σ:St) (H:Hp) (vs:List V) (us:List Value) (Q:St->Hp->Prop),Inv X pins σ H s->Vals vs us->t vs σ H Q ->
  wpAny (model X.prog X.w) X.A (assignInOrder ((assignEach ts X.env).map (·.2)) us) (fun _ s'=>∃ σ' H',Inv X pins σ' H' s'/\Q σ' H') X.xe s
abbrev TSet:=V->V->V->Hp->(Hp->Prop)->Prop
def PSet (X:Cx) (t:TSet):Prop :=
 ∀ (pins:List (Addr × Obj)) (s:Shared) (σ:St) (H:Hp) (o i v:V) (ov iv u:Value) (Q:Hp->Prop),Inv X pins σ H s->RelV o ov->RelV i iv->RelV v u->t o i v H Q ->
  wpAny (model X.prog X.w) X.A (setItem ov iv u) (fun _ s'=>∃ H',Inv X pins σ H' s'/\Q H') X.xe s
section
variable {X:Cx} {pos:Pos}
def R0 (i:Nat):TG:=fun v σ H Q=>Q (σ.set i (some v)) H
theorem B0g {i:Nat} {x:Str} (hN:X.N.Nodup) (hi:X.N[i]?=some x) (hx:Loc X.env.scope x) (hf:X.fn x=true\/X.env.scope.names.lookup x=some .local:=by first | exact .inl rfl | exact .inr rfl | assumption):PG X (.Name x pos) (R0 i):=by
 intro pins s σ H v u Q I r h;exact wpAny_assign_Name (P2 I hN hi hx r (fun s' I'=>⟨_,H,I',h⟩) hf)
def gNil:TGs:=fun vs σ H Q=>vs=[]/\Q σ H
def A5b (t:TG) (u:TGs):TGs:=fun vs σ H Q=>∃ v r,vs=v :: r/\t v σ H fun σ' H'=>u r σ' H' Q
theorem C1q:PGs X [] gNil:=by
 intro pins s σ H vs us Q I r h;obtain ⟨e,h⟩:=h;subst e;cases r;exact assignInOrder_nil ⟨σ,H,I,h⟩
theorem B54 {e:Expr} {es:List Expr} {t:TG} {u:TGs} (h1:PG X e t) (h2:PGs X es u)
  (hs:(assignEach (e :: es) X.env).map (·.2)=assign e X.env :: (assignEach es X.env).map (·.2):=by rfl):PGs X (e :: es) (A5b t u):=by
 intro pins s σ H vs us Q I r h;obtain ⟨v,vr,e1,h⟩:=h;subst e1;cases r with
 | cons r rr =>
  rw [hs];refine assignInOrder_cons (thn (h1 pins s σ H _ _ _ I r h) fun _ s1 ⟨σ1,H1,I1,q1⟩=>?_);exact h2 pins s1 σ1 H1 _ _ Q I1 rr q1
def gTup (K:PySem.W.Frag) (n:Nat) (t:TGs):TG:=fun v σ H Q=>∃ a xs,v=.ref a/\SqT K H a xs/\xs.length=n/\t xs σ H Q
theorem C4k {es:List Expr} {k:Nat} {t:TGs} {n:Nat} (hc:X.calm=true) (h:PGs X es t)
  (hn:(assignEach es X.env).length=n:=by rfl) (hst:(assignEach es X.env).findIdx? (·.1)=none:=by rfl):PG X (.Tuple es k pos) (gTup X.K n t):=by
 intro pins s σ H v u Q I r hw;obtain ⟨a,xs,e1,hq,hl,hw⟩:=hw;subst e1;cases r;obtain ⟨its,rv,ht,hz⟩:=I.tuple hq;refine assign_Tuple_tuple (I.ok.hd hc) ht (by simp [hn,<- hl,rv.length]) hst fun h' hx=>?_;have I1:Inv X pins σ H { s with heap:=h' }:=I.kept (t':=s.toks) fun b o e=>hx b o (Nat.ne_of_lt (Heap.lt_size e)) e;exact h pins _ σ H xs _ Q I1 (by simpa using rv) hw
def gSub (to ti:TE) (t:TSet):TG:=fun v σ H Q=>to σ H fun o H1=>ti σ H1 fun i H2=>t o i v H2 fun H3=>Q σ H3
theorem B0f {o i:Expr} {to ti:TE} {t:TSet} (ho:PE X o to) (hi:PE X i ti) (hs:PSet X t)
  (ha:∀ v,assign (.Subscript o i pos) X.env v=(do
   let ov <- holding [v] (eval o X.env)
   let iv <- holding [v,ov] (eval i X.env)
   standAt pos
   holding [v,ov,iv] (setItem ov iv v)
   release [v,ov,iv] []):=by intro _; rfl):PG X (.Subscript o i pos) (gSub to ti t):=by
 intro pins s σ H v u Q I r h;rw [ha];refine wpAny_bind (wpAny_holding (thn (ho pins s σ H _ I h) fun ov s1 ⟨x,H1,I1,r1,q1⟩=>?_));refine wpAny_bind (wpAny_holding (thn (hi pins s1 σ H1 _ I1 q1) fun iv s2 ⟨y,H2,I2,r2,q2⟩=>?_));refine wpAny_bind (wpAny_standAt (wpAny_bind (wpAny_holding (thn (hs pins s2 σ H2 x y v ov iv u _ I2 r1 r2 r q2) fun _ s3 ⟨H3,I3,q3⟩=>?_))));exact wpAny_release ⟨σ,H3,I3,q3⟩
def tAsg (te:TE) (g:TG):TS:=fun D σ H=>te σ H fun x H1=>g x σ H1 D.nx
theorem A58 {tg e:Expr} {te:TE} {g:TG} (he:PE X e te) (hg:PG X tg g) (hs:swapsWithSole [tg] e pos.line X.env=pure false:=by rfl) (hw:swappedStores [tg] e X.env=pure none:=by rfl)
  (h1:(assignEach [tg] X.env).map (·.2)=[assign tg X.env]:=by rfl):PS X (.Assign [tg] e pos) (tAsg te g):=by
 intro pins s σ H D I h;refine wpAny_Assign_stores (thn (he pins s σ H _ I h) fun v s1 ⟨x,H1,I1,r1,q1⟩=>?_) hs hw;rw [h1];exact thn (hg pins s1 σ H1 x v _ I1 r1 q1) fun _ s2 q=>q
theorem Z9 {i:Nat} {x:Str} {e:Expr} {te:TE} {pos':Pos} (hN:X.N.Nodup) (hi:X.N[i]?=some x) (hx:Loc X.env.scope x) (he:PE X e te) (hs:swapsWith e (some (.Name x pos')) pos.line X.env=pure false:=by rfl) (hf:X.fn x=true\/X.env.scope.names.lookup x=some .local:=by first | exact .inl rfl | exact .inr rfl | assumption) :
  PS X (.Assign [.Name x pos'] e pos) (tAsg te (R0 i)):=by
 intro pins s σ H D I h;refine wpAny_Assign_Name (thn (he pins s σ H _ I h) fun v s1 ⟨y,H1,I1,r1,q1⟩=>?_) hs;exact P2 I1 hN hi hx r1 (fun s2 I2=>⟨_,H1,I2,q1⟩) hf
def tPar (i j:Nat) (ta:TA):TS:=fun D σ H=>ta σ H fun vs H1=>∃ v w,vs=[v,w]/\D.nx ((σ.set i (some v)).set j (some w)) H1
theorem C4f {i j:Nat} {x y:Str} {a b:Expr} {ta:TA} {px py pt:Pos} {kt k2 pt2} (hc:X.calm=true) (hN:X.N.Nodup) (hi:X.N[i]?=some x) (hj:X.N[j]?=some y) (hij:i≠j)
  (hx:X.env.scope.names.lookup x=some .local) (hy:X.env.scope.names.lookup y=some .local) (ha:PA X [a,b] ta)
  (hw:swappedStores [.Tuple [.Name x px,.Name y py] kt pt] (.Tuple [a,b] k2 pt2) X.env=pure (some [x,y]))
  (hs:swapsWithSole [.Tuple [.Name x px,.Name y py] kt pt] (.Tuple [a,b] k2 pt2) pos.line X.env=pure false:=by rfl) :
  PS X (.Assign [.Tuple [.Name x px,.Name y py] kt pt] (.Tuple [a,b] k2 pt2) pos) (tPar i j ta):=by
 intro pins s σ H D I h;rw [exec_Assign_arm];refine wpAny_bind (wpAny_standAt ?_);rw [hs];refine wpAny_bind (wpAny_pure ?_);rw [if_neg (by decide)];refine wpAny_bind (Tuple_ (thn (ha _ pins s σ H _ I h) fun us s1 ⟨vs,H1,I1,r1,q1⟩=>?_));obtain ⟨v,w,e1,q1⟩:=q1;subst e1;obtain ⟨u1,u2,rfl,rv,rw'⟩:∃ u1 u2,us=[u1,u2]/\RelV v u1/\RelV w u2:=by
  cases r1 with
  | cons p q =>
   cases q with
   | cons p' q' =>
    cases q';exact ⟨_,_,rfl,p,p'⟩
 refine wpAny_newObj_type ?_ (by show 2<=sizeLine; decide);have I2:Inv X pins σ H1 { s1 with heap:=s1.heap.push { cls:=.type "tuple",data:=.seq [u1,u2].toArray } }:=I1.kept (t':=s1.toks) fun b o e=>Heap.get?_push_of_some _ e;rw [hw];refine wpAny_bind (wpAny_pure ?_);show wpAny (model X.prog X.w) X.A (do rule "assign.swapped-stores"; let items <- unpackItems (.ref s1.heap.objs.size) 2 none; assignInOrder [fun v=>bindName X.env y v,fun v=>bindName X.env x v] items.reverse; pure Flow.next) _ _ _;refine wpAny_bind (wpAny_rule (wpAny_bind (unpackItems_tuple (items:=#[u1,u2]) (I.ok.hd hc) (IsTup.new s1.heap _) fun h' hx'=>?_)));have I3:=I2.kept (h':=h') (t':=s1.toks) fun b o e=>hx' b o (Nat.ne_of_lt (Heap.lt_size e)) e;show wpAny _ _ (assignInOrder [fun v=>bindName X.env y v,fun v=>bindName X.env x v] [u2,u1] >>= fun _=>pure Flow.next) _ _ _;refine wpAny_bind (assignInOrder_cons (wpAny_bindName (P2 I3 hN hj (.inl hy) rw' (fun s2 I4=>?_) (.inr hy))));refine assignInOrder_cons (wpAny_bindName (P2 I4 hN hi (.inl hx) rv (fun s3 I5=>assignInOrder_nil (wpAny_pure ?_)) (.inr hx)));rw [List.set_comm _ _ (Ne.symm hij)] at I5;exact ⟨_,H1,I5,q1⟩
end
section
variable {X:Cx} {pos:Pos}
def A9f (c:TT) (tb:TS):TS:=fun D σ H=>∃ W:Nat->St->Hp->Prop,(∃ m,W m σ H)/\∀ m σ H,W m σ H ->
 c σ H fun b H1=>if b=true then ∃ N:St->Hp->Prop,(∀ σ' H',N σ' H'->∃ m',m' < m/\W m' σ' H')/\tb { D with nx:=N,ct:=N,bk:=D.nx } σ H1 else D.nx σ H1
theorem B5v {c:Expr} {body:List Stmt} {tc:TT} {tb:TS} (hp:PassesOwn (model X.prog X.w) X.A X.env X.xe) (hc:PT X c tc) (hb:PSs X body tb):PS X (.While c body [] pos) (A9f tc tb):=by
 intro pins s σ H D I h;obtain ⟨W,⟨m0,w0⟩,turn⟩:=h;refine wpAny_While (codeAny_whileLoop (fun n s'=>∃ σ' H',Inv X pins σ' H' s'/\W n σ' H') ?_ m0 ⟨σ,H,I,w0⟩);rintro n s1 ⟨σ1,H1,I1,w1⟩;refine wpAny_passesOwn hp (thn (hc pins s1 σ1 H1 _ I1 (turn n σ1 H1 w1)) fun b s2 ⟨H2,I2,q2⟩=>?_);cases b with
 | true =>
  obtain ⟨N,hN,q2⟩:=q2;rw [if_pos rfl];refine wpAny_passesOwn hp (thn (hb pins s2 σ1 H2 _ I2 q2) fun f s3 q3=>?_);cases f with
  | next =>
   obtain ⟨σ3,H3,I3,n3⟩:=q3;obtain ⟨m',hm,w3⟩:=hN σ3 H3 n3;exact ⟨m',hm,σ3,H3,I3,w3⟩
  | cont =>
   obtain ⟨σ3,H3,I3,n3⟩:=q3;obtain ⟨m',hm,w3⟩:=hN σ3 H3 n3;exact ⟨m',hm,σ3,H3,I3,w3⟩
  | brk=>exact q3
  | ret v=>exact q3
 | false =>
  rw [if_neg Bool.false_ne_true];exact wpAny_execs_nil ⟨σ1,H2,I2,q2⟩
end
structure It where
 go:Nat->Hp->Prop
 yld:Nat->Hp->V->Hp->Prop
 stop:Nat->Hp->Prop
def FpOk (X:Cx) (pins:List (Addr × Obj)) (H:Hp) (b:Addr):Prop :=
 H b=none/\b≠X.env.locals/\b ∉ X.fs/\(b ∈ X.ex\/X.s₀.heap.objs.size<=b)/\(∀ x c,X.env.cells.lookup x=some c->c≠b)/\∀ p ∈ X.pn++pins,p.1≠b
theorem Inv.fpOk {X:Cx} {pins:List (Addr × Obj)} {σ:St} {H H':Hp} {s:Shared} {b:Addr} (I:Inv X pins σ H s) (hb:s.heap.objs.size<=b) (hn:H' b=none):FpOk X pins H' b:=by
 refine ⟨hn,Nat.ne_of_gt (Nat.lt_of_lt_of_le I.lt hb),I.nofs hb,.inr (Zx I.sz hb),fun x c e z=>?_,fun p hp z=>?_⟩
 ·obtain ⟨v,q⟩:=I.cell x c e;exact absurd (Nat.lt_of_lt_of_le q.lt (by rw [z]; exact hb)) (Nat.lt_irrefl _)
 ·exact absurd (Nat.lt_of_lt_of_le (Heap.lt_size (I.pin p hp).1) (by rw [z]; exact hb)) (Nat.lt_irrefl _)
structure Turn (P:Program) (w:World) (K:PySem.W.Frag) (tg:Expr) (J:It) (fp:List Addr) (it:Addr) (tn:Nat->Heap->Prop):Prop where
  mem:it ∈ fp
  obj:∀ i h,tn i h->∀ b ∈ fp,∃ o,h.get? b=some o/\∀ v,o.data≠.cell v
  keep:∀ i h h',tn i h->(∀ b ∈ fp,∀ o,h.get? b=some o->h'.get? b=some o)->tn i h'
  item:∀ (X:Cx),X.prog=P->X.w=w->X.K=K->X.calm=true->∀ (i:Nat) (pins:List (Addr × Obj)) (s:Shared) (σ:St) (H:Hp) (E:Value->Shared->Prop),Inv X pins σ H s->(∀ b ∈ fp,FpOk X pins H b)->tn i s.heap->J.go i H ->
    wpAny (model P w) X.A (pyNext (.ref it)) (fun r s1=>∃ u,r=some u /\
      wpAny (model P w) X.A (letOwnedTupleGo tg (.ref it) u) (fun _ s2=>∃ x H',Inv X pins σ H' s2/\RelV x u/\J.yld i H x H'/\tn (i + 1) s2.heap/\∀ b ∈ fp,H' b=none) E s1) E s
  done:∀ (X:Cx),X.prog=P->X.w=w->X.K=K->X.calm=true->∀ (i:Nat) (pins:List (Addr × Obj)) (s:Shared) (σ:St) (H:Hp) (E:Value->Shared->Prop),Inv X pins σ H s->(∀ b ∈ fp,FpOk X pins H b)->tn i s.heap->J.stop i H ->
    wpAny (model P w) X.A (pyNext (.ref it)) (fun r s1=>r=none/\Inv X pins σ H s1) E s
  self:∀ (A:Around) (i:Nat) (s:Shared) (Q:Value->Shared->Prop) (E:Value->Shared->Prop),tn i s.heap->Q (.ref it) s->wpAny (model P w) A (pyIter (.ref it)) Q E s
abbrev TI:=St->Hp->(It->Hp->Prop)->Prop
def PIE (X:Cx) (pins:List (Addr × Obj)) (σ:St) (tg:Expr) (R:It->Hp->Prop) (itv:Value) (s2:Shared):Prop :=
 ∃ (it:Addr) (fp:List Addr) (tn:Nat->Heap->Prop) (J:It) (H':Hp),itv=.ref it/\Inv X pins σ H' s2/\Turn X.prog X.w X.K tg J fp it tn/\tn 0 s2.heap/\(∀ b ∈ fp,FpOk X pins H' b)/\R J H'
def PI (X:Cx) (tg iter:Expr) (wi:TI):Prop :=
 ∀ (pins:List (Addr × Obj)) (s:Shared) (σ:St) (H:Hp) (R:It->Hp->Prop),Inv X pins σ H s->wi σ H R ->
  wpAny (model X.prog X.w) X.A (eval iter X.env) (fun v s1=>wpAny (model X.prog X.w) X.A (pyIter v) (PIE X pins σ tg R) X.xe s1) X.xe s
theorem A8q {M:Model} {A:Around} {E:Value->Shared->Prop} {s:Shared} {tg:Expr} {it:Addr} {u:Value} {o:Obj} {n:String} {vs:Array Value} {Q:Unit->Shared->Prop} (ho:s.heap.get? it=some o) (hc:o.cls=.type n) (hd:o.data=.fields vs)
    (hn:["enumerate","zip","dict_itemiterator","dict_reverseitemiterator","odict_iterator","itertools.zip_longest","itertools.pairwise"].contains n=false) (hQ:Q () s):wpAny M A (letOwnedTupleGo tg (.ref it) u) Q E s:=by
  unfold letOwnedTupleGo;cases tg <;> first
    | exact wpAny_pure hQ
    | (cases u <;> first
        | exact wpAny_pure hQ
        | (refine wpAny_bind (wpAny_load ho ?_)
           rw [hc,hd];show wpAny M A (if (["enumerate","zip","dict_itemiterator","dict_reverseitemiterator","odict_iterator","itertools.zip_longest","itertools.pairwise"].contains n && vs[0]? == some (rawInt _))=true then _ else _) Q E s;rw [if_neg (by intro h; rw [hn,Bool.false_and] at h; cases h)];exact wpAny_pure hQ))
def Itl (K:PySem.W.Frag) (a:Addr):It :=
 ⟨fun i H=>∃ xs x,SqL K H a xs/\xs[i]?=some x,fun i H x H'=>H'=H/\∀ xs,SqL K H a xs->xs[i]?=some x,fun i H=>∃ xs,SqL K H a xs/\xs.length<=i⟩
def Itt (K:PySem.W.Frag) (a:Addr):It :=
 ⟨fun i H=>∃ xs x,SqT K H a xs/\xs[i]?=some x,fun i H x H'=>H'=H/\∀ xs,SqT K H a xs->xs[i]?=some x,fun i H=>∃ xs,SqT K H a xs/\xs.length<=i⟩
def Itr (lo:Int) (n:Nat):It:=⟨fun i _=>i < n,fun i H x H'=>H'=H/\x=.int (lo + i),fun i _=>n<=i⟩
theorem A9e {P:Program} {w:World} {K:PySem.W.Frag} {tg:Expr} (a it:Addr):Turn P w K tg (Itl K a) [it] it (fun i h=>h.IsListIter it a i) where
 mem:=by simp
 obj:=fun i h st b hb=>by
  have e:b=it:=by simpa using hb
  subst e;obtain ⟨o,e,c,d⟩:=st;exact ⟨o,e,fun v z=>by rw [d] at z; cases z⟩
 keep:=fun i h h' st k=>st.at fun o e=>k it (by simp) o e
 item:=by
  intro X hP hw hK hc i pins s σ H E I hf st hg;subst hP hw hK;obtain ⟨xs,x,hq,hx⟩:=hg;obtain ⟨its,rv,p,hz⟩:=I.list hq;obtain ⟨u,hu,ru⟩:=rv.get hx;obtain ⟨f0,f1,f2,f3,f4,f5⟩:=hf it (by simp);refine wpAny_pyNext_list_item st p.isList (x:=u) (by simpa using hu) fun h' st' sb=>?_;have I1:Inv X pins σ H { s with heap:=h' }:=I.turned (t':=s.toks) (fun b o hb e=>(sb.2 b hb).trans e) f0 f1 f3 f4 f5;obtain ⟨o,e,c,d⟩:=id st';exact ⟨u,rfl,A8q (s:={ s with heap:=h' }) e c d (by decide) ⟨x,H,I1,ru,⟨rfl,fun ys hy=>by rw [I.list_inj hy hq]; exact hx⟩,st',fun b hb=>(hf b hb).1⟩⟩
 done:=by
  intro X hP hw hK hc i pins s σ H E I hf st hg;subst hP hw hK;obtain ⟨xs,hq,hx⟩:=hg;obtain ⟨its,rv,p,hz⟩:=I.list hq;obtain ⟨f0,f1,f2,f3,f4,f5⟩:=hf it (by simp);have hl:=rv.length;exact wpAny_pyNext_list_end (I.ok.hd hc) st p.isList (by simp; omega) fun h' eb=>⟨rfl,I.turned (t':=s.toks) (fun b o hb e=>eb b o hb e) f0 f1 f3 f4 f5⟩
 self:=fun _ _ _ _ _ st h=>wpAny_pyIter_listiter st h
theorem A70 {P:Program} {w:World} {K:PySem.W.Frag} {tg:Expr} (a it:Addr):Turn P w K tg (Itt K a) [it] it (fun i h=>h.IsTupleIter it a i) where
 mem:=by simp
 obj:=fun i h st b hb=>by
  have e:b=it:=by simpa using hb
  subst e;obtain ⟨o,e,c,d⟩:=st;exact ⟨o,e,fun v z=>by rw [d] at z; cases z⟩
 keep:=fun i h h' st k=>st.at fun o e=>k it (by simp) o e
 item:=by
  intro X hP hw hK hc i pins s σ H E I hf st hg;subst hP hw hK;obtain ⟨xs,x,hq,hx⟩:=hg;obtain ⟨its,rv,p,hz⟩:=I.tuple hq;obtain ⟨u,hu,ru⟩:=rv.get hx;obtain ⟨f0,f1,f2,f3,f4,f5⟩:=hf it (by simp);refine wpAny_pyNext_tuple_item st (show s.heap.IsTuple a its.toArray from p) (x:=u) (by simpa using hu) fun h' st' sb=>?_;have I1:Inv X pins σ H { s with heap:=h' }:=I.turned (t':=s.toks) (fun b o hb e=>(sb.2 b hb).trans e) f0 f1 f3 f4 f5;obtain ⟨o,e,c,d⟩:=id st';exact ⟨u,rfl,A8q (s:={ s with heap:=h' }) e c d (by decide) ⟨x,H,I1,ru,⟨rfl,fun ys hy=>by rw [I.tuple_inj hy hq]; exact hx⟩,st',fun b hb=>(hf b hb).1⟩⟩
 done:=by
  intro X hP hw hK hc i pins s σ H E I hf st hg;subst hP hw hK;obtain ⟨xs,hq,hx⟩:=hg;obtain ⟨its,rv,p,hz⟩:=I.tuple hq;obtain ⟨f0,f1,f2,f3,f4,f5⟩:=hf it (by simp);have hl:=rv.length;exact wpAny_pyNext_tuple_end (I.ok.hd hc) st (show s.heap.IsTuple a its.toArray from p) (by simp; omega) fun h' eb=>⟨rfl,I.turned (t':=s.toks) (fun b o hb e=>eb b o hb e) f0 f1 f3 f4 f5⟩
 self:=fun _ _ _ _ _ st h=>wpAny_pyIter_tupleiter st h
theorem A71 {P:Program} {w:World} {K:PySem.W.Frag} {tg:Expr} (it:Addr) (lo:Int) (n:Nat):Turn P w K tg (Itr lo n) [it] it (fun i h=>IsRangeIter h it (lo + (i:Nat) * 1) ((n:Int) - (i:Nat)) 1) where
 mem:=by simp
 obj:=fun i h st b hb=>by
  have e:b=it:=by simpa using hb
  subst e;exact ⟨_,st,fun v z=>by
   have z':Data.fields _=Data.cell v:=z;cases z'⟩
 keep:=fun i h h' st k=>k it (by simp) _ st
 item:=by
  intro X hP hw hK hc i pins s σ H E I hf st hg;subst hP hw hK;obtain ⟨f0,f1,f2,f3,f4,f5⟩:=hf it (by simp);have W:=Walks.range (prog:=X.prog) (w:=X.w) (I.ok.hd hc) it lo 1 n;refine W.item i s _ _ hg st fun v h' tk hv st' kk=>?_;obtain ⟨t,rfl⟩:=hv;have I1:Inv X pins σ H { s with heap:=h',toks:=tk }:=I.turned (fun b o hb e=>kk b o (by simpa using hb) e) f0 f1 f3 f4 f5;refine ⟨_,rfl,A8q (s:={ s with heap:=h',toks:=tk }) (n:="range_iterator") st' rfl rfl (by decide) ⟨.int (lo + i),H,I1,⟨t,?_⟩,⟨rfl,rfl⟩,st',fun b hb=>(hf b hb).1⟩⟩;rw [Int.mul_one]
 done:=by
  intro X hP hw hK hc i pins s σ H E I hf st hg;subst hP hw hK;obtain ⟨f0,f1,f2,f3,f4,f5⟩:=hf it (by simp);exact wpAny_pyNext_range_end (I.ok.hd hc) st (by have:n<=i:=hg; omega) fun h' eb=>⟨rfl,I.turned (t':=s.toks) (fun b o hb e=>eb b o hb e) f0 f1 f3 f4 f5⟩
 self:=fun _ _ _ _ _ st h=>wpAny_pyIter_rangeiter st h
end L2
namespace L2
open PySem PySem.Spec PyProof.Rows
section
variable {X:Cx} {tg:Expr}
theorem A51 {pins:List (Addr × Obj)} {σ:St} {H:Hp} {s:Shared} {R:It->Hp->Prop} {E:Value->Shared->Prop} {lo hi:Int} {t u v:Tok} {tk:Nat} (I:Inv X pins σ H s) (h1:-(2 ^ 62)<=lo) (h2:lo < 2 ^ 62) (h3:-(2 ^ 62)<=hi) (h4:hi < 2 ^ 62)
  (q:R (Itr lo (hi - lo).toNat) H):wpAny (model X.prog X.w) X.A (pyIter (.ref s.heap.objs.size)) (PIE X pins σ tg R) E { s with heap:=s.heap.push { cls:=.type "range",data:=.fields #[.int lo t,.int hi u,.int 1 v] },toks:=tk }:=by
 refine wpAny_pyIter_range (IsRange.new ..) (small_one h1 h2 h3 h4) ?_;have I1:Inv X pins σ H { s with heap:=s.heap.push { cls:=.type "range",data:=.fields #[.int lo t,.int hi u,.int 1 v] },toks:=tk }:=I.kept fun b o e=>Heap.get?_push_of_some _ e;refine ⟨(s.heap.push { cls:=.type "range",data:=.fields #[.int lo t,.int hi u,.int 1 v] }).objs.size,[(s.heap.push { cls:=.type "range",data:=.fields #[.int lo t,.int hi u,.int 1 v] }).objs.size],_,_,H,rfl,
  I1.kept (t':=tk) fun b o e=>Heap.get?_push_of_some _ e,A71 _ lo (hi - lo).toNat,?_,fun b hb=>?_,q⟩
 ·have e1:lo + ((0:Nat):Int) * 1=lo:=by simp
  have e2:(((hi - lo).toNat:Nat):Int) - ((0:Nat):Int)=Builtin.Range.rangeSize lo hi 1:=by rw [rangeSize_one]; split <;> omega
  show IsRangeIter _ _ (lo + ((0:Nat):Int) * 1) ((((hi - lo).toNat:Nat):Int) - ((0:Nat):Int)) 1;rw [e1,e2];exact Heap.get?_push_size _ rfl
 ·have e:b=(s.heap.push { cls:=.type "range",data:=.fields #[.int lo t,.int hi u,.int 1 v] }).objs.size:=by simpa using hb
  subst e;exact I1.fpOk (Zv _) (I1.hok.fresh (Zv _))
def C2z (ta:TA):TI:=fun σ H R=>ta σ H fun vs H1=>∃ j:Int,vs=[.int j]/\-(2 ^ 62)<=j/\j < 2 ^ 62/\R (Itr 0 j.toNat) H1
def C2y (ta:TA):TI:=fun σ H R=>ta σ H fun vs H1=>∃ i j:Int,vs=[.int i,.int j]/\(-(2 ^ 62)<=i/\i < 2 ^ 62/\-(2 ^ 62)<=j/\j < 2 ^ 62)/\R (Itr i (j - i).toNat) H1
theorem A2p {a:Expr} {ta:TA} {p pos:Pos} (hg:Gl X "range") (hm:X.mg "range"=none) (ha:PA X [a] ta) (hs:starEach [a] X.env=[(false,eval a X.env)]:=by rfl):PI X tg (.Call (.Name "range" p) [a] [] pos) (C2z ta):=by
 intro pins s σ H R I h;refine Call_ (X2 I hg hm boot_range (PyProof.Rows.callWith_type1 (thn (ha pos pins s σ H _ I h) fun us s1 ⟨vs,H1,I1,r1,q1⟩=>?_) hs rfl));obtain ⟨j,e,q1,q2,q⟩:=q1;subst e;cases r1 with
 | cons r rr =>
  cases rr;obtain ⟨t,rfl⟩:=r;exact call_range_1 (A51 I1 (by omega) (by omega) q1 q2 (by simpa using q))
theorem B0e {a b:Expr} {ta:TA} {p pos:Pos} (hg:Gl X "range") (hm:X.mg "range"=none) (ha:PA X [a,b] ta) (hs:starEach [a,b] X.env=[(false,eval a X.env),(false,eval b X.env)]:=by rfl) (hs2:starEach [b] X.env=[(false,eval b X.env)]:=by rfl) :
  PI X tg (.Call (.Name "range" p) [a,b] [] pos) (C2y ta):=by
 intro pins s σ H R I h;refine Call_ (X2 I hg hm boot_range (PyProof.Rows.callWith_type1 (thn (ha pos pins s σ H _ I h) fun us s1 ⟨vs,H1,I1,r1,q1⟩=>?_) (by rw [hs,hs2]) (by rw [hs2]; rfl)));obtain ⟨i,j,e,⟨q1,q2,q3,q4⟩,q⟩:=q1;subst e;cases r1 with
 | cons r rr =>
  cases rr with
  | cons r' rr =>
   cases rr;obtain ⟨t,rfl⟩:=r;obtain ⟨t',rfl⟩:=r';exact call_range_2 (A51 I1 q1 q2 q3 q4 q)
def tFor (wi:TI) (g:TG) (tb:TS):TS:=fun D σ H=>wi σ H fun J H1=>∃ W:Nat->Nat->St->Hp->Prop,(∃ m,W 0 m σ H1)/\∀ i m σ H,W i m σ H ->
 (J.stop i H/\D.nx σ H)\/(J.go i H/\∃ N:St->Hp->Prop,(∀ σ' H',N σ' H'->∃ m',m' < m/\W (i + 1) m' σ' H')/\∀ x H',J.yld i H x H'->g x σ H' fun σ2 H2=>tb { D with nx:=N,ct:=N,bk:=D.nx } σ2 H2)
def A2o (fp:List Addr) (h:Heap):List (Addr × Obj):=fp.filterMap fun b=>(h.get? b).map fun o=>(b,o)
theorem P4 {fp:List Addr} {h:Heap} {b:Addr} {o:Obj} (hb:b ∈ fp) (e:h.get? b=some o):(b,o) ∈ A2o fp h:=List.mem_filterMap.mpr ⟨b,hb,by rw [e]; rfl⟩
theorem B1z {fp:List Addr} {h:Heap} {p:Addr × Obj} (hp:p ∈ A2o fp h):p.1 ∈ fp/\h.get? p.1=some p.2:=by
 obtain ⟨b,hb,e⟩:=List.mem_filterMap.mp hp;cases q:h.get? b with
 | none=>rw [q] at e; cases e
 | some o =>
  rw [q] at e;have e':(b,o)=p:=Zj e;subst e';exact ⟨hb,q⟩
theorem Inv.pinned {pins:List (Addr × Obj)} {σ:St} {H:Hp} {s:Shared} {fp:List Addr} (I:Inv X pins σ H s) (hf:∀ b ∈ fp,FpOk X pins H b) (ho:∀ b ∈ fp,∃ o,s.heap.get? b=some o/\∀ v,o.data≠.cell v):Inv X (pins++A2o fp s.heap) σ H s :=
 I.pins_of fun p hp=>(Za hp).elim (fun z=>I.pin p (Zw _ z)) fun z=>by
  obtain ⟨hb,e⟩:=B1z z;obtain ⟨f0,f1,f2,_⟩:=hf p.1 hb;obtain ⟨o,e',d⟩:=ho p.1 hb;rw [e] at e'; cases e';exact ⟨e,f0,f1,f2,d⟩
theorem Inv.unpinned {pins pl:List (Addr × Obj)} {σ:St} {H:Hp} {s:Shared} (I:Inv X (pins++pl) σ H s):Inv X pins σ H s:=I.pins_of fun p hp=>I.pin p (Zw _ (Zt _ hp))
theorem B8d {iter:Expr} {body:List Stmt} {wi:TI} {g:TG} {tb:TS} {pos:Pos} (hp:PassesOwn (model X.prog X.w) X.A X.env X.xe) (hc:X.calm=true) (hi:PI X tg iter wi) (hg:PG X tg g) (hb:PSs X body tb)
  (hs:∀ x,foldedSetIterable iter X.env x=pure x:=by intro _; rfl):PS X (.For tg iter body [] pos) (tFor wi g tb):=by
 intro pins s σ H D I h;refine wpAny_For (thn (hi pins s σ H _ I h) fun v s1 h1=>thn h1 fun itv s2 h2=>?_) hs;obtain ⟨it,fp,tn,J,H2,e,I2,T,st2,f2,W,⟨m0,w0⟩,turn⟩:=h2;subst e;have stat:∀ {H':Hp},(∀ b ∈ fp,H' b=none)->∀ b ∈ fp,FpOk X pins H' b:=fun hn b hb=>⟨hn b hb,(f2 b hb).2⟩;refine codeAny_forLoop_any (fun n s'=>∃ i σ' H',Inv X pins σ' H' s'/\tn i s'.heap/\(∀ b ∈ fp,H' b=none)/\W i n σ' H') ?_ m0 ⟨0,σ,H2,I2,st2,fun b hb=>(f2 b hb).1,w0⟩;rintro n s3 ⟨i,σ3,H3,I3,st3,fr3,w3⟩;rcases turn i n σ3 H3 w3 with ⟨stop,qn⟩ | ⟨go,N,hN,step⟩
 ·refine wpAny_passesOwn hp (thn (T.done X rfl rfl rfl hc i pins s3 σ3 H3 X.xe I3 (stat fr3) st3 stop) fun r s4 ⟨hr,I4⟩=>?_);subst hr;exact wpAny_execs_nil ⟨σ3,H3,I4,qn⟩
 ·refine wpAny_passesOwn hp (thn (T.item X rfl rfl rfl hc i pins s3 σ3 H3 X.xe I3 (stat fr3) st3 go) fun r s4 ⟨u,hr,h4⟩=>?_);subst hr;refine wpAny_passesOwn hp (thn h4 fun _ s5 ⟨x,H5,I5,r5,y5,st5,fr5⟩=>?_);have I5':=I5.pinned (stat fr5) (T.obj _ _ st5);refine wpAny_passesOwn hp (thn (hg _ s5 σ3 H5 x u _ I5' r5 (step x H5 y5)) fun _ s6 ⟨σ6,H6,I6,q6⟩=>?_);refine wpAny_passesOwn hp (thn (hb _ s6 σ6 H6 _ I6 q6) fun f s7 q7=>?_);have again:∀ {σ7:St} {H7:Hp},Inv X (pins++A2o fp s5.heap) σ7 H7 s7->N σ7 H7->∃ m,m < n/\∃ i σ' H',Inv X pins σ' H' s7/\tn i s7.heap/\(∀ b ∈ fp,H' b=none)/\W i m σ' H':=fun {σ7 H7} I7 n7=>by
   obtain ⟨m',hm,w7⟩:=hN σ7 H7 n7;refine ⟨m',hm,i + 1,σ7,H7,I7.unpinned,T.keep _ _ _ st5 fun b hb o e=>(I7.pin (b,o) (Zw _ (Zw _ (P4 hb e)))).1,fun b hb=>?_,w7⟩;obtain ⟨o,e,d⟩:=T.obj _ _ st5 b hb;exact (I7.pin (b,o) (Zw _ (Zw _ (P4 hb e)))).2.1
  cases f with
  | next=>obtain ⟨σ7,H7,I7,n7⟩:=q7; exact again I7 n7
  | cont=>obtain ⟨σ7,H7,I7,n7⟩:=q7; exact again I7 n7
  | brk=>obtain ⟨σ7,H7,I7,q7⟩:=q7; exact ⟨σ7,H7,I7.unpinned,q7⟩
  | ret v=>obtain ⟨x7,σ7,H7,I7,r7,q7⟩:=q7; exact ⟨x7,σ7,H7,I7.unpinned,r7,q7⟩
end
theorem B35 {lo:Int} {n:Nat} {g:TG} {tb:TS} {D:Ends} {σ:St} {H:Hp} (Pv:Nat->St->Hp->Prop) (h0:Pv 0 σ H)
  (hs:∀ i σ H,i < n->Pv i σ H->g (.int (lo + i)) σ H fun σ2 H2=>tb { D with nx:=Pv (i + 1),ct:=Pv (i + 1),bk:=D.nx } σ2 H2) (hd:∀ σ H,Pv n σ H->D.nx σ H) :
  ∃ W:Nat->Nat->St->Hp->Prop,(∃ m,W 0 m σ H)/\∀ i m σ H,W i m σ H ->
   ((Itr lo n).stop i H/\D.nx σ H)\/((Itr lo n).go i H/\∃ N:St->Hp->Prop,(∀ σ' H',N σ' H'->∃ m',m' < m/\W (i + 1) m' σ' H')/\∀ x H',(Itr lo n).yld i H x H'->g x σ H' fun σ2 H2=>tb { D with nx:=N,ct:=N,bk:=D.nx } σ2 H2):=by
 refine ⟨fun i m σ H=>m=n - i/\i<=n/\Pv i σ H,⟨n,by simp,Nat.zero_le _,h0⟩,?_⟩;rintro i m σ H ⟨rfl,hi,p⟩;by_cases hlt:i < n
 ·refine .inr ⟨hlt,Pv (i + 1),fun σ' H' p'=>⟨n - (i + 1),by omega,rfl,hlt,p'⟩,fun x H' y=>?_⟩;obtain ⟨e,y⟩:=y;subst e y;exact hs i σ _ hlt p
 ·have e:i=n:=by omega
  subst e;exact .inl ⟨Zv _,hd σ H p⟩
end L2
namespace L2
open PySem PySem.Spec PyProof.Rows
abbrev R2:=V->V->Hp->VK->Prop
def OpR (X:Cx) (f:Value->Value->Sem Value) (r:R2):Prop :=
 ∀ (pins:List (Addr × Obj)) (s:Shared) (σ:St) (H:Hp) (x y:V) (v u:Value) (Q:VK),Inv X pins σ H s->RelV x v->RelV y u->r x y H Q ->
  wpAny (model X.prog X.w) X.A (f v u) (EP X pins σ Q) X.xe s
def UnR (X:Cx) (f:Value->Sem Value) (r:V->Hp->VK->Prop):Prop :=
 ∀ (pins:List (Addr × Obj)) (s:Shared) (σ:St) (H:Hp) (x:V) (v:Value) (Q:VK),Inv X pins σ H s->RelV x v->r x H Q ->
  wpAny (model X.prog X.w) X.A (f v) (EP X pins σ Q) X.xe s
def CallR (X:Cx) (f:Value) (r:List V->Hp->VK->Prop):Prop :=
 ∀ (pins:List (Addr × Obj)) (s:Shared) (σ:St) (H:Hp) (xs:List V) (us:List Value) (Q:VK),Inv X pins σ H s->Vals xs us->r xs H Q ->
  wpAny (model X.prog X.w) X.A (call f us) (EP X pins σ Q) X.xe s
def tOp (r:R2) (ta tb:TE):TE:=fun σ H Q=>ta σ H fun x H1=>tb σ H1 fun y H2=>r x y H2 Q
def tUn (r:V->Hp->VK->Prop) (ta:TE):TE:=fun σ H Q=>ta σ H fun x H1=>r x H1 Q
def rI (C:Int->Int->Prop) (g:Int->Int->V):R2:=fun x y H Q=>∃ i j,x=.int i/\y=.int j/\C i j/\Q (g i j) H
def rI0 (g:Int->Int->V):R2:=fun x y H Q=>∃ i j,x=.int i/\y=.int j/\Q (g i j) H
def rU (g:Int->V):V->Hp->VK->Prop:=fun x H Q=>∃ i,x=.int i/\Q (g i) H
section
variable {X:Cx} {a b c:Expr} {ta tb tc:TE} {pos:Pos}
theorem binT (ha:PE X a ta) (hb:PE X b tb) {pins:List (Addr × Obj)} {s:Shared} {σ:St} {H:Hp} {R:V->V->Hp->Prop} (I:Inv X pins σ H s)
  (h:ta σ H fun x H1=>tb σ H1 fun y H2=>R x y H2) {Q:Value->Shared->Prop} {f:Value->Value->Sem Value}
  (hf:∀ v u s2 x y H2,Inv X pins σ H2 s2->RelV x v->RelV y u->R x y H2->wpAny (model X.prog X.w) X.A (f v u) Q X.xe s2) :
  wpAny (model X.prog X.w) X.A (eval a X.env) (fun v s₁=>wpAny (model X.prog X.w) X.A (eval b X.env) (fun u s₂=>wpAny (model X.prog X.w) X.A (f v u) Q X.xe s₂) X.xe s₁) X.xe s:=by
 refine thn (ha pins s σ H _ I h) fun v s1 ⟨x,H1,I1,r1,q1⟩=>?_;refine thn (hb pins s1 σ H1 _ I1 q1) fun u s2 ⟨y,H2,I2,r2,q2⟩=>?_;exact hf v u s2 x y H2 I2 r1 r2 q2
theorem K2 {op:Operator} {r:R2} (ho:OpR X (binaryOp op) r) (ha:PE X a ta) (hb:PE X b tb):PE X (.BinOp a op b pos) (tOp r ta tb):=by
 intro pins s σ H Q I h;exact wpAny_BinOp (binT ha hb I h fun v u s2 x y H2 I2 rx ry q=>ho pins s2 σ H2 x y v u Q I2 rx ry q)
theorem C73 {op:UnaryOp} {r:V->Hp->VK->Prop} (ho:UnR X (unaryOp op) r) (ha:PE X a ta):PE X (.UnaryOp op a pos) (tUn r ta):=by
 intro pins s σ H Q I h;exact UnaryOp_ (thn (ha pins s σ H _ I h) fun v s1 ⟨x,H1,I1,r1,q1⟩=>ho pins s1 σ H1 x v Q I1 r1 q1)
theorem opI {f:Value->Value->Sem Value} {C:Int->Int->Prop} {g:Int->Int->Int}
  (rule:∀ (i j:Int) (t u:Tok) (s:Shared) (Q:Value->Shared->Prop) (E:Value->Shared->Prop),C i j->Q (.int (g i j) s.toks) { s with toks:=s.toks + 1 }->wpAny (model X.prog X.w) X.A (f (.int i t) (.int j u)) Q E s) :
  OpR X f (rI C fun i j=>.int (g i j)):=by
 intro pins s σ H x y v u Q I rx ry h;obtain ⟨i,j,rfl,rfl,hc,q⟩:=h;obtain ⟨t,rfl⟩:=rx;obtain ⟨t',rfl⟩:=ry;exact rule i j t t' s _ _ hc ⟨.int (g i j),H,I.tok _,⟨_,rfl⟩,q⟩
theorem opI0 {f:Value->Value->Sem Value} {g:Int->Int->Int}
  (rule:∀ (i j:Int) (t u:Tok) (s:Shared) (Q:Value->Shared->Prop) (E:Value->Shared->Prop),Q (.int (g i j) s.toks) { s with toks:=s.toks + 1 }->wpAny (model X.prog X.w) X.A (f (.int i t) (.int j u)) Q E s) :
  OpR X f (rI0 fun i j=>.int (g i j)):=by
 intro pins s σ H x y v u Q I rx ry h;obtain ⟨i,j,rfl,rfl,q⟩:=h;obtain ⟨t,rfl⟩:=rx;obtain ⟨t',rfl⟩:=ry;exact rule i j t t' s _ _ ⟨.int (g i j),H,I.tok _,⟨_,rfl⟩,q⟩
theorem opB0 {f:Value->Value->Sem Value} {g:Int->Int->Bool}
  (rule:∀ (i j:Int) (t u:Tok) (s:Shared) (Q:Value->Shared->Prop) (E:Value->Shared->Prop),Q (.bool (g i j)) s->wpAny (model X.prog X.w) X.A (f (.int i t) (.int j u)) Q E s) :
  OpR X f (rI0 fun i j=>.bl (g i j)):=by
 intro pins s σ H x y v u Q I rx ry h;obtain ⟨i,j,rfl,rfl,q⟩:=h;obtain ⟨t,rfl⟩:=rx;obtain ⟨t',rfl⟩:=ry;exact rule i j t t' s _ _ ⟨.bl (g i j),H,I,rfl,q⟩
def CPow (i j:Int):Prop:=0<=j/\j<=1000000/\i.natAbs < 2 ^ 64
theorem J9:OpR X (binaryOp .Add) (rI0 fun i j=>.int (i + j)):=opI0 fun _ _ _ _ _ _ _ q=>add_int q
theorem B1r:OpR X (binaryOp .Sub) (rI0 fun i j=>.int (i - j)):=opI0 fun _ _ _ _ _ _ _ q=>sub_int q
theorem P9:OpR X (binaryOp .Mod) (rI (fun _ j=>0 < j) fun i j=>.int (i % j)):=opI fun i j _ _ _ _ _ hc q=>by
 have h1:(0:Int) < j:=hc;exact mod_int' (by omega) (by rw [Int.fmod_eq_emod_of_nonneg i (by omega)]; exact q)
theorem W8:OpR X (binaryOp .Pow) (rI CPow fun i j=>.int (i ^ j.toNat)):=opI fun _ _ _ _ _ _ _ hc q=>pow_int_small hc.1 hc.2.1 hc.2.2 q
theorem unI {f:Value->Sem Value} {g:Int->Int}
  (rule:∀ (i:Int) (t:Tok) (s:Shared) (Q:Value->Shared->Prop) (E:Value->Shared->Prop),Q (.int (g i) s.toks) { s with toks:=s.toks + 1 }->wpAny (model X.prog X.w) X.A (f (.int i t)) Q E s) :
  UnR X f (rU fun i=>.int (g i)):=by
 intro pins s σ H x v Q I rx h;obtain ⟨i,rfl,q⟩:=h;obtain ⟨t,rfl⟩:=rx;exact rule i t s _ _ ⟨.int (g i),H,I.tok _,⟨_,rfl⟩,q⟩
theorem B7k:UnR X (unaryOp .USub) (rU fun i=>.int (-i)):=unI fun _ _ _ _ _ q=>neg_int q
end
section
variable {X:Cx} {a b c:Expr} {ta tb tc:TE} {pos:Pos}
theorem B36 {pins:List (Addr × Obj)} {σ:St} {H:Hp} {s:Shared} {Q:VK} {k k':Bool} (I:Inv X pins σ H s) (q:Q (.bl k) H) (e:k=k'):EP X pins σ Q (.bool k') s:=by
 subst e;exact ⟨.bl k,H,I,rfl,q⟩
theorem A2z:OpR X (compareOp .Lt) (rI0 fun i j=>.bl (decide (i < j))):=opB0 fun _ _ _ _ _ _ _ q=>lt_int q
theorem B6h:OpR X (compareOp .LtE) (rI0 fun i j=>.bl (decide (i<=j))):=opB0 fun _ _ _ _ _ _ _ q=>le_int q
theorem A8e:OpR X (compareOp .Gt) (rI0 fun i j=>.bl (decide (j < i))):=opB0 fun _ _ _ _ _ _ _ q=>gt_int q
theorem C5w:OpR X (compareOp .GtE) (rI0 fun i j=>.bl (decide (j<=i))):=opB0 fun _ _ _ _ _ _ _ q=>ge_int q
theorem B1u:OpR X (compareOp .In) (fun x y H Q=>∃ i j,x=.str i/\y=.str j/\Q (.bl (!(Builtin.Str.occurrences j i 0 j.length 1).isEmpty)) H):=by
 intro pins s σ H x y v u Q I rx ry h;obtain ⟨i,j,rfl,rfl,q⟩:=h;obtain ⟨t,rfl⟩:=rx;obtain ⟨t',rfl⟩:=ry;exact in_str (B36 I q rfl)
theorem C5t:OpR X (compareOp .Is) (fun x y H Q=>y=.non/\Q (.bl (decide (x=.non))) H):=by
 intro pins s σ H x y v u Q I rx ry h;obtain ⟨rfl,q⟩:=h;cases ry;refine is_none_gen (B36 I q ?_);cases x <;> first
  | (cases rx; rfl)
  | (obtain ⟨t,rfl⟩:=rx; rfl)
theorem C2l:OpR X (compareOp .IsNot) (fun x y H Q=>y=.non/\Q (.bl (!decide (x=.non))) H):=by
 intro pins s σ H x y v u Q I rx ry h;obtain ⟨rfl,q⟩:=h;cases ry;refine isnot_none_gen (B36 I q ?_);cases x <;> first
  | (cases rx; rfl)
  | (obtain ⟨t,rfl⟩:=rx; rfl)
theorem B1 (b:Expr) {op:CmpOp} (h:op≠.In:=by decide) (h2:op≠.NotIn:=by decide):behindInMarks op b=false:=by
 have e1:(op == CmpOp.In)=false:=by cases op <;> first | rfl | exact absurd rfl h
 have e2:(op == CmpOp.NotIn)=false:=by cases op <;> first | rfl | exact absurd rfl h2
 cases b <;> simp [behindInMarks,e1,e2]
theorem A1c {op:CmpOp} {r:R2} (ho:OpR X (compareOp op) r) (ha:PE X a ta) (hb:PE X b tb) (hm:behindInMarks op b=false):PE X (.Compare a [op] [b] pos) (tOp r ta tb):=by
 intro pins s σ H Q I h;exact wpAny_Compare1 (binT ha hb I h fun v u s2 x y H2 I2 rx ry q=>ho pins s2 σ H2 x y v u Q I2 rx ry q) hm
def A9g (t:TE):TT:=fun σ H Q=>t σ H fun x H'=>∃ k,x=.bl k/\Q k H'
theorem A94 {op:CmpOp} {r:R2} (ho:OpR X (compareOp op) r) (ha:PE X a ta) (hb:PE X b tb) (hm:behindInMarks op b=false):PT X (.Compare a [op] [b] pos) (A9g (tOp r ta tb)):=by
 intro pins s σ H Q I h;refine wpAny_isTrue_Compare1 (thn (ha pins s σ H _ I h) fun v s1 ⟨x,H1,I1,r1,q1⟩=>thn (hb pins s1 σ H1 _ I1 q1) fun u s2 ⟨y,H2,I2,r2,q2⟩ =>
  thn (ho pins s2 σ H2 x y v u _ I2 r1 r2 q2) fun c s3 ⟨z,H3,I3,r3,k,e,q3⟩=>?_) hm
 subst e;cases r3;exact wpAny_truthy_bool ⟨H3,I3,q3⟩
def A9h (r r':R2) (ta tb tc:TE):TE:=fun σ H Q=>ta σ H fun x H1=>tb σ H1 fun y H2=>r x y H2 fun z H3=>∃ k,z=.bl k /\
 (if k=true then tc σ H3 fun w' H4=>r' y w' H4 Q else Q (.bl false) H3)
theorem B5t {op op':CmpOp} {r r':R2} (ho:OpR X (compareOp op) r) (ho':OpR X (compareOp op') r') (ha:PE X a ta) (hb:PE X b tb) (hc:PE X c tc)
  (hm:lastMarks [op,op'] [b,c]=false:=by with_unfolding_all rfl):PT X (.Compare a [op,op'] [b,c] pos) (A9g (A9h r r' ta tb tc)):=by
 intro pins s σ H Q I h;refine isTrue_chain (thn (ha pins s σ H _ I h) fun v s1 ⟨x,H1,I1,r1,q1⟩=>test_link (thn (hb pins s1 σ H1 _ I1 q1) fun u s2 ⟨y,H2,I2,r2,q2⟩ =>
  thn (ho pins s2 σ H2 x y v u _ I2 r1 r2 q2) fun d s3 ⟨z,H3,I3,r3,k,e,q3⟩=>?_)) hm
 subst e;cases r3;refine wpAny_truthy_bool ?_;cases k with
 | false =>
  obtain ⟨k',e',q'⟩:=q3;cases e';exact ite_ff ⟨H3,I3,q'⟩
 | true =>
  refine ite_tt (test_last (thn (hc pins s3 σ H3 _ I3 q3) fun w' s4 ⟨z',H4,I4,r4,q4⟩=>thn (ho' pins s4 σ H4 y z' u w' _ I4 r2 r4 q4) fun d' s5 ⟨z2,H5,I5,r5,k2,e2,q5⟩=>?_));subst e2;cases r5;exact wpAny_truthy_bool ⟨H5,I5,q5⟩
theorem A0h:(sizeLine:Nat) < 2 ^ 63:=by rw [sizeLine_eq]; decide
theorem A8f:OpR X (binaryOp .Add) (fun x y H Q=>∃ i j,x=.str i/\y=.str j/\i.length + j.length<=sizeLine/\Q (.str (i++j)) H):=by
 intro pins s σ H x y v u Q I rx ry h;obtain ⟨i,j,rfl,rfl,hz,q⟩:=h;obtain ⟨t,rfl⟩:=rx;obtain ⟨t',rfl⟩:=ry;exact add_str (fun t' tk=>⟨.str (i++j),H,I.tok _,⟨_,rfl⟩,q⟩) hz
theorem A0q {x:V} {us:List Value} (r:Vals [x] us):∃ u,us=[u]/\RelV x u:=by
 cases r with
 | cons r1 r2=>cases r2; exact ⟨_,rfl,r1⟩
theorem C3i {x y:V} {us:List Value} (r:Vals [x,y] us):∃ u w',us=[u,w']/\RelV x u/\RelV y w':=by
 cases r with
 | cons r1 r2 =>
  cases r2 with
  | cons r3 r4=>cases r4; exact ⟨_,_,rfl,r1,r3⟩
theorem B63:CallR X (.builtin "abs") (fun xs H Q=>∃ i,xs=[.int i]/\Q (.int (if i < 0 then -i else i)) H):=by
 intro pins s σ H xs us Q I r h;obtain ⟨i,rfl,q⟩:=h;obtain ⟨u,rfl,t,rfl⟩:=A0q r;exact call_abs_int fun u tk=>⟨.int (if i < 0 then -i else i),H,I.tok _,⟨_,rfl⟩,q⟩
theorem B4p (hc:X.calm=true):CallR X (.builtin "min") (fun xs H Q=>∃ i j,xs=[.int i,.int j]/\Q (.int (if j < i then j else i)) H):=by
 intro pins s σ H xs us Q I r h;obtain ⟨i,j,rfl,q⟩:=h;obtain ⟨u,w',rfl,⟨t,rfl⟩,⟨t',rfl⟩⟩:=C3i r;refine min_two_ints (I.ok.hd hc) fun h' tk k=>⟨_,H,I.kept k,?_,q⟩;by_cases hj:j < i
 ·rw [if_pos hj,if_pos hj]; exact ⟨_,rfl⟩
 ·rw [if_neg hj,if_neg hj]; exact ⟨_,rfl⟩
theorem A3z:CallR X (.type "int") (fun xs H Q=>(∃ i,xs=[.int i]/\Q (.int i) H)\/∃ k,xs=[.bl k]/\Q (.int (if k then 1 else 0)) H):=by
 intro pins s σ H xs us Q I r h;rcases h with ⟨i,rfl,q⟩ | ⟨k,rfl,q⟩
 ·obtain ⟨u,rfl,t,rfl⟩:=A0q r;exact call_int_int ⟨.int i,H,I,⟨_,rfl⟩,q⟩
 ·obtain ⟨u,rfl,r1⟩:=A0q r;cases r1;exact call_int_bool ⟨.int (if k then 1 else 0),H,I.tok _,⟨_,rfl⟩,q⟩
theorem A3t:CallR X (.type "str") (fun xs H Q=>∃ i,xs=[.int i]/\i.natAbs.log2 < 1920/\Q (.str (toString i)) H):=by
 intro pins s σ H xs us Q I r h;obtain ⟨i,rfl,hz,q⟩:=h;obtain ⟨u,rfl,t,rfl⟩:=A0q r;exact PySem.P.str_of_int hz ⟨.str _,H,I.tok _,⟨_,rfl⟩,q⟩
end
end L2
namespace L2
open PySem PySem.Spec PyProof.Rows
theorem A3a {h:Heap} {dx:Addr} {mA:Str->Option Value} (n:h.Ns1 dx mA):∃ od,h.get? dx=some od/\∀ name,PySem.W.lookIn name od=some (mA name):=by
 obtain ⟨o,es,ep,ho,hd,hk,_,hm⟩:=n;refine ⟨o,ho,fun name=>?_⟩;have e:=hm name;unfold nsFind findBy at e;rw [<- Array.find?_toList] at e;unfold PySem.W.lookIn;rw [hd];dsimp only;split
 ·rename_i y q;rw [q] at e;exact congrArg some e
 ·rename_i q;rw [q] at e;have a:es.toList.any (·.refKey)=false:=by
   rw [List.any_eq_false];intro y hy;obtain ⟨z,t,hkey⟩:=hk y (Array.mem_toList_iff.mp hy);simp [DictEntry.refKey,hkey]
  have a':¬ es.toList.any (·.refKey)=true:=by rw [a]; exact Bool.false_ne_true
  rw [if_neg a'];exact congrArg some e
section
variable {prog:Program} {w:World} {A:Around} {E:Value->Shared->Prop} {s:Shared} {K:PySem.W.Frag} {x dx C f:Addr} {mA:Str->Option Value} {name:Str} {v:Value}
end
theorem RelO.none_of {o:Option Value} (r:RelO none o):o=none:=by
 cases o with
 | none=>rfl
 | some u=>exact (show False from r).elim
section
variable {P:Program} {w:World} {H H':Hp} {h h':Heap} {a C dx:Addr} {fs fs':List (Str × V)}
end
structure Cls (K:PySem.W.Frag) (C:Addr):Prop where
 pg:PySem.W.plainGet K C Str.empty=true
 hd:PySem.W.hasDictIn K C=true
 po:PySem.W.plainOver K C=true
 sa:PySem.W.findIn K (.ref C) "__setattr__"=some (some (.builtin "object.__setattr__"))
theorem Cls.get {K:PySem.W.Frag} {C:Addr} (c:Cls K C) (f:Str):PySem.W.plainGet K C f=true:=c.pg
section
variable {X:Cx} {pins:List (Addr × Obj)} {σ:St} {H:Hp} {s:Shared} {a C dx:Addr} {fs:List (Str × V)} {f:Str} {v:V} {A:Around} {E:Value->Shared->Prop}
theorem B4y {prog:Program} {w:World} {env:Env} {e:Expr} {f:Str} {pos:Pos} {s:Shared} {Q:Value->Shared->Prop} (hb:attributeBase e f env (eval e env)=eval e env)
  (h:wpAny (model prog w) A (eval e env) (fun o s₁=>wpAny (model prog w) A (getAttr o f true) Q E s₁) E s):wpAny (model prog w) A (eval (.Attribute e f pos) env) Q E s :=
 Attribute_any_ h (by rw [arm_eval_Attribute,hb])
end
section
variable {X:Cx} {o e value:Expr} {f:Str} {pos pos' tpos:Pos} {ta tv:TE}
end
section
variable {X:Cx} {pins:List (Addr × Obj)} {σ:St} {H:Hp} {s:Shared} {A:Around} {E:Value->Shared->Prop} {Q:Value->Shared->Prop} {c:Value} {b:Bool}
end
end L2
namespace L2
open PySem PySem.Spec PyProof.Rows
structure Room (k:Nat) (A:Around):Prop where
 hd:A.handled=none
 gd:A.guards=some []
 dp:A.depth + 3 * k + 5 < recursionLimit
 un:A.units + 16 * k + 200 < cLine
theorem Room.mono {j k:Nat} {A:Around} (r:Room k A) (h:j<=k):Room j A:=⟨r.hd,r.gd,by have:=r.dp; omega,by have:=r.un; omega⟩
theorem Room.mo {j k:Nat} {A:Around} (r:Room k A) (h:j<=k:=by first | decide | omega):Room j A:=r.mono h
theorem Room.deeper {k:Nat} {A:Around} (r:Room (k + 1) A) (env:Env):Room k (A.deeper env) :=
 ⟨r.hd,r.gd,by have:=r.dp; show A.depth + 1 + 3 * k + 5 < _; omega,by have:=r.un; show A.units + 3 + 16 * k + 200 < _; omega⟩
theorem A8o {A:Around} {C:Addr} {us:List Value} {kw:List (Str × Value)}:(A.under (.builtin "type.__call__" ⟨.ref C :: us,kw⟩)).depth=A.depth + 1:=by
 first | rfl | simp [Around.under,Code.weight,Code.isCreation,Code.isGuard,Code.isCaller,Code.frames,Code.isFrame,guardIds]
theorem A8n {A:Around} {C:Addr} {us:List Value} {kw:List (Str × Value)}:(A.under (.builtin "type.__call__" ⟨.ref C :: us,kw⟩)).units=A.units + 1:=by
 first | rfl | simp [Around.under,Code.cUnits,Code.frames,Code.isFrame]
theorem Room.make {k:Nat} {A:Around} (r:Room (k + 1) A) (C:Addr) (us:List Value) (kw:List (Str × Value)):Room k (A.under (.builtin "type.__call__" ⟨.ref C :: us,kw⟩)) :=
 ⟨r.hd,r.gd,by have:=r.dp; rw [A8o]; omega,by have:=r.un; rw [A8n]; omega⟩
theorem Room.depth {k:Nat} {A:Around} (r:Room k A):A.depth < recursionLimit:=by have:=r.dp; omega
theorem Room.units {k:Nat} {A:Around} (r:Room k A):A.units + 64 < cLine:=by have:=r.un; omega
def tNil:TA:=fun _ H Q=>Q [] H
def G4 (ta:TE) (tr:TA):TA:=fun σ H Q=>ta σ H fun x H1=>tr σ H1 fun xs H2=>Q (x :: xs) H2
section
variable {X:Cx} {e:Expr} {es:List Expr} {te:TE} {t:TA} {pos:Pos}
theorem pa_nil:PA X [] tNil:=fun _ _ _ _ H Q I h=>Calls.spliced_nil ⟨[],H,I,.nil,h⟩
theorem pa_cons (ha:PE X e te) (hr:PA X es t) (hs:starEach (e :: es) X.env=(false,eval e X.env) :: starEach es X.env:=by rfl):PA X (e :: es) (G4 te t):=by
 intro pos pins s σ H Q I h;rw [hs];show wpAny _ _ (spliced ((false,eval e X.env) :: backTo pos (starEach es X.env))) _ _ s;refine Calls.spliced_cons (thn (ha pins s σ H _ I h) fun u s1 ⟨x,H1,I1,r1,q1⟩=>?_);exact thn (hr pos pins s1 σ H1 _ I1 q1) fun us s2 ⟨xs,H2,I2,r2,q2⟩=>⟨x :: xs,H2,I2,.cons r1 r2,q2⟩
def tTup (t:TA):TE:=fun σ H Q=>t σ H fun xs H1=>xs.length<=sizeLine/\∀ p,H1 p=none->Q (.ref p) (upd H1 p (.tup xs))
def tLst (t:TA):TE:=fun σ H Q=>t σ H fun xs H1=>xs.length<=sizeLine/\∀ p,H1 p=none->Q (.ref p) (upd H1 p (.lst xs))
theorem C4l {x1} (h:PA X es t):PE X (.Tuple es x1 pos) (tTup t):=by
 intro pins s σ H Q I hq;refine wpAny_Tuple_spliced (thn (h pos pins s σ H _ I hq) fun us s1 ⟨xs,H1,I1,r,z,q⟩=>⟨by rw [<- r.length]; exact z,?_⟩);have hf:H1 s1.heap.objs.size=none:=I1.hok.fresh (Zv _);refine ⟨.ref s1.heap.objs.size,upd H1 s1.heap.objs.size (.tup xs),I1.laid (t':=s1.toks) (fun b u e=>Heap.get?_push_of_some _ e) (Zv _) ?_,rfl,q _ hf⟩;exact ⟨z,us,r,⟨_,Heap.get?_push_size _ rfl,rfl,_,rfl⟩⟩
theorem B8f (h:PA X es t):PE X (.List es pos) (tLst t):=by
 intro pins s σ H Q I hq;refine wpAny_List_spliced (thn (h pos pins s σ H _ I hq) fun us s1 ⟨xs,H1,I1,r,z,q⟩=>⟨by rw [<- r.length]; exact z,?_⟩);have hf:H1 s1.heap.objs.size=none:=I1.hok.fresh (Zv _);refine ⟨.ref s1.heap.objs.size,upd H1 s1.heap.objs.size (.lst xs),I1.laid (t':=s1.toks) (fun b u e=>Heap.get?_push_of_some _ e) (Zv _) ?_,rfl,q _ hf⟩;exact ⟨z,us,0,r,Heap.get?_push_size _ rfl⟩
end
abbrev Sp:=List V->Hp->VK->XK->Prop
abbrev CXT:=List Env->Hp->Shared->XK->Value->Shared->Prop
structure Env0 (P:Program) (w:World) (K:PySem.W.Frag) (mg:Str->Option Value) (base:Heap) (A:Around) (outer:List Env) (s:Shared) (H:Hp):Prop where
 frames:A.frames=some outer
 mod:Mod K mg base
 bs:∀ b o,base.get? b=some o->s.heap.get? b=some o/\H b=none
 bsz:base.objs.size<=s.heap.objs.size
 funs:s.heap.FunFrames base outer
 frf:∀ b ∈ frs outer,H b=none
 hok:HOk P w H s.heap
 bare:AllBare s.gens
def CE (outer:List Env) (P:Program) (w:World) (H:Hp) (s:Shared) (Q:VK) (u:Value) (s':Shared):Prop :=
 ∃ v H',s'.os=s.os/\AllBare s'.gens/\Un (frs outer) [] H H' s.heap s'.heap/\HOk P w H' s'.heap/\RelV v u/\Q v H'
def CR (CX:CXT) (outer:List Env) (P:Program) (w:World) (H:Hp) (s:Shared) (Q:VK) (E:XK) (r:Result) (s':Shared):Prop :=
 match r with
 | .ok (.ret u)=>CE outer P w H s Q u s'
 | .ok _=>False
 | .error e=>CX outer H s E e s'
structure FnOk (P:Program) (w:World) (K:PySem.W.Frag) (mg:Str->Option Value) (base:Heap) (CX:CXT) (k:Nat) (f:Addr) (fd:FuncData) (ps:List Str) (sp:Sp):Prop where
 len:∀ vs H Q E,sp vs H Q E->vs.length=ps.length
 run:∀ (A:Around) (outer:List Env) (s:Shared) (H:Hp) (args:Args) (us:List Value) (vs:List V) (Q:VK) (E:XK),Room k A->Env0 P w K mg base A outer s H->BindsTo s fd args (ps.zip us)->Vals vs us->sp vs H Q E ->
  codeAny (model P w) A (.call (.ref f) args) (CR CX outer P w H s Q E) s
theorem FnOk.imp {P:Program} {w:World} {K:PySem.W.Frag} {mg:Str->Option Value} {base:Heap} {CX:CXT} {k:Nat} {f:Addr} {fd:FuncData} {ps:List Str} {sp sp':Sp} (F:FnOk P w K mg base CX k f fd ps sp)
  (h:∀ vs H Q E,sp' vs H Q E->sp vs H Q E):FnOk P w K mg base CX k f fd ps sp' :=
 ⟨fun vs H Q E q=>F.len vs H Q E (h _ _ _ _ q),fun A outer s H args us vs Q E hr he hb hv hs=>F.run A outer s H args us vs Q E hr he hb hv (h _ _ _ _ hs)⟩
theorem Env0.make {P:Program} {w:World} {K:PySem.W.Frag} {mg:Str->Option Value} {base:Heap} {A:Around} {outer:List Env} {s:Shared} {H:Hp} (e:Env0 P w K mg base A outer s H) (C:Addr) (us:List Value) (kw:List (Str × Value)) :
  Env0 P w K mg base (A.under (.builtin "type.__call__" ⟨.ref C :: us,kw⟩)) outer s H:=⟨by first | exact e.frames | (simpa [Around.under,Code.envs,Code.isFrame,pushEnvs] using e.frames),e.mod,e.bs,e.bsz,e.funs,e.frf,e.hok,e.bare⟩
section
variable {X:Cx} {pins:List (Addr × Obj)} {σ:St} {H:Hp} {s s':Shared}
theorem Inv.env0 (I:Inv X pins σ H s):Env0 X.prog X.w X.K X.mg X.base X.A X.stack s H :=
 ⟨I.ok.frames,I.ok.mod,I.bs,Zx I.ok.bsz I.sz,I.stack,I.stkFree,I.hok,I.bare⟩
theorem Inv.after {Q:VK} {u:Value} (I:Inv X pins σ H s) (h:CE X.stack X.prog X.w H s Q u s'):EP X pins σ Q u s':=by
 obtain ⟨v,H',os,bare,un,hok,r,q⟩:=h;obtain ⟨hh,g,d,t,os'⟩:=s';obtain rfl:os'=s.os:=os;exact ⟨v,H',I.call (h':=hh) (g':=g) (d':=d) (t':=t) (ch:=[]) un hok bare (fun b z=>absurd z (by simp)),r,q⟩
end
def A1y (sp:Sp) (dvs:List V) (E:XK) (t:TA):TE:=fun σ H Q=>t σ H fun vs H1=>sp (vs++dvs) H1 Q E
def Binds (K:PySem.W.Frag) (fd:FuncData) (ps:List Str) (ds:List Value):Prop :=
 ∀ (s:Shared) (us:List Value),K.In s.heap->(us++ds).length=ps.length->BindsTo s fd ⟨us,[]⟩ (ps.zip (us++ds))
theorem Binds.all {K:PySem.W.Frag} {fd:FuncData} {ps:List Str} (h:∀ us:List Value,us.length=ps.length->bindArgs fd ⟨us,[]⟩=pure (ps.zip us)):Binds K fd ps []:=fun s us _ hl=>by
 rw [List.append_nil] at hl ⊢;exact .of_eq (h us hl)
def A7z (CX:CXT) (X:Cx) (E:XK):Prop:=∀ (pins:List (Addr × Obj)) (σ:St) (H:Hp) (s:Shared) (e:Value) (s':Shared),Inv X pins σ H s->CX X.stack H s E e s'->X.xe e s'
section
variable {X:Cx} {CX:CXT} {k:Nat} {f C:Addr} {fd:FuncData} {ps:List Str} {sp:Sp} {dvs:List V} {ds:List Value} {E:XK} {x m:Str} {p pos apos:Pos} {e o:Expr} {es:List Expr} {ta:TE} {t:TA}
theorem C3z {pins:List (Addr × Obj)} {σ:St} {H:Hp} {s:Shared} {Q:VK} {us:List Value} {vs:List V} (F:FnOk X.prog X.w X.K X.mg X.base CX k f fd ps sp) (hr:Room k X.A) (hb:Binds X.K fd ps ds) (hd:Vals dvs ds) (hx:A7z CX X E)
  (I:Inv X pins σ H s) (r:Vals vs us) (h:sp (vs++dvs) H Q E):wpAny (model X.prog X.w) X.A (call (.ref f) us) (EP X pins σ Q) X.xe s:=by
 have r2:Vals (vs++dvs) (us++ds):=r.append hd;have hl:(us++ds).length=ps.length:=by rw [<- r2.length]; exact F.len _ _ _ _ h
 refine wpAny_call (codeAny_mono (F.run X.A X.stack s H ⟨us,[]⟩ (us++ds) (vs++dvs) Q E hr I.env0 (hb s us I.kIn hl) r2 h) fun r s' hq=>?_);cases r with
 | error e=>exact hx pins σ H s e s' I hq
 | ok fl =>
  cases fl with
  | ret u=>exact I.after hq
  | next=>exact False.elim hq
  | brk=>exact False.elim hq
  | cont=>exact False.elim hq
theorem C1u (F:FnOk X.prog X.w X.K X.mg X.base CX k f fd ps sp) (hr:Room k X.A) (hg:Gl X x) (hm:X.mg x=some (.ref f)) (hk:PySem.W.keepIn X.K (.ref f)=true) (hb:Binds X.K fd ps ds) (hd:Vals dvs ds) (hx:A7z CX X E)
  (ha:PA X (e :: es) t) (hdb:(x == ("__debug__":Str))=false:=by decide) (he:starEach (e :: es) X.env=(false,eval e X.env) :: starEach es X.env:=by rfl) (hpl:(backTo pos (starEach es X.env)).any (·.1)=false:=by rfl) :
  PE X (.Call (.Name x p) (e :: es) [] pos) (A1y sp dvs E t):=by
 intro pins s σ H Q I h;refine wpAny_Call_Name_kw (Q9 I hg hm ?_ hdb);refine PySem.W.callWith_K (h₀:=X.base) I.ok.mod.kin hk (thn (ha pos pins s σ H _ I h) fun us s1 ⟨vs,H1,I1,r,q⟩=>⟨I1.kIn,?_⟩) he hpl;exact C3z F hr hb hd hx I1 r q
end
section
variable {X:Cx} {CX:CXT} {k:Nat} {f C:Addr} {fd:FuncData} {ps ks:List Str} {sp:Sp} {E:XK} {x m:Str} {p pos apos kpos:Pos} {e o:Expr} {es:List Expr} {kws:List Keyword} {te ta:TE} {t tk:TA} {nm:Option Str}
variable {g:List Value->List Value->List Value} {gV:List V->List V->List V}
end
structure FnScope (N P:List Str) (sc:Scope):Prop where
 kind:sc.kind=.function
 co:sc.isCoroutine=false
 gen:sc.isGenerator=false
 nd:N.Nodup
 pre:N.take P.length=P
 par:∀ x ∈ P,sc.names.lookup x=some .local\/sc.names.lookup x=some .cell
 nofree:∀ y ∈ sc.names,y.2≠.free
theorem A32 {kindOf:Str->Option NameKind} {x:Str}:∀ {binds:List (Str × Value)} {m:Str->Option Value},(∀ v,(x,v) ∉ binds)->bindL kindOf binds m x=m x
 | [],_,_=>rfl
 | (n,v) :: r,m,h=>by
  unfold bindL;rw [A32 fun w hw=>h w (Zr _ hw)];split
  ·have:x≠n:=by rintro rfl; exact h v Zy
   simp [this]
  ·rfl
theorem A34 {kindOf:Str->Option NameKind} {x:Str}:∀ {binds:List (Str × Value)} {m:Str->Option Value},(∀ v,(x,v) ∉ binds)->bindC kindOf binds m x=m x
 | [],_,_=>rfl
 | (n,v) :: r,m,h=>by
  unfold bindC;rw [A34 fun w hw=>h w (Zr _ hw)];split
  ·rfl
  ·have:x≠n:=by rintro rfl; exact h v Zy
   simp [this]
theorem A33 {kindOf:Str->Option NameKind} {x:Str} {v:Value}:∀ {P:List Str} {vs:List Value} {i:Nat} {m:Str->Option Value},P.Nodup->P[i]?=some x->vs[i]?=some v->kindOf x=some .local ->
  bindL kindOf (P.zip vs) m x=some v
 | [],_,_,_,_,h,_,_=>by simp at h
 | _ :: _,[],_,_,_,_,h,_=>by simp at h
 | p :: P,w :: vs,0,m,nd,h1,h2,hk=>by
  simp at h1 h2; subst h1; subst h2;show bindL kindOf ((p,w) :: P.zip vs) m p=_;unfold bindL;rw [A32 fun v hv=>(List.nodup_cons.mp nd).1 (List.of_mem_zip hv).1,if_pos hk];simp
 | p :: P,w :: vs,i + 1,m,nd,h1,h2,hk=>by
  show bindL kindOf ((p,w) :: P.zip vs) m x=_;unfold bindL;exact A33 (i:=i) (List.nodup_cons.mp nd).2 (by simpa using h1) (by simpa using h2) hk
theorem A35 {kindOf:Str->Option NameKind} {x:Str} {v:Value}:∀ {P:List Str} {vs:List Value} {i:Nat} {m:Str->Option Value},P.Nodup->P[i]?=some x->vs[i]?=some v->kindOf x≠some .local ->
  bindC kindOf (P.zip vs) m x=some v
 | [],_,_,_,_,h,_,_=>by simp at h
 | _ :: _,[],_,_,_,_,h,_=>by simp at h
 | p :: P,w :: vs,0,m,nd,h1,h2,hk=>by
  simp at h1 h2; subst h1; subst h2;show bindC kindOf ((p,w) :: P.zip vs) m p=_;unfold bindC;rw [A34 fun v hv=>(List.nodup_cons.mp nd).1 (List.of_mem_zip hv).1,if_neg hk];simp
 | p :: P,w :: vs,i + 1,m,nd,h1,h2,hk=>by
  show bindC kindOf ((p,w) :: P.zip vs) m x=_;unfold bindC;exact A35 (i:=i) (List.nodup_cons.mp nd).2 (by simpa using h1) (by simpa using h2) hk
def start (N:List Str) (vs:List V):St:=vs.map some++List.replicate (N.length - vs.length) none
def cxOf (CX:CXT) (P:Program) (w:World) (K:PySem.W.Frag) (mg:Str->Option Value) (base:Heap) (N:List Str) (qual:Str) (scope:Scope) (f:Addr) (cd:Value) (A:Around) (outer:List Env) (s:Shared) (H:Hp) (E:XK):Cx where
 prog:=P
 w:=w
 K:=K
 mg:=mg
 base:=base
 A:=A.deeper (envOfC qual scope s.heap.objs.size f cd)
 N:=N
 s₀:=s
 H₀:=H
 env:=envOfC qual scope s.heap.objs.size f cd
 outer:=outer
 stack:=envOfC qual scope s.heap.objs.size f cd :: outer
 ex:=[]
 calm:=true
 fn:=fun _=>true
 pn:=[]
 xe:=fun e s'=>wpAny (model P w) (A.deeper (envOfC qual scope s.heap.objs.size f cd)) (leaving (envOfC qual scope s.heap.objs.size f cd) e) (fun _ s''=>CX outer H s E e s'') (fun e' s''=>CX outer H s E e' s'') s'
theorem A7p {sc:Scope} {n:Nat} {x:Str} (h:sc.names.lookup x=some .cell):∃ c,(cellsFrom n sc.names []).lookup x=some c:=by
 have q:=PySem.W.cellsFrom_some sc.names n [] (.inl h);exact Option.isSome_iff_exists.mp q
theorem A3f {CX:CXT} {P:Program} {w:World} {K:PySem.W.Frag} {mg:Str->Option Value} {base:Heap} {N ps:List Str} {qual:Str} {scope:Scope} {f:Addr} {cd:Value} {A:Around} {outer:List Env} {s s1:Shared} {H:Hp} {E:XK} {us:List Value} {vs:List V}
  (S:FnScope N ps scope) (hd:A.handled=none) (e0:Env0 P w K mg base A outer s H) (hl:vs.length=ps.length) (r:Vals vs us)
  (x:InCallC s s.heap.objs.size (bindL (envOfC qual scope s.heap.objs.size f cd).kindOf (ps.zip us) fun _=>none) (cellsFrom (s.heap.objs.size + 1) scope.names []) (bindC (envOfC qual scope s.heap.objs.size f cd).kindOf (ps.zip us) fun _=>none) s1) :
  Inv (cxOf CX P w K mg base N qual scope f cd A outer s H E) [] (start N vs) H s1:=by
 have hpl:ps.length<=N.length:=by have:=congrArg List.length S.pre; rw [List.length_take] at this; omega
 obtain ⟨h1,tk,rfl,hk⟩:=x.done;have noA:∀ b:Addr,b ∉ (cxOf CX P w K mg base N qual scope f cd A outer s H E).ex:=fun b z=>absurd (show b ∈ ([]:List Addr) from z) (by simp);refine ⟨⟨e0.mod,S.kind,rfl,rfl,Zv _,fun y z c h1 h2=>?_,fun y hy=>?_,fun y c _ h=>?_,fun _=>hd,Around.frames_deeper e0.frames,.inr ⟨rfl,rfl⟩,fun b z=>absurd z (noA b),e0.bs,e0.bsz,fun b _ _=>noA b,fun b z=>absurd z (noA b),e0.funs,e0.frf⟩,
  rfl,e0.bare,Un.kept hk,⟨_,x.toInCall.ns,fun i y v h1 h2 h3=>?_⟩,fun y c h=>⟨_,x.cell y c h⟩,e0.hok.fresh (Zv _),fun y c h=>?_,fun p hp=>absurd (show p ∈ ([]:List (Addr × Obj)) from hp) (by simp),e0.hok.kept hk,?_⟩
 ·exact name_of_addr x.apart (PySem.mem_of_lookup h1) (PySem.mem_of_lookup h2)
 ·have hy:scope.names.lookup y=some .cell\/scope.names.lookup y=some .free:=hy;rcases hy with hy | hy
  ·exact A7p hy
  ·exact absurd rfl (S.nofree _ (PySem.mem_of_lookup hy))
 ·exact Nat.le_of_lt (x.above y c (PySem.mem_of_lookup h))
 ·have hi:i < vs.length:=by
   unfold start at h2;by_cases hi:i < vs.length
   ·exact hi
   ·rw [List.getElem?_append_right (by simpa using hi)] at h2;rw [List.getElem?_replicate] at h2;split at h2 <;> cases h2
  have ha:vs[i]?=some v:=by
   unfold start at h2;rw [List.getElem?_append_left (by simpa using hi),Zh] at h2;cases e:vs[i]? with
   | none=>rw [e] at h2; cases h2
   | some a=>rw [e] at h2; cases h2; rfl
  obtain ⟨u,hu,rv⟩:=r.get ha;have hp:ps[i]?=some y:=by
   rw [<- S.pre,List.getElem?_take_of_lt (by omega)]; exact h1
  have ndP:ps.Nodup:=by rw [<- S.pre]; exact S.nd.sublist (List.take_sublist _ _)
  refine ⟨u,rv,?_⟩;rcases S.par y (Zm hp) with k | k
  ·exact .inl ⟨k,A33 ndP hp hu k⟩
  ·obtain ⟨c,e⟩:=A7p (n:=s.heap.objs.size + 1) k;refine .inr ⟨.inl k,c,e,?_⟩;have q:=x.cell y c e;rw [A35 ndP hp hu (by show scope.names.lookup y≠_; rw [k]; decide)] at q;exact q
 ·exact e0.hok.fresh (Nat.le_of_lt (x.above y c (PySem.mem_of_lookup h)))
 ·unfold start;show _=N.length;rw [Ze,Zl,List.length_replicate];omega
theorem C64 {CX:CXT} {P:Program} {w:World} {K:PySem.W.Frag} {mg:Str->Option Value} {base:Heap} {k:Nat} {f:Addr} {name qual:Str} {params:Arguments} {body:List Stmt} {scope:Scope} {dV kV doc pm cdv ct oc:Value} {an od:Option Addr}
  {osl:Array (Option Value)} {N ps:List Str} {sp:Sp} (lk:K.lookup f=some ⟨oc,od,.func (PySem.W.fnOf name qual params body scope dV kV doc pm an cdv ct),osl⟩) (hcd:PySem.W.codeIn K cdv qual=true) (S:FnScope N ps scope)
  (len:∀ vs H Q E,sp vs H Q E->vs.length=ps.length)
  (hbody:∀ (A:Around) (outer:List Env) (s:Shared) (H:Hp) (vs:List V) (Q:VK) (E:XK),Room k (A.deeper (envOfC qual scope s.heap.objs.size f cdv))->sp vs H Q E ->
   ∃ t,PSs (cxOf CX P w K mg base N qual scope f cdv A outer s H E) body t/\t { nx:=fun _ H'=>Q .non H',rt:=Q } (start N vs) H) :
  FnOk P w K mg base CX (k + 1) f (PySem.W.fnOf name qual params body scope dV kV doc pm an cdv ct) ps sp:=by
 refine ⟨len,fun A outer s H args us vs Q E hr e0 hb r hsp=>?_⟩;have hl:=len _ _ _ _ hsp;have KX:K.In s.heap:=e0.mod.kin.keeps fun b o e=>(e0.bs b o e).1;have lim:s.heap.NoLimit:=e0.mod.nolimit.keeps fun b o e=>(e0.bs b o e).1;have hkind:∀ y ∈ ps.zip us,scope.names.lookup y.1=some .local\/(scope.names.lookup y.1=some .cell/\((cellsFrom (s.heap.objs.size + 1) scope.names []).lookup y.1).isSome=true):=fun ⟨n,v⟩ hy=>by
  rcases S.par n (List.of_mem_zip hy).1 with q | q
  ·exact .inl q
  ·exact .inr ⟨q,PySem.W.cellsFrom_some _ _ _ (.inl q)⟩
 refine codeAny_call_function hr.depth (KX _ _ lk) rfl S.co S.gen rfl (PySem.W.codeRec_of KX hcd) (hb _ _ _ _ ?_);refine wpAny_newFunctionEnv_cells S.kind hkind fun env he s1 x=>?_;subst he;refine ⟨lim.keeps x.toInCall.keep,codeAny_func ?_⟩;obtain ⟨t,ht,hq⟩:=hbody A outer s H vs Q E (hr.deeper _) hsp;have I:Inv (cxOf CX P w K mg base N qual scope f cdv A outer s H E) [] (start N vs) H s1:=A3f S hr.hd e0 hl r x;refine wpAny_mono (ht [] s1 (start N vs) H _ I hq) (fun fl s' hs=>?_) fun e s' hs=>hs;have fin:∀ {σ':St} {H':Hp} {v:V} {u:Value},Inv (cxOf CX P w K mg base N qual scope f cdv A outer s H E) [] σ' H' s'->RelV v u->Q v H'->CE outer P w H s Q u s' :=
  fun {σ' H' v u} J rv q=>⟨v,H',J.os,J.bare,J.base,J.hok,rv,q⟩
 cases fl with
 | ret u =>
  obtain ⟨v,σ',H',J,rv,q⟩:=hs;exact fin J rv q
 | next =>
  obtain ⟨σ',H',J,q⟩:=hs;exact fin (v:=V.non) (u:=Value.none) J rfl q
 | brk =>
  obtain ⟨_,_,_,q⟩:=hs;exact False.elim q
 | cont =>
  obtain ⟨_,_,_,q⟩:=hs;exact False.elim q
end L2
namespace L2
open PySem PySem.Spec PyProof.Rows
section
variable {X:Cx} {x:Str} {p pos:Pos} {e:Expr} {es:List Expr} {t:TA} {id T:String} {r:List V->Hp->VK->Prop}
def tCB (r:List V->Hp->VK->Prop) (t:TA):TE:=fun σ H Q=>t σ H fun vs H1=>r vs H1 Q
theorem A1d (hc:CallR X (.builtin id) r) (hg:Gl X x) (hm:X.mg x=none) (hv:bootBuiltins x=some (.builtin id)) (ha:PA X (e :: es) t) (hn:x≠"__name__":=by decide) (hdb:(x == ("__debug__":Str))=false:=by decide)
  (he:starEach (e :: es) X.env=(false,eval e X.env) :: starEach es X.env:=by rfl) (hpl:(backTo pos (starEach es X.env)).any (·.1)=false:=by rfl):PE X (.Call (.Name x p) (e :: es) [] pos) (tCB r t):=by
 intro pins s σ H Q I h;refine wpAny_Call_Name_kw (X2 I hg hm hv ?_ hn hdb);exact PyProof.Rows.callWith_builtin1 (thn (ha pos pins s σ H _ I h) fun us s1 ⟨vs,H1,I1,r1,q1⟩=>hc pins s1 σ H1 vs us Q I1 r1 q1) he hpl
theorem A2q (hc:CallR X (.type T) r) (hg:Gl X x) (hm:X.mg x=none) (hv:bootBuiltins x=some (.type T)) (ha:PA X (e :: es) t) (hn:x≠"__name__":=by decide) (hdb:(x == ("__debug__":Str))=false:=by decide)
  (he:starEach (e :: es) X.env=(false,eval e X.env) :: starEach es X.env:=by rfl) (hpl:(backTo pos (starEach es X.env)).any (·.1)=false:=by rfl):PE X (.Call (.Name x p) (e :: es) [] pos) (tCB r t):=by
 intro pins s σ H Q I h;refine wpAny_Call_Name_kw (X2 I hg hm hv ?_ hn hdb);exact PyProof.Rows.callWith_type1 (thn (ha pos pins s σ H _ I h) fun us s1 ⟨vs,H1,I1,r1,q1⟩=>hc pins s1 σ H1 vs us Q I1 r1 q1) he hpl
end
end L2
namespace HT
open PySem PyProof.Rows
section
open PySem.SeqAt
open PySem.AutoSeq1 (wpAny_loadPart')
open PySem.MeetsSeq PySem.MeetsSeq2 PySem.MeetsSeq3
end
section
variable {prog:Program} {w:World} {A:Around} {E:Value->Shared->Prop} {s:Shared}
def sIx (n d:Nat):Option Int->Nat
 | none=>d
 | some v=>if v < 0 then (v + (n:Int)).toNat else min v.toNat n
theorem sIx_none (n d:Nat):sIx n d none=d:=rfl
theorem sIx_nat (n d k:Nat):sIx n d (some (k:Int))=min k n:=by
 show (if (k:Int) < 0 then ((k:Int) + (n:Int)).toNat else min (k:Int).toNat n)=min k n;rw [if_neg (by omega),Int.toNat_natCast]
end
end HT
namespace L2
open PySem PySem.Spec PyProof.Rows
abbrev TO:=St->Hp->(Option Int->Hp->Prop)->Prop
def PO (X:Cx) (e:Option Expr) (t:TO):Prop :=
 ∀ (pins:List (Addr × Obj)) (s:Shared) (σ:St) (H:Hp) (Q:Option Int->Hp->Prop),Inv X pins σ H s->t σ H Q ->
  wpAny (model X.prog X.w) X.A (evalPart e X.env) (fun u s'=>∃ o H',Inv X pins σ H' s'/\IsPart u o/\Q o H') X.xe s
def A4g:TO:=fun _ H Q=>Q none H
def C0v (t:TE):TO:=fun σ H Q=>t σ H fun x H1=>∃ i,x=.int i/\Q (some i) H1
section
variable {X:Cx} {e:Expr} {te:TE} {lo hi:Option Expr} {tl th:TO} {pos p2:Pos}
theorem C1n:PO X none A4g:=by
 intro pins s σ H Q I h;rw [evalPart_none];exact wpAny_pure ⟨none,H,I,.none,h⟩
theorem C1m (h:PE X e te):PO X (some e) (C0v te):=by
 intro pins s σ H Q I hw;rw [evalPart_some];refine thn (h pins s σ H _ I hw) fun u s1 ⟨x,H1,I1,r1,q1⟩=>?_;obtain ⟨i,rfl,q⟩:=q1;obtain ⟨t,rfl⟩:=r1;exact ⟨some i,H1,I1,.int i t,q⟩
def SlR (X:Cx) (r:V->Option Int->Option Int->Hp->VK->Prop):Prop :=
 ∀ (pins:List (Addr × Obj)) (s:Shared) (σ:St) (H:Hp) (x:V) (v vl vu:Value) (lo hi:Option Int) (sl:Addr) (Q:VK),Inv X pins σ H s->RelV x v->s.heap.IsSliceOf sl vl vu .none->IsPart vl lo->IsPart vu hi->r x lo hi H Q ->
  ∃ T id,typeLookup (.type T) "__getitem__"=pure (some (.builtin id))/\s.TypeIs v T/\wpAny (model X.prog X.w) X.A (getItem v (.ref sl)) (EP X pins σ Q) X.xe s
def tSl (r:V->Option Int->Option Int->Hp->VK->Prop) (te:TE) (tl th:TO):TE:=fun σ H Q=>te σ H fun x H1=>tl σ H1 fun l H2=>th σ H2 fun u H3=>r x l u H3 Q
theorem B55 {r:V->Option Int->Option Int->Hp->VK->Prop} (hr:SlR X r) (he:PE X e te) (hl:PO X lo tl) (hu:PO X hi th):PE X (.Subscript e (.Slice lo hi none p2) pos) (tSl r te tl th):=by
 intro pins s σ H Q I h;refine Subscript_ (thn (he pins s σ H _ I h) fun v s1 ⟨x,H1,I1,r1,q1⟩=>?_);refine wpAny_Slice (thn (hl pins s1 σ H1 _ I1 q1) fun vl s2 ⟨l,H2,I2,pl,q2⟩=>thn (hu pins s2 σ H2 _ I2 q2) fun vu s3 ⟨u,H3,I3,pu,q3⟩=>?_);rw [evalPart_none];refine wpAny_pure ?_;have I4:Inv X pins σ H3 { s3 with heap:=s3.heap.push { cls:=.type "slice",data:=.fields #[vl,vu,.none] } }:=I3.kept (t':=s3.toks) fun b ob q=>Heap.get?_push_of_some _ q;obtain ⟨T,id,hT,ht,hg⟩:=hr pins { s3 with heap:=s3.heap.push { cls:=.type "slice",data:=.fields #[vl,vu,.none] } } σ H3 x v vl vu l u s3.heap.objs.size Q I4 r1 (Heap.IsSliceOf.new ..) pl pu q3;show wpAny (model X.prog X.w) X.A (subscriptTail e (.Slice lo hi none p2) v (.ref s3.heap.objs.size)) (EP X pins σ Q) X.xe { s3 with heap:=s3.heap.push { cls:=.type "slice",data:=.fields #[vl,vu,.none] } };exact tail_any (ops:=[.ref s3.heap.objs.size,v]) ht hT hg (by with_unfolding_all rfl)
def cutV (xs:List V) (lo hi:Option Int):List V:=(xs.drop (HT.sIx xs.length 0 lo)).take (HT.sIx xs.length xs.length hi - HT.sIx xs.length 0 lo)
theorem A5e (xs:List V) (lo hi:Option Int):(cutV xs lo hi).length<=xs.length:=by
 unfold cutV;rw [List.length_take,List.length_drop];omega
theorem Vals.nil_iff {xs:List V} {us:List Value} (r:Vals xs us):us=[] ↔ xs=[]:=by
 cases r with
 | nil=>simp
 | cons _ _=>simp
end
end L2
namespace L2
open PySem PySem.Spec PyProof.Rows
def ixN (n:Nat) (i:Int):Option Nat:=if 0<=i then (if i < n then some i.toNat else none) else if -(n:Int)<=i then some (i + n).toNat else none
def atI {α:Type} (xs:List α) (i:Int):Option α:=(ixN xs.length i).bind fun j=>xs[j]?
theorem B3x {n:Nat} {i:Int} {j:Nat} (h:ixN n i=some j):seqIndex? i n=some j/\j < n/\-(n:Int)<=i/\i < n:=by
 unfold ixN at h;by_cases h0:0<=i
 ·rw [if_pos h0] at h;by_cases h1:i < n
  ·rw [if_pos h1] at h;have e:i.toNat=j:=Zj h;exact ⟨by rw [seqIndex_of h0 h1,e],by omega,by omega,h1⟩
  ·rw [if_neg h1] at h; cases h
 ·rw [if_neg h0] at h;by_cases h1:-(n:Int)<=i
  ·rw [if_pos h1] at h;have e:(i + n).toNat=j:=Zj h;exact ⟨by rw [seqIndex_neg (by omega) h1,e],by omega,h1,by omega⟩
  ·rw [if_neg h1] at h; cases h
theorem A5k {α:Type} {xs:List α} {i:Int} {v:α} (h:atI xs i=some v):∃ j,seqIndex? i xs.length=some j/\xs[j]?=some v/\j < xs.length/\-(xs.length:Int)<=i/\i < xs.length:=by
 unfold atI at h;cases e:ixN xs.length i with
 | none=>rw [e] at h; cases h
 | some j =>
  rw [e] at h;obtain ⟨h1,h2,h3,h4⟩:=B3x e;exact ⟨j,h1,h,h2,h3,h4⟩
theorem K1 {α:Type} {xs:List α} {j:Nat} {v:α} (h:xs[j]?=some v):atI xs (j:Int)=some v:=by
 have hj:j < xs.length:=(Zs h).1;have e:ixN xs.length (j:Int)=some j:=by
  unfold ixN;rw [if_pos (by omega),if_pos (by omega)]; simp
 unfold atI; rw [e]; exact h
def A5l (b:Expr):Prop:=∀ o i,subscripted b false o i=operate [o,i] (getItem o i)
def IxR (X:Cx) (r:R2):Prop :=
 ∀ (value slice:Expr) (pins:List (Addr × Obj)) (s:Shared) (σ:St) (H:Hp) (x y:V) (v u:Value) (Q:VK),Inv X pins σ H s->RelV x v->RelV y u->r x y H Q ->
  subscripted slice false v u=operate [v,u] (getItem v u)->wpAny (model X.prog X.w) X.A (subscriptTail value slice v u) (EP X pins σ Q) X.xe s
def MtR (X:Cx) (id:String) (r:V->List V->Hp->VK->Prop):Prop :=
 ∀ (pins:List (Addr × Obj)) (s:Shared) (σ:St) (H:Hp) (x:V) (xs:List V) (v:Value) (us:List Value) (Q:VK),Inv X pins σ H s->RelV x v->Vals xs us->r x xs H Q ->
  wpAny (model X.prog X.w) X.A (call (.builtin id) (v :: us)) (EP X pins σ Q) X.xe s
section
variable {X:Cx} {a b:Expr} {ta tb:TE} {pos:Pos}
theorem IxR.or {r r':R2} (h:IxR X r) (h':IxR X r'):IxR X (fun x y H Q=>r x y H Q\/r' x y H Q):=by
 intro value slice pins s σ H x y v u Q I rx ry q hs;rcases q with q | q
 ·exact h value slice pins s σ H x y v u Q I rx ry q hs
 ·exact h' value slice pins s σ H x y v u Q I rx ry q hs
theorem A1b {r:R2} (hr:IxR X r) (ha:PE X a ta) (hb:PE X b tb) (hs:A5l b):PE X (.Subscript a b pos) (tOp r ta tb):=by
 intro pins s σ H Q I h;exact Subscript_ (binT ha hb I h fun v u s2 x y H2 I2 rx ry q=>hr a b pins s2 σ H2 x y v u Q I2 rx ry q (hs _ _))
def rIxL (K:PySem.W.Frag):R2:=fun x y H Q=>∃ p xs i v,x=.ref p/\y=.int i/\SqL K H p xs/\atI xs i=some v/\Q v H
def rIxT (K:PySem.W.Frag):R2:=fun x y H Q=>∃ p xs i v,x=.ref p/\y=.int i/\SqT K H p xs/\atI xs i=some v/\Q v H
def rIxS:R2:=fun x y H Q=>∃ z i c,x=.str z/\y=.int i/\z.length<=sizeLine/\atI z.cps.toList i=some c/\Q (.str ⟨#[c]⟩) H
theorem ix_list:IxR X (rIxL X.K):=by
 intro value slice pins s σ H x y v u Q I rx ry h hs;obtain ⟨p,xs,i,z,rfl,rfl,hq,he,q⟩:=h;cases rx;obtain ⟨t,rfl⟩:=ry;obtain ⟨its,r,pl,hz⟩:=I.list hq;obtain ⟨j,h1,h2,h3,h4,h5⟩:=A5k he;obtain ⟨w,ew,rw'⟩:=r.get h2;have hl:=r.length;have hn:=A0h;have fin:EP X pins σ Q w s:=⟨z,H,I,rw',q⟩;by_cases h0:0<=i
 ·have hj:i.toNat=j:=by
   rw [seqIndex_of h0 h5] at h1;exact Zj h1
  exact item_listR pl.isList h0 (by omega) (by rw [hj]; simpa using ew) fin hs
 ·have hj:(i + (its.toArray.size:Int)).toNat=j:=by
   rw [seqIndex_neg (by omega) h4] at h1;rw [List.size_toArray,<- hl];exact Zj h1
  exact subscriptTail_builtinR (x:=w) pl.isList.typeIs slot_list_getitem.lookup
   (wpAny_getItem_list_neg (Q:=fun r s'=>r=w/\EP X pins σ Q r s') pl.isList (by omega) (by rw [List.size_toArray] <;> omega) (by omega) (by rw [hj]; simpa using ew) ⟨rfl,fin⟩) hs
theorem ix_tup:IxR X (rIxT X.K):=by
 intro value slice pins s σ H x y v u Q I rx ry h hs;obtain ⟨p,xs,i,z,rfl,rfl,hq,he,q⟩:=h;cases rx;obtain ⟨t,rfl⟩:=ry;obtain ⟨its,r,pl,hz⟩:=I.tuple hq;obtain ⟨j,h1,h2,h3,h4,h5⟩:=A5k he;obtain ⟨w,ew,rw'⟩:=r.get h2;have hl:=r.length;have hn:=A0h;have fin:EP X pins σ Q w s:=⟨z,H,I,rw',q⟩;exact subscriptTail_builtinR (x:=w) pl.typeIs slot_tuple_getitem.lookup
  (getItem_tuple (j:=j) (Q:=fun r s'=>r=w/\EP X pins σ Q r s') pl (by omega) (by omega) (by rw [List.size_toArray,<- hl]; exact h1) (by simpa using ew) ⟨rfl,fin⟩) hs
theorem C6y:IxR X rIxS:=by
 intro value slice pins s σ H x y v u Q I rx ry h hs;obtain ⟨z,i,c,rfl,rfl,hz,he,q⟩:=h;obtain ⟨t,rfl⟩:=rx;obtain ⟨t',rfl⟩:=ry;obtain ⟨j,h1,h2,h3,h4,h5⟩:=A5k he;have hl:z.cps.toList.length=z.length:=by simp [Str.length]
 rw [hl] at h1 h4 h5;have hn:=A0h;exact tail_any (typeIs_str s z t) slot_str_getitem.lookup (getItem_str (c:=c) (by
  have e1:decide (i < -(2 ^ 63:Int))=false:=Zd (by omega);have e2:decide (i ≥ 2 ^ 63)=false:=Zd (by omega);rw [e1,e2,Bool.or_false]) (by rw [h1]; simpa using h2) ⟨.str ⟨#[c]⟩,H,I.tok _,⟨_,rfl⟩,q⟩) hs
def rIx (K:PySem.W.Frag):R2:=fun x y H Q=>rIxL K x y H Q\/rIxT K x y H Q\/rIxS x y H Q
theorem C6z:IxR X (rIx X.K):=ix_list.or (ix_tup.or C6y)
theorem A8m (its:List Value) (n j:Nat) (u:Value):Obj.mapSeq (·.setIfInBounds j u) { cls:=.type "list",data:=.seq its.toArray n }={ cls:=.type "list",data:=.seq (its.set j u).toArray n }:=by
 simp [Obj.mapSeq]
theorem Inv.lst {pins:List (Addr × Obj)} {σ:St} {H:Hp} {s:Shared} {p:Addr} {xs:List V} (I:Inv X pins σ H s) (h:H p=some (.lst xs)) :
  ∃ (its:List Value) (n:Nat),Vals xs its/\s.heap.get? p=some { cls:=.type "list",data:=.seq its.toArray n }/\xs.length<=sizeLine:=by
 obtain ⟨z,its,n,r,e⟩:=I.hok p _ h;exact ⟨its,n,r,e,z⟩
theorem Inv.lstUpd {pins:List (Addr × Obj)} {σ:St} {H:Hp} {s:Shared} {p:Addr} {xs ys:List V} {its its':List Value} {n n':Nat} {f:Obj->Obj} (I:Inv X pins σ H s) (h:H p=some (.lst xs))
  (ho:s.heap.get? p=some { cls:=.type "list",data:=.seq its.toArray n }) (hf:f { cls:=.type "list",data:=.seq its.toArray n }={ cls:=.type "list",data:=.seq its'.toArray n' }) (r:Vals ys its') (hz:ys.length<=sizeLine) (t:Nat) :
  Inv X pins σ (upd H p (.lst ys)) { s with heap:=s.heap.update p f,toks:=t }:=by
 have e:(s.heap.update p f).get? p=some { cls:=.type "list",data:=.seq its'.toArray n' }:=by
  rw [Heap.get?_update_self f ho (by rw [hf] <;> rfl),hf]
 refine I.write (x:=p) (e:=p) (by rw [h]; trivial) (.inl rfl) (fun b u hb q=>(Heap.get?_update_other _ _ (Ne.symm hb)).trans q) ⟨_,e⟩ ?_;exact ⟨hz,its',n',r,e⟩
def C7z:V->V->V->Hp->(Hp->Prop)->Prop:=fun o i v H Q=>∃ p xs k j,o=.ref p/\i=.int k/\H p=some (.lst xs)/\ixN xs.length k=some j/\Q (upd H p (.lst (xs.set j v)))
theorem A0v:PSet X C7z:=by
 intro pins s σ H o i v ov iv u Q I ro ri rv h;obtain ⟨p,xs,k,j,rfl,rfl,hp,hj,q⟩:=h;cases ro;obtain ⟨t,rfl⟩:=ri;obtain ⟨its,n,r,ho,hz⟩:=I.lst hp;obtain ⟨h1,h2,h3,h4⟩:=B3x hj;have hl:=r.length;have hn:=A0h;have I':Inv X pins σ (upd H p (.lst (xs.set j v))) { s with heap:=s.heap.update p (Obj.mapSeq (·.setIfInBounds j u)) } :=
  I.lstUpd hp ho (A8m its n j u) (r.set rv j) (by rw [List.length_set]; exact hz) s.toks
 by_cases h0:0<=k
 ·have hk:k.toNat=j:=by
   rw [seqIndex_of h0 h4] at h1;exact Zj h1
  exact PySem.W.ki_setAt ho h0 (by omega) (by rw [List.size_toArray,<- hl]; exact h4) (by rw [hk]; exact ⟨_,I',q⟩)
 ·have hk:(k + (its.toArray.size:Int)).toNat=j:=by
   rw [seqIndex_neg (by omega) h3] at h1;rw [List.size_toArray,<- hl];exact Zj h1
  exact PySem.W.ki_setBack ho (by omega) (by rw [List.size_toArray,<- hl]; exact h3) (by omega) (by rw [hk]; exact ⟨_,I',q⟩)
theorem A16 (lo hi:Option Int) (n:Nat):(sliceBounds lo hi none n).1=((HT.sIx n 0 lo:Nat):Int)/\(sliceBounds lo hi none n).2.1=((HT.sIx n n hi:Nat):Int)/\(sliceBounds lo hi none n).2.2=1:=by
 refine ⟨?_,?_,rfl⟩
 ·cases lo with
  | none=>simp [sliceBounds,HT.sIx]
  | some i =>
   simp only [sliceBounds,HT.sIx,Option.getD_none,show (1:Int) > 0 by decide,if_true];by_cases h:i < 0
   ·simp only [h,if_true] <;> omega
   ·simp only [h,if_false] <;> omega
 ·cases hi with
  | none=>simp [sliceBounds,HT.sIx]
  | some i =>
   simp only [sliceBounds,HT.sIx,Option.getD_none,show (1:Int) > 0 by decide,if_true];by_cases h:i < 0
   ·simp only [h,if_true] <;> omega
   ·simp only [h,if_false] <;> omega
theorem A0t (its:List Value) (lo hi:Option Int):slicePick its.toArray lo hi none=((its.drop (HT.sIx its.length 0 lo)).take (HT.sIx its.length its.length hi - HT.sIx its.length 0 lo)).toArray:=by
 obtain ⟨h1,h2,h3⟩:=A16 lo hi its.toArray.size;unfold slicePick;rw [h1,h2,h3];simp only [sliceRange_one,pick_run,List.size_toArray] <;> rfl
def rSlL (K:PySem.W.Frag):V->Option Int->Option Int->Hp->VK->Prop:=fun x lo hi H Q=>∃ a xs,x=.ref a/\SqL K H a xs/\∀ p,H p=none->Q (.ref p) (upd H p (.lst (cutV xs lo hi)))
theorem C03:SlR X (rSlL X.K):=by
 intro pins s σ H x v vl vu lo hi sl Q I rx hs pl pu h;obtain ⟨a,xs,rfl,hx,q⟩:=h;cases rx;obtain ⟨its,r,ht,hz⟩:=I.list hx;have hlen:=r.length;refine ⟨"list",_,slot_list_getitem.lookup,ht.isList.typeIs,?_⟩;refine wpAny_getItem_list_slice ht.isList hs pl pu .none (by simp) ?_ (by rw [List.size_toArray] <;> omega)
 rw [A0t,<- hlen];refine ⟨.ref s.heap.objs.size,_,I.laid (t':=s.toks) (o:=.lst (cutV xs lo hi)) (fun b ob q=>Heap.get?_push_of_some _ q) (Zv _) ?_,rfl,q _ (I.hok.fresh (Zv _))⟩;exact ⟨Zx (A5e xs lo hi) hz,_,0,(r.drop (HT.sIx xs.length 0 lo)).take (HT.sIx xs.length xs.length hi - HT.sIx xs.length 0 lo),Heap.get?_push_size _ rfl⟩
def C65:V->Bool
 | .non=>true
 | .bl _=>true
 | .int _=>true
 | .str _=>true
 | _=>false
def eqV:V->V->Bool
 | .non,.non=>true
 | .bl a,.bl b=>a == b
 | .bl a,.int b=>(if a then 1 else 0) == b
 | .int a,.bl b=>a == (if b then 1 else 0)
 | .int a,.int b=>a == b
 | .str a,.str b=>a == b
 | _,_=>false
def inV (x:V) (xs:List V):Bool:=xs.any fun y=>eqV y x
def rIn (K:PySem.W.Frag) (neg:Bool):R2:=fun x y H Q=>∃ p xs,y=.ref p/\(SqL K H p xs\/SqT K H p xs)/\C65 x=true/\xs.all C65=true/\Q (.bl (if neg then !inV x xs else inV x xs)) H
theorem A2y:OpR X (compareOp .NotIn) (fun x y H Q=>∃ i j,x=.str i/\y=.str j/\Q (.bl (!(!(Builtin.Str.occurrences j i 0 j.length 1).isEmpty))) H):=by
 intro pins s σ H x y v u Q I rx ry h;obtain ⟨i,j,rfl,rfl,q⟩:=h;obtain ⟨t,rfl⟩:=rx;obtain ⟨t',rfl⟩:=ry;exact notIn_str ⟨.bl _,H,I,rfl,q⟩
theorem call_len_seq:CallR X (.builtin "len") (fun xs H Q=>∃ p ys,xs=[.ref p]/\(SqL X.K H p ys\/SqT X.K H p ys)/\Q (.int ys.length) H):=by
 intro pins s σ H xs us Q I r h;obtain ⟨p,ys,rfl,hq,q⟩:=h;obtain ⟨u,rfl,rx⟩:=A0q r;cases rx;have hn:=A0h;rcases hq with hq | hq
 ·obtain ⟨its,r',pl,hz⟩:=I.list hq;have hlen:=r'.length;exact Calls.call_len_list pl.isList (by simp only [List.size_toArray] <;> omega) ⟨.int ys.length,H,I.tok _,⟨s.toks + 1,by rw [List.size_toArray,hlen]⟩,q⟩
 ·obtain ⟨its,r',pl,hz⟩:=I.tuple hq;have hlen:=r'.length;exact len_tuple pl (by simp only [List.size_toArray] <;> omega) ⟨.int ys.length,H,I.tok _,⟨s.toks + 1,by rw [List.size_toArray,hlen]⟩,q⟩
theorem A3w:CallR X (.builtin "len") (fun xs H Q=>∃ z,xs=[.str z]/\z.length<=sizeLine/\Q (.int z.length) H):=by
 intro pins s σ H xs us Q I r h;obtain ⟨z,rfl,hz,q⟩:=h;obtain ⟨u,rfl,t,rfl⟩:=A0q r;have hn:=A0h;exact len_str (by omega) ⟨.int z.length,H,I.tok _,⟨_,rfl⟩,q⟩
theorem CallR.or {f:Value} {r r':List V->Hp->VK->Prop} (h:CallR X f r) (h':CallR X f r'):CallR X f (fun xs H Q=>r xs H Q\/r' xs H Q):=by
 intro pins s σ H xs us Q I rs q;rcases q with q | q
 ·exact h pins s σ H xs us Q I rs q
 ·exact h' pins s σ H xs us Q I rs q
theorem A3v:CallR X (.type "list") (fun xs H Q=>∃ p ys,xs=[.ref p]/\(SqL X.K H p ys\/SqT X.K H p ys)/\∀ l,H l=none->Q (.ref l) (upd H l (.lst ys))):=by
 intro pins s σ H xs us Q I r h;obtain ⟨p,ys,rfl,hq,q⟩:=h;obtain ⟨u,rfl,rx⟩:=A0q r;cases rx;have fin:∀ (its:List Value),Vals ys its->ys.length<=sizeLine->∀ (h':Heap) (c':Nat),(∀ b o',s.heap.get? b=some o'->h'.get? b=some o') ->
   h'.get? s.heap.objs.size=some { cls:=.type "list",dict:=none,data:=.seq its.toArray c',slots:=#[] }->EP X pins σ Q (.ref s.heap.objs.size) { s with heap:=h' }:=fun its r' hz h' c' kp e =>
  ⟨.ref s.heap.objs.size,_,I.laid (t':=s.toks) kp (Zv _) (show ObjOk X.prog X.w _ h' _ (.lst ys) from ⟨hz,its,c',r',e⟩),rfl,q _ (I.hok.fresh (Zv _))⟩
 rcases hq with hq | hq
 ·obtain ⟨its,r',pl,hz⟩:=I.list hq;have hlen:=r'.length;obtain ⟨o,ho,hc,n,hd⟩:=pl.isList;exact call_list_seq p (.inl rfl) ho hc hd (fun h' c' kp e=>fin its r' hz h' c' kp e) (by simp only [List.size_toArray] <;> omega)
 ·obtain ⟨its,r',pl,hz⟩:=I.tuple hq;have hlen:=r'.length;obtain ⟨o,ho,hc,n,hd⟩:=pl;exact call_list_seq p (.inr rfl) ho hc hd (fun h' c' kp e=>fin its r' hz h' c' kp e) (by simp only [List.size_toArray] <;> omega)
def tyV (K:PySem.W.Frag) (T:String) (x:V) (H:Hp):Prop:=match x with
 | .str _=>T="str"
 | .int _=>T="int"
 | .ref p=>(T="list"/\∃ xs,SqL K H p xs)\/(T="tuple"/\∃ o,K.lookup p=some o/\o.cls=.type "tuple"/\o.dict=none) \/
   (T="dict"/\((∃ kvs,H p=some (.dK kvs))\/∃ kvs,H p=some (.dT kvs)))\/(T="set"/\∃ S n,H p=some (.set S n))
 | _=>False
theorem C3k {pins:List (Addr × Obj)} {σ:St} {H:Hp} {s:Shared} {T:String} {x:V} {v:Value} (I:Inv X pins σ H s) (r:RelV x v) (ty:tyV X.K T x H) :
  s.TypeIs v T/\∀ a,v=.ref a->∃ ob,s.heap.get? a=some ob/\ob.dict=none:=by
 cases x with
 | str z =>
  obtain ⟨t,rfl⟩:=r;cases (show T="str" from ty);exact ⟨typeIs_str s z t,fun _ e=>nomatch e⟩
 | int i =>
  obtain ⟨t,rfl⟩:=r;cases (show T="int" from ty);exact ⟨typeIs_int s i t,fun _ e=>nomatch e⟩
 | ref p =>
  cases r;rcases ty with ⟨rfl,xs,hq⟩ | ⟨rfl,o,hk,hc,hd⟩ | ⟨rfl,hk⟩ | ⟨rfl,S,n,hk⟩
  ·obtain ⟨its,_,pl,_⟩:=I.list hq;refine ⟨pl.isList.typeIs,fun a e=>?_⟩;cases e;obtain ⟨o,n,e,c,hd,_⟩:=pl;exact ⟨o,e,hd⟩
  ·refine ⟨⟨o,I.kIn p o hk,hc⟩,fun a e=>?_⟩;cases e;exact ⟨o,I.kIn _ o hk,hd⟩
  ·have z:∃ o,s.heap.get? p=some o/\o.ExactDict:=by
    rcases hk with ⟨kvs,hk⟩ | ⟨kvs,hk⟩
    ·obtain ⟨_,_,_,_,o,_,_,e,ex,_⟩:=I.hok p _ hk;exact ⟨o,e,ex⟩
    ·obtain ⟨_,_,_,_,o,_,_,e,ex,_⟩:=I.hok p _ hk;exact ⟨o,e,ex⟩
   obtain ⟨o,e,ex⟩:=z;refine ⟨⟨o,e,ex.1⟩,fun a e2=>?_⟩;cases e2;exact ⟨o,e,ex.2.1⟩
  ·obtain ⟨o,_,_,_,e,ex,_⟩:=I.hok p _ hk;refine ⟨⟨o,e,ex.1⟩,fun a e2=>?_⟩;cases e2;exact ⟨o,e,ex.2.1⟩
 | _=>exact False.elim ty
def tBM (K:PySem.W.Frag) (T:String) (r:V->List V->Hp->VK->Prop) (to:TE) (t:TA):TE:=fun σ H Q=>to σ H fun x H1=>tyV K T x H1/\t σ H1 fun xs H2=>r x xs H2 Q
variable {o e:Expr} {es:List Expr} {to:TE} {t:TA} {name:Str} {apos cpos:Pos} {T id:String} {r:V->List V->Hp->VK->Prop}
theorem C74 (pa:PlainAttrs T) (slot:Slot T name id) (hty:typeOf (.builtin id)=pure (.type "method_descriptor")) (hm:MtR X id r) (ho:PE X o to) (ha:PA X (e :: es) t)
  (hbase:attributeBase o name X.env (eval o X.env)=eval o X.env:=by rfl)
  (hfew:((backTo cpos (starEach (e :: es) X.env)).all (fun x=>!x.1) && (backToKw cpos (keywordEach [] X.env)).all (fun x=>x.1.isSome)
   && decide ((e :: es).length + ([]:List Keyword).length + (if ([]:List Keyword).isEmpty then 0 else 1) < 30))=true:=by rfl)
  (hline:(apos.endLine == cpos.line)=true:=by rfl) (hs:starEach (e :: es) X.env=(false,eval e X.env) :: starEach es X.env:=by rfl) (hplain:(backTo cpos (starEach es X.env)).any (·.1)=false:=by rfl) :
  PE X (.Call (.Attribute o name apos) (e :: es) [] cpos) (tBM X.K T r to t):=by
 intro pins s σ H Q I h;refine wpAny_Call_method_late hbase hfew hline rfl (thn (ho pins s σ H _ I h) fun v s1 ⟨x,H1,I1,r1,ty,q1⟩=>?_);obtain ⟨h1,h2⟩:=C3k I1 r1 ty;refine ⟨T,id,pa,slot,hty,h1,h2,?_⟩;have hA:=ha cpos pins s1 σ H1 _ I1 q1;rw [hs] at hA ⊢;refine Calls.callWith_builtin (by show (false || (backTo cpos (starEach es X.env)).any (·.1))=false; rw [hplain] <;> rfl) (Calls.evalArgs_plain ?_)
 exact thn hA fun us s2 ⟨vs,H2,I2,r2,q2⟩=>hm pins s2 σ H2 x vs v us Q I2 r1 r2 q2
end
end L2
namespace L2
open PySem PySem.Spec PyProof.Rows
def MtM (X:Cx) (id:String) (r:V->List V->Hp->VK->Prop):Prop :=
 ∀ (pins:List (Addr × Obj)) (s:Shared) (σ:St) (H:Hp) (x:V) (xs:List V) (v:Value) (us:List Value) (Q:VK),Inv X pins σ H s->RelV x v->Vals xs us->r x xs H Q ->
  wpAny (model X.prog X.w) X.A (call (.builtin id) (v :: us)) (EP X pins σ Q) X.xe s
theorem Vals.one:∀ {x:V} {us:List Value},Vals [x] us->∃ u,us=[u]/\RelV x u
 | _,_,.cons r .nil=>⟨_,rfl,r⟩
theorem Vals.two:∀ {x y:V} {us:List Value},Vals [x,y] us->∃ u v,us=[u,v]/\RelV x u/\RelV y v
 | _,_,_,.cons r (.cons q .nil)=>⟨_,_,rfl,r,q⟩
theorem Vals.zero:∀ {us:List Value},Vals [] us->us=[]
 | _,.nil=>rfl
theorem Vals.dropLast {xs:List V} {us:List Value} (h:Vals xs us):Vals xs.dropLast us.dropLast:=by
 induction h with
 | nil=>exact .nil
 | cons r t ih =>
  cases t with
  | nil=>exact .nil
  | cons q t'=>exact .cons r ih
theorem Vals.eraseIdx:∀ {xs:List V} {us:List Value} (i:Nat),Vals xs us->Vals (xs.eraseIdx i) (us.eraseIdx i)
 | _,_,_,.nil=>.nil
 | _,_,0,.cons _ t=>t
 | _,_,i + 1,.cons r t=>.cons r (Vals.eraseIdx i t)
theorem Vals.reverse {xs:List V} {us:List Value} (h:Vals xs us):Vals xs.reverse us.reverse:=by
 induction h with
 | nil=>exact .nil
 | cons r t ih=>rw [List.reverse_cons,List.reverse_cons]; exact Vals.append ih (.cons r .nil)
theorem Vals.rep {xs:List V} {us:List Value} (h:Vals xs us):∀ k:Nat,Vals (List.replicate k xs).flatten (List.replicate k us).flatten
 | 0=>.nil
 | k + 1=>by
  rw [List.replicate_succ,List.replicate_succ,List.flatten_cons,List.flatten_cons];exact Vals.append h (Vals.rep h k)
theorem A3h (its:List Value):∀ (k:Nat) (acc:List Value),
  List.foldl (fun x1 x2=>x1++x2) acc.toArray (List.replicate k its.toArray)=(acc++(List.replicate k its).flatten).toArray
 | 0,acc=>by simp
 | k + 1,acc=>by
  have e:acc.toArray++its.toArray=(acc++its).toArray:=by simp
  have e2:(acc++its)++(List.replicate k its).flatten=acc++(List.replicate (k + 1) its).flatten:=by
   rw [List.replicate_succ,List.flatten_cons,List.append_assoc]
  rw [<- e2,<- A3h its k (acc++its),<- e,List.replicate_succ,List.foldl_cons]
section
variable {X:Cx} {pins:List (Addr × Obj)} {σ:St} {H:Hp} {s:Shared} {l b:Addr} {xs ys zs:List V}
theorem Inv.lset {its its':List Value} {n:Nat} {f:Array Value->Array Value} {t':Nat} (I:Inv X pins σ H s) (hH:H l=some (.lst xs))
  (e:s.heap.get? l=some { cls:=.type "list",data:=.seq its.toArray n }) (hf:f its.toArray=its'.toArray) (hv:Vals ys its') (hz:ys.length<=sizeLine) :
  Inv X pins σ (upd H l (.lst ys)) { s with heap:=s.heap.update l (Obj.mapSeq f),toks:=t' }:=by
 have q:=PySem.IsL.update e f;rw [hf] at q;refine I.write (x:=l) (e:=l) (by rw [hH]; exact trivial) (.inl rfl) (fun b' u hb hu=>(Heap.get?_update_other s.heap (Obj.mapSeq f) (Ne.symm hb)).trans hu) ⟨_,q⟩ ?_;exact ⟨hz,its',_,hv,q⟩
theorem Inv.lnew {its:List Value} {t':Nat} (I:Inv X pins σ H s) (hv:Vals ys its) (hz:ys.length<=sizeLine) :
  Inv X pins σ (upd H s.heap.objs.size (.lst ys)) { s with heap:=s.heap.push { cls:=.type "list",data:=.seq its.toArray },toks:=t' } :=
 I.laid (fun _ _ q=>Heap.get?_push_of_some _ q) (Zv _) ⟨hz,its,0,hv,Heap.get?_push_size _ rfl⟩
theorem Inv.fresh (I:Inv X pins σ H s):H s.heap.objs.size=none:=I.hok.fresh (Zv _)
theorem Inv.lstM (I:Inv X pins σ H s) (hH:H l=some (.lst xs)):xs.length<=sizeLine/\∃ (its:List Value) (n:Nat),Vals xs its/\xs.length=its.length/\s.heap.get? l=some { cls:=.type "list",data:=.seq its.toArray n }:=by
 obtain ⟨z,its,n,r,e⟩:=I.hok l _ hH;exact ⟨z,its,n,r,r.length,e⟩
theorem B6p {n:Nat} (h:n<=sizeLine):Builtin.List.listTooLong n=false:=by
 unfold Builtin.List.listTooLong;exact Zd (by omega)
end
section
variable {X:Cx}
def A9v:V->List V->Hp->VK->Prop:=fun x vs H Q=>∃ l xs y,x=.ref l/\vs=[y]/\H l=some (.lst xs)/\xs.length < sizeLine/\Q .non (upd H l (.lst (xs++[y])))
theorem J1:MtM X "list.append" A9v:=by
 intro pins s σ H x vs v us Q I rx rv h;obtain ⟨l,xs,y,rfl,rfl,hH,hz,q⟩:=h;cases rx;obtain ⟨u,rfl,ru⟩:=rv.one;obtain ⟨z,its,n,r,hl,e⟩:=I.lstM hH;refine call_meets F.slot_list_append ⟨_,e,rfl⟩ F.entry_list_append (F.args_list_append_2 _ _) (PySem.list_append l its.toArray n u (by rw [List.size_toArray]; omega)) ⟨e,?_⟩;refine ⟨.non,_,I.lset (its':=its++[u]) hH e (by simp) (r.append (.cons ru .nil)) ?_,rfl,q⟩;rw [Ze,List.length_singleton];omega
def rRep:R2:=fun x y H Q=>∃ l k xs,x=.ref l/\y=.int k/\H l=some (.lst xs)/\-(2 ^ 63)<=k/\k < 2 ^ 63/\xs.length * k.toNat<=sizeLine /\
 ∀ p,H p=none->Q (.ref p) (upd H p (.lst (List.replicate k.toNat xs).flatten))
theorem C2u {α:Type} (xs:List α) (k:Nat):(List.replicate k xs).flatten.length=k * xs.length:=by
 induction k with
 | zero=>simp
 | succ k ih=>rw [List.replicate_succ,List.flatten_cons,Ze,ih,Nat.succ_mul,Nat.add_comm]
theorem C5r:OpR X (binaryOp .Mult) rRep:=by
 intro pins s σ H x y v u Q I rx ry h;obtain ⟨l,k,xs,rfl,rfl,hH,h1,h2,hz,q⟩:=h;cases rx;obtain ⟨t,rfl⟩:=ry;obtain ⟨z,its,n,r,hl,e⟩:=I.lstM hH;have hlen:its.toArray.size * k.toNat<=sizeLine:=by rw [List.size_toArray,<- hl]; exact hz
 have hcap:¬ its.toArray.size * k.toNat > (2 ^ 63 - 1) / 8:=by
  have:(sizeLine:Nat)<=(2 ^ 63 - 1) / 8:=by decide
  omega
 have hfit:¬ (!Builtin.List.listFitsIndex k)=true:=by
  rw [fitsIndex_both h1 h2];exact Bool.false_ne_true
 have hlong:¬ Builtin.List.listTooLong (its.toArray.size * k.toNat)=true:=by
  rw [B6p hlen];exact Bool.false_ne_true
 have hnew:List.foldl (fun x1 x2=>x1++x2) #[] (List.replicate (if its.toArray.isEmpty=true then 0 else k.toNat) its.toArray)=(List.replicate k.toNat its).flatten.toArray:=by
  have f0:∀ m:Nat,List.foldl (fun x1 x2=>x1++x2) #[] (List.replicate m its.toArray)=(List.replicate m its).flatten.toArray:=fun m=>by
   have:=A3h its m [];rw [List.nil_append] at this;exact this
  rw [f0];cases its with
  | nil=>simp
  | cons a r'=>rw [if_neg (by simp)]
 refine wpAny_binaryOp_repeat_ref (T:="list") (U:="int") (by decide) ⟨_,e,rfl⟩ (fun s'=>typeIs_int s' k t) noFill_list_mul F.fills_int_mul F.slot_int_rmul repeat_list F.slot_int_index.lookup
  (call_meets F.slot_int_rmul (typeIs_int s k t) F.entry_int_rmul (F.args_int_rmul_2 _ _) (int___rmul___int_list k t l its.toArray n)
   ⟨e,rfl,⟨_,e,rfl⟩,call_meets F.slot_list_mul ⟨_,e,rfl⟩ F.entry_list_mul (F.args_list_mul_2 _ _) (AutoListH.list___mul___list_int_3 l its.toArray n k t hfit hcap hlong) ⟨e,?_⟩⟩)
 rw [hnew];exact ⟨.ref _,_,I.lnew (t':=s.toks) (r.rep k.toNat) (by rw [C2u,Nat.mul_comm]; exact hz),rfl,q _ I.fresh⟩
end
section
variable {prog:Program} {w:World} {A:Around} {E:Value->Shared->Prop} {s:Shared}
end
section
variable {X:Cx}
end
end L2
namespace Att
open PySem PySem.W PySem.Calls PyProof.Rows
theorem X6 {P:Params} {h:Heap}:∀ (ns:List Int) (vs:List Value),WellAll P h vs (ns.map WData.int)->IntsAre vs ns:=by
 intro ns;induction ns with
 | nil =>
  intro vs w;rw [List.map_nil] at w;cases w;exact .nil
 | cons n ns ih =>
  intro vs w;rw [List.map_cons] at w;cases w with
  | cons a b =>
   cases a;exact .cons _ _ (ih _ b)
theorem A9q {l:OpenLaw} {n:Nat} (hn:l.most=some n) {P:Params} {h:Heap} {args:List WData} {vals:List Value}
  (hpre:l.row.toRowW.claim.pre args=true) (hwl:WellAll P h vals args) :
  ∃ a vs ns,vals=[Value.ref a]/\args=[WData.list (ns.map WData.int)]/\h.get? a=some { cls:=.type "list",data:=.seq vs.toArray }/\IntsAre vs ns/\ns.length<=n:=by
 have hsh:WShape.hasAll [] args [.list .int]=true:=(pre_splitW hpre).1;have hc:l.pre.holds [] { args:=args }=true:=(pre_splitW hpre).2;obtain ⟨d,r,rfl,h1,h2⟩:=hasAllW_cons hsh;obtain rfl:=hasAllW_nil h2;obtain ⟨xs,rfl,h3⟩:=hasW_list h1;obtain ⟨ns,rfl⟩:=items_int h3;have hlen:ns.length<=n:=by
  unfold OpenLaw.pre at hc;have h4:(WTm.not (.lt (.lit (.int (n:Int))) (.len (.arg 0)))).holds [] { args:=[.list (ns.map .int)] }=true:=by
   have h4:=(holds_andW hc).1;rw [hn] at h4;exact h4
  have h5:=condW_of h4 (w_not (w_lt w_lit (w_len_list (w_arg rfl))));rw [Zl] at h5;refine Nat.le_of_not_lt fun q=>?_;have q':(n:Int) < ((ns.length:Nat):Int):=by omega
  first
   | (rw [Zk q'] at h5; exact absurd h5 (by decide))
   | (simp at h5; omega)
 cases hwl with
 | cons w1 w2 =>
  cases w2;cases w1 with
  | list ho hall=>exact ⟨_,_,ns,rfl,rfl,ho,X6 ns _ hall,hlen⟩
theorem B0b (l:OpenLaw) (args:List WData):l.row.toRowW.claim.post args (.bool true) args=true :=
 postW_of (r:=l.row.toRowW) (X:=(true == true))
  (show WShape.has [] (.bool true) .bool=true by first | rfl | decide | simp [WShape.has,WShape.arms,WShape.armsAll])
  (show (WTm.eq .res (.lit (.bool true))).value [] { args:=args,res:=some (.bool true),after:=args }=some (.bool (true == true)) from w_eq_bool (w_res rfl) w_lit) rfl
theorem attach_call {l:OpenLaw} {n:Nat} {q:Program} {loose:List Str} {XP:(Str->Option Value)->Heap->Prop} {YP:World->Heap->Prop} {d:DefRec}
  (hn:l.most=some n) (hdf:d.params.defaults=[])
  (call:∀ (w:World) (s₀ s₁:Shared) (mg mb:Str->Option Value) (fa:Addr) (o:Obj) (pm cd doc:Value) (a:Addr) (vs:List Value) (ns:List Int),
   Ground q loose [] XP w s₀ mg mb s₁.heap->YP w s₁.heap ->
   s₁.heap.get? fa=some o->o.data=.func (docDef d.name d.params d.body d.scope pm cd doc)->s₁.heap.CodeRec cd d.name->mg d.name=some (.ref fa) ->
   s₁.heap.get? a=some { cls:=.type "list",data:=.seq vs.toArray }->IntsAre vs ns->ns.length<=n->s₁.gens=#[] ->
   codeAny (model l.prog w) callerA (.call (.ref fa) ⟨[.ref a],[]⟩) (fun r s'=>r=.ok (.ret (.bool true))/\OldK s₁.heap s'.heap/\s'.os=s₁.os/\AllBare s'.gens) s₁) :
  WalkO q loose XP YP l.row.toRowW d [] (fun f vs=>PySem.call f vs):=by
 intro w s₀ s₁ mg mb G Y fa o pm cd doc dV kV ho hd hcd hD hmg hg args vals as hpre hlay hrd hwl hlo;obtain rfl:dV=.none:=Dflts.none hD hdf;obtain rfl:kV=.none:=Dflts.noKw hD;obtain ⟨a,vs,ns,rfl,rfl,hobj,hints,hlen⟩:=A9q hn hpre hwl;refine enter_call (codeAny_mono (call w s₀ s₁ mg mb fa o pm cd doc a vs ns G Y ho (fd_plain hd) hcd hmg hobj hints hlen hg) fun r s' hq=>?_);obtain ⟨rfl,h2,h3,h4⟩:=hq;exact ⟨.inl ⟨.bool true,.bool true,[],rfl,fun _=>rfl,.bool true,B0b l _,fun _=>⟨List.Pairwise.nil,fun _ hm=>(nomatch hm)⟩⟩,h2,h3,h4⟩
section
variable {prog:Program} {w:World} {A:Around} {E:Value->Shared->Prop} {s:Shared} {K:Frag}
end
end Att
namespace L2
open PySem PySem.Spec PyProof.Rows
theorem A1x:∀ {vs:List Value} {ns:List Int},IntsAre vs ns->Vals (ns.map V.int) vs
 | _,_,.nil=>.nil
 | _,_,.cons n t h=>.cons ⟨t,rfl⟩ (A1x h)
def Only (H:Hp):Prop:=∀ b,H b=none\/∃ o xs,H b=some (.frz o (.lst xs))
theorem B6t {P:Program} {w:World} {K:PySem.W.Frag} {mg mb:Str->Option Value} {CX:CXT} {k:Nat} {fa a:Addr} {fd:FuncData} {x:Str} {sp:Sp} {s₁:Shared} {vs:List Value} {ns:List Int}
  (KX:K.In s₁.heap) (hns:s₁.heap.Ns mainGlobals mg) (hb:s₁.heap.Ns builtinsNs mb) (hbb:∀ x:Str,x≠"__name__"->mb x=bootBuiltins x) (hlim:s₁.heap.NoLimit) (hg:s₁.gens=#[])
  (ha:s₁.heap.get? a=some { cls:=.type "list",data:=.seq vs.toArray }) (hi:IntsAre vs ns) (hl:ns.length<=sizeLine) (hr:Room k callerA)
  (F:∀ base:Heap,K.In base->base.Ns mainGlobals mg->FnOk P w K mg base CX k fa fd [x] sp) (hbind:∀ (s:Shared) (u:Value),BindsTo s fd ⟨[u],[]⟩ [(x,u)])
  (hsp:∀ H:Hp,Only H->SqL K H a (ns.map V.int)->sp [.ref a] H (fun v _=>v=.bl true) fun _ _ _=>False)
  (hCX:∀ H e s',CX [] H s₁ (fun _ _ _=>False) e s'->False) :
  codeAny (model P w) callerA (.call (.ref fa) ⟨[.ref a],[]⟩) (fun r s'=>r=.ok (.ret (.bool true))/\OldK s₁.heap s'.heap/\s'.os=s₁.os/\AllBare s'.gens) s₁:=by
 have rv:=A1x hi;have lenV:=hi.length;have core:∀ H:Hp,Only H->SqL K H a (ns.map V.int)->HOk P w H s₁.heap->(∀ b,H b≠none->b=a)->(H a≠none->K.lookup a=none) ->
   codeAny (model P w) callerA (.call (.ref fa) ⟨[.ref a],[]⟩) (fun r s'=>r=.ok (.ret (.bool true))/\OldK s₁.heap s'.heap/\s'.os=s₁.os/\AllBare s'.gens) s₁:=by
  intro H hO hS hok hA hK;have base_of:∀ {b:Addr} {o:Obj},s₁.heap.get? b=some o->H b=none->(hidT s₁.heap H).get? b=some o:=fun e n=>B60 e n;have noA:∀ {b:Addr} {o:Obj} {es:Array DictEntry} {ep:Nat},s₁.heap.get? b=some o->o.data=.dict es ep->H b=none:=fun {b o es ep} e d=>by
   cases q:H b with
   | none=>rfl
   | some u =>
    have e':b=a:=hA b (by rw [q]; simp);subst e';rw [ha] at e; cases e;have d':Data.seq vs.toArray _=Data.dict es ep:=d;cases d'
  have nsK:∀ {b:Addr} {m:Str->Option Value},s₁.heap.Ns b m->(hidT s₁.heap H).Ns b m:=fun {b m} ⟨o,es,ep,e,d,r⟩=>⟨o,es,ep,base_of e (noA e d),d,r⟩;have hKb:K.In (hidT s₁.heap H):=fun b o e=>base_of (KX b o e) (by
   cases q:H b with
   | none=>rfl
   | some u =>
    have e':b=a:=hA b (by rw [q]; simp);subst e';rw [hK (by rw [q]; simp)] at e; cases e)
  have hM:Mod K mg (hidT s₁.heap H):=⟨hKb,nsK hns,⟨mb,nsK hb,hbb⟩,let ⟨mc,h1,h2⟩:=hlim; ⟨mc,nsK h1,h2⟩⟩;have e0:Env0 P w K mg (hidT s₁.heap H) callerA [] s₁ H:=⟨rfl,hM,fun b o e=>C2n e,Nat.le_of_eq (B31 _ _),trivial,fun b hb=>absurd (show b ∈ ([]:List Addr) from hb) (by simp),hok,.of_eq hg⟩;refine codeAny_mono ((F _ hKb (nsK hns)).run callerA [] s₁ H ⟨[.ref a],[]⟩ [.ref a] [.ref a] _ _ hr e0 (hbind s₁ (.ref a)) (.cons rfl .nil) (hsp H hO hS)) fun r s' h=>?_;cases r with
  | error e=>exact (hCX H e s' h).elim
  | ok fl =>
   cases fl with
   | next=>exact False.elim h
   | brk=>exact False.elim h
   | cont=>exact False.elim h
   | ret u =>
    obtain ⟨v,H',os,bare,un,hok',r',q⟩:=h;have q':v=.bl true:=q;subst q';obtain rfl:u=Value.bool true:=r';refine ⟨rfl,OldK.of_keep fun b o e=>?_,os,bare⟩;cases q:H b with
    | none=>exact un.keep b o e q (by intro z; exact absurd (show b ∈ ([]:List Addr) from z) (by simp)) (by simp)
    | some u =>
     rcases hO b with z | ⟨ob,xs,z⟩
     ·rw [q] at z; cases z
     ·have z2:=un.frzs b ob _ z;obtain ⟨e1,_⟩:=hok b _ z;obtain ⟨e2,_⟩:=hok' b _ z2;rw [e] at e1; cases e1;exact e2
 cases hk:K.lookup a with
 | some o =>
  have e:=KX a o hk;rw [ha] at e;cases e;refine core (fun _=>none) (fun _=>.inl rfl) (.inr ⟨_,vs.toArray,_,hk,rfl,rfl,rfl,by rw [List.size_toArray,lenV]; exact hl,by simpa using rv⟩) (fun b u z=>by have z':(none:Option HO)=some u:=z; cases z') (fun b z=>absurd rfl z) fun z=>absurd rfl z
 | none =>
  refine core (fun b=>if b=a then some (.frz { cls:=.type "list",data:=.seq vs.toArray } (.lst (ns.map V.int))) else none) (fun b=>?_) (.inl (.inr ⟨{ cls:=.type "list",data:=.seq vs.toArray },if_pos rfl⟩)) (fun b u z=>?_) (fun b z=>?_) fun _=>hk
  ·by_cases hb:b=a
   ·exact .inr ⟨_,_,if_pos hb⟩
   ·exact .inl (if_neg hb)
  ·by_cases hb:b=a
   ·have z':=(if_pos hb).symm.trans z;cases z';subst hb;exact ⟨ha,by rw [Zl]; exact hl,vs,_,rv,ha⟩
   ·have z':=(if_neg hb).symm.trans z;cases z'
  ·by_cases hb:b=a
   ·exact hb
   ·exact absurd (if_neg hb) z
end L2
namespace L2
open PySem PySem.Spec PyProof.Rows
theorem C0p {l:PySem.W.OpenLaw} {n k:Nat} {q:Program} {loose:List Str} {XP:(Str->Option Value)->Heap->Prop} {YP:World->Heap->Prop} {d:DefRec} {K:Params->PySem.W.Frag} {CX:World->CXT} {sp:World->Sp} {x:Str}
  (hn:l.most=some n) (hn2:n<=sizeLine) (hdf:d.params.defaults=[]) (hr:Room k callerA)
  (hY:∀ (w:World) (h:Heap),YP w h->(K w.params).In h)
  (F:∀ (w:World) (mg:Str->Option Value) (fa:Addr) (h:Heap),(K w.params).In h->h.Ns mainGlobals mg->mg d.name=some (.ref fa) ->
   ∃ fd:FuncData,(∀ (s:Shared) (u:Value),BindsTo s fd ⟨[u],[]⟩ [(x,u)]) /\
    ∀ base:Heap,(K w.params).In base->base.Ns mainGlobals mg->FnOk l.prog w (K w.params) mg base (CX w) k fa fd [x] (sp w))
  (hsp:∀ (w:World) (H:Hp) (a:Addr) (ns:List Int),ns.length<=n->Only H->SqL (K w.params) H a (ns.map V.int)->sp w [.ref a] H (fun v _=>v=.bl true) fun _ _ _=>False)
  (hCX:∀ (w:World) (H:Hp) (s:Shared) (e:Value) (s':Shared),CX w [] H s (fun _ _ _=>False) e s'->False) :
  PySem.W.WalkO q loose XP YP l.row.toRowW d [] (fun f vs=>PySem.call f vs):=by
 refine Att.attach_call hn hdf fun w s₀ s₁ mg mb fa o pm cd doc a vs ns G Y ho hd hcd hmg hobj hints hlen hg=>?_;have KX:=hY w _ Y;obtain ⟨fd,hb,hF⟩:=F w mg fa _ KX G.T.g hmg;exact B6t KX G.T.g G.T.b G.T.builtins G.T.nolimit hg hobj hints (Zx hlen hn2) hr hF hb (fun H hO hS=>hsp w H a ns hlen hO hS) fun H e s'=>hCX w H s₁ e s'
end L2
namespace L2
open PySem PySem.Spec PyProof.Rows
abbrev CX0:CXT:=fun _ _ _ _ _ _=>False
abbrev E0:XK:=fun _ _ _=>False
theorem C76 {X:Cx}:A7z CX0 X E0:=fun _ _ _ _ _ _ _ h=>h.elim
structure Fun (K:PySem.W.Frag) (x qual:Str) (st:Stmt) (f:Addr) (fd:FuncData):Prop where
 ex:∃ (oc:Value) (od:Option Addr) (kV doc pm:Value) (an:Option Addr) (cdv ct:Value) (osl:Array (Option Value)),
  fd=PySem.W.fnOf x qual (J2 st) (G0 st) (A6 st) .none kV doc pm an cdv ct/\K.lookup f=some ⟨oc,od,.func fd,osl⟩/\PySem.W.codeIn K cdv qual=true
 kp:PySem.W.keepIn K (.ref f)=true
section
variable {P:Program} {w:World} {K:PySem.W.Frag} {mg:Str->Option Value} {base:Heap}
theorem Fun.ok {x qual:Str} {st:Stmt} {f:Addr} {fd:FuncData} {N ps:List Str} {k:Nat} {sp:Sp} (F:Fun K x qual st f fd) (S:FnScope N ps (A6 st)) (len:∀ vs H Q E,sp vs H Q E->vs.length=ps.length)
  (hbody:∀ (cdv:Value) (A:Around) (outer:List Env) (s:Shared) (H:Hp) (vs:List V) (Q:VK) (E:XK),Room k (A.deeper (envOfC qual (A6 st) s.heap.objs.size f cdv))->sp vs H Q E ->
   ∃ t,PSs (cxOf CX0 P w K mg base N qual (A6 st) f cdv A outer s H E).nox (G0 st) t/\t { nx:=fun _ H'=>Q .non H',rt:=Q } (start N vs) H):FnOk P w K mg base CX0 (k + 1) f fd ps sp:=by
 obtain ⟨oc,od,kV,doc,pm,an,cdv,ct,osl,rfl,lk,hcd⟩:=F.ex;refine C64 lk hcd S len fun A outer s H vs Q E hr hsp=>?_;obtain ⟨t,h,q⟩:=hbody cdv A outer s H vs Q E hr hsp;exact ⟨t,h.nox,q⟩
theorem Fun.binds {x qual:Str} {st:Stmt} {f:Addr} {fd:FuncData} {ps:List Str} (F:Fun K x qual st f fd)
  (h:∀ (kV doc pm:Value) (an:Option Addr) (cdv ct:Value) (us:List Value),us.length=ps.length->bindArgs (PySem.W.fnOf x qual (J2 st) (G0 st) (A6 st) .none kV doc pm an cdv ct) ⟨us,[]⟩=pure (ps.zip us)):Binds K fd ps []:=by
 obtain ⟨oc,od,kV,doc,pm,an,cdv,ct,osl,rfl,lk,hcd⟩:=F.ex;exact .all (h kV doc pm an cdv ct)
theorem B34 {x qual:Str} {st:Stmt} {f:Addr} {oc:Value} {od an:Option Addr} {osl:Array (Option Value)} {kV doc pm cdv ct:Value} (l:K.lookup f=some ⟨oc,od,.func (PySem.W.fnOf x qual (J2 st) (G0 st) (A6 st) .none kV doc pm an cdv ct),osl⟩)
  (c:PySem.W.codeIn K cdv qual=true) (k:PySem.W.keepIn K (.ref f)=true):Fun K x qual st f (PySem.W.fnOf x qual (J2 st) (G0 st) (A6 st) .none kV doc pm an cdv ct):=⟨⟨oc,od,kV,doc,pm,an,cdv,ct,osl,rfl,l,c⟩,k⟩
end
theorem A15 {n:Nat} (h:n<=1000):n < sizeLine:=Nat.lt_of_le_of_lt h (by decide)
section
variable {X:Cx}
theorem pv (i:Nat) {x:Str} {pos:Pos} (hN:X.N[i]?=some x:=by rfl) (hv:Vis X.env.scope x:=by first | exact Or.inl rfl | exact Or.inr (Or.inl rfl) | exact Or.inr (Or.inr rfl)) (hd:(x == ("__debug__":Str))=false:=by decide)
  (hcd:(x == ("__classdict__":Str))=false:=by decide):PE X (.Name x pos) (tVar i):=A0b hN hv hd hcd
end
theorem iteF {A B:Prop} (h:B):if false=true then A else B:=by
 rw [if_neg Bool.false_ne_true];exact h
theorem iteT {A B:Prop} (h:A):if true=true then A else B:=by
 rw [if_pos rfl];exact h
theorem ite2 {c A B:Prop} [Decidable c] (h1:c->A) (h2:¬ c->B):if c then A else B:=by
 by_cases h:c
 ·rw [if_pos h];exact h1 h
 ·rw [if_neg h];exact h2 h
def Same (H H':Hp):Prop:=∀ b o,H b=some o->H' b=some o
theorem Same.refl (H:Hp):Same H H:=fun _ _ h=>h
theorem Same.trans {H H1 H2:Hp} (a:Same H H1) (b:Same H1 H2):Same H H2:=fun c o h=>b c o (a c o h)
theorem Same.seq {K:PySem.W.Frag} {H H':Hp} {a:Addr} {xs:List V} (e:Same H H') (h:SqL K H a xs):SqL K H' a xs:=by
 rcases h with (h | ⟨o,h⟩) | h
 ·exact .inl (.inl (e _ _ h))
 ·exact .inl (.inr ⟨o,e _ _ h⟩)
 ·exact .inr h
end L2
namespace My
def Sm (k:Nat) (x:Int):Prop:=x.natAbs < 2 ^ k
theorem Sm.mono {k l:Nat} {x:Int} (h:Sm k x) (e:k<=l):Sm l x:=Nat.lt_of_lt_of_le h (Zp (by decide) e)
theorem Sm.mul {k l:Nat} {x y:Int} (h:Sm k x) (g:Sm l y):Sm (k + l) (x * y):=by
 unfold Sm at *;rw [Int.natAbs_mul,Nat.pow_add];rcases Nat.eq_zero_or_pos y.natAbs with e | e
 ·rw [e,Nat.mul_zero]; exact Nat.mul_pos (Nat.two_pow_pos _) (Nat.two_pow_pos _)
 ·exact Nat.lt_of_lt_of_le (Nat.mul_lt_mul_of_pos_right h e) (Nat.mul_le_mul_left _ (Nat.le_of_lt g))
theorem Sm.add {k:Nat} {x y:Int} (h:Sm k x) (g:Sm k y):Sm (k + 1) (x + y):=by
 unfold Sm at *;rw [Nat.pow_succ];have:=Int.natAbs_add_le x y;omega
theorem Sm.le {k:Nat} {x y:Int} (h:Sm k x) (g:y.natAbs<=x.natAbs):Sm k y:=Nat.lt_of_le_of_lt g h
theorem Sm.log {k:Nat} {x:Int} (h:Sm k x) (hk:0 < k):x.natAbs.log2 < k:=by
 by_cases h0:x.natAbs=0
 ·rw [h0]; exact hk
 ·exact (Nat.log2_lt h0).mpr h
theorem B33 (a b:Int):Int.gcd b (a % b)=Int.gcd a b:=by
 have h:a % b=a + b * (-(a / b)):=by
  have:=Int.emod_def a b;rw [this,Int.mul_neg]; omega
 rw [h,Int.gcd_add_mul_left_right,Int.gcd_comm]
theorem C21 (a b:Int):Int.gcd (if a < 0 then -a else a) (if b < 0 then -b else b)=Int.gcd a b:=by
 unfold Int.gcd;congr 1
 ·split <;> omega
 ·split <;> omega
theorem A7f (a:Int) (h:0<=a):((Int.gcd a 0:Nat):Int)=a:=by
 rw [Int.gcd_zero_right]; omega
def sh (t b:Int):Int:=if b < 0 then -((Int.gcd t b:Nat):Int) else ((Int.gcd t b:Nat):Int)
theorem C3x {t b:Int} (h:b≠0):sh t b≠0:=by
 have:Int.gcd t b≠0:=fun e=>h (Int.gcd_eq_zero_iff.mp e).2;unfold sh; split <;> omega
theorem C3y (t b:Int):(sh t b).natAbs=Int.gcd t b:=by
 unfold sh; split <;> omega
theorem A50 (t b:Int):sh t b ∣ t:=by
 unfold sh; split
 ·exact Int.neg_dvd.mpr (Int.gcd_dvd_left ..)
 ·exact Int.gcd_dvd_left ..
theorem B5j (t b:Int):sh t b ∣ b:=by
 unfold sh; split
 ·exact Int.neg_dvd.mpr (Int.gcd_dvd_right ..)
 ·exact Int.gcd_dvd_right ..
theorem B2z {t b:Int} (h:b≠0):t.fdiv (sh t b)=(Rat.divInt t b).num:=by
 rw [Int.fdiv_eq_ediv_of_dvd (A50 t b),Rat.num_divInt,Int.gcd_comm b t];unfold sh;split
 ·rename_i h1;rw [Int.sign_eq_neg_one_of_neg h1,Int.ediv_neg,Int.neg_one_mul,Int.neg_ediv_of_dvd (Int.gcd_dvd_left ..)]
 ·rename_i h1;rw [Int.sign_eq_one_of_pos (by omega),Int.one_mul]
theorem C2s {t b:Int} (h:b≠0):b.fdiv (sh t b)=((Rat.divInt t b).den:Int):=by
 rw [Int.fdiv_eq_ediv_of_dvd (B5j t b),Rat.den_divInt,if_neg h,Int.gcd_comm b t];unfold sh;split
 ·rename_i h1;rw [Int.ediv_neg,Int.natCast_ediv];have e:(b.natAbs:Int)=-b:=by omega
  rw [e,Int.neg_ediv_of_dvd (Int.gcd_dvd_right ..)]
 ·rename_i h1;rw [Int.natCast_ediv];have e:(b.natAbs:Int)=b:=by omega
  rw [e]
theorem C6e (t b:Int):(Rat.divInt t b).num.natAbs<=t.natAbs:=by
 by_cases h:b=0
 ·subst h; simp [Rat.divInt_zero]
 ·rw [<- B2z h,Int.fdiv_eq_ediv_of_dvd (A50 t b)];have:=Int.natAbs_ediv_le_natAbs t (sh t b);exact this
theorem C7b {t b:Int} (h:b≠0):(Rat.divInt t b).den<=b.natAbs:=by
 rw [Rat.den_divInt,if_neg h];exact Nat.div_le_self _ _
def SmQ (k:Nat) (q:Rat):Prop:=Sm k q.num/\Sm k (q.den:Int)
theorem den0 (q:Rat):(q.den:Int)≠0:=by have:=q.den_nz; omega
theorem C71 (p q:Rat):Rat.divInt (p.num * q.den) ((p.den:Int) * q.num)=p / q:=by
 rw [Rat.div_def,Rat.inv_def,<- Rat.divInt_mul_divInt,Rat.num_divInt_den]
def W:List Rat->Nat
 | []=>1
 | q :: r=>q.den * W r
def S:List Rat->Rat
 | []=>0
 | q :: r=>q + S r
end My
namespace My
def SmR (n d:Nat) (q:Rat):Prop:=Sm n q.num/\Sm d (q.den:Int)
theorem SmR.q {n d:Nat} {q:Rat} (h:SmR n d q) (h1:n<=3900) (h2:d<=3900):SmQ 3900 q:=⟨h.1.mono h1,h.2.mono h2⟩
theorem SmR.low {n d:Nat} {t b:Int} (h:Sm n t) (g:Sm d b) (hb:b≠0):SmR n d (Rat.divInt t b) :=
 ⟨h.le (C6e t b),g.le (by simpa using C7b hb)⟩
theorem C6d {q:Rat} (h:q≠0):q.num≠0:=fun e=>h (Rat.num_eq_zero.mp e)
theorem SmR.div {a b c e:Nat} {p q:Rat} (h:SmR a b p) (g:SmR c e q) (hq:q≠0):SmR (a + e) (b + c) (p / q):=by
 rw [<- C71];exact SmR.low (h.1.mul g.2) (h.2.mul g.1) (Int.mul_ne_zero (den0 p) (C6d hq))
theorem B6s (p q:Rat):decide (p.num * q.den < q.num * p.den)=decide (p < q):=by
 rw [Bool.eq_iff_iff,decide_eq_true_iff,decide_eq_true_iff,Rat.lt_iff]
end My
namespace L2
open PySem PySem.Spec PyProof.Rows
section
variable {X:Cx}
theorem A0l {x:Int} (h:My.Sm 8000 x):Builtin.Int.intBits x<=2 ^ 20:=by
 have e:(2:Nat) ^ 20=1048576:=by decide
 have h2:=h.log (by decide);unfold Builtin.Int.intBits;split <;> omega
def C3f (i j:Int):Prop:=My.Sm 8000 i/\My.Sm 8000 j
def C8q (_ j:Int):Prop:=j≠0/\My.Sm 8000 j
theorem O0:OpR X (binaryOp .Mult) (rI C3f fun i j=>.int (i * j)):=opI fun _ _ _ _ _ _ _ hc q=>mul_int q (.of_bits (A0l hc.1) (A0l hc.2))
theorem S7:OpR X (binaryOp .FloorDiv) (rI C8q fun i j=>.int (i.fdiv j)):=opI fun _ _ _ _ _ _ _ hc q =>
 floordiv_int hc.1 q (.inl (PyProof.noPylong_of_log2 (Nat.lt_of_lt_of_le (hc.2.log (by decide)) (by decide))))
def kitB (T c:String):Option Bool:=if (Value.type T == Value.type c)=true then some true else if PySem.W.kitMeta c=true then (fastBuiltinMro T).map (·.contains (Value.type c)) else none
theorem B6v (K:PySem.W.Frag) {T c:String} {b:Bool} (h:kitB T c=some b):PySem.W.kitOne K (.type T) (.type c)=some b:=h
def TyV (K:PySem.W.Frag) (H:Hp) (x:V) (T:String):Prop:=match x with
 | .non=>T="NoneType"
 | .bl _=>T="bool"
 | .int _=>T="int"
 | .str _=>T="str"
 | .ref a=>(T="list"/\∃ xs,SqL K H a xs)\/(T="tuple"/\∃ xs,SqT K H a xs)\/(T="dict"/\∃ kvs,H a=some (.dK kvs))
 | _=>False
theorem A5f:CallR X (.builtin "isinstance") (fun xs H Q=>∃ x c T b,xs=[x,.ty c]/\TyV X.K H x T/\kitB T c=some b/\Q (.bl b) H):=by
 intro pins s σ H xs us Q I r h;obtain ⟨x,c,T,b,rfl,ty,e,q⟩:=h;obtain ⟨u,v,rfl,ru,rv⟩:=Vals.two r;cases (show v=Value.type c from rv);have fin:∀ tk,EP X pins σ Q (.bool b) { s with toks:=tk }:=fun tk=>⟨.bl b,H,I.tok tk,rfl,q⟩;have e':=B6v X.K e;cases x with
 | non=>cases (show T=_ from ty); cases (show u=Value.none from ru); exact PySem.W.kia_one PySem.W.kitx_none I.kIn True.intro e' (fun z=>nomatch z) fin
 | bl y=>cases (show T=_ from ty); cases (show u=Value.bool y from ru); exact PySem.W.kia_one PySem.W.kitx_bool I.kIn True.intro e' (fun z=>nomatch z) fin
 | int i=>cases (show T=_ from ty); obtain ⟨t,q'⟩:=(show ∃ t,u=Value.int i t from ru); cases q'; exact PySem.W.kia_one PySem.W.kitx_int I.kIn True.intro e' (fun z=>nomatch z) fin
 | str y=>cases (show T=_ from ty); obtain ⟨t,q'⟩:=(show ∃ t,u=Value.str y t from ru); cases q'; exact PySem.W.kia_one PySem.W.kitx_str I.kIn True.intro e' (fun z=>nomatch z) fin
 | ref a =>
  cases (show u=Value.ref a from ru);rcases (show _\/_\/_ from ty) with ⟨rfl,xs,h⟩ | ⟨rfl,xs,h⟩ | ⟨rfl,kvs,h⟩
  ·obtain ⟨its,_,⟨o,n,h1,h2,_⟩,_⟩:=I.list h;exact PySem.W.kia_one PySem.W.kitx_list I.kIn ⟨o,h1,h2⟩ e' (fun z=>nomatch z) fin
  ·obtain ⟨its,_,⟨o,h1,h2,_⟩,_⟩:=I.tuple h;exact PySem.W.kia_one PySem.W.kitx_tuple I.kIn ⟨o,h1,h2⟩ e' (fun z=>nomatch z) fin
  ·obtain ⟨_,_,vs,_,p⟩:=(show ObjOk X.prog X.w H s.heap a (.dK kvs) from I.hok a _ h);obtain ⟨o,es,ep,h1,h2,_⟩:=p;exact PySem.W.kia_one PySem.W.kitx_dict I.kIn ⟨o,h1,h2.1⟩ e' (fun z=>nomatch z) fin
 | byt _=>exact (show False from ty).elim
 | flt _=>exact (show False from ty).elim
 | ty _=>exact (show False from ty).elim
end
def encV:V->PyData
 | .int i=>.int i
 | .str x=>.str x
 | _=>.none
def encK:Key->PyData
 | .inl i=>.int i
 | .inr x=>.str x
def C24 (p:Key × V):PyData × PyData:=(encK p.1,encV p.2)
def NSI (xs:List V):Prop:=∀ c i,xs≠[V.str c,V.int i]
def SqD (K:PySem.W.Frag) (H:Hp) (a:Addr) (xs:List V):Prop:=SqT K H a xs/\(H a=some (.tup xs)\/NSI xs)
theorem SqD.of {K:PySem.W.Frag} {H:Hp} {a:Addr} {xs:List V} (h:H a=some (.tup xs)):SqD K H a xs:=⟨SqT.of h,.inl h⟩
mutual
inductive Den (K:PySem.W.Frag) (H:Hp):V->PyData->Prop
 | non:Den K H .non .none
 | bl (b:Bool):Den K H (.bl b) (.bool b)
 | int (i:Int):Den K H (.int i) (.int i)
 | str (x:Str):Den K H (.str x) (.str x)
 | lst {a:Addr} {xs:List V} {ds:LP}:SqL K H a xs->DenAll K H xs ds->Den K H (.ref a) (.list ds)
 | tup {a:Addr} {xs:List V} {ds:LP}:SqD K H a xs->DenAll K H xs ds->Den K H (.ref a) (.tuple ds)
 | dct {a:Addr} {kvs:List (Key × V)}:H a=some (.dK kvs)->Den K H (.ref a) (.dict (kvs.map C24))
inductive DenAll (K:PySem.W.Frag) (H:Hp):List V->LP->Prop
 | nil:DenAll K H [] []
 | cons {x:V} {xs:List V} {d:PyData} {ds:LP}:Den K H x d->DenAll K H xs ds->DenAll K H (x :: xs) (d :: ds)
end
section
variable {X:Cx} {pins:List (Addr × Obj)} {σ:St} {H:Hp} {s:Shared}
mutual
theorem Den.reads (I:Inv X pins σ H s):∀ {x:V} {d:PyData} {u:Value},Den X.K H x d->RelV x u->d.canLay0=true->∃ as,Reads s.heap u d as
 | _,_,u,.non,r,_=>by cases (show u=Value.none from r); exact ⟨_,.none⟩
 | _,_,u,.bl b,r,_=>by cases (show u=Value.bool b from r); exact ⟨_,.bool b⟩
 | _,_,u,.int i,r,_=>by obtain ⟨t,q⟩:=(show ∃ t,u=Value.int i t from r); cases q; exact ⟨_,.int i t⟩
 | _,_,u,.str x,r,_=>by obtain ⟨t,q⟩:=(show ∃ t,u=Value.str x t from r); cases q; exact ⟨_,.str x t⟩
 | _,_,u,.lst (a:=a) h ds,r,cl=>by
  cases (show u=Value.ref a from r);obtain ⟨its,rv,⟨o,n,h1,h2,_,h3⟩,_⟩:=I.list h;obtain ⟨as,q⟩:=DenAll.reads I ds rv cl;exact ⟨_,.list h1 h2 h3 (by simpa using q)⟩
 | _,_,u,.tup (a:=a) h ds,r,cl=>by
  cases (show u=Value.ref a from r);obtain ⟨its,rv,⟨o,h1,h2,n,h3⟩,_⟩:=I.tuple h.1;obtain ⟨as,q⟩:=DenAll.reads I ds rv cl;exact ⟨_,.tuple h1 h2 h3 (by simpa using q)⟩
 | _,_,_,.dct _,_,cl=>absurd (show false=true from cl) Bool.false_ne_true
theorem DenAll.reads (I:Inv X pins σ H s):∀ {xs:List V} {ds:LP} {us:List Value},DenAll X.K H xs ds->Vals xs us->PyData.canLayAll0 ds=true->∃ as,ReadsAll s.heap us ds as
 | _,_,_,.nil,.nil,_=>⟨_,.nil⟩
 | _,d :: ds,_,.cons h t,.cons r rs,cl=>by
  have cl':(d.canLay0 && PyData.canLayAll0 ds)=true:=cl;rw [Bool.and_eq_true] at cl';obtain ⟨as,q⟩:=Den.reads I h r cl'.1;obtain ⟨bs,q'⟩:=DenAll.reads I t rs cl'.2;exact ⟨_,.cons q q'⟩
end
end
section
variable {X:Cx}
def rEqD (K:PySem.W.Frag):R2:=fun x y H Q=>∃ dx dy,Den K H x dx/\Den K H y dy/\dx.canLay0=true/\dy.canLay0=true/\dx.depth<=60/\Q (.bl (PyData.eqv dx dy)) H
def rNeD (K:PySem.W.Frag):R2:=fun x y H Q=>∃ dx dy,Den K H x dx/\Den K H y dy/\dx.canLay0=true/\dy.canLay0=true/\dx.depth<=60/\Q (.bl (!PyData.eqv dx dy)) H
theorem C5x (hu:X.A.units + 64 < cLine):OpR X (compareOp .Eq) (rEqD X.K):=by
 intro pins s σ H x y v u Q I rx ry h;obtain ⟨dx,dy,h1,h2,c1,c2,hd,q⟩:=h;obtain ⟨as,r1⟩:=h1.reads I rx c1;obtain ⟨bs,r2⟩:=h2.reads I ry c2;exact PySem.SeqAt.compareEq_reads r1 r2 c1 c2 (by omega) ⟨.bl _,H,I,rfl,q⟩
theorem C5s (hu:X.A.units + 64 < cLine):OpR X (compareOp .NotEq) (rNeD X.K):=by
 intro pins s σ H x y v u Q I rx ry h;obtain ⟨dx,dy,h1,h2,c1,c2,hd,q⟩:=h;obtain ⟨as,r1⟩:=h1.reads I rx c1;obtain ⟨bs,r2⟩:=h2.reads I ry c2;exact PySem.SeqAt.compareNe_reads r1 r2 c1 c2 (by omega) ⟨.bl _,H,I,rfl,q⟩
def tRev (K:PySem.W.Frag) (te ts:TE):TE:=fun σ H Q=>te σ H fun x H1=>ts σ H1 fun k H2=>k=.int (-1)/\∃ a xs,x=.ref a/\SqL K H2 a xs/\∀ p,H2 p=none->Q (.ref p) (upd H2 p (.lst xs.reverse))
theorem C4n {e st:Expr} {te ts:TE} {pos p2:Pos} (he:PE X e te) (hst:PE X st ts)
  (hsub:∀ (a sz:Addr),∃ ops,subscripted (.Slice none none (some st) p2) false (.ref a) (.ref sz)=operate ops (getItem (.ref a) (.ref sz)):=by intro a sz; exact ⟨_,by with_unfolding_all rfl⟩):PE X (.Subscript e (.Slice none none (some st) p2) pos) (tRev X.K te ts):=by
 intro pins s σ H Q I h;refine Subscript_ (thn (he pins s σ H _ I h) fun v s1 ⟨x,H1,I1,r1,q1⟩=>?_);refine wpAny_Slice ?_;rw [evalPart_none,evalPart_some];refine wpAny_pure (wpAny_pure ?_);refine thn (hst pins s1 σ H1 _ I1 q1) fun vk s3 ⟨k,H3,I3,rk,ek,a,xs,ex,hx,q⟩=>?_;subst ek;subst ex;obtain ⟨t,rfl⟩:=rk;cases r1;have I4:Inv X pins σ H3 { s3 with heap:=s3.heap.push { cls:=.type "slice",data:=.fields #[.none,.none,.int (-1) t] } }:=I3.kept (t':=s3.toks) fun b ob q=>Heap.get?_push_of_some _ q;obtain ⟨its,r,ht,hz⟩:=I4.list hx;have hlen:=r.length;obtain ⟨ops,hops⟩:=hsub a s3.heap.objs.size;refine tail_any (ops:=ops) ht.isList.typeIs slot_list_getitem.lookup ?_ hops;refine wpAny_getItem_list_slice ht.isList (Heap.IsSliceOf.new ..) .none .none (.int (-1) t) (by decide) ?_ (by rw [List.size_toArray] <;> omega)
 rw [PySem.W.krv_pick];refine ⟨.ref _,_,I4.laid (t':=s3.toks) (o:=.lst xs.reverse) (fun b ob q=>Heap.get?_push_of_some _ q) (Zv _) ?_,rfl,q _ (I4.hok.fresh (Zv _))⟩;exact ⟨by rw [List.length_reverse]; exact hz,its.reverse,0,r.reverse,Heap.get?_push_size _ rfl⟩
end
def Kp (p:Addr) (H H':Hp):Prop:=∀ b o,b≠p->H b=some o->H' b=some o
theorem Kp.upd {p:Addr} {H:Hp} {o:HO}:Kp p H (upd H p o):=fun b u n e=>by rw [B7 n]; exact e
theorem Kp.trans {p:Addr} {H H1 H2:Hp} (a:Kp p H H1) (b:Kp p H1 H2):Kp p H H2:=fun c o n e=>b c o n (a c o n e)
theorem Kp.refl {p:Addr} {H:Hp}:Kp p H H:=fun _ _ _ e=>e
theorem Same.kp {p:Addr} {H H':Hp} (a:Same H H'):Kp p H H':=fun b o _ e=>a b o e
theorem Same.upd {p:Addr} {H:Hp} {o:HO} (h:H p=none):Same H (upd H p o):=fun b u e=>by rw [B7 (C7 e h)]; exact e
theorem SqT.same {K:PySem.W.Frag} {H H':Hp} {a:Addr} {xs:List V} (e:Same H H') (h:SqT K H a xs):SqT K H' a xs:=by
 rcases h with (h | ⟨o,h⟩) | h
 ·exact .inl (.inl (e _ _ h))
 ·exact .inl (.inr ⟨o,e _ _ h⟩)
 ·exact .inr h
theorem at0 {α:Type} {x:α} {xs:List α}:atI (x :: xs) 0=some x:=K1 (j:=0) rfl
theorem at1 {α:Type} {x y:α} {xs:List α}:atI (x :: y :: xs) 1=some y:=K1 (j:=1) rfl
theorem at2 {α:Type} {x y z:α} {xs:List α}:atI (x :: y :: z :: xs) 2=some z:=K1 (j:=2) rfl
theorem at3 {α:Type} {x y z w:α} {xs:List α}:atI (x :: y :: z :: w :: xs) 3=some w:=K1 (j:=3) rfl
end L2
namespace L2
open PySem PySem.Spec PyProof.Rows
theorem A3o {prog:Program} {w:World} {A:Around} {R:Result->Shared->Prop} {s:Shared} {elt target iter:Expr} {ifs:List Expr} {scope:Scope} {pos:Pos} {it acc:Value} {env:Env} (I:Nat->Shared->Prop)
    (turn:∀ n s,I n s->wpAny (model prog w) A (pyNext it) (fun r s₁=>match r with
      | none=>R (.ok .next) s₁
      | some v=>wpAny (model prog w) A (letOwnedTupleGo target it v) (fun _ s₁'=>wpAny (model prog w) A (assign target env v) (fun _ s₂ =>
          wpAny (model prog w) A (forIn ifs true fun c r=>if r=true then do let ok <- isTrue c env (eval c env); pure (ForInStep.yield ok) else pure (ForInStep.yield r)) (fun ok s₃ =>
            if ok=true then wpAny (model prog w) A (eval elt env) (fun x s₄ =>
              wpAny (model prog w) A (call (.builtin "list.append") [acc,x]) (fun _ s₅=>∃ m,m < n/\I m s₅) (fun _ _=>False) s₄) (fun _ _=>False) s₃
            else ∃ m,m < n/\I m s₃) (fun _ _=>False) s₂) (fun _ _=>False) s₁') (fun _ _=>False) s₁) (fun _ _=>False) s)
    (n:Nat) (h:I n s):codeAny (model prog w) A (.compLoop (.ListComp elt [⟨target,iter,ifs,0⟩] scope pos) 0 it acc env) R s:=by
  refine codeAny_loop rfl I (fun n s hI=>?_) n h;show wpAny _ A ((compTurn (.ListComp elt [⟨target,iter,ifs,0⟩] scope pos) 0 it acc env).onRaise (fun x=>do noteFrame x env; theTreesLotGoes x)) _ _ s;refine wpAny_noted ?_;rw [compTurn_list];refine wpAny_bind (wpAny_standAt (wpAny_bind (wpAny_mono (turn n s hI) (fun r s₁ h₁=>?_) fun _ _ h'=>h'.elim)));cases r with
  | none=>exact wpAny_pure h₁
  | some v =>
    refine wpAny_bind (wpAny_mono h₁ (fun _ s₁' h₁'=>?_) fun _ _ h'=>h'.elim);refine wpAny_bind (wpAny_mono h₁' (fun _ s₂ h₂=>wpAny_bind (wpAny_mono h₂ (fun ok s₃ h₃=>?_) fun _ _ h'=>h'.elim)) fun _ _ h'=>h'.elim);cases ok with
    | false=>exact wpAny_pure ⟨rfl,h₃⟩
    | true =>
      exact wpAny_bind (wpAny_bind (wpAny_mono h₃ (fun x s₄ h₄=>wpAny_bind (wpAny_mono h₄ (fun _ s₅ h₅=>wpAny_pure (wpAny_pure ⟨rfl,h₅⟩)) fun _ _ h'=>h'.elim)) fun _ _ h'=>h'.elim))
def PTs (X:Cx) (ifs:List Expr) (t:TT):Prop :=
 ∀ (pins:List (Addr × Obj)) (s:Shared) (σ:St) (H:Hp) (Q:Bool->Hp->Prop),Inv X pins σ H s->t σ H Q ->
  wpAny (model X.prog X.w) X.A (forIn ifs true fun c r=>if r=true then do let ok <- isTrue c X.env (eval c X.env); pure (ForInStep.yield ok) else pure (ForInStep.yield r)) (TP X pins σ Q) X.xe s
def tYes:TT:=fun _ H Q=>Q true H
theorem C1g {X:Cx}:PTs X [] tYes:=fun pins s σ H Q I h=>wpAny_tests_nil ⟨H,I,h⟩
def Cx.block (X:Cx) (scope:Scope) (cl:List (Str × Addr)) (N':List Str) (s2:Shared) (H2:Hp) (fp:List Addr):Cx where
 prog:=X.prog
 w:=X.w
 K:=X.K
 mg:=X.mg
 base:=X.base
 A:=X.A
 N:=N'
 s₀:=s2
 H₀:=H2
 env:=compEnvC scope cl s2.heap.objs.size X.env
 outer:=X.stack
 stack:=X.stack
 ex:=fp
 fn:=fun _=>false
 calm:=X.calm
 pn:=[]
 xe:=fun _ _=>False
structure CompSc (X:Cx) (scope:Scope) (cl:List (Str × Addr)) (N':List Str) (cap:List (Option Nat)):Prop where
 clos:closureFor scope X.env=pure cl
 sub:∀ x c,cl.lookup x=some c->X.env.cells.lookup x=some c
 has:∀ x,((relabel scope X.env).names.lookup x=some .cell\/(relabel scope X.env).names.lookup x=some .free)->∃ c,cl.lookup x=some c
 kind:scope.kind=.function
 cell:∀ y ∈ scope.names,y.2≠.cell
 names:∀ y ∈ scope.names,y.2=.local->scope.names.lookup y.1=some .local
 nd:N'.Nodup
 len:cap.length=N'.length
 noloc:∀ x c,cl.lookup x=some c->X.env.kindOf x≠some .local
 capt:∀ (i:Nat) (x:Str) (j:Nat),N'[i]?=some x->cap[i]?=some (some j)->X.N[j]?=some x/\((relabel scope X.env).names.lookup x=some .cell\/(relabel scope X.env).names.lookup x=some .free)/\Vis X.env.scope x/\∃ c,cl.lookup x=some c
def capσ (cap:List (Option Nat)) (σ:St):St:=cap.map fun o=>o.bind fun j=>(σ[j]?).join
section
variable {X:Cx} {pins:List (Addr × Obj)} {σ:St} {H:Hp} {s:Shared} {scope:Scope} {cl:List (Str × Addr)} {N':List Str} {cap:List (Option Nat)} {fp:List Addr}
theorem B7a (I:Inv X pins σ H s) (C:CompSc X scope cl N' cap) (hf:∀ b ∈ fp,FpOk X pins H b) (ho:∀ b ∈ fp,∃ o,s.heap.get? b=some o):(X.block scope cl N' s H fp).Ok where
 mod:=I.ok.mod
 kind:=C.kind
 glob:=I.ok.glob
 blt:=I.ok.blt
 above:=Zv _
 inj:=fun x y c h1 h2=>I.ok.inj x y c (C.sub x c h1) (C.sub y c h2)
 has:=fun x h=>C.has x h
 cab:=fun x c h _=>absurd (show false=true from h) Bool.false_ne_true
 hd:=I.ok.hd
 frames:=I.ok.frames
 stk:=.inl rfl
 exf:=fun b hb=>⟨fun z=>by
  obtain ⟨o,e⟩:=ho b hb;exact absurd (Heap.lt_size e) (by rw [z]; exact Nat.lt_irrefl _),fun x c h=>(hf b hb).2.2.2.2.1 x c (C.sub x c h)⟩
 bs:=I.bs
 bsz:=Zx I.ok.bsz I.sz
 noex:=fun b o e hb=>by
  rcases (hf b hb).2.2.2.1 with z | z
  ·exact I.ok.noex b o e z
  ·exact absurd (Nat.lt_of_lt_of_le (Heap.lt_size e) (Zx I.ok.bsz z)) (Nat.lt_irrefl _)
 exfs:=fun b hb z=>by
  rcases List.mem_cons.mp (I.stkSub b z) with e | e
  ·exact (hf b hb).2.1 e
  ·exact (hf b hb).2.2.1 e
 funs:=I.stack
 frf:=I.stkFree
theorem B4u {h1:Heap} {tk:Nat} {m:Str->Option Value} (I:Inv X pins σ H s) (C:CompSc X scope cl N' cap) (hf:∀ b ∈ fp,FpOk X pins H b) (ho:∀ b ∈ fp,∃ o,s.heap.get? b=some o)
  (hn:h1.Ns s.heap.objs.size m) (hk:∀ b o,s.heap.get? b=some o->h1.get? b=some o):Inv (X.block scope cl N' s H fp) [] (capσ cap σ) H { s with heap:=h1,toks:=tk } where
 ok:=B7a I C hf ho
 os:=rfl
 bare:=I.bare
 base:=Un.kept hk
 loc:=⟨m,hn,fun i x v h1' h2 h3=>by
  unfold capσ at h2;rw [Zh] at h2;cases e:cap[i]? with
  | none=>rw [e] at h2; cases h2
  | some o =>
   rw [e] at h2;cases o with
   | none=>cases h2
   | some j =>
    obtain ⟨q1,q2,q3,c,q4⟩:=C.capt i x j h1' e;have hv:(σ[j]?).join=some v:=Zj h2;have hσ:σ[j]?=some (some v):=by
     cases z:σ[j]? with
     | none=>rw [z] at hv; cases hv
     | some y=>rw [z] at hv; cases (show y=some v from hv); rfl
    obtain ⟨m0,hn0,hl0⟩:=I.loc;obtain ⟨u,r,l⟩:=hl0 j x v q1 hσ q3;refine ⟨u,r,.inr ⟨q2,c,q4,?_⟩⟩;rcases l with ⟨l1,_⟩ | ⟨_,c',l2,l3⟩
    ·exact absurd l1 (C.noloc x c q4)
    ·have:=C.sub x c q4;rw [l2] at this;cases this;exact l3.keeps hk⟩
 cell:=fun x c h=>by
  obtain ⟨v,z⟩:=I.cell x c (C.sub x c h);exact ⟨v,z.keeps hk⟩
 free:=I.hok.fresh (Zv _)
 freeC:=fun x c h=>I.freeC x c (C.sub x c h)
 pin:=fun p hp=>absurd (show p ∈ ([]:List (Addr × Obj)) from hp) (by simp)
 hok:=I.hok.kept hk
 len:=by unfold capσ; rw [Zl]; exact C.len
theorem B4t {H':Hp} {s':Shared} {h':Heap} {σ':St} {pl:List (Addr × Obj)} (I:Inv X pins σ H s) (J:Inv (X.block scope cl N' s H fp) pl σ' H' s') (hf:∀ b ∈ fp,FpOk X pins H b) (hs:Heap.SameBut s.heap.objs.size s'.heap h') :
  Inv X pins σ H' { s' with heap:=h' }:=by
 have ne:∀ b o,s.heap.get? b=some o->b≠s.heap.objs.size:=fun b o e=>Nat.ne_of_lt (Heap.lt_size e);have B:Un (frs X.stack) fp H H' s.heap s'.heap:=J.base;refine I.call' (s':={ s' with heap:=h' }) (ch:=fp) J.os ⟨fun b o e n h1 h2=>?_,fun b o e n h1 h2=>?_,B.free,fun b o e h2=>?_,B.tups,B.frzs,B.tbls⟩ ?_ J.bare (fun b hb=>?_)
 ·show h'.get? b=some o;rw [hs.2 b (ne b o e)]; exact B.keep b o e n h1 h2
 ·show ∃ sl,h'.get? b=_;rw [hs.2 b (ne b o e)]; exact B.slot b o e n h1 h2
 ·show ∃ o',h'.get? b=_;rw [hs.2 b (ne b o e)]; exact B.there b o e h2
 ·intro b u e;have hfree:H' s.heap.objs.size=none:=J.free;have nC:∀ c v,H' c=some v->c≠s.heap.objs.size:=fun c v q z=>by rw [z,hfree] at q; cases q
  refine (J.hok b u e).stay (fun c v hc q=>?_) (fun _ q=>q) fun _ _ q=>q;show h'.get? c=some v;have:c≠s.heap.objs.size:=by
   rcases hc with z | z
   ·rw [z]; exact nC b u e
   ·exact nC c _ z
  rw [hs.2 c this]; exact q
 ·obtain ⟨f0,f1,f2,f3,f4,f5⟩:=hf b hb;exact ⟨f3,f1,f4,f5⟩
end
def A3p (J:It) (g:TG) (tt:TT) (te:TE) (D:Addr) (Fin:Hp->Prop) (σ0:St) (H1:Hp):Prop :=
 ∃ W:Nat->Nat->St->Hp->List V->Prop,(∃ m,W 0 m σ0 (upd H1 D (.lst [])) [])/\∀ i m σ' H' ys,W i m σ' H' ys->H' D=some (.lst ys)/\ys.length < sizeLine /\
  ((J.stop i H'/\Fin H')\/(J.go i H'/\∀ x H2,J.yld i H' x H2->g x σ' H2 fun σ2 H3=>tt σ2 H3 fun b H4=>if b=true then
   te σ2 H4 fun y H5=>∃ zs,H5 D=some (.lst zs)/\zs.length < sizeLine/\∃ m',m' < m/\W (i + 1) m' σ2 (upd H5 D (.lst (zs++[y]))) (zs++[y])
   else ∃ m',m' < m/\W (i + 1) m' σ2 H4 ys))
def C0z (wi:TI) (g:TG) (tt:TT) (te:TE) (cap:List (Option Nat)):TE:=fun σ H Q=>wi σ H fun J H1=>∀ D,H1 D=none->A3p J g tt te D (fun H'=>Q (.ref D) H') (capσ cap σ) H1
section
variable {X:Cx} {scope:Scope} {cl:List (Str × Addr)} {N':List Str} {cap:List (Option Nat)} {elt tg iter:Expr} {ifs:List Expr} {wi:TI} {g:TG} {tt:TT} {te:TE} {pos:Pos}
theorem A31 {pins:List (Addr × Obj)} {σ:St} {H2:Hp} {s2:Shared} {it:Addr} {fp:List Addr} {tn:Nat->Heap->Prop} {J:It} {E:Value->Shared->Prop} {RR:Value->Addr->Result->Shared->Prop} {Fin:Addr->Hp->Prop}
  (hc:X.calm=true) (C:CompSc X scope cl N' cap) (I2:Inv X pins σ H2 s2) (T:Turn X.prog X.w X.K tg J fp it tn) (st2:tn 0 s2.heap) (f2:∀ b ∈ fp,FpOk X pins H2 b)
  (hg:∀ s3 H3 fp,PG (X.block scope cl N' s3 H3 fp) tg g) (ht:∀ s3 H3 fp,PTs (X.block scope cl N' s3 H3 fp) ifs tt) (he:∀ s3 H3 fp,PE (X.block scope cl N' s3 H3 fp) elt te)
  (go:∀ D,H2 D=none->A3p J g tt te D (Fin D) (capσ cap σ) H2)
  (out:∀ (D C:Addr) (s':Shared) (m:Str->Option Value) (H':Hp),s'.heap.Ns C m->C≠X.env.locals->H' C=none->X.s₀.heap.objs.size<=C->(∀ x c,X.env.cells.lookup x=some c->c≠C)->(∀ p ∈ X.pn++pins,p.1≠C)->Fin D H'->Inv X pins σ H' s'->RR (.ref D) C (.ok .next) s') :
  wpAny (model X.prog X.w) X.A (newList []) (fun acc s₃=>wpAny (model X.prog X.w) X.A (newFunctionEnv scope X.env.globals cl [] X.env.qual none .none (some X.env)) (fun cenv s₄ =>
   codeAny (model X.prog X.w) X.A (.compStart (.ListComp elt [⟨tg,iter,ifs,0⟩] scope pos) 0 (.ref it) acc { cenv with scope:=relabel scope X.env }) (RR acc cenv.locals) s₄) E s₃) E s2:=by
 refine wpAny_newObj_type (wpAny_newFunctionEnv C.cell (by intro y hy; simp at hy) (fun h₁ hns₁ hsb₁=>?_) C.kind);have hD:H2 s2.heap.objs.size=none:=I2.hok.fresh (Zv _);obtain ⟨W,⟨m0,w0⟩,turn⟩:=go _ hD;have I3:Inv X pins σ (upd H2 s2.heap.objs.size (.lst [])) { s2 with heap:=s2.heap.push { cls:=.type "list",dict:=none,data:=.seq ([]:List Value).toArray } } :=
  I2.laid (t':=s2.toks) (o:=.lst []) (fun b u e=>Heap.get?_push_of_some _ e) (Zv _) ⟨Nat.zero_le _,[],0,.nil,Heap.get?_push_size _ rfl⟩
 have f3:∀ b ∈ fp,FpOk X pins (upd H2 s2.heap.objs.size (.lst [])) b:=fun b hb=>by
  obtain ⟨f0,fr⟩:=f2 b hb;obtain ⟨o,e,_⟩:=T.obj _ _ st2 b hb;exact ⟨by rw [B7 (Nat.ne_of_lt (Heap.lt_size e))]; exact f0,fr⟩
 generalize hs3:({ s2 with heap:=s2.heap.push { cls:=.type "list",dict:=none,data:=.seq ([]:List Value).toArray } }:Shared)=s3 at hns₁ hsb₁ I3 ⊢;have o3:∀ b o,s2.heap.get? b=some o->s3.heap.get? b=some o:=fun b o e=>by rw [<- hs3]; exact Heap.get?_push_of_some _ e
 have hk:∀ b o,s3.heap.get? b=some o->h₁.get? b=some o:=fun b o e=>by
  rw [hsb₁.2 b (Nat.ne_of_lt (Heap.lt_size e))]; exact Heap.get?_push_of_some _ e
 have st3:tn 0 s3.heap:=T.keep _ _ _ st2 fun b _ o e=>o3 b o e;have ho:∀ b ∈ fp,∃ o,s3.heap.get? b=some o:=fun b hb=>let ⟨o,e,_⟩:=T.obj _ _ st3 b hb; ⟨o,e⟩;have I4:=B4u (tk:=s3.toks + ([]:List (Str × Value)).length) I3 C f3 ho hns₁ hk;have st4:tn 0 h₁:=T.keep _ _ _ st3 fun b _ o e=>hk b o e;have hX:∀ {H':Hp} {pl:List (Addr × Obj)},(∀ b ∈ fp,H' b=none)->(∀ p ∈ pl,p.1 ∉ fp)->∀ b ∈ fp,FpOk (X.block scope cl N' s3 (upd H2 s2.heap.objs.size (.lst [])) fp) pl H' b:=fun {H' pl} hn hp b hb=>by
  refine ⟨hn b hb,I4.ok.exf b hb |>.1,I4.ok.exfs b hb,.inl hb,(I4.ok.exf b hb).2,fun p hp' z=>?_⟩;have hp'':p ∈ pl:=by simpa [Cx.block] using hp'
  exact hp p hp'' (by rw [z]; exact hb)
 have fr3:∀ b ∈ fp,(upd H2 s2.heap.objs.size (.lst [])) b=none:=fun b hb=>(f3 b hb).1;have loop:∀ s₅:Shared,s₅={ s3 with heap:=h₁,toks:=s3.toks + ([]:List (Str × Value)).length } ->
   codeAny (model X.prog X.w) X.A (.compLoop (.ListComp elt [⟨tg,iter,ifs,0⟩] scope pos) 0 (.ref it) (.ref s2.heap.objs.size) (compEnvC scope cl s3.heap.objs.size X.env)) (RR (.ref s2.heap.objs.size) s3.heap.objs.size) s₅:=by
  rintro s₅ rfl;refine A3o (fun n s'=>∃ i σ' H' ys,Inv (X.block scope cl N' s3 (upd H2 s2.heap.objs.size (.lst [])) fp) [] σ' H' s'/\tn i s'.heap/\(∀ b ∈ fp,H' b=none)/\W i n σ' H' ys) ?_ m0 ⟨0,_,_,[],I4,st4,fr3,w0⟩;rintro n s6 ⟨i,σ6,H6,ys,I6,st6,fr6,w6⟩;obtain ⟨hl6,hz6,hgo⟩:=turn i n σ6 H6 ys w6;rcases hgo with ⟨stop,fin⟩ | ⟨go',step⟩
  ·refine wpAny_mono (T.done (X.block scope cl N' s3 (upd H2 s2.heap.objs.size (.lst [])) fp) rfl rfl rfl hc i [] s6 σ6 H6 (fun _ _=>False) I6 (hX fr6 (fun _ z=>nomatch z)) st6 stop) (fun r s7 ⟨hr,I7⟩=>?_) fun _ _ z=>z.elim;subst hr;obtain ⟨m7,hn7,_⟩:=id I7.loc;refine out _ _ s7 m7 H6 hn7 (Nat.ne_of_gt I3.lt) I7.free I3.sz (fun x c e z=>?_) (fun p hp z=>?_) fin (B4t I3 I7 f3 (.refl ..))
   ·obtain ⟨v,q⟩:=I3.cell x c e;exact absurd q.lt (by rw [z]; exact Nat.lt_irrefl _)
   ·exact absurd (Heap.lt_size (I3.pin p hp).1) (by rw [z]; exact Nat.lt_irrefl _)
  ·refine wpAny_mono (T.item (X.block scope cl N' s3 (upd H2 s2.heap.objs.size (.lst [])) fp) rfl rfl rfl hc i [] s6 σ6 H6 (fun _ _=>False) I6 (hX fr6 (fun _ z=>nomatch z)) st6 go') (fun r s7 ⟨u,hr,h7⟩=>?_) fun _ _ z=>z.elim;subst hr;refine wpAny_mono h7 (fun _ s8 ⟨x,H8,I8,r8,y8,st8,fr8⟩=>?_) fun _ _ z=>z.elim;have I8':=I8.pinned (hX fr8 (fun _ z=>nomatch z)) (T.obj _ _ st8);have again:∀ {s9:Shared} {σ9:St} {H9:Hp},Inv (X.block scope cl N' s3 (upd H2 s2.heap.objs.size (.lst [])) fp) ([]++A2o fp s8.heap) σ9 H9 s9->∀ {zs:List V},(∃ m',m' < n/\W (i + 1) m' σ9 H9 zs) ->
     ∃ m,m < n/\∃ i σ' H' ys,Inv (X.block scope cl N' s3 (upd H2 s2.heap.objs.size (.lst [])) fp) [] σ' H' s9/\tn i s9.heap/\(∀ b ∈ fp,H' b=none)/\W i m σ' H' ys:=fun {s9 σ9 H9} I9 {zs} ⟨m',hm,w9⟩=>by
    refine ⟨m',hm,i + 1,σ9,H9,zs,I9.unpinned,T.keep _ _ _ st8 fun b hb o e=>(I9.pin (b,o) (Zw _ (Zw _ (P4 hb e)))).1,fun b hb=>?_,w9⟩;obtain ⟨o,e,d⟩:=T.obj _ _ st8 b hb;exact (I9.pin (b,o) (Zw _ (Zw _ (P4 hb e)))).2.1
   refine wpAny_mono (hg _ _ _ _ s8 σ6 H8 x u _ I8' r8 (step x H8 y8)) (fun _ s9 ⟨σ9,H9,I9,q9⟩=>?_) fun _ _ z=>z.elim;refine wpAny_mono (ht _ _ _ _ s9 σ9 H9 _ I9 q9) (fun ok s10 ⟨H10,I10,q10⟩=>?_) fun _ _ z=>z.elim;cases ok with
   | false=>exact again I10 q10
   | true =>
    rw [if_pos rfl];refine wpAny_mono (he _ _ _ _ s10 σ9 H10 _ I10 q10) (fun yv s11 ⟨y,H11,I11,r11,zs,hz,hlen,q11⟩=>?_) fun _ _ z=>z.elim;refine wpAny_mono (J1 (X:=X.block scope cl N' s3 (upd H2 s2.heap.objs.size (.lst [])) fp) _ s11 σ9 H11 (.ref s2.heap.objs.size) [y] (.ref s2.heap.objs.size) [yv] (fun _ H'=>∃ m',m' < n/\W (i + 1) m' σ9 H' (zs++[y])) I11 rfl (.cons r11 .nil) ⟨_,zs,y,rfl,rfl,hz,hlen,q11⟩) (fun _ s12 ⟨_,H12,I12,_,q12⟩=>?_) fun _ _ z=>z.elim;exact again I12 q12
 exact codeAny_compStart_list (loop _ rfl) (T.self _ 0 _ _ _ st4 (loop _ rfl))
theorem C1t (hc:X.calm=true) (C:CompSc X scope cl N' cap) (hi:PI X tg iter wi) (hg:∀ s3 H3 fp,PG (X.block scope cl N' s3 H3 fp) tg g) (ht:∀ s3 H3 fp,PTs (X.block scope cl N' s3 H3 fp) ifs tt)
  (he:∀ s3 H3 fp,PE (X.block scope cl N' s3 H3 fp) elt te) (hs:∀ x,foldedSetIterable iter X.env x=pure x:=by intro _; rfl):PE X (.ListComp elt [⟨tg,iter,ifs,0⟩] scope pos) (C0z wi g tt te cap):=by
 intro pins s σ H Q I h;rw [eval_ListComp];refine wpAny_comprehension_free (use:=none) rfl hs C.clos C.kind C.names (thn (hi pins s σ H _ I h) fun v s1 h1=>thn h1 fun itv s2 h2=>?_);obtain ⟨it,fp,tn,J,H2,e,I2,T,st2,f2,go⟩:=h2;subst e;refine A31 (RR:=fun acc C=>compPost (model X.prog X.w) X.A X.xe none (EP X pins σ Q) acc C) (Fin:=fun D H'=>Q (.ref D) H') hc C I2 T st2 f2 hg ht he go ?_;intro D C' s' m H' hn n1 n2 n3 n4 n5 fin inv;exact ⟨m,hn,fun h' hs'=>⟨.ref D,H',inv.turned (t':=s'.toks) (fun b o hb e=>(hs'.2 b hb).trans e) n2 n1 (.inr n3) n4 n5,rfl,fin⟩⟩
end
end L2
namespace L2
open PySem PySem.Spec PyProof.Rows
def A3r (env:Env):List (Str × NameKind)->List (Str × Addr)->List (Str × Addr)
 | [],acc=>acc
 | (n,k) :: r,acc=>A3r env r (if (k == .free)=true then (n,(env.cells.lookup n).getD 0) :: acc else acc)
theorem A1r {env:Env}:∀ (l:List (Str × NameKind)) (acc:List (Str × Addr)),(∀ p ∈ l,p.2=.free->(env.cells.lookup p.1).isSome=true) ->
  (forIn l acc (fun x s=>match x with
   | (name,kind)=>if (kind == NameKind.free)=true then do
     let a <- cellOf env name
     pure (ForInStep.yield ((name,a) :: s))
    else pure (ForInStep.yield s)):Sem (List (Str × Addr)))=pure (A3r env l acc)
 | [],acc,_=>rfl
 | (n,k) :: r,acc,h=>by
  rw [List.forIn_cons];have hr:=fun p hp=>h p (Zr _ hp);by_cases hk:(k == NameKind.free)=true
  ·have h1:=h (n,k) Zy (by simpa using hk);obtain ⟨c,hc⟩:=Option.isSome_iff_exists.mp h1;have hc:env.cells.lookup n=some c:=hc;have e1:cellOf env n=pure c:=by unfold cellOf; rw [hc]
   simp only [hk,if_true,e1,pure_bind];rw [A1r r _ hr];show _=pure (A3r env r (if (k == .free)=true then (n,(env.cells.lookup n).getD 0) :: acc else acc));rw [if_pos hk,hc];rfl
  ·simp only [hk,Bool.false_eq_true,if_false,pure_bind];rw [A1r r _ hr];show _=pure (A3r env r (if (k == .free)=true then (n,(env.cells.lookup n).getD 0) :: acc else acc));rw [if_neg hk]
theorem A3q {env:Env}:∀ (l:List (Str × NameKind)) (acc:List (Str × Addr)) (p:Str × Addr),p ∈ A3r env l acc->p ∈ acc\/((p.1,NameKind.free) ∈ l/\p.2=(env.cells.lookup p.1).getD 0)
 | [],acc,p,h=>.inl h
 | (n,k) :: r,acc,p,h=>by
  rcases A3q r _ p h with z | ⟨z,e⟩
  ·by_cases hk:(k == NameKind.free)=true
   ·rw [if_pos hk] at z;rcases List.mem_cons.mp z with rfl | z
    ·right;have:k=.free:=by simpa using hk
     subst this;exact ⟨Zy,rfl⟩
    ·exact .inl z
   ·rw [if_neg hk] at z;exact .inl z
  ·exact .inr ⟨Zr _ z,e⟩
theorem X9 {env:Env}:∀ (l:List (Str × NameKind)) (acc:List (Str × Addr)) (x:Str),((∃ c,(x,c) ∈ acc)\/(x,NameKind.free) ∈ l)->∃ c,(x,c) ∈ A3r env l acc
 | [],acc,x,h=>by
  rcases h with h | h
  ·exact h
  ·exact absurd h (by simp)
 | (n,k) :: r,acc,x,h=>by
  refine X9 r _ x ?_;rcases h with ⟨c,h⟩ | h
  ·left;by_cases hk:(k == NameKind.free)=true
   ·rw [if_pos hk]; exact ⟨c,Zr _ h⟩
   ·rw [if_neg hk]; exact ⟨c,h⟩
  ·rcases List.mem_cons.mp h with e | h
   ·left;cases e;rw [if_pos (by rfl)];exact ⟨_,Zy⟩
   ·exact .inr h
theorem M6 {β:Type} {x:Str}:∀ {l:List (Str × β)} {c:β},(x,c) ∈ l->∃ c',l.lookup x=some c'
 | (n,d) :: r,c,h=>by
  by_cases e:x=n
  ·subst e; exact ⟨d,by simp [List.lookup_cons]⟩
  ·rcases List.mem_cons.mp h with z | z
   ·cases z; exact absurd rfl e
   ·obtain ⟨c',q⟩:=M6 z;refine ⟨c',?_⟩;rw [List.lookup_cons];have:(x == n)=false:=by simpa using e
    rw [this]; exact q
theorem P7 {scope:Scope} {env:Env} {x:Str} {k:NameKind} (hcell:∀ y ∈ scope.names,y.2≠.cell) (h:(relabel scope env).names.lookup x=some k) (hk:k=.cell\/k=.free):(x,NameKind.free) ∈ scope.names:=by
 have h1:=PySem.mem_of_lookup h;obtain ⟨⟨n,k'⟩,hm,e⟩:=List.mem_map.mp (show (x,k) ∈ scope.names.map _ from h1);dsimp only at e;split at e
 ·rename_i q;cases e;simp only [Bool.and_eq_true] at q;have:k'=.free:=by simpa using q.1.1
  subst this;exact hm
 ·cases e;rcases hk with rfl | rfl
  ·exact absurd rfl (hcell _ hm)
  ·exact hm
theorem N6 {env:Env} {x:Str}:∀ {l:List (Str × NameKind)},l.lookup x=some .free ->
  (l.map fun (n,k)=>if (k == NameKind.free && env.scope.kind == .function && env.kindOf n == some .cell) then (n,NameKind.cell) else (n,k)).lookup x=some .cell \/
  (l.map fun (n,k)=>if (k == NameKind.free && env.scope.kind == .function && env.kindOf n == some .cell) then (n,NameKind.cell) else (n,k)).lookup x=some .free
 | [],h=>by simp at h
 | (n,k) :: r,h=>by
  rw [List.lookup_cons] at h;rw [List.map_cons];dsimp only;by_cases e:(x == n)=true
  ·rw [e] at h;have hk:k=.free:=by simpa using h
   subst hk;by_cases q:(NameKind.free == NameKind.free && env.scope.kind == .function && env.kindOf n == some .cell)=true
   ·left; rw [if_pos q,List.lookup_cons,e]
   ·right; rw [if_neg q,List.lookup_cons,e]
  ·have e':(x == n)=false:=by simpa using e
   rw [e'] at h;have:=N6 (env:=env) h;by_cases q:(k == NameKind.free && env.scope.kind == .function && env.kindOf n == some .cell)=true
   ·rw [if_pos q,List.lookup_cons,e']; exact this
   ·rw [if_neg q,List.lookup_cons,e']; exact this
theorem A18 {scope:Scope} {env:Env} {x:Str} (h:scope.names.lookup x=some .free):(relabel scope env).names.lookup x=some .cell\/(relabel scope env).names.lookup x=some .free:=N6 h
theorem J5 {X:Cx} {scope:Scope} (N':List Str) (cap:List (Option Nat))
  (h1:scope.names.all (fun p=>!(p.2 == .free) || ((X.env.cells.lookup p.1).isSome && !(X.env.kindOf p.1 == some .local)))=true:=by exact rfl)
  (hk:scope.kind=.function:=by exact rfl) (h2:scope.names.all (fun p=>!(p.2 == .cell))=true:=by exact rfl) (h3:scope.names.all (fun p=>!(p.2 == .local) || scope.names.lookup p.1 == some .local)=true:=by exact rfl)
  (nd:N'.Nodup:=by decide +kernel) (len:cap.length=N'.length:=by exact rfl)
  (h4:(N'.zip cap).all (fun q=>match q.2 with | none=>true | some j=>(X.N[j]? == some q.1) && (scope.names.lookup q.1 == some .free) && (X.env.scope.names.lookup q.1 == some .cell || X.env.scope.names.lookup q.1 == some .free))=true:=by exact rfl) :
  CompSc X scope (A3r X.env scope.names []) N' cap:=by
 have hfree:∀ p ∈ scope.names,p.2=.free->(X.env.cells.lookup p.1).isSome=true/\X.env.kindOf p.1≠some .local:=fun p hp e=>by
  have:=List.all_eq_true.mp h1 p hp;rw [e] at this;have this:((X.env.cells.lookup p.1).isSome && !(X.env.kindOf p.1 == some .local))=true:=this;rw [Bool.and_eq_true] at this;refine ⟨this.1,fun z=>?_⟩;rw [z] at this;exact absurd this.2 (by decide)
 have hcell:∀ y ∈ scope.names,y.2≠.cell:=fun y hy e=>by
  have:=List.all_eq_true.mp h2 y hy;rw [e] at this;exact absurd this (by decide)
 have memsub:∀ x c,(A3r X.env scope.names []).lookup x=some c->(x,NameKind.free) ∈ scope.names/\X.env.cells.lookup x=some c:=fun x c h=>by
  rcases A3q _ _ _ (PySem.mem_of_lookup h) with z | ⟨z,e⟩
  ·exact absurd z (by simp)
  ·refine ⟨z,?_⟩;obtain ⟨c',hc'⟩:=Option.isSome_iff_exists.mp (hfree _ z rfl).1;have hc':X.env.cells.lookup x=some c':=hc';have e:c=(X.env.cells.lookup x).getD 0:=e;rw [hc'] at e ⊢;exact congrArg some e.symm
 refine ⟨?_,fun x c h=>(memsub x c h).2,fun x h=>?_,hk,hcell,fun y hy e=>?_,nd,len,fun x c h=>(hfree _ (memsub x c h).1 rfl).2,fun i x j hi hc=>?_⟩
 ·unfold closureFor;show (forIn scope.names [] _ >>= fun r=>pure r)=_;rw [A1r scope.names [] fun p hp e=>(hfree p hp e).1];rfl
 ·have hm:(x,NameKind.free) ∈ scope.names:=by
   rcases h with h | h
   ·exact P7 hcell h (.inl rfl)
   ·exact P7 hcell h (.inr rfl)
  obtain ⟨c,hc⟩:=X9 (env:=X.env) scope.names [] x (.inr hm);exact M6 hc
 ·have:=List.all_eq_true.mp h3 y hy;rw [e] at this;simpa using this
 ·have hz:(x,some j) ∈ N'.zip cap:=by
   refine List.mem_iff_getElem?.mpr ⟨i,?_⟩;rw [List.getElem?_zip_eq_some];exact ⟨hi,hc⟩
  have:=List.all_eq_true.mp h4 _ hz;simp only [Bool.and_eq_true,Bool.or_eq_true,beq_iff_eq] at this;obtain ⟨⟨q1,q2⟩,q3⟩:=this;refine ⟨q1,A18 q2,?_,?_⟩
  ·rcases q3 with q | q
   ·exact .inr (.inl q)
   ·exact .inr (.inr q)
  ·obtain ⟨c,hc⟩:=X9 (env:=X.env) scope.names [] x (.inr (PySem.mem_of_lookup q2));exact M6 hc
def R8 (wi:TI) (g:TG) (tt:TT) (te:TE) (cap:List (Option Nat)) (i:Nat):TS:=fun D σ H=>wi σ H fun J H1=>∀ l,H1 l=none->A3p J g tt te l (fun H'=>D.nx (σ.set i (some (.ref l))) H') (capσ cap σ) H1
section
variable {X:Cx} {scope:Scope} {cl:List (Str × Addr)} {N':List Str} {cap:List (Option Nat)} {elt tg iter:Expr} {ifs:List Expr} {wi:TI} {g:TG} {tt:TT} {te:TE} {pos spos py:Pos} {y:Str} {i:Nat}
theorem A78 (hc:X.calm=true) (hN:X.N.Nodup) (hi:X.N[i]?=some y) (hy:X.env.scope.names.lookup y=some .local) (C:CompSc X scope cl N' cap) (hit:PI X tg iter wi) (hg:∀ s3 H3 fp,PG (X.block scope cl N' s3 H3 fp) tg g)
  (ht:∀ s3 H3 fp,PTs (X.block scope cl N' s3 H3 fp) ifs tt) (he:∀ s3 H3 fp,PE (X.block scope cl N' s3 H3 fp) elt te)
  (hsw:swapsWith (.ListComp elt [⟨tg,iter,ifs,0⟩] scope pos) (some (.Name y py)) spos.line X.env=pure true) (hs:∀ x,foldedSetIterable iter X.env x=pure x:=by intro _; rfl) :
  PS X (.Assign [.Name y py] (.ListComp elt [⟨tg,iter,ifs,0⟩] scope pos) spos) (R8 wi g tt te cap i):=by
 intro pins s σ H D I h;rw [exec_Assign_Name_used _ _ _ _ hsw];refine wpAny_bind (wpAny_standAt (wpAny_bind ?_));show wpAny _ X.A (do let _ <- comprehension (.ListComp elt [⟨tg,iter,ifs,0⟩] scope pos) scope X.env _ (newList []) false (eval iter X.env) (some (assign (.Name y py) X.env))) _ _ s;refine wpAny_bind (wpAny_mono (wpAny_comprehension_free (use:=some (assign (.Name y py) X.env)) (Q:=fun _ s'=>SP X pins D .next s') rfl hs C.clos C.kind C.names
  (thn (hit pins s σ H _ I h) fun v s1 h1=>thn h1 fun itv s2 h2=>?_)) (fun _ s' hq=>wpAny_pure (wpAny_pure hq)) fun _ _ e=>e)
 obtain ⟨it,fp,tn,J,H2,e,I2,T,st2,f2,go⟩:=h2;subst e;refine A31 (RR:=fun acc C=>compPost (model X.prog X.w) X.A X.xe (some (assign (.Name y py) X.env)) (fun _ s'=>SP X pins D .next s') acc C) (Fin:=fun l H'=>D.nx (σ.set i (some (.ref l))) H') hc C I2 T st2 f2 hg ht he go ?_;intro l C' s' m H' hn n1 n2 n3 n4 n5 fin inv;show wpAny _ X.A (assign (.Name y py) X.env (.ref l)) _ _ _;refine wpAny_assign_Name (A13 (v:=.ref l) inv hN hi (.inl hy) rfl (fun s'' I'' ⟨a,sb,ha⟩=>?_) (.inr hy));have na:C'≠a:=by
  rcases ha with e | e
  ·rw [e]; exact n1
  ·exact (n4 _ _ e).symm
 exact ⟨m,hn.sameBut sb na,fun h' hs'=>⟨_,H',I''.turned (t':=s''.toks) (fun b o hb e=>(hs'.2 b hb).trans e) n2 n1 (.inr n3) n4 n5,fin⟩⟩
end
section
variable {X:Cx} {K:PySem.W.Frag}
theorem C1r {pos:Pos} {es:List Expr} {k:Nat} {t:TGs} {n:Nat} (h:X.K=K) (hc:X.calm=true) (hg:PGs X es t)
  (hn:(assignEach es X.env).length=n:=by rfl) (hst:(assignEach es X.env).findIdx? (·.1)=none:=by rfl):PG X (.Tuple es k pos) (gTup K n t):=by subst h; exact C4k hc hg hn hst
end
end L2
namespace Prf
open PySem L2 My
abbrev Hpp:=L2.Hp
theorem ifD {p:Prop} [Decidable p] {A B:Prop} (h1:p->A) (h2:¬ p->B):if decide p=true then A else B:=by
 by_cases h:p
 ·rw [Zk h]; exact h1 h
 ·rw [Zd h]; exact h2 h
structure StAt (H:Hpp) (p:Addr):Prop where
 ex:∃ (c m:Int) (f:Bool),H p=some (.lst [.int c,.int m,.bl f])/\0<=m/\m < 2147483648
theorem StAt.same {H H':Hpp} {p:Addr} (h:StAt H p) (e:Same H H'):StAt H' p:=by
 obtain ⟨c,m,f,h,r⟩:=h.ex; exact ⟨c,m,f,e _ _ h,r⟩
theorem StAt.kp {H H':Hpp} {p l:Addr} (h:StAt H p) (n:p≠l) (e:Kp l H H'):StAt H' p:=by
 obtain ⟨c,m,f,h,r⟩:=h.ex; exact ⟨c,m,f,e _ _ n h,r⟩
def A5y (K:PySem.W.Frag):Sp:=fun vs H Q _=>∃ (a:Addr) (ns:List Int) (k:Int),vs=[.ref a,.int k]/\SqL K H a (ns.map V.int)/\0<=k/\k<=63/\∀ p H',H p=none->StAt H' p->Kp p H H'->Q (.ref p) H'
def A9m:Sp:=fun vs H Q _=>∃ (p:Addr) (n:Int),vs=[.ref p,.int n]/\StAt H p/\0 < n/\Sm 4000 n/\∀ d H',0<=d->d < n->StAt H' p->Kp p H H'->Q (.int d) H'
def C02 (K:PySem.W.Frag):Sp:=fun vs H Q _=>∃ (a:Addr) (ns:List Int),vs=[.ref a]/\SqL K H a (ns.map V.int)/\ns.length<=63/\∀ H',Q (.bl true) H'
theorem sm32 {m:Int} (h0:0<=m) (h1:m < 2147483648):Sm 8000 m:=Sm.mono (k:=32) (by unfold Sm; omega) (by decide)
theorem Z5 {m:Int} (n:Nat) (h:m.natAbs < 2 ^ 64:=by decide):Sm 8000 m:=Sm.mono (k:=64) h (by decide)
theorem C8r {k:Nat} {t b:Int} (h:Sm k b) (hb:b≠0):Sm k ((Int.gcd t b:Nat):Int):=by
 have h1:Int.gcd t b ∣ b.natAbs:=Nat.gcd_dvd_right _ _;have h2:=Nat.le_of_dvd (by omega) h1;exact h.le (by simpa using h2)
theorem C3t {k:Nat} {t b:Int} (h:Sm k b) (hb:b≠0):Sm k (sh t b):=by
 have h1:Int.gcd t b ∣ b.natAbs:=Nat.gcd_dvd_right _ _;have h2:=Nat.le_of_dvd (by omega) h1;exact h.le (by rw [C3y]; exact h2)
end Prf
namespace Prf
open PySem L2 My
theorem X8 (n:Nat) (h:(n:Int)<=1000000:=by decide):CPow 10 (n:Int):=⟨by omega,h,by decide⟩
theorem sm4 (n:Int) (h:n.natAbs < 2 ^ 64:=by decide):Sm 4000 n:=Sm.mono (k:=64) h (by decide)
theorem A5z {k:Int} (h0:0<=k) (h1:k<=63):Sm 8000 k:=sm32 h0 (by omega)
theorem C3u {k:Int} (h0:0<=k) (h1:k<=63):Sm 20 k:=by unfold Sm; omega
theorem C3v (b:Bool):Sm 8000 (if b=true then (1:Int) else 0):=by cases b <;> exact Z5 0
theorem B90:kitB "tuple" "tuple"=some true:=by decide +kernel
theorem C0a:kitB "int" "bool"=some false:=by decide +kernel
end Prf
namespace Prf
open PySem L2 My
inductive R2L {α:Type} (P:Addr->α->Prop):List V->List α->Prop
 | nil:R2L P [] []
 | cons {a:Addr} {q:α} {rs:List V} {qs:List α}:P a q->R2L P rs qs->R2L P (.ref a :: rs) (q :: qs)
section
variable {α:Type} {P P':Addr->α->Prop}
theorem R2L.get:∀ {rs qs} {i:Nat} {x:V},R2L P rs qs->rs[i]?=some x->∃ a q,x=.ref a/\qs[i]?=some q/\P a q
 | _,_,_,_,.nil,e=>by simp at e
 | _,_,0,_,.cons h _,e=>by simp at e; subst e; exact ⟨_,_,rfl,rfl,h⟩
 | _,_,i + 1,x,.cons _ t,e=>by
  obtain ⟨a,q,h1,h2,h3⟩:=R2L.get (i:=i) (x:=x) t (by simpa using e);exact ⟨a,q,h1,by simpa using h2,h3⟩
end
def dq (q:Rat):PyData:=.tuple [.int q.num,.int q.den]
def dcn (c:Rat × Rat):PyData:=.tuple [dq c.1,dq c.2]
end Prf
set_option maxHeartbeats 4000000
namespace L2
open PySem
theorem SqD.same {K:PySem.W.Frag} {F F':Hp} {a:Addr} {xs:List V} (e:Same F F') (h:SqD K F a xs):SqD K F' a xs:=⟨SqT.same e h.1,h.2.imp (e _ _) id⟩
mutual
theorem Den.same {K:PySem.W.Frag} {F F':Hp} (e:Same F F'):∀ {v:V} {x:PyData},Den K F v x->Den K F' v x
 | _,_,.non=>.non
 | _,_,.bl b=>.bl b
 | _,_,.int i=>.int i
 | _,_,.str x=>.str x
 | _,_,.lst h t=>.lst (e.seq h) (DenAll.same e t)
 | _,_,.tup h t=>.tup (SqD.same e h) (DenAll.same e t)
 | _,_,.dct h=>.dct (e _ _ h)
theorem DenAll.same {K:PySem.W.Frag} {F F':Hp} (e:Same F F'):∀ {vs:List V} {xs:LP},DenAll K F vs xs->DenAll K F' vs xs
 | _,_,.nil=>.nil
 | _,_,.cons h t=>.cons (Den.same e h) (DenAll.same e t)
end
section
variable {K:PySem.W.Frag} {F:Hp}
theorem Den.intE {v:V} {i:Int} (h:Den K F v (.int i)):v=.int i:=by cases h; rfl
theorem Den.blE {v:V} {b:Bool} (h:Den K F v (.bool b)):v=.bl b:=by cases h; rfl
theorem Den.nonE {v:V} (h:Den K F v .none):v=.non:=by cases h; rfl
theorem Den.tupE {v:V} {xs:LP} (h:Den K F v (.tuple xs)):∃ a vs,v=.ref a/\SqT K F a vs/\DenAll K F vs xs:=by cases h with | tup h t=>exact ⟨_,_,rfl,h.1,t⟩
theorem Den.lstE {v:V} {xs:LP} (h:Den K F v (.list xs)):∃ a vs,v=.ref a/\SqL K F a vs/\DenAll K F vs xs:=by cases h; exact ⟨_,_,rfl,‹_›,‹_›⟩
theorem DenAll.len:∀ {vs:List V} {xs:LP},DenAll K F vs xs->vs.length=xs.length
 | _,_,.nil=>rfl
 | _,_,.cons _ t=>congrArg (· + 1) (DenAll.len t)
theorem DenAll.get:∀ {vs:List V} {xs:LP} {i:Nat} {v:V},DenAll K F vs xs->vs[i]?=some v->∃ x,xs[i]?=some x/\Den K F v x
 | _,_,_,_,.nil,e=>by simp at e
 | _,_,0,_,.cons h _,e=>by simp at e; subst e; exact ⟨_,rfl,h⟩
 | _,_,i + 1,v,.cons _ t,e=>by
  obtain ⟨x,h1,h2⟩:=DenAll.get (i:=i) (v:=v) t (by simpa using e);exact ⟨x,by simpa using h1,h2⟩
theorem DenAll.at:∀ {vs:List V} {xs:LP} {i:Nat} {x:PyData},DenAll K F vs xs->xs[i]?=some x->∃ v,vs[i]?=some v/\Den K F v x
 | _,_,_,_,.nil,e=>by simp at e
 | _,_,0,_,.cons h _,e=>by simp at e; subst e; exact ⟨_,rfl,h⟩
 | _,_,i + 1,x,.cons _ t,e=>by
  obtain ⟨v,h1,h2⟩:=DenAll.at (i:=i) (x:=x) t (by simpa using e);exact ⟨v,by simpa using h1,h2⟩
theorem DenAll.app:∀ {vs us:List V} {xs ys:LP},DenAll K F vs xs->DenAll K F us ys->DenAll K F (vs++us) (xs++ys)
 | _,_,_,_,.nil,h=>h
 | _,_,_,_,.cons h t,h'=>.cons h (DenAll.app t h')
theorem DenAll.drop:∀ {vs:List V} {xs:LP} (n:Nat),DenAll K F vs xs->DenAll K F (vs.drop n) (xs.drop n)
 | _,_,0,h=>by simpa using h
 | _,_,_ + 1,.nil=>by simpa using DenAll.nil
 | _,_,n + 1,.cons _ t=>by simpa using DenAll.drop n t
theorem DenAll.take:∀ {vs:List V} {xs:LP} (n:Nat),DenAll K F vs xs->DenAll K F (vs.take n) (xs.take n)
 | _,_,0,_=>by simpa using DenAll.nil
 | _,_,_ + 1,.nil=>by simpa using DenAll.nil
 | _,_,n + 1,.cons h t=>by simpa using DenAll.cons h (DenAll.take n t)
theorem DenAll.rev:∀ {vs:List V} {xs:LP},DenAll K F vs xs->DenAll K F vs.reverse xs.reverse
 | _,_,.nil=>.nil
 | _,_,.cons h t=>by rw [List.reverse_cons,List.reverse_cons]; exact (DenAll.rev t).app (.cons h .nil)
theorem DenAll.dropLast {vs:List V} {xs:LP} (h:DenAll K F vs xs):DenAll K F vs.dropLast xs.dropLast:=by
 rw [List.dropLast_eq_take,List.dropLast_eq_take,h.len]; exact h.take _
theorem DenAll.atIE {vs:List V} {xs:LP} {i:Int} {x:PyData} (h:DenAll K F vs xs) (e:L2.atI xs i=some x):∃ v,L2.atI vs i=some v/\Den K F v x:=by
 unfold L2.atI at *;rw [h.len];cases q:ixN xs.length i with
 | none=>rw [q] at e; cases e
 | some j=>rw [q] at e; exact DenAll.at h e
end
end L2
namespace Pu
open PySem L2 My Prf
abbrev Frag:=PySem.W.Frag
inductive OT where
 | leaf (x:PyData) | nd (b:Bool) (a:Addr) (k:OT) | nil | cons (h t:OT)
def OT.fp:OT->List Addr
 | .leaf _=>[]
 | .nd _ a k=>a :: k.fp
 | .nil=>[]
 | .cons h t=>h.fp++t.fp
def OT.dat:OT->LP
 | .leaf x=>[x]
 | .nd true _ k=>[.list k.dat]
 | .nd false _ k=>[.tuple k.dat]
 | .nil=>[]
 | .cons h t=>h.dat++t.dat
def OT.put (a:Addr) (n:OT):OT->OT
 | .leaf x=>.leaf x
 | .nd b a' k=>.nd b a' (if a'=a then n else OT.put a n k)
 | .nil=>.nil
 | .cons h t=>.cons (OT.put a n h) (OT.put a n t)
inductive SV where
 | d (x:PyData) | own (xs:LP) | bor (xs:LP) | st | tr (t:OT) | bt (t:OT) | al (a:Addr) | dk (ks:List (Str × Int))
def SV.foot (v:V):SV->Addr->Prop
 | .own _,a=>v=.ref a
 | .dk _,a=>v=.ref a
 | .tr t,a=>a ∈ t.fp
 | _,_=>False
def SV.isRes:SV->Bool
 | .bor _=>false
 | .bt _=>false
 | .al _=>false
 | _=>true
abbrev PEnv:=List (Option SV)
structure Wd where
 M:Addr->Prop
 H:Hpp
 F:Hpp
structure Wd.Ok (w:Wd):Prop where
 sub:Same w.F w.H
 st:∀ p,w.M p->StAt w.H p
 nf:∀ p,w.M p->w.F p=none
structure Lw (w w':Wd):Prop where
 f:Same w.F w'.F
 h:∀ b o,w.H b=some o->¬ w.M b->w'.H b=some o
 m:∀ b,w.M b->w'.M b
 mn:∀ b,w'.M b->w.M b\/w.H b=none
 dom:∀ b,w'.H b=none->w.H b=none
structure Le (w w':Wd):Prop extends Lw w w' where
 n:∀ a o,w'.F a=some o->w.F a=some o\/w.H a=none
theorem Lw.refl (w:Wd):Lw w w:=⟨Same.refl _,fun _ _ h _=>h,fun _ h=>h,fun _ h=>.inl h,fun _ h=>h⟩
theorem Le.refl (w:Wd):Le w w:=⟨Lw.refl w,fun _ _ h=>.inl h⟩
theorem Lw.nm {w w':Wd} (a:Lw w w') {b:Addr} (h:w.H b≠none) (n:¬ w.M b):¬ w'.M b:=fun z=>(a.mn b z).elim n h
theorem Lw.trans {w w1 w2:Wd} (a:Lw w w1) (b:Lw w1 w2):Lw w w2 :=
 ⟨a.f.trans b.f,fun c o h n=>b.h c o (a.h c o h n) (a.nm (by rw [h]; simp) n),fun c h=>b.m c (a.m c h),
  fun c h=>(b.mn c h).elim (a.mn c) fun z=>.inr (a.dom c z),fun c h=>a.dom c (b.dom c h)⟩
theorem Le.trans {w w1 w2:Wd} (a:Le w w1) (b:Le w1 w2):Le w w2 :=
 ⟨a.toLw.trans b.toLw,fun c o h=>(b.n c o h).elim (a.n c o) fun z=>.inr (a.dom c z)⟩
theorem Le.fnone {w w':Wd} (a:Le w w') {l:Addr} (h:w.F l=none) (h':w.H l≠none):w'.F l=none:=by
 cases q:w'.F l with
 | none=>rfl
 | some o =>
  rcases a.n l o q with z | z
  ·rw [h] at z; cases z
  ·exact absurd z h'
structure Ct where
 K:Frag
 w0:Wd
 Z:Addr->Prop
def VV (K:Frag) (w:Wd) (v:V) (x:PyData):Prop:=Den K w.F v x\/∃ l vs xs,v=.ref l/\x=.list xs/\w.H l=some (.lst vs)/\¬ w.M l/\DenAll K w.F vs xs
def ho:Bool->List V->HO
 | true,vs=>.lst vs
 | false,vs=>.tup vs
def Tre (K:Frag) (w:Wd):OT->List V->Prop
 | .leaf x,vs=>∃ v,vs=[v]/\Den K w.F v x
 | .nd b a k,vs=>vs=[.ref a]/\∃ us,w.H a=some (ho b us)/\Tre K w k us
 | .nil,vs=>vs=[]
 | .cons h t,vs=>∃ v r,vs=v :: r/\Tre K w h [v]/\Tre K w t r
theorem Tre.mono {K:Frag} {w w':Wd} (a:Lw w w'):∀ {t:OT} {vs:List V},Tre K w t vs->(∀ a ∈ t.fp,¬ w.M a)->Tre K w' t vs
 | .leaf _,_,⟨v,e,h⟩,_=>⟨v,e,Den.same a.f h⟩
 | .nd _ p _,_,⟨e,us,h,k⟩,n=>⟨e,us,a.h _ _ h (n p (by simp [OT.fp])),Tre.mono a k fun q hq=>n q (by simp [OT.fp,hq])⟩
 | .nil,_,e,_=>e
 | .cons _ _,_,⟨v,r,e,h,t⟩,n=>⟨v,r,e,Tre.mono a h fun q hq=>n q (by simp [OT.fp,hq]),Tre.mono a t fun q hq=>n q (by simp [OT.fp,hq])⟩
theorem Tre.sameF {K:Frag} {M:Addr->Prop} {H F F':Hpp} (e:Same F F'):∀ {t:OT} {vs:List V},Tre K ⟨M,H,F⟩ t vs->Tre K ⟨M,H,F'⟩ t vs
 | .leaf _,_,⟨v,q,h⟩=>⟨v,q,Den.same e h⟩
 | .nd _ _ _,_,⟨q,us,h,k⟩=>⟨q,us,h,Tre.sameF e k⟩
 | .nil,_,q=>q
 | .cons _ _,_,⟨v,r,q,h,t⟩=>⟨v,r,q,Tre.sameF e h,Tre.sameF e t⟩
def VR (c:Ct) (w:Wd) (v:V):SV->Prop
 | .d x=>Den c.K w.F v x
 | .own xs=>∃ l vs,v=.ref l/\w.H l=some (.lst vs)/\w.F l=none/\¬ w.M l/\c.w0.H l=none/\DenAll c.K w.F vs xs
 | .bor xs=>Den c.K w.F v (.list xs)\/∃ l vs,v=.ref l/\c.w0.H l=some (.lst vs)/\¬ c.w0.M l/\DenAll c.K w.F vs xs
 | .st=>∃ p,v=.ref p/\w.M p
 | .tr t=>Tre c.K w t [v]/\(∀ a ∈ t.fp,w.H a≠none/\w.F a=none/\¬ w.M a/\c.w0.H a=none)/\t.fp.Nodup
 | .bt t=>Tre c.K ⟨c.w0.M,c.w0.H,w.F⟩ t [v]/\∀ a ∈ t.fp,¬ c.w0.M a
 | .al a=>v=.ref a
 | .dk ks=>∃ l,v=.ref l/\w.H l=some (.dT (ks.map fun k=>([Sum.inr k.1,Sum.inl k.2],V.bl true)))/\w.F l=none/\¬ w.M l/\c.w0.H l=none
theorem B5d {H:Hpp} {p b:Addr} {o:HO} (h:upd H p o b=none):H b=none:=by
 unfold upd at h; split at h
 ·cases h
 ·exact h
theorem VR.foot {c:Ct} {w:Wd} {v:V} {a:Addr}:∀ {s:SV},VR c w v s->s.foot v a->w.H a≠none/\w.F a=none/\¬ w.M a/\c.w0.H a=none
 | .own _,⟨l,vs,e,h1,h2,h3,h4,_⟩,f=>by
  have:V.ref l=.ref a:=e.symm.trans f;cases this;exact ⟨by rw [h1]; simp,h2,h3,h4⟩
 | .dk _,⟨l,e,h1,h2,h3,h4⟩,f=>by
  have:V.ref l=.ref a:=e.symm.trans f;cases this;exact ⟨by rw [h1]; simp,h2,h3,h4⟩
 | .tr _,h,f=>h.2.1 a f
theorem VV.mono {K:Frag} {w w':Wd} {v:V} {x:PyData} (a:Lw w w') (h:VV K w v x):VV K w' v x:=by
 rcases h with h | ⟨l,vs,xs,e,e',h1,h2,h3⟩
 ·exact .inl (Den.same a.f h)
 ·exact .inr ⟨l,vs,xs,e,e',a.h _ _ h1 h2,a.nm (by rw [h1]; simp) h2,DenAll.same a.f h3⟩
theorem VV.den {K:Frag} {w:Wd} {v:V} {x:PyData} (o:w.Ok) (h:VV K w v x):Den K w.H v x:=by
 rcases h with h | ⟨l,vs,xs,e,e',h1,h2,h3⟩
 ·exact Den.same o.sub h
 ·rw [e,e']; exact .lst (SqL.of h1) (DenAll.same o.sub h3)
theorem VR.mono {c:Ct} {w w':Wd} {v:V} (a:Le w w'):∀ {s:SV},VR c w v s->VR c w' v s
 | .d _,h=>Den.same a.f h
 | .own xs,⟨l,vs,e,h1,h2,h3,h4,h5⟩=>⟨l,vs,e,a.h _ _ h1 h3,a.fnone h2 (by rw [h1]; simp),a.nm (by rw [h1]; simp) h3,h4,DenAll.same a.f h5⟩
 | .bor xs,.inl h=>.inl (Den.same a.f h)
 | .bor xs,.inr ⟨l,vs,e,h1,h2,h3⟩=>.inr ⟨l,vs,e,h1,h2,DenAll.same a.f h3⟩
 | .st,⟨p,e,h⟩=>⟨p,e,a.m p h⟩
 | .bt t,⟨h,o⟩=>⟨h.sameF a.f,o⟩
 | .al _,h=>h
 | .dk _,⟨l,e,h1,h2,h3,h4⟩=>⟨l,e,a.h _ _ h1 h3,a.fnone h2 (by rw [h1]; simp),a.nm (by rw [h1]; simp) h3,h4⟩
 | .tr t,⟨h,o,d⟩=>⟨h.mono a.toLw fun q hq=>(o q hq).2.2.1,fun q hq=>let ⟨h1,h2,h3,h4⟩:=o q hq; ⟨fun z=>h1 (a.dom q z),a.fnone h2 h1,a.nm h1 h3,h4⟩,d⟩
theorem Tre.writ {K:Frag} {w:Wd} {l:Addr} {wo:HO}:∀ {t:OT} {vs:List V},Tre K w t vs->l ∉ t.fp->Tre K ⟨w.M,upd w.H l wo,w.F⟩ t vs
 | .leaf _,_,h,_=>h
 | .nd _ p _,_,⟨e,ys,h,k⟩,n=>⟨e,ys,by show upd w.H l _ p=_; rw [B7 (fun z=>n (by simp [OT.fp,z]))]; exact h,Tre.writ k fun q=>n (by simp [OT.fp,q])⟩
 | .nil,_,e,_=>e
 | .cons _ _,_,⟨v,r,e,h,t⟩,n=>⟨v,r,e,Tre.writ h fun q=>n (by simp [OT.fp,q]),Tre.writ t fun q=>n (by simp [OT.fp,q])⟩
theorem VR.writ {c:Ct} {w:Wd} {v:V} {l:Addr} {wo:HO} (hl:w.H l≠none):∀ {s:SV},VR c w v s->¬ s.foot v l->VR c ⟨w.M,upd w.H l wo,w.F⟩ v s
 | .d _,h,_=>h
 | .own _,⟨l',vs,e,k1,k2,k3,k4,k5⟩,n=>⟨l',vs,e,by show upd w.H l _ l'=_; rw [B7 (fun z=>n (by rw [<- z]; exact e))]; exact k1,k2,k3,k4,k5⟩
 | .bor _,h,_=>h
 | .st,h,_=>h
 | .bt _,h,_=>h
 | .al _,h,_=>h
 | .dk _,⟨l',e,k1,k2,k3,k4⟩,n=>⟨l',e,by show upd w.H l _ l'=_; rw [B7 (fun z=>n (by rw [<- z]; exact e))]; exact k1,k2,k3,k4⟩
 | .tr _,⟨h,o,d⟩,n=>⟨h.writ n,fun a ha=>⟨fun z=>(o a ha).1 (B5d z),(o a ha).2⟩,d⟩
structure EnvOk (c:Ct) (w:Wd) (env:PEnv) (σ:St):Prop where
 wok:w.Ok
 le0:Le c.w0 w
 len:env.length=σ.length
 at':∀ (i:Nat) s,env[i]?=some (some s)->∃ v,σ[i]?=some (some v)/\VR c w v s
 own:∀ (i j:Nat) s t v u a,env[i]?=some (some s)->env[j]?=some (some t)->σ[i]?=some (some v)->σ[j]?=some (some u)->s.foot v a->t.foot u a->i=j
 zf:∀ a,c.Z a->w.F a=none/\w.H a≠none/\¬ w.M a
 zo:∀ a (j:Nat) t u,c.Z a->env[j]?=some (some t)->σ[j]?=some (some u)->¬ t.foot u a
def New (c:Ct) (env:PEnv) (σ:St) (v:V) (s:SV):Prop:=∀ a,s.foot v a->(∀ (j:Nat) t u,env[j]?=some (some t)->σ[j]?=some (some u)->¬ t.foot u a)/\¬ c.Z a
theorem EnvOk.look {c:Ct} {w:Wd} {env:PEnv} {σ:St} (E:EnvOk c w env σ) {j:Nat} {t:SV} {u:V} (h:env[j]?=some (some t)) (hu:σ[j]?=some (some u)):VR c w u t:=by
 obtain ⟨v,h1,h2⟩:=E.at' j t h;rw [hu] at h1; cases h1; exact h2
theorem EnvOk.fresh {c:Ct} {w:Wd} {env:PEnv} {σ:St} (E:EnvOk c w env σ) {p:Addr} (hp:w.H p=none):(∀ (j:Nat) t u,env[j]?=some (some t)->σ[j]?=some (some u)->¬ t.foot u p)/\¬ c.Z p :=
 ⟨fun _ _ _ h hu f=>((E.look h hu).foot f).1 hp,fun z=>(E.zf p z).2.1 hp⟩
theorem Lw.hsome {w w':Wd} (a:Lw w w') {l:Addr} (h:w.H l≠none):w'.H l≠none:=fun z=>h (a.dom l z)
theorem EnvOk.mono {c:Ct} {w w':Wd} {env:PEnv} {σ:St} (E:EnvOk c w env σ) (ok:w'.Ok) (a:Le w w'):EnvOk c w' env σ :=
 ⟨ok,E.le0.trans a,E.len,fun i s e=>let ⟨v,h1,h2⟩:=E.at' i s e; ⟨v,h1,h2.mono a⟩,E.own,fun b z=>let ⟨h1,h2,h3⟩:=E.zf b z; ⟨a.fnone h1 h2,a.hsome h2,a.nm h2 h3⟩,E.zo⟩
structure Res (c:Ct) (w:Wd) (env:PEnv) (σ:St) (w':Wd) (v:V) (s:SV):Prop where
 ev:EnvOk c w' env σ
 lw:Lw w w'
 val:VR c w' v s
 new:New c env σ v s
 res:s.isRes=true
theorem Res.data {c:Ct} {w:Wd} {env:PEnv} {σ:St} {v:V} {x:PyData} (E:EnvOk c w env σ) (h:Den c.K w.F v x):Res c w env σ w v (.d x) :=
 ⟨E,Lw.refl w,h,fun _ e=>(nomatch e),rfl⟩
def Wd.tup (w:Wd) (p:Addr) (o:HO):Wd:=⟨w.M,upd w.H p o,upd w.F p o⟩
def Wd.lay (w:Wd) (p:Addr) (o:HO):Wd:=⟨w.M,upd w.H p o,w.F⟩
theorem Wd.Ok.fnone {w:Wd} (o:w.Ok) {p:Addr} (h:w.H p=none):w.F p=none:=by
 cases q:w.F p with
 | none=>rfl
 | some u=>have:=o.sub p u q; rw [h] at this; cases this
theorem Wd.Ok.mne {w:Wd} (o:w.Ok) {p q:Addr} (h:w.H p=none) (hq:w.M q):q≠p:=by
 obtain ⟨c,m,f,e,_⟩:=(o.st q hq).ex;exact C7 e h
theorem Q1 {H:Hpp} {p b:Addr} {o:HO} (h:upd H p o b=none):H b=none:=by
 unfold upd at h; split at h
 ·cases h
 ·exact h
theorem Wd.tup_ok {w:Wd} {p:Addr} {o:HO} (ok:w.Ok) (h:w.H p=none):(w.tup p o).Ok :=
 ⟨fun b u e=>by
  show upd w.H p o b=some u;have e':upd w.F p o b=some u:=e;unfold upd at e' ⊢;split at e'
  ·rename_i z; rw [if_pos z]; exact e'
  ·rename_i z; rw [if_neg z]; exact ok.sub b u e',
  fun q hq=>(ok.st q hq).same (Same.upd h),fun q hq=>by
  show upd w.F p o q=none;rw [B7 (ok.mne h hq)]; exact ok.nf q hq⟩
theorem Wd.lay_ok {w:Wd} {p:Addr} {o:HO} (ok:w.Ok) (h:w.H p=none):(w.lay p o).Ok :=
 ⟨ok.sub.trans (Same.upd h),fun q hq=>(ok.st q hq).same (Same.upd h),ok.nf⟩
theorem Wd.tup_le {w:Wd} {p:Addr} {o:HO} (ok:w.Ok) (h:w.H p=none):Le w (w.tup p o) :=
 ⟨⟨Same.upd (ok.fnone h),fun b u e _=>Same.upd h b u e,fun _ z=>z,fun _ z=>.inl z,fun b z=>Q1 z⟩,fun a u e=>by
  have e':upd w.F p o a=some u:=e;unfold upd at e';split at e'
  ·rename_i z; rw [z]; exact .inr h
  ·exact .inl e'⟩
theorem Wd.lay_le {w:Wd} {p:Addr} {o:HO} (h:w.H p=none):Le w (w.lay p o) :=
 ⟨⟨Same.refl _,fun b u e _=>Same.upd h b u e,fun _ z=>z,fun _ z=>.inl z,fun b z=>Q1 z⟩,fun a u e=>.inl e⟩
theorem Res.tup {c:Ct} {w:Wd} {env:PEnv} {σ:St} {p:Addr} {vs:List V} {xs:LP} (E:EnvOk c w env σ) (h:w.H p=none) (hd:DenAll c.K w.F vs xs):Res c w env σ (w.tup p (.tup vs)) (.ref p) (.d (.tuple xs)) :=
 ⟨E.mono (Wd.tup_ok E.wok h) (Wd.tup_le E.wok h),(Wd.tup_le E.wok h).toLw,.tup (SqD.of B9) (DenAll.same (Wd.tup_le E.wok h).f hd),fun _ e=>(nomatch e),rfl⟩
theorem Res.lst {c:Ct} {w:Wd} {env:PEnv} {σ:St} {p:Addr} {vs:List V} {xs:LP} (E:EnvOk c w env σ) (h:w.H p=none) (hd:DenAll c.K w.F vs xs):Res c w env σ (w.lay p (.lst vs)) (.ref p) (.own xs) :=
 ⟨E.mono (Wd.lay_ok E.wok h) (Wd.lay_le h),(Wd.lay_le h).toLw,⟨p,vs,rfl,B9,E.wok.fnone h,fun z=>E.wok.mne h z rfl,E.le0.dom p h,hd⟩,
  fun a f=>(by
  have:V.ref p=.ref a:=f;cases this;exact E.fresh h),rfl⟩
theorem Res.frz {c:Ct} {w w1:Wd} {env:PEnv} {σ:St} {v:V} {xs:LP} (R:Res c w env σ w1 v (.own xs)):∃ w',w'.H=w1.H/\EnvOk c w' env σ/\Lw w w'/\Den c.K w'.F v (.list xs):=by
 obtain ⟨E,lw,⟨l,vs,e,h1,h2,h3,h4,h5⟩,new,_⟩:=R;subst e;obtain ⟨n1,n2⟩:=new l rfl;have up:Same w1.F (upd w1.F l (.lst vs)):=Same.upd h2;have lw':Lw w1 ⟨w1.M,w1.H,upd w1.F l (.lst vs)⟩:=⟨up,fun _ _ h _=>h,fun _ h=>h,fun _ h=>.inl h,fun _ h=>h⟩;refine ⟨⟨w1.M,w1.H,upd w1.F l (.lst vs)⟩,rfl,⟨⟨fun b u q=>?_,E.wok.st,fun p hp=>?_⟩,⟨E.le0.toLw.trans lw',fun a u q=>?_⟩,E.len,fun i s q=>?_,E.own,fun a za=>?_,E.zo⟩,lw.trans lw',.lst (SqL.of B9) (DenAll.same up h5)⟩
 ·have q':upd w1.F l (.lst vs) b=some u:=q;unfold upd at q';split at q'
  ·rename_i z; rw [z]; exact h1.trans q'
  ·exact E.wok.sub b u q'
 ·show upd w1.F l (.lst vs) p=none;rw [B7 (fun z=>h3 (by rw [<- z]; exact hp))]; exact E.wok.nf p hp
 ·have q':upd w1.F l (.lst vs) a=some u:=q;unfold upd at q';split at q'
  ·rename_i z; rw [z]; exact .inr h4
  ·exact E.le0.n a u q'
 ·obtain ⟨v,g1,g2⟩:=E.at' i s q;refine ⟨v,g1,?_⟩;cases s with
  | d x=>exact Den.same up g2
  | own ys =>
   obtain ⟨l',us,e',k1,k2,k3,k4,k5⟩:=g2;subst e';refine ⟨l',us,rfl,k1,?_,k3,k4,DenAll.same up k5⟩;show upd w1.F l (.lst vs) l'=none;rw [B7 (fun z=>n1 i _ _ q g1 (by subst z; rfl))]; exact k2
  | bor ys =>
   rcases g2 with g | ⟨l',us,e',k1,k2,k3⟩
   ·exact .inl (Den.same up g)
   ·exact .inr ⟨l',us,e',k1,k2,DenAll.same up k3⟩
  | st=>exact g2
  | bt t=>exact ⟨g2.1.sameF up,g2.2⟩
  | al a=>exact g2
  | dk ks =>
   obtain ⟨l',e',k1,k2,k3,k4⟩:=g2;subst e';refine ⟨l',rfl,k1,?_,k3,k4⟩;show upd w1.F l (.lst vs) l'=none;rw [B7 (fun z=>n1 i _ _ q g1 (by subst z; rfl))]; exact k2
  | tr t =>
   obtain ⟨k1,k2,k3⟩:=g2;refine ⟨k1.mono lw' fun p hp=>(k2 p hp).2.2.1,fun p hp=>⟨(k2 p hp).1,?_,(k2 p hp).2.2⟩,k3⟩;show upd w1.F l (.lst vs) p=none;rw [B7 (fun z=>n1 i _ _ q g1 (by subst z; exact hp))]; exact (k2 p hp).2.1
 ·obtain ⟨z1,z2,z3⟩:=E.zf a za;refine ⟨?_,z2,z3⟩;show upd w1.F l (.lst vs) a=none;rw [B7 (fun z=>n2 (by subst z; exact za))]; exact z1
theorem EnvOk.set {c:Ct} {w:Wd} {env:PEnv} {σ:St} {v:V} {s:SV} {i:Nat} (E:EnvOk c w env σ) (h:VR c w v s) (new:New c env σ v s) :
  EnvOk c w (env.set i (some s)) (σ.set i (some v)):=by
 have hl:=E.len;have hd:∀ {j:Nat} {t:SV} {u:V},(env.set i (some s))[j]?=some (some t)->(σ.set i (some v))[j]?=some (some u)->(i=j/\t=s/\u=v)\/(i≠j/\env[j]?=some (some t)/\σ[j]?=some (some u)):=by
  intro j t u q q';rw [List.getElem?_set] at q q';by_cases e:i=j
  ·subst e;rw [if_pos rfl] at q q';split at q
   ·rename_i z;rw [if_pos (by omega)] at q';cases q; cases q'; exact .inl ⟨rfl,rfl,rfl⟩
   ·cases q
  ·rw [if_neg e] at q q';exact .inr ⟨e,q,q'⟩
 refine ⟨E.wok,E.le0,by simpa using hl,fun j t q=>?_,fun j k s1 t1 v1 u1 a q1 q2 q3 q4 f1 f2=>?_,E.zf,fun a j t u za q q'=>?_⟩
 ·rw [List.getElem?_set] at q ⊢;by_cases e:i=j
  ·subst e;rw [if_pos rfl] at q ⊢;split at q
   ·rename_i z;rw [if_pos (by omega)];cases q;exact ⟨v,rfl,h⟩
   ·cases q
  ·rw [if_neg e] at q ⊢;exact E.at' j t q
 ·rcases hd q1 q3 with ⟨e1,rfl,rfl⟩ | ⟨e1,p1,p3⟩
  ·rcases hd q2 q4 with ⟨e2,rfl,rfl⟩ | ⟨e2,q2,q4⟩
   ·exact e1.symm.trans e2
   ·exact absurd f2 ((new a f1).1 k _ _ q2 q4)
  ·rcases hd q2 q4 with ⟨e2,rfl,rfl⟩ | ⟨e2,p2,p4⟩
   ·exact absurd f1 ((new a f2).1 j _ _ p1 p3)
   ·exact E.own j k _ _ _ _ a p1 p2 p3 p4 f1 f2
 ·rcases hd q q' with ⟨_,rfl,rfl⟩ | ⟨_,q,q'⟩
  ·exact fun f=>(new a f).2 za
  ·exact E.zo a j t u za q q'
end Pu
namespace Pu
open PySem L2 My Prf
abbrev PX:=PEnv->(SV->PEnv->Prop)->Prop
abbrev PDt:=PEnv->(PyData->PEnv->Prop)->Prop
abbrev PTt:=PEnv->(Bool->PEnv->Prop)->Prop
abbrev PAr:=PEnv->(LP->PEnv->Prop)->Prop
abbrev PAs:=PEnv->(List SV->PEnv->Prop)->Prop
theorem Res.pre {c:Ct} {w w1 w2:Wd} {env:PEnv} {σ:St} {v:V} {s:SV} (a:Lw w w1) (R:Res c w1 env σ w2 v s):Res c w env σ w2 v s:=⟨R.ev,a.trans R.lw,R.val,R.new,R.res⟩
class RE (K:Frag) (te:TE) (pe:outParam PX):Prop where
 ok:∀ (c:Ct) (w:Wd) (env:PEnv) (σ:St) (Qp:SV->PEnv->Prop) (Q:VK),c.K=K->EnvOk c w env σ->pe env Qp->(∀ v s env' w',Res c w env' σ w' v s->Qp s env'->Q v w'.H)->te σ w.H Q
class RD (K:Frag) (te:TE) (pd:outParam PDt):Prop where
 ok:∀ (c:Ct) (w:Wd) (env:PEnv) (σ:St) (Qp:PyData->PEnv->Prop) (Q:VK),c.K=K->EnvOk c w env σ->pd env Qp->(∀ v x env' w',EnvOk c w' env' σ->Lw w w'->Den K w'.F v x->Qp x env'->Q v w'.H)->te σ w.H Q
class RW (K:Frag) (te:TE) (pd:outParam PDt):Prop where
 ok:∀ (c:Ct) (w:Wd) (env:PEnv) (σ:St) (Qp:PyData->PEnv->Prop) (Q:VK),c.K=K->EnvOk c w env σ->pd env Qp->(∀ v x env' w',EnvOk c w' env' σ->Lw w w'->VV K w' v x->Qp x env'->Q v w'.H)->te σ w.H Q
def SV.asD (s:SV) (k:PyData->Prop):Prop:=match s with
 | .d x=>k x
 | .own xs=>k (.list xs)
 | _=>False
def pdat (pe:PX) (env:PEnv) (Q:PyData->PEnv->Prop):Prop:=pe env fun s e=>s.asD fun x=>Q x e
instance C7y {K:Frag} {te:TE} {pe:PX} [h:RE K te pe]:RD K te (pdat pe) where
 ok:=by
  rintro c w env σ Qp Q rfl E p k;refine h.ok c w env σ _ Q rfl E p fun v s env' w' R q=>?_;cases s with
  | d x=>exact k v x env' w' R.ev R.lw R.val q
  | own xs =>
   obtain ⟨w2,e,E2,l2,d2⟩:=R.frz;rw [<- e];exact k v _ env' w2 E2 l2 d2 q
  | bor xs=>exact (show False from q).elim
  | st=>exact (show False from q).elim
  | tr t=>exact (show False from q).elim
  | bt t=>exact (show False from q).elim
  | al t=>exact (show False from q).elim
  | dk t=>exact (show False from q).elim
instance (priority:=low) rw_of {K:Frag} {te:TE} {pd:PDt} [h:RD K te pd]:RW K te pd where
 ok:=fun c w env σ Qp Q e E p k=>h.ok c w env σ Qp Q e E p fun v x env' w' E' l d q=>k v x env' w' E' l (.inl d) q
def pVar (i:Nat) (env:PEnv) (Q:SV->PEnv->Prop):Prop:=match env[i]? with
 | some (some (.d x))=>Q (.d x) env
 | some (some (.own xs))=>Q (.d (.list xs)) (env.set i (some (.d (.list xs))))
 | some (some .st)=>Q .st env
 | _=>False
def C10 (i:Nat) (env:PEnv) (Q:PyData->PEnv->Prop):Prop:=match env[i]? with
 | some (some (.d x))=>Q x env
 | some (some (.own xs))=>Q (.list xs) env
 | some (some (.bor xs))=>Q (.list xs) env
 | _=>False
theorem EnvOk.frz {c:Ct} {w:Wd} {env:PEnv} {σ:St} {i:Nat} {xs:LP} (E:EnvOk c w env σ) (h:env[i]?=some (some (.own xs))) :
  ∃ w' v,w'.H=w.H/\σ[i]?=some (some v)/\EnvOk c w' (env.set i (some (.d (.list xs)))) σ/\Lw w w'/\Den c.K w'.F v (.list xs):=by
 obtain ⟨v,hv,hV⟩:=E.at' i _ h;have hV':=hV;obtain ⟨l,vs,e,h1,h2,h3,h4,h5⟩:=hV';have up:∀ {j:Nat} {t:SV},(env.set i none)[j]?=some (some t)->i≠j/\env[j]?=some (some t):=by
  intro j t q;rw [List.getElem?_set] at q;split at q
  ·split at q <;> cases q
  ·rename_i z; exact ⟨z,q⟩
 have E':EnvOk c w (env.set i none) σ:=⟨E.wok,E.le0,by simpa using E.len,fun j s q=>E.at' j s (up q).2,fun j k s t v u a q1 q2=>E.own j k s t v u a (up q1).2 (up q2).2,E.zf,fun a j t u za q=>E.zo a j t u za (up q).2⟩;have R:Res c w (env.set i none) σ w v (.own xs):=⟨E',Lw.refl w,hV,fun a f=>⟨fun j t u q z g=>(up q).1 (E.own i j _ _ _ _ a h (up q).2 hv z f g),fun za=>E.zo a i _ _ za h hv f⟩,rfl⟩;obtain ⟨w',e',E2,l2,d2⟩:=R.frz;refine ⟨w',v,e',hv,?_,l2,d2⟩;have E3:=E2.set (i:=i) (v:=v) (s:=.d (.list xs)) d2 (fun _ z=>nomatch z);rw [List.set_set] at E3;have hi:i < σ.length:=(Zs hv).1
 rwa [show σ.set i (some v)=σ by
  refine List.ext_getElem? fun j=>?_;rw [List.getElem?_set];split
  ·rename_i z; subst z; simp [hv]
  ·rfl] at E3
instance re_var {K:Frag} {i:Nat}:RE K (tVar i) (pVar i) where
 ok:=by
  rintro c w env σ Qp Q rfl E p k;unfold pVar at p;split at p
  ·rename_i x e;obtain ⟨v,h1,h2⟩:=E.at' i _ e;exact ⟨v,h1,k v _ env w (Res.data E h2) p⟩
  ·rename_i xs e;obtain ⟨w',v,e',hv,E',l,d⟩:=E.frz e;refine ⟨v,hv,?_⟩;rw [<- e'];exact k v (.d (.list xs)) _ w' ⟨E',l,d,fun _ z=>(nomatch z),rfl⟩ p
  ·rename_i e;obtain ⟨v,h1,h2⟩:=E.at' i _ e;exact ⟨v,h1,k v _ env w ⟨E,Lw.refl w,h2,fun _ z=>(nomatch z),rfl⟩ p⟩
  ·exact p.elim
theorem VR.vv {c:Ct} {w:Wd} {v:V} {xs:LP} (l:Le c.w0 w) (h:VR c w v (.bor xs)):VV c.K w v (.list xs):=by
 rcases h with h | ⟨l',vs,e,h1,h2,h3⟩
 ·exact .inl h
 ·exact .inr ⟨l',vs,xs,e,rfl,l.h _ _ h1 h2,l.nm (by rw [h1]; simp) h2,h3⟩
instance rw_var {K:Frag} {i:Nat}:RW K (tVar i) (C10 i) where
 ok:=by
  rintro c w env σ Qp Q rfl E p k;unfold C10 at p;split at p
  ·rename_i x e;obtain ⟨v,h1,h2⟩:=E.at' i _ e;exact ⟨v,h1,k v _ env w E (Lw.refl w) (.inl h2) p⟩
  ·rename_i xs e;obtain ⟨v,h1,l,vs,e',g1,g2,g3,g4,g5⟩:=E.at' i _ e;exact ⟨v,h1,k v _ env w E (Lw.refl w) (.inr ⟨l,vs,xs,e',rfl,g1,g3,g5⟩) p⟩
  ·rename_i xs e;obtain ⟨v,h1,h2⟩:=E.at' i _ e;exact ⟨v,h1,k v _ env w E (Lw.refl w) (h2.vv E.le0) p⟩
  ·exact p.elim
def pC (x:PyData) (env:PEnv) (Q:SV->PEnv->Prop):Prop:=Q (.d x) env
theorem S4 {K:Frag} {v:V} {x:PyData} (h:∀ F,Den K F v x):RE K (tC v) (pC x) where
 ok:=by
  rintro c w env σ Qp Q rfl E p k;exact k _ _ env w (Res.data E (h _)) p
instance re_int {K:Frag} {i:Int}:RE K (tC (.int i)) (pC (.int i)):=S4 fun _=>.int i
instance re_bl {K:Frag} {b:Bool}:RE K (tC (.bl b)) (pC (.bool b)):=S4 fun _=>.bl b
instance re_non {K:Frag}:RE K (tC .non) (pC .none):=S4 fun _=>.non
instance re_str {K:Frag} {x:Str}:RE K (tC (.str x)) (pC (.str x)):=S4 fun _=>.str x
class GD (K:Frag) (a:Addr) (x:outParam PyData):Prop where
 ok:∀ F,Den K F (.ref a) x
instance re_glob {K:Frag} {a:Addr} {x:PyData} [h:GD K a x]:RE K (tC (.ref a)) (pC x):=S4 h.ok
class RO (K:Frag) (r:R2) (pr:outParam (PyData->PyData->(SV->Prop)->Prop)):Prop where
 ok:∀ (c:Ct) (w:Wd) (env:PEnv) (σ:St) (x y:V) (dx dy:PyData) (Qp:SV->Prop) (Q:VK),c.K=K->EnvOk c w env σ->VV K w x dx->VV K w y dy->pr dx dy Qp->(∀ v s w',Res c w env σ w' v s->Qp s->Q v w'.H)->r x y w.H Q
def pOp (pr:PyData->PyData->(SV->Prop)->Prop) (pa pb:PDt) (env:PEnv) (Q:SV->PEnv->Prop):Prop:=pa env fun x e1=>pb e1 fun y e2=>pr x y fun s=>Q s e2
instance re_op {K:Frag} {r:R2} {ta tb:TE} {pr:PyData->PyData->(SV->Prop)->Prop} {pa pb:PDt} [h:RO K r pr] [ha:RW K ta pa] [hb:RW K tb pb]:RE K (tOp r ta tb) (pOp pr pa pb) where
 ok:=by
  rintro c w env σ Qp Q rfl E p k;refine ha.ok c w env σ _ _ rfl E p fun x dx e1 w1 E1 l1 v1 q1=>?_;refine hb.ok c w1 e1 σ _ _ rfl E1 q1 fun y dy e2 w2 E2 l2 v2 q2=>?_;exact h.ok c w2 e2 σ x y dx dy _ _ rfl E2 (v1.mono l2) v2 q2 fun v s w' R q=>k v s e2 w' (R.pre (l1.trans l2)) q
class SG (g:Int->Int->V) (gd:outParam (Int->Int->PyData)):Prop where
 ok:∀ i j K F,Den K F (g i j) (gd i j)
instance sg_int {f:Int->Int->Int}:SG (fun i j=>.int (f i j)) (fun i j=>.int (f i j)):=⟨fun _ _ _ _=>.int _⟩
instance sg_bl {f:Int->Int->Bool}:SG (fun i j=>.bl (f i j)) (fun i j=>.bool (f i j)):=⟨fun _ _ _ _=>.bl _⟩
def pI (C:Int->Int->Prop) (gd:Int->Int->PyData) (x y:PyData) (Q:SV->Prop):Prop:=match x,y with
 | .int i,.int j=>C i j/\Q (.d (gd i j))
 | _,_=>False
def pI0 (gd:Int->Int->PyData) (x y:PyData) (Q:SV->Prop):Prop:=match x,y with
 | .int i,.int j=>Q (.d (gd i j))
 | _,_=>False
theorem VV.intE {K:Frag} {w:Wd} {v:V} {i:Int} (h:VV K w v (.int i)):v=.int i:=by
 rcases h with h | ⟨l,vs,xs,e,e',_⟩
 ·exact h.intE
 ·cases e'
theorem VV.blE {K:Frag} {w:Wd} {v:V} {b:Bool} (h:VV K w v (.bool b)):v=.bl b:=by
 rcases h with h | ⟨l,vs,xs,e,e',_⟩
 ·exact h.blE
 ·cases e'
instance ro_I {K:Frag} {C:Int->Int->Prop} {g:Int->Int->V} {gd:Int->Int->PyData} [s:SG g gd]:RO K (rI C g) (pI C gd) where
 ok:=by
  rintro c w env σ x y dx dy Qp Q rfl E vx vy p k;unfold pI at p;split at p
  ·rename_i i j;exact ⟨i,j,vx.intE,vy.intE,p.1,k _ _ w (Res.data E (s.ok i j _ _)) p.2⟩
  ·exact p.elim
instance ro_I0 {K:Frag} {g:Int->Int->V} {gd:Int->Int->PyData} [s:SG g gd]:RO K (rI0 g) (pI0 gd) where
 ok:=by
  rintro c w env σ x y dx dy Qp Q rfl E vx vy p k;unfold pI0 at p;split at p
  ·rename_i i j;exact ⟨i,j,vx.intE,vy.intE,k _ _ w (Res.data E (s.ok i j _ _)) p⟩
  ·exact p.elim
def pEqD (x y:PyData) (Q:SV->Prop):Prop:=x.canLay0=true/\y.canLay0=true/\x.depth<=60/\Q (.d (.bool (PyData.eqv x y)))
def pNeD (x y:PyData) (Q:SV->Prop):Prop:=x.canLay0=true/\y.canLay0=true/\x.depth<=60/\Q (.d (.bool (!PyData.eqv x y)))
def isNo:PyData->Bool
 | .none=>true
 | _=>false
def rIsN:R2:=fun x y H Q=>y=.non/\Q (.bl (decide (x=.non))) H
def C34:R2:=fun x y H Q=>y=.non/\Q (.bl (!decide (x=.non))) H
theorem E7 {X:Cx}:OpR X (compareOp .Is) rIsN:=C5t
theorem B6g {X:Cx}:OpR X (compareOp .IsNot) C34:=C2l
theorem Den.no {K:Frag} {F:Hpp} {v:V} {x:PyData} (h:Den K F v x):decide (v=.non)=isNo x:=by cases h <;> rfl
theorem VV.no {K:Frag} {w:Wd} {v:V} {x:PyData} (h:VV K w v x):decide (v=.non)=isNo x:=by
 rcases h with h | ⟨l,vs,xs,e,e',_⟩
 ·exact Den.no h
 ·subst e; subst e'; rfl
def pIsN (x y:PyData) (Q:SV->Prop):Prop:=y=.none/\Q (.d (.bool (isNo x)))
def C19 (x y:PyData) (Q:SV->Prop):Prop:=y=.none/\Q (.d (.bool (!isNo x)))
theorem VV.nonE {K:Frag} {w:Wd} {v:V} (h:VV K w v .none):v=.non:=by
 rcases h with h | ⟨l,vs,xs,e,e',_⟩
 ·exact h.nonE
 ·cases e'
instance ro_isN {K:Frag}:RO K rIsN pIsN where
 ok:=by
  rintro c w env σ x y dx dy Qp Q rfl E vx vy ⟨rfl,p⟩ k;refine ⟨vy.nonE,k _ _ w (Res.data E ?_) p⟩;rw [vx.no]; exact .bl _
instance ro_notN {K:Frag}:RO K C34 C19 where
 ok:=by
  rintro c w env σ x y dx dy Qp Q rfl E vx vy ⟨rfl,p⟩ k;refine ⟨vy.nonE,k _ _ w (Res.data E ?_) p⟩;rw [vx.no]; exact .bl _
def pGet (xs:LP) (i:Int) (Q:SV->Prop):Prop:=match atI xs i with
 | some z=>Q (.d z)
 | none=>False
def pIx (x y:PyData) (Q:SV->Prop):Prop:=match x,y with
 | .list xs,.int i=>pGet xs i Q
 | .tuple xs,.int i=>pGet xs i Q
 | _,_=>False
theorem VV.lst {K:Frag} {w:Wd} {v:V} {xs:LP} (o:w.Ok) (h:VV K w v (.list xs)):∃ a vs,v=.ref a/\SqL K w.H a vs/\DenAll K w.F vs xs:=by
 rcases h with h | ⟨l,vs,ys,e,e',h1,h2,h3⟩
 ·obtain ⟨a,vs,e,h1,h2⟩:=h.lstE;exact ⟨a,vs,e,o.sub.seq h1,h2⟩
 ·cases e'; exact ⟨l,vs,e,SqL.of h1,h3⟩
theorem VV.tup {K:Frag} {w:Wd} {v:V} {xs:LP} (o:w.Ok) (h:VV K w v (.tuple xs)):∃ a vs,v=.ref a/\SqT K w.H a vs/\DenAll K w.F vs xs:=by
 rcases h with h | ⟨l,vs,ys,e,e',h1,h2,h3⟩
 ·obtain ⟨a,vs,e,h1,h2⟩:=h.tupE;exact ⟨a,vs,e,SqT.same o.sub h1,h2⟩
 ·cases e'
instance ro_ix {K:Frag}:RO K (rIx K) pIx where
 ok:=by
  rintro c w env σ x y dx dy Qp Q rfl E vx vy p k;unfold pIx at p;split at p
  ·rename_i xs i;unfold pGet at p;split at p
   ·rename_i z hz;obtain ⟨a,vs,e,h1,h2⟩:=vx.lst E.wok;obtain ⟨v,g1,g2⟩:=h2.atIE hz;exact .inl ⟨a,vs,i,v,e,vy.intE,h1,g1,k _ _ w (Res.data E g2) p⟩
   ·exact p.elim
  ·rename_i xs i;unfold pGet at p;split at p
   ·rename_i z hz;obtain ⟨a,vs,e,h1,h2⟩:=vx.tup E.wok;obtain ⟨v,g1,g2⟩:=h2.atIE hz;exact .inr (.inl ⟨a,vs,i,v,e,vy.intE,h1,g1,k _ _ w (Res.data E g2) p⟩)
   ·exact p.elim
  ·exact p.elim
theorem C2w {X:Cx} {K:Frag} (h:X.K=K):IxR X (rIx K):=by subst h; exact C6z
def pU (gd:Int->PyData) (x:PyData) (Q:SV->Prop):Prop:=match x with
 | .int i=>Q (.d (gd i))
 | _=>False
def pUn (f:PyData->(SV->Prop)->Prop) (pa:PDt) (env:PEnv) (Q:SV->PEnv->Prop):Prop:=pa env fun x e=>f x fun s=>Q s e
instance re_neg {K:Frag} {ta:TE} {pa:PDt} {f:Int->Int} [ha:RW K ta pa]:RE K (tUn (rU fun i=>.int (f i)) ta) (pUn (pU fun i=>.int (f i)) pa) where
 ok:=by
  rintro c w env σ Qp Q rfl E p k;refine ha.ok c w env σ _ _ rfl E p fun x dx e1 w1 E1 l1 v1 q1=>?_;unfold pU at q1;split at q1
  ·rename_i i;exact ⟨i,v1.intE,k _ _ e1 w1 ((Res.data E1 (.int _)).pre l1) q1⟩
  ·exact q1.elim
inductive VVs (K:Frag) (w:Wd):List V->LP->Prop
 | nil:VVs K w [] []
 | cons {v:V} {x:PyData} {vs:List V} {xs:LP}:VV K w v x->VVs K w vs xs->VVs K w (v :: vs) (x :: xs)
class RAv (K:Frag) (ta:TA) (pa:outParam PAr):Prop where
 ok:∀ (c:Ct) (w:Wd) (env:PEnv) (σ:St) (Qp:LP->PEnv->Prop) (Q:List V->Hpp->Prop),c.K=K->EnvOk c w env σ->pa env Qp->(∀ vs xs env' w',EnvOk c w' env' σ->Lw w w'->VVs K w' vs xs->Qp xs env'->Q vs w'.H)->ta σ w.H Q
class RAd (K:Frag) (ta:TA) (pa:outParam PAr):Prop where
 ok:∀ (c:Ct) (w:Wd) (env:PEnv) (σ:St) (Qp:LP->PEnv->Prop) (Q:List V->Hpp->Prop),c.K=K->EnvOk c w env σ->pa env Qp->(∀ vs xs env' w',EnvOk c w' env' σ->Lw w w'->DenAll K w'.F vs xs->Qp xs env'->Q vs w'.H)->ta σ w.H Q
def pNil (env:PEnv) (Q:LP->PEnv->Prop):Prop:=Q [] env
def B6a (pa:PDt) (pr:PAr) (env:PEnv) (Q:LP->PEnv->Prop):Prop:=pa env fun x e1=>pr e1 fun xs e2=>Q (x :: xs) e2
instance rav_nil {K:Frag}:RAv K tNil pNil:=⟨fun c w env σ Qp Q _ E p k=>k [] [] env w E (Lw.refl w) .nil p⟩
instance rad_nil {K:Frag}:RAd K tNil pNil:=⟨fun c w env σ Qp Q _ E p k=>k [] [] env w E (Lw.refl w) .nil p⟩
instance rav_cons {K:Frag} {ta:TE} {tr:TA} {pa:PDt} {pr:PAr} [ha:RW K ta pa] [hr:RAv K tr pr]:RAv K (G4 ta tr) (B6a pa pr) where
 ok:=by
  rintro c w env σ Qp Q rfl E p k;refine ha.ok c w env σ _ _ rfl E p fun x dx e1 w1 E1 l1 v1 q1=>?_;refine hr.ok c w1 e1 σ _ _ rfl E1 q1 fun vs xs e2 w2 E2 l2 v2 q2=>?_;exact k _ _ e2 w2 E2 (l1.trans l2) (.cons (v1.mono l2) v2) q2
instance rad_cons {K:Frag} {ta:TE} {tr:TA} {pa:PDt} {pr:PAr} [ha:RD K ta pa] [hr:RAd K tr pr]:RAd K (G4 ta tr) (B6a pa pr) where
 ok:=by
  rintro c w env σ Qp Q rfl E p k;refine ha.ok c w env σ _ _ rfl E p fun x dx e1 w1 E1 l1 v1 q1=>?_;refine hr.ok c w1 e1 σ _ _ rfl E1 q1 fun vs xs e2 w2 E2 l2 v2 q2=>?_;exact k _ _ e2 w2 E2 (l1.trans l2) (.cons (Den.same l2.f v1) v2) q2
def pTup (pa:PAr) (env:PEnv) (Q:SV->PEnv->Prop):Prop:=pa env fun xs e=>xs.length<=1000/\Q (.d (.tuple xs)) e
def pLst (pa:PAr) (env:PEnv) (Q:SV->PEnv->Prop):Prop:=pa env fun xs e=>xs.length<=1000/\Q (.own xs) e
instance re_tup {K:Frag} {ta:TA} {pa:PAr} [ha:RAd K ta pa]:RE K (tTup ta) (pTup pa) where
 ok:=by
  rintro c w env σ Qp Q rfl E p k;refine ha.ok c w env σ _ _ rfl E p fun vs xs e1 w1 E1 l1 v1 q1=>⟨?_,fun p hp=>?_⟩
  ·rw [v1.len]; exact Nat.le_of_lt (A15 q1.1)
  ·exact k _ _ e1 _ ((Res.tup E1 hp v1).pre l1) q1.2
instance re_lst {K:Frag} {ta:TA} {pa:PAr} [ha:RAd K ta pa]:RE K (tLst ta) (pLst pa) where
 ok:=by
  rintro c w env σ Qp Q rfl E p k;refine ha.ok c w env σ _ _ rfl E p fun vs xs e1 w1 E1 l1 v1 q1=>⟨?_,fun p hp=>?_⟩
  ·rw [v1.len]; exact Nat.le_of_lt (A15 q1.1)
  ·exact k _ _ e1 _ ((Res.lst E1 hp v1).pre l1) q1.2
class RB (K:Frag) (r:List V->Hpp->VK->Prop) (pr:outParam (LP->(SV->Prop)->Prop)):Prop where
 ok:∀ (c:Ct) (w:Wd) (env:PEnv) (σ:St) (vs:List V) (xs:LP) (Qp:SV->Prop) (Q:VK),c.K=K->EnvOk c w env σ->VVs K w vs xs->pr xs Qp->(∀ v s w',Res c w env σ w' v s->Qp s->Q v w'.H)->r vs w.H Q
def pCB (pr:LP->(SV->Prop)->Prop) (pa:PAr) (env:PEnv) (Q:SV->PEnv->Prop):Prop:=pa env fun xs e=>pr xs fun s=>Q s e
instance re_cb {K:Frag} {r:List V->Hpp->VK->Prop} {ta:TA} {pr:LP->(SV->Prop)->Prop} {pa:PAr} [h:RB K r pr] [ha:RAv K ta pa]:RE K (tCB r ta) (pCB pr pa) where
 ok:=by
  rintro c w env σ Qp Q rfl E p k;refine ha.ok c w env σ _ _ rfl E p fun vs xs e1 w1 E1 l1 v1 q1=>?_;exact h.ok c w1 e1 σ vs xs _ _ rfl E1 v1 q1 fun v s w' R q=>k v s e1 w' (R.pre l1) q
def rAbs:List V->Hpp->VK->Prop:=fun xs H Q=>∃ i,xs=[.int i]/\Q (.int (if i < 0 then -i else i)) H
def rMin:List V->Hpp->VK->Prop:=fun xs H Q=>∃ i j,xs=[.int i,.int j]/\Q (.int (if j < i then j else i)) H
def rInt:List V->Hpp->VK->Prop:=fun xs H Q=>(∃ i,xs=[.int i]/\Q (.int i) H)\/∃ k,xs=[.bl k]/\Q (.int (if k then 1 else 0)) H
def B71 (K:Frag):List V->Hpp->VK->Prop:=fun xs H Q=>∃ p ys,xs=[.ref p]/\(SqL K H p ys\/SqT K H p ys)/\∀ l,H l=none->Q (.ref l) (upd H l (.lst ys))
def rIsi (K:Frag):List V->Hpp->VK->Prop:=fun xs H Q=>∃ x c T b,xs=[x,.ty c]/\TyV K H x T/\kitB T c=some b/\Q (.bl b) H
section
variable {X:Cx}
theorem Y0:CallR X (.builtin "abs") rAbs:=B63
theorem B4o (hc:X.calm=true):CallR X (.builtin "min") rMin:=B4p hc
theorem A3y:CallR X (.type "int") rInt:=A3z
theorem A3u {K:Frag} (h:X.K=K):CallR X (.type "list") (B71 K):=by subst h; exact A3v
theorem C9 {K:Frag} (h:X.K=K):CallR X (.builtin "isinstance") (rIsi K):=by subst h; exact A5f
end
def pLen (xs:LP) (Q:SV->Prop):Prop:=match xs with
 | [.list ys]=>Q (.d (.int ys.length))
 | [.tuple ys]=>Q (.d (.int ys.length))
 | _=>False
def pAbs (xs:LP) (Q:SV->Prop):Prop:=match xs with
 | [.int i]=>Q (.d (.int (if i < 0 then -i else i)))
 | _=>False
def pMax (xs:LP) (Q:SV->Prop):Prop:=match xs with
 | [.int i,.int j]=>Q (.d (.int (if j > i then j else i)))
 | _=>False
def pMin (xs:LP) (Q:SV->Prop):Prop:=match xs with
 | [.int i,.int j]=>Q (.d (.int (if j < i then j else i)))
 | _=>False
def pInt (xs:LP) (Q:SV->Prop):Prop:=match xs with
 | [.int i]=>Q (.d (.int i))
 | [.bool k]=>Q (.d (.int (if k then 1 else 0)))
 | _=>False
def A6f (xs:LP) (Q:SV->Prop):Prop:=match xs with
 | [.list ys]=>Q (.own ys)
 | [.tuple ys]=>Q (.own ys)
 | _=>False
instance rb_abs {K:Frag}:RB K rAbs pAbs where
 ok:=by
  rintro c w env σ vs xs Qp Q rfl E vv p k;unfold pAbs at p;split at p
  ·cases vv with | cons h t=>cases t; exact ⟨_,by rw [h.intE],k _ _ w (Res.data E (.int _)) p⟩
  ·exact p.elim
instance rb_min {K:Frag}:RB K rMin pMin where
 ok:=by
  rintro c w env σ vs xs Qp Q rfl E vv p k;unfold pMin at p;split at p
  ·cases vv with | cons h t=>cases t with | cons h' t=>cases t; exact ⟨_,_,by rw [h.intE,h'.intE],k _ _ w (Res.data E (.int _)) p⟩
  ·exact p.elim
instance rb_int {K:Frag}:RB K rInt pInt where
 ok:=by
  rintro c w env σ vs xs Qp Q rfl E vv p k;unfold pInt at p;split at p
  ·cases vv with | cons h t=>cases t; exact .inl ⟨_,by rw [h.intE],k _ _ w (Res.data E (.int _)) p⟩
  ·cases vv with | cons h t=>cases t; exact .inr ⟨_,by rw [h.blE],k _ _ w (Res.data E (.int _)) p⟩
  ·exact p.elim
instance rb_lst {K:Frag}:RB K (B71 K) A6f where
 ok:=by
  rintro c w env σ vs xs Qp Q rfl E vv p k;unfold A6f at p;split at p
  ·cases vv with | cons h t=>cases t; obtain ⟨a,us,e,h1,h2⟩:=h.lst E.wok; exact ⟨a,us,by rw [e],.inl h1,fun l hl=>k _ _ _ (Res.lst E hl h2) p⟩
  ·cases vv with | cons h t=>cases t; obtain ⟨a,us,e,h1,h2⟩:=h.tup E.wok; exact ⟨a,us,by rw [e],.inr h1,fun l hl=>k _ _ _ (Res.lst E hl h2) p⟩
  ·exact p.elim
def tyD:PyData->String
 | .none=>"NoneType"
 | .bool _=>"bool"
 | .int _=>"int"
 | .str _=>"str"
 | .list _=>"list"
 | .tuple _=>"tuple"
 | .dict _=>"dict"
theorem Den.ty {K:Frag} {H:Hpp} {v:V} {x:PyData} (h:Den K H v x):TyV K H v (tyD x):=by
 cases h with
 | non=>rfl
 | bl=>rfl
 | int=>rfl
 | str=>rfl
 | lst h _=>exact .inl ⟨rfl,_,h⟩
 | tup h _=>exact .inr (.inl ⟨rfl,_,h.1⟩)
 | dct h=>exact .inr (.inr ⟨rfl,_,h⟩)
def pIsi (c:String) (pa:PDt) (env:PEnv) (Q:SV->PEnv->Prop):Prop:=pa env fun x e=>match kitB (tyD x) c with
 | some b=>Q (.d (.bool b)) e
 | none=>False
instance (priority:=high) re_isi {K:Frag} {ta:TE} {pa:PDt} {c:String} [ha:RW K ta pa]:RE K (tCB (rIsi K) (G4 ta (G4 (tC (.ty c)) tNil))) (pIsi c pa) where
 ok:=by
  rintro ct w env σ Qp Q rfl E p k;refine ha.ok ct w env σ _ _ rfl E p fun x dx e1 w1 E1 l1 v1 q1=>?_;split at q1
  ·rename_i b hb;exact ⟨x,c,_,b,rfl,Den.ty (v1.den E1.wok),hb,k _ _ e1 w1 ((Res.data E1 (.bl _)).pre l1) q1⟩
  ·exact q1.elim
end Pu
namespace Pu
open PySem L2 My Prf
class RT (K:Frag) (tt:TT) (pt:outParam PTt):Prop where
 ok:∀ (c:Ct) (w:Wd) (env:PEnv) (σ:St) (Qp:Bool->PEnv->Prop) (Q:Bool->Hpp->Prop),c.K=K->EnvOk c w env σ->pt env Qp->(∀ b env' w',EnvOk c w' env' σ->Lw w w'->Qp b env'->Q b w'.H)->tt σ w.H Q
def asB (x:PyData) (k:Bool->Prop):Prop:=match x with
 | .bool b=>k b
 | _=>False
def B58 (pa:PDt) (env:PEnv) (Q:Bool->PEnv->Prop):Prop:=pa env fun x e=>asB x fun b=>Q b e
instance rt_test {K:Frag} {ta:TE} {pa:PDt} [ha:RW K ta pa]:RT K (A9g ta) (B58 pa) where
 ok:=by
  rintro c w env σ Qp Q rfl E p k;refine ha.ok c w env σ _ _ rfl E p fun x dx e1 w1 E1 l1 v1 q1=>?_;unfold asB at q1;split at q1
  ·exact ⟨_,v1.blE,k _ e1 w1 E1 l1 q1⟩
  ·exact q1.elim
instance rt_B {K:Frag} {ta:TE} {pa:PDt} [ha:RW K ta pa]:RT K (tB ta) (B58 pa) where
 ok:=by
  rintro c w env σ Qp Q rfl E p k;refine ha.ok c w env σ _ _ rfl E p fun x dx e1 w1 E1 l1 v1 q1=>?_;unfold asB at q1;split at q1
  ·exact ⟨_,v1.blE,k _ e1 w1 E1 l1 q1⟩
  ·exact q1.elim
def pYes (env:PEnv) (Q:Bool->PEnv->Prop):Prop:=Q true env
instance rt_yes {K:Frag}:RT K tYes pYes:=⟨fun c w env σ Qp Q _ E p k=>k true env w E (Lw.refl w) p⟩
def pNot (pa:PTt) (env:PEnv) (Q:Bool->PEnv->Prop):Prop:=pa env fun b e=>Q (!b) e
def pAnd (pa pb:PTt) (env:PEnv) (Q:Bool->PEnv->Prop):Prop:=pa env fun b e=>if b=true then pb e Q else Q false e
def pOr (pa pb:PTt) (env:PEnv) (Q:Bool->PEnv->Prop):Prop:=pa env fun b e=>if b=true then Q true e else pb e Q
instance rt_not {K:Frag} {ta:TT} {pa:PTt} [ha:RT K ta pa]:RT K (tNot ta) (pNot pa) where
 ok:=by
  rintro c w env σ Qp Q rfl E p k;exact ha.ok c w env σ _ _ rfl E p fun b e1 w1 E1 l1 q1=>k _ e1 w1 E1 l1 q1
instance rt_and {K:Frag} {ta tb:TT} {pa pb:PTt} [ha:RT K ta pa] [hb:RT K tb pb]:RT K (tAnd ta tb) (pAnd pa pb) where
 ok:=by
  rintro c w env σ Qp Q rfl E p k;refine ha.ok c w env σ _ _ rfl E p fun b e1 w1 E1 l1 q1=>?_;cases b with
  | true=>exact hb.ok c w1 e1 σ _ _ rfl E1 q1 fun b e2 w2 E2 l2 q2=>k _ e2 w2 E2 (l1.trans l2) q2
  | false=>exact k _ e1 w1 E1 l1 q1
instance rt_or {K:Frag} {ta tb:TT} {pa pb:PTt} [ha:RT K ta pa] [hb:RT K tb pb]:RT K (tOr ta tb) (pOr pa pb) where
 ok:=by
  rintro c w env σ Qp Q rfl E p k;refine ha.ok c w env σ _ _ rfl E p fun b e1 w1 E1 l1 q1=>?_;cases b with
  | false=>exact hb.ok c w1 e1 σ _ _ rfl E1 q1 fun b e2 w2 E2 l2 q2=>k _ e2 w2 E2 (l1.trans l2) q2
  | true=>exact k _ e1 w1 E1 l1 q1
def C18 (pa:PDt) (env:PEnv) (Q:SV->PEnv->Prop):Prop:=pa env fun x e=>asB x fun b=>Q (.d (.bool (!b))) e
def C2j (pa:PDt) (pb:PX) (env:PEnv) (Q:SV->PEnv->Prop):Prop:=pa env fun x e=>asB x fun b=>if b=true then pb e Q else Q (.d (.bool false)) e
def pOrV (pa:PDt) (pb:PX) (env:PEnv) (Q:SV->PEnv->Prop):Prop:=pa env fun x e=>asB x fun b=>if b=true then Q (.d (.bool true)) e else pb e Q
instance re_notV {K:Frag} {ta:TE} {pa:PDt} [ha:RW K ta pa]:RE K (C0w ta) (C18 pa) where
 ok:=by
  rintro c w env σ Qp Q rfl E p k;refine ha.ok c w env σ _ _ rfl E p fun x dx e1 w1 E1 l1 v1 q1=>?_;unfold asB at q1;split at q1
  ·exact ⟨_,v1.blE,k _ _ e1 w1 ((Res.data E1 (.bl _)).pre l1) q1⟩
  ·exact q1.elim
instance re_andV {K:Frag} {ta tb:TE} {pa:PDt} {pb:PX} [ha:RW K ta pa] [hb:RE K tb pb]:RE K (C00 ta tb) (C2j pa pb) where
 ok:=by
  rintro c w env σ Qp Q rfl E p k;refine ha.ok c w env σ _ _ rfl E p fun x dx e1 w1 E1 l1 v1 q1=>?_;unfold asB at q1;split at q1
  ·rename_i b;refine ⟨_,v1.blE,?_⟩;cases b with
   | true=>exact hb.ok c w1 e1 σ _ _ rfl E1 q1 fun v s e2 w2 R q2=>k _ _ e2 w2 (R.pre l1) q2
   | false=>exact k _ _ e1 w1 ((Res.data E1 (.bl _)).pre l1) q1
  ·exact q1.elim
def pIfE (pt:PTt) (pa pb:PX) (env:PEnv) (Q:SV->PEnv->Prop):Prop:=pt env fun b e=>if b=true then pa e Q else pb e Q
instance re_if {K:Frag} {tt:TT} {ta tb:TE} {pt:PTt} {pa pb:PX} [ht:RT K tt pt] [ha:RE K ta pa] [hb:RE K tb pb]:RE K (tIf tt ta tb) (pIfE pt pa pb) where
 ok:=by
  rintro c w env σ Qp Q rfl E p k;refine ht.ok c w env σ _ _ rfl E p fun b e1 w1 E1 l1 q1=>?_;cases b with
  | true=>exact ha.ok c w1 e1 σ _ _ rfl E1 q1 fun v s e2 w2 R q2=>k _ _ e2 w2 (R.pre l1) q2
  | false=>exact hb.ok c w1 e1 σ _ _ rfl E1 q1 fun v s e2 w2 R q2=>k _ _ e2 w2 (R.pre l1) q2
inductive Md where
 | dat | vw | st | bt
def TV (K:Frag) (w:Wd) (v:V) (t:OT):Prop:=Tre K w t [v]/\∀ a ∈ t.fp,¬ w.M a
theorem Tre.has {K:Frag} {w:Wd}:∀ {t:OT} {vs:List V},Tre K w t vs->∀ a ∈ t.fp,w.H a≠none
 | .leaf _,_,_,_,z=>nomatch z
 | .nd _ p _,_,⟨_,_,h,k⟩,a,z=>(List.mem_cons.mp z).elim (fun e=>by rw [e,h]; simp) (Tre.has k a)
 | .nil,_,_,_,z=>nomatch z
 | .cons _ _,_,⟨_,_,_,h,t⟩,a,z=>(Za z).elim (Tre.has h a) (Tre.has t a)
inductive Args (K:Frag) (w:Wd):List Md->List V->List SV->Prop
 | nil:Args K w [] [] []
 | dat {v:V} {x:PyData} {md:List Md} {vs:List V} {as:List SV}:Den K w.F v x->Args K w md vs as->Args K w (.dat :: md) (v :: vs) (.d x :: as)
 | vw {v:V} {xs:LP} {md:List Md} {vs:List V} {as:List SV}:VV K w v (.list xs)->Args K w md vs as->Args K w (.vw :: md) (v :: vs) (.bor xs :: as)
 | bt {v:V} {t:OT} {md:List Md} {vs:List V} {as:List SV}:TV K w v t->Args K w md vs as->Args K w (.bt :: md) (v :: vs) (.bt t :: as)
 | st {v:V} {md:List Md} {vs:List V} {as:List SV}:(∃ p,v=.ref p/\w.M p)->Args K w md vs as->Args K w (.st :: md) (v :: vs) (.st :: as)
theorem Args.len {K:Frag} {w:Wd}:∀ {md vs as},Args K w md vs as->vs.length=md.length
 | _,_,_,.nil=>rfl
 | _,_,_,.dat _ t=>congrArg (· + 1) (Args.len t)
 | _,_,_,.vw _ t=>congrArg (· + 1) (Args.len t)
 | _,_,_,.st _ t=>congrArg (· + 1) (Args.len t)
 | _,_,_,.bt _ t=>congrArg (· + 1) (Args.len t)
abbrev PSp:=List SV->(SV->Prop)->Prop
def noZ:Addr->Prop:=fun _=>False
def spOf (K:Frag) (md:List Md) (psp:PSp):Sp:=fun vs H Q _=>∃ (w:Wd) (as:List SV) (Qp:SV->Prop),w.H=H/\w.Ok/\Args K w md vs as/\psp as Qp /\
 ∀ v s w',w'.Ok->Le w w'->VR ⟨K,w,noZ⟩ w' v s->s.isRes=true->Qp s->Q v w'.H
theorem spOf.len {K:Frag} {md:List Md} {psp:PSp} {n:Nat} (h:md.length=n):∀ vs H Q E,spOf K md psp vs H Q E->vs.length=n:=by
 rintro vs H Q E ⟨w,as,Qp,_,_,a,_⟩;exact a.len.trans h
class RAm (K:Frag) (md:List Md) (ta:TA) (pa:outParam PAs):Prop where
 ok:∀ (c:Ct) (w:Wd) (env:PEnv) (σ:St) (Qp:List SV->PEnv->Prop) (Q:List V->Hpp->Prop),c.K=K->EnvOk c w env σ->pa env Qp->(∀ vs as env' w',EnvOk c w' env' σ->Lw w w'->Args K w' md vs as->Qp as env'->Q vs w'.H)->ta σ w.H Q
def C2a (env:PEnv) (Q:List SV->PEnv->Prop):Prop:=Q [] env
def B1j (pa:PDt) (pr:PAs) (env:PEnv) (Q:List SV->PEnv->Prop):Prop:=pa env fun x e1=>pr e1 fun as e2=>Q (.d x :: as) e2
def asL (x:PyData) (k:LP->Prop):Prop:=match x with
 | .list xs=>k xs
 | _=>False
def B1i (pa:PDt) (pr:PAs) (env:PEnv) (Q:List SV->PEnv->Prop):Prop:=pa env fun x e1=>asL x fun xs=>pr e1 fun as e2=>Q (.bor xs :: as) e2
def isSt (o:Option (Option SV)) (k:Prop):Prop:=match o with
 | some (some .st)=>k
 | _=>False
def A6l (i:Nat) (pr:PAs) (env:PEnv) (Q:List SV->PEnv->Prop):Prop:=isSt env[i]? (pr env fun as e2=>Q (.st :: as) e2)
instance ram_nil {K:Frag}:RAm K [] tNil C2a:=⟨fun c w env σ Qp Q _ E p k=>k [] [] env w E (Lw.refl w) .nil p⟩
instance ram_dat {K:Frag} {md:List Md} {ta:TE} {tr:TA} {pa:PDt} {pr:PAs} [ha:RD K ta pa] [hr:RAm K md tr pr]:RAm K (.dat :: md) (G4 ta tr) (B1j pa pr) where
 ok:=by
  rintro c w env σ Qp Q rfl E p k;refine ha.ok c w env σ _ _ rfl E p fun x dx e1 w1 E1 l1 v1 q1=>?_;refine hr.ok c w1 e1 σ _ _ rfl E1 q1 fun vs xs e2 w2 E2 l2 v2 q2=>?_;exact k _ _ e2 w2 E2 (l1.trans l2) (.dat (Den.same l2.f v1) v2) q2
instance ram_vw {K:Frag} {md:List Md} {ta:TE} {tr:TA} {pa:PDt} {pr:PAs} [ha:RW K ta pa] [hr:RAm K md tr pr]:RAm K (.vw :: md) (G4 ta tr) (B1i pa pr) where
 ok:=by
  rintro c w env σ Qp Q rfl E p k;refine ha.ok c w env σ _ _ rfl E p fun x dx e1 w1 E1 l1 v1 q1=>?_;unfold asL at q1;split at q1
  ·refine hr.ok c w1 e1 σ _ _ rfl E1 q1 fun vs xs e2 w2 E2 l2 v2 q2=>?_;exact k _ _ e2 w2 E2 (l1.trans l2) (.vw (v1.mono l2) v2) q2
  ·exact q1.elim
instance ram_st {K:Frag} {md:List Md} {i:Nat} {tr:TA} {pr:PAs} [hr:RAm K md tr pr]:RAm K (.st :: md) (G4 (tVar i) tr) (A6l i pr) where
 ok:=by
  rintro c w env σ Qp Q rfl E p k;unfold A6l isSt at p;split at p
  ·rename_i e;obtain ⟨v,h1,h2⟩:=E.at' i _ e;refine ⟨v,h1,?_⟩;refine hr.ok c w env σ _ _ rfl E p fun vs xs e2 w2 E2 l2 v2 q2=>?_;obtain ⟨q,e',hm⟩:=h2;exact k _ _ e2 w2 E2 l2 (.st ⟨q,e',l2.m _ hm⟩ v2) q2
  ·exact p.elim
def C5o (psp:PSp) (pa:PAs) (env:PEnv) (Q:SV->PEnv->Prop):Prop:=pa env fun as e=>psp as fun s=>Q s e
theorem Res.called {c:Ct} {w w':Wd} {env:PEnv} {σ:St} {v:V} {s:SV} (E:EnvOk c w env σ) (ok:w'.Ok) (l:Le w w') (h:VR ⟨c.K,w,noZ⟩ w' v s) (r:s.isRes=true):Res c w env σ w' v s:=by
 refine ⟨E.mono ok l,l.toLw,?_,fun a f=>E.fresh (h.foot f).2.2.2,r⟩;cases s with
 | d x=>exact h
 | own xs=>obtain ⟨a,vs,e,h1,h2,h3,h4,h5⟩:=h; exact ⟨a,vs,e,h1,h2,h3,E.le0.dom _ h4,h5⟩
 | bor xs=>cases r
 | bt t=>cases r
 | al t=>cases r
 | dk ks=>obtain ⟨l',e,h1,h2,h3,h4⟩:=h; exact ⟨l',e,h1,h2,h3,E.le0.dom _ h4⟩
 | st=>exact h
 | tr t=>exact ⟨h.1,fun a f=>⟨(h.2.1 a f).1,(h.2.1 a f).2.1,(h.2.1 a f).2.2.1,E.le0.dom _ (h.2.1 a f).2.2.2⟩,h.2.2⟩
instance re_call {K:Frag} {md:List Md} {psp:PSp} {E0':XK} {ta:TA} {pa:PAs} [ha:RAm K md ta pa]:RE K (A1y (spOf K md psp) [] E0' ta) (C5o psp pa) where
 ok:=by
  rintro c w env σ Qp Q rfl E p k;refine ha.ok c w env σ _ _ rfl E p fun vs as e1 w1 E1 l1 a1 q1=>?_;rw [List.append_nil];exact ⟨w1,as,_,rfl,E1.wok,a1,q1,fun v s w' ok l h r q=>k v s e1 w' ((Res.called E1 ok l h r).pre l1) q⟩
structure PEnds where
 nx:PEnv->Prop
 rt:SV->PEnv->Prop
 bk:PEnv->Prop
 ct:PEnv->Prop
abbrev PSt:=PEnds->PEnv->Prop
structure EndsOk (c:Ct) (w:Wd) (Dp:PEnds) (D:Ends):Prop where
 nx:∀ env σ w',EnvOk c w' env σ->Same w.F w'.F->Dp.nx env->D.nx σ w'.H
 rt:∀ v s env σ w',EnvOk c w' env σ->VR c w' v s->s.isRes=true->Dp.rt s env->D.rt v w'.H
 bk:∀ env σ w',EnvOk c w' env σ->Same w.F w'.F->Dp.bk env->D.bk σ w'.H
 ct:∀ env σ w',EnvOk c w' env σ->Same w.F w'.F->Dp.ct env->D.ct σ w'.H
theorem EndsOk.on {c:Ct} {w w1:Wd} {Dp:PEnds} {D:Ends} (h:EndsOk c w Dp D) (s:Same w.F w1.F):EndsOk c w1 Dp D :=
 ⟨fun e σ w' E s'=>h.nx e σ w' E (s.trans s'),h.rt,fun e σ w' E s'=>h.bk e σ w' E (s.trans s'),fun e σ w' E s'=>h.ct e σ w' E (s.trans s')⟩
class RS (K:Frag) (ts:TS) (ps:outParam PSt):Prop where
 ok:∀ (c:Ct) (w:Wd) (env:PEnv) (σ:St) (Dp:PEnds) (D:Ends),c.K=K->EnvOk c w env σ->EndsOk c w Dp D->ps Dp env->ts D σ w.H
def C2b (D:PEnds) (env:PEnv):Prop:=D.nx env
def B9c (D:PEnds) (env:PEnv):Prop:=D.bk env
def C5j (D:PEnds) (env:PEnv):Prop:=D.ct env
def B0y (_:PEnds) (_:PEnv):Prop:=False
def pSeq (p q:PSt) (D:PEnds) (env:PEnv):Prop:=p { D with nx:=q D } env
instance rs_next {K:Frag}:RS K C0x C2b:=⟨fun c w env σ Dp D _ E h p=>h.nx env σ w E (Same.refl _) p⟩
instance rs_never {K:Frag}:RS K A5v B0y:=⟨fun c w env σ Dp D _ E h p=>p.elim⟩
instance rs_seq {K:Frag} {t u:TS} {p q:PSt} [ht:RS K t p] [hu:RS K u q]:RS K (tSeq t u) (pSeq p q) where
 ok:=by
  rintro c w env σ Dp D rfl E h pr;refine ht.ok c w env σ { Dp with nx:=q Dp } _ rfl E ⟨fun e1 σ1 w1 E1 s1 n1=>?_,h.rt,h.bk,h.ct⟩ pr;exact hu.ok c w1 e1 σ1 Dp D rfl E1 (h.on s1) n1
def C5g (pe:PX) (D:PEnds) (env:PEnv):Prop:=pe env fun _ e=>D.nx e
def pRet (pe:PX) (D:PEnds) (env:PEnv):Prop:=pe env fun s e=>D.rt s e
instance (priority:=low) rs_ret {K:Frag} {te:TE} {pe:PX} [he:RE K te pe]:RS K (tRet te) (pRet pe) where
 ok:=by
  rintro c w env σ Dp D rfl E h p;exact he.ok c w env σ _ _ rfl E p fun v s e1 w1 R q=>h.rt v s e1 σ w1 R.ev R.val R.res q
def C16 (i:Nat) (D:PEnds) (env:PEnv):Prop:=match env[i]? with
 | some (some (.bor _))=>False
 | some (some (.bt _))=>False
 | some (some (.al _))=>False
 | some (some s)=>D.rt s env
 | _=>False
instance rs_retV {K:Frag} {i:Nat}:RS K (tRet (tVar i)) (C16 i) where
 ok:=by
  rintro c w env σ Dp D rfl E h p;unfold C16 at p;split at p
  ·exact p.elim
  ·exact p.elim
  ·exact p.elim
  ·rename_i s hn hn2 hn3 e;obtain ⟨v,h1,h2⟩:=E.at' i _ e;refine ⟨v,h1,h.rt v s env σ w E h2 ?_ p⟩;cases s with
   | bor xs=>exact absurd rfl (hn xs)
   | bt t=>exact absurd rfl (hn2 t)
   | al t=>exact absurd rfl (hn3 t)
   | _=>rfl
  ·exact p.elim
def C41 (D:PEnds) (env:PEnv):Prop:=D.rt (.d .none) env
def pIf (pt:PTt) (p q:PSt) (D:PEnds) (env:PEnv):Prop:=pt env fun b e=>if b=true then p D e else q D e
instance rs_if {K:Frag} {tt:TT} {t u:TS} {pt:PTt} {p q:PSt} [hc:RT K tt pt] [ht:RS K t p] [hu:RS K u q]:RS K (tIfS tt t u) (pIf pt p q) where
 ok:=by
  rintro c w env σ Dp D rfl E h pr;refine hc.ok c w env σ _ _ rfl E pr fun b e1 w1 E1 l1 q1=>?_;cases b with
  | true=>exact ht.ok c w1 e1 σ Dp D rfl E1 (h.on l1.f) q1
  | false=>exact hu.ok c w1 e1 σ Dp D rfl E1 (h.on l1.f) q1
def pAsg (pe:PX) (i:Nat) (D:PEnds) (env:PEnv):Prop:=pe env fun s e=>D.nx (e.set i (some s))
instance rs_asg {K:Frag} {te:TE} {pe:PX} {i:Nat} [he:RE K te pe]:RS K (tAsg te (R0 i)) (pAsg pe i) where
 ok:=by
  rintro c w env σ Dp D rfl E h p;exact he.ok c w env σ _ _ rfl E p fun v s e1 w1 R q=>h.nx _ _ w1 (R.ev.set R.val R.new) R.lw.f q
class RG (K:Frag) (g:TG) (pg:outParam (PyData->PEnv->(PEnv->Prop)->Prop)):Prop where
 ok:∀ (c:Ct) (w:Wd) (env:PEnv) (σ:St) (v:V) (x:PyData) (Qp:PEnv->Prop) (Q:St->Hpp->Prop),c.K=K->EnvOk c w env σ->Den K w.F v x->pg x env Qp->(∀ env' σ',EnvOk c w env' σ'->Qp env'->Q σ' w.H)->g v σ w.H Q
class RGs (K:Frag) (g:TGs) (pg:outParam (LP->PEnv->(PEnv->Prop)->Prop)):Prop where
 ok:∀ (c:Ct) (w:Wd) (env:PEnv) (σ:St) (vs:List V) (xs:LP) (Qp:PEnv->Prop) (Q:St->Hpp->Prop),c.K=K->EnvOk c w env σ->DenAll K w.F vs xs->pg xs env Qp->(∀ env' σ',EnvOk c w env' σ'->Qp env'->Q σ' w.H)->g vs σ w.H Q
def C1c (i:Nat) (x:PyData) (env:PEnv) (Q:PEnv->Prop):Prop:=Q (env.set i (some (.d x)))
instance rg_name {K:Frag} {i:Nat}:RG K (R0 i) (C1c i) where
 ok:=by
  rintro c w env σ v x Qp Q rfl E d p k;exact k _ _ (E.set (s:=.d x) d (fun _ z=>nomatch z)) p
def qNil (xs:LP) (env:PEnv) (Q:PEnv->Prop):Prop:=match xs with
 | []=>Q env
 | _=>False
def C1e (pg:PyData->PEnv->(PEnv->Prop)->Prop) (pr:LP->PEnv->(PEnv->Prop)->Prop) (xs:LP) (env:PEnv) (Q:PEnv->Prop):Prop:=match xs with
 | x :: r=>pg x env fun e=>pr r e Q
 | []=>False
def qTup (n:Nat) (pr:LP->PEnv->(PEnv->Prop)->Prop) (x:PyData) (env:PEnv) (Q:PEnv->Prop):Prop:=match x with
 | .tuple xs=>xs.length=n/\pr xs env Q
 | _=>False
instance rgs_nil {K:Frag}:RGs K gNil qNil where
 ok:=by
  rintro c w env σ vs xs Qp Q rfl E d p k;unfold qNil at p;split at p
  ·cases d; exact ⟨rfl,k env σ E p⟩
  ·exact p.elim
instance rgs_cons {K:Frag} {g:TG} {gs:TGs} {pg:PyData->PEnv->(PEnv->Prop)->Prop} {pr:LP->PEnv->(PEnv->Prop)->Prop} [hg:RG K g pg] [hr:RGs K gs pr]:RGs K (A5b g gs) (C1e pg pr) where
 ok:=by
  rintro c w env σ vs xs Qp Q rfl E d p k;unfold C1e at p;split at p
  ·cases d with
   | cons h t =>
    refine ⟨_,_,rfl,hg.ok c w env σ _ _ _ _ rfl E h p fun e1 σ1 E1 q1=>?_⟩;exact hr.ok c w e1 σ1 _ _ _ _ rfl E1 t q1 k
  ·exact p.elim
instance rg_tup {K:Frag} {n:Nat} {gs:TGs} {pr:LP->PEnv->(PEnv->Prop)->Prop} [hr:RGs K gs pr]:RG K (gTup K n gs) (qTup n pr) where
 ok:=by
  rintro c w env σ v x Qp Q rfl E d p k;unfold qTup at p;split at p
  ·obtain ⟨a,vs,e,h1,h2⟩:=d.tupE;exact ⟨a,vs,e,SqT.same E.wok.sub h1,h2.len.trans p.1,hr.ok c w env σ _ _ _ _ rfl E h2 p.2 k⟩
  ·exact p.elim
def C2i (pd:PDt) (n:Nat) (pr:LP->PEnv->(PEnv->Prop)->Prop) (D:PEnds) (env:PEnv):Prop:=pd env fun x e=>qTup n pr x e D.nx
instance rs_asgT {K:Frag} {te:TE} {pd:PDt} {n:Nat} {gs:TGs} {pr:LP->PEnv->(PEnv->Prop)->Prop} [he:RD K te pd] [hr:RGs K gs pr]:RS K (tAsg te (gTup K n gs)) (C2i pd n pr) where
 ok:=by
  rintro c w env σ Dp D rfl E h p;refine he.ok c w env σ _ _ rfl E p fun v x e1 w1 E1 l1 d1 q1=>?_;exact rg_tup.ok c w1 e1 σ v x _ _ rfl E1 d1 q1 fun e2 σ2 E2 q2=>h.nx e2 σ2 w1 E2 l1.f q2
def pPar (i j:Nat) (pa:PAr) (D:PEnds) (env:PEnv):Prop:=pa env fun xs e=>match xs with
 | [x,y]=>D.nx ((e.set i (some (.d x))).set j (some (.d y)))
 | _=>False
instance rs_par {K:Frag} {ta:TA} {pa:PAr} {i j:Nat} [ha:RAd K ta pa]:RS K (tPar i j ta) (pPar i j pa) where
 ok:=by
  rintro c w env σ Dp D rfl E h p;refine ha.ok c w env σ _ _ rfl E p fun vs xs e1 w1 E1 l1 d1 q1=>?_;split at q1
  ·cases d1 with
   | cons a t=>cases t with
    | cons b t =>
     cases t;exact ⟨_,_,rfl,h.nx _ _ w1 ((E1.set (s:=.d _) a (fun _ z=>nomatch z)).set (s:=.d _) b (fun _ z=>nomatch z)) l1.f q1⟩
  ·exact q1.elim
def N1 (o:Option (Option SV)) (k:LP->Prop):Prop:=match o with
 | some (some (.own xs))=>k xs
 | _=>False
theorem EnvOk.writeAt {c:Ct} {w:Wd} {env:PEnv} {σ:St} {i:Nat} {s s':SV} {l:Addr} {wo:HO} {v:V} (E:EnvOk c w env σ) (e:env[i]?=some (some s)) (hσ:σ[i]?=some (some v)) (hf:s.foot v l) (hf':∀ a,s'.foot v a->s.foot v a)
  (hd:VR c ⟨w.M,upd w.H l wo,w.F⟩ v s'):EnvOk c ⟨w.M,upd w.H l wo,w.F⟩ (env.set i (some s')) σ:=by
 obtain ⟨h1,h2,h3,h4⟩:=(E.look e hσ).foot hf;have ne:∀ b,w.M b->b≠l:=fun b hb z=>h3 (z ▸ hb);have hd':∀ {j:Nat} {t:SV},(env.set i (some s'))[j]?=some (some t)->(i=j/\t=s')\/(i≠j/\env[j]?=some (some t)):=by
  intro j t q;rw [List.getElem?_set] at q;split at q
  ·rename_i z;split at q
   ·cases q; exact .inl ⟨z,rfl⟩
   ·cases q
  ·rename_i z; exact .inr ⟨z,q⟩
 have ft:∀ {j:Nat} {t:SV} {u:V} {a:Addr},(env.set i (some s'))[j]?=some (some t)->σ[j]?=some (some u)->t.foot u a->∃ t',env[j]?=some (some t')/\t'.foot u a:=by
  intro j t u a q qu f;rcases hd' q with ⟨rfl,rfl⟩ | ⟨_,q⟩
  ·rw [hσ] at qu; cases qu; exact ⟨s,e,hf' a f⟩
  ·exact ⟨t,q,f⟩
 refine ⟨⟨fun b o q=>?_,fun p hp=>(E.wok.st p hp).kp (ne p hp) Kp.upd,E.wok.nf⟩,⟨⟨E.le0.f,fun b o q n=>?_,E.le0.m,E.le0.mn,fun b q=>E.le0.dom b (Q1 q)⟩,E.le0.n⟩,by simpa using E.len,fun j t q=>?_,fun j k s1 t1 v1 u1 a q1 q2 q3 q4 f1 f2=>?_,fun a za=>?_,fun a j t u za q q' f=>?_⟩
 ·show upd w.H l wo b=some o;rw [B7 (fun z=>by rw [z,h2] at q; cases q)]; exact E.wok.sub b o q
 ·show upd w.H l wo b=some o;rw [B7 (fun z=>by rw [z,h4] at q; cases q)]; exact E.le0.h b o q n
 ·rcases hd' q with ⟨rfl,rfl⟩ | ⟨z,q⟩
  ·exact ⟨v,hσ,hd⟩
  ·obtain ⟨u,g1,g2⟩:=E.at' j t q;exact ⟨u,g1,g2.writ h1 fun f=>z (E.own i j _ _ _ _ l e q hσ g1 hf f)⟩
 ·obtain ⟨_,p1,g1⟩:=ft q1 q3 f1;obtain ⟨_,p2,g2⟩:=ft q2 q4 f2;exact E.own j k _ _ _ _ a p1 p2 q3 q4 g1 g2
 ·obtain ⟨z1,z2,z3⟩:=E.zf a za;exact ⟨z1,fun q=>z2 (Q1 q),z3⟩
 ·obtain ⟨_,p,g⟩:=ft q q' f;exact E.zo a j _ _ za p q' g
theorem EnvOk.write {c:Ct} {w:Wd} {env:PEnv} {σ:St} {i:Nat} {xs ys:LP} {l:Addr} {vs us:List V} (E:EnvOk c w env σ) (e:env[i]?=some (some (.own xs))) (hσ:σ[i]?=some (some (.ref l))) (h1:w.H l=some (.lst vs)) (h2:w.F l=none) (h3:¬ w.M l) (h4:c.w0.H l=none)
  (hd:DenAll c.K w.F us ys):EnvOk c ⟨w.M,upd w.H l (.lst us),w.F⟩ (env.set i (some (.own ys))) σ :=
 E.writeAt e hσ rfl (fun _ f=>f) ⟨l,us,rfl,B9,h2,h3,h4,hd⟩
def pApp (i:Nat) (pd:PDt) (D:PEnds) (env:PEnv):Prop:=N1 env[i]? fun _=>pd env fun x e=>N1 e[i]? fun xs=>xs.length < 1000000/\D.nx (e.set i (some (.own (xs++[x]))))
theorem A14 {n:Nat} (h:n < 1000000):n < sizeLine:=Nat.lt_of_lt_of_le h (by decide)
instance rs_app {K:Frag} {i:Nat} {te:TE} {pd:PDt} [he:RD K te pd]:RS K (C0y (tBM K "list" A9v (tVar i) (G4 te tNil))) (pApp i pd) where
 ok:=by
  rintro c w env σ Dp D rfl E h p;unfold pApp N1 at p;split at p
  ·rename_i xs0 e0;obtain ⟨v,g0,l,vs,ev,h1,h2,h3,h4,h5⟩:=E.at' i _ e0;subst ev;refine ⟨_,g0,.inl ⟨rfl,_,SqL.of h1⟩,?_⟩;refine he.ok c w env σ _ _ rfl E p fun y x e1 w1 E1 l1 d1 q1=>?_;split at q1
   ·rename_i xs e;obtain ⟨v',g0',l',vs',ev',k1,k2,k3,k4,k5⟩:=E1.at' i _ e;rw [g0] at g0'; cases g0'; cases ev';refine ⟨l,vs',y,rfl,rfl,k1,by rw [k5.len]; exact A14 q1.1,?_⟩;exact h.nx _ σ ⟨w1.M,upd w1.H l (.lst (vs'++[y])),w1.F⟩ (E1.write e g0 k1 k2 k3 k4 (k5.app (.cons d1 .nil))) l1.f q1.2
   ·exact q1.elim
  ·exact p.elim
def B89 (i:Nat) (D:PEnds) (env:PEnv):Prop:=N1 env[i]? fun _=>D.nx (env.set i (some (.own [])))
def C43 (i:Nat) (D:PEnds) (env:PEnv):Prop:=N1 env[i]? fun xs=>0 < xs.length/\D.nx (env.set i (some (.own xs.dropLast)))
end Pu
namespace L2
open PySem PySem.Spec PyProof.Rows
section
variable {X:Cx} {tg:Expr}
def iSq (K:PySem.W.Frag) (tl:TE):TI:=fun σ H R=>tl σ H fun x H1=>(∃ a,x=.ref a/\(∃ xs,SqL K H1 a xs)/\R (Itl K a) H1)\/∃ a,x=.ref a/\(∃ xs,SqT K H1 a xs)/\R (Itt K a) H1
theorem C72 {l:Expr} {tl:TE} (hl:PE X l tl):PI X tg l (iSq X.K tl):=by
 intro pins s σ H R I h;refine thn (hl pins s σ H _ I h) fun v s1 ⟨x,H1,I1,r1,q1⟩=>?_;rcases q1 with ⟨a,e,⟨xs,hq⟩,q⟩ | ⟨a,e,⟨xs,hq⟩,q⟩
 ·subst e;cases r1;obtain ⟨its,rv,p,hz⟩:=I1.list hq;refine wpAny_pyIter_list p.isList ?_;refine ⟨s1.heap.objs.size,[s1.heap.objs.size],_,_,H1,rfl,I1.kept (t':=s1.toks) fun b o e=>Heap.get?_push_of_some _ e,A9e a _,⟨_,Heap.get?_push_size _ rfl,rfl,rfl⟩,fun b hb=>?_,q⟩;have e:b=s1.heap.objs.size:=by simpa using hb
  subst e;exact I1.fpOk (Zv _) (I1.hok.fresh (Zv _))
 ·subst e;cases r1;obtain ⟨its,rv,p,hz⟩:=I1.tuple hq;refine wpAny_pyIter_tuple (show s1.heap.IsTuple a its.toArray from p) ?_;refine ⟨s1.heap.objs.size,[s1.heap.objs.size],_,_,H1,rfl,I1.kept (t':=s1.toks) fun b o e=>Heap.get?_push_of_some _ e,A70 a _,⟨_,Heap.get?_push_size _ rfl,rfl,rfl⟩,fun b hb=>?_,q⟩;have e:b=s1.heap.objs.size:=by simpa using hb
  subst e;exact I1.fpOk (Zv _) (I1.hok.fresh (Zv _))
theorem C4j {K:PySem.W.Frag} {l:Expr} {tl:TE} (h:X.K=K) (hl:PE X l tl):PI X tg l (iSq K tl):=by subst h; exact C72 hl
theorem D5 {K:PySem.W.Frag} (h:X.K=K) (hu:X.A.units + 64 < cLine):OpR X (compareOp .Eq) (rEqD K):=by subst h; exact C5x hu
theorem G5 {K:PySem.W.Frag} (h:X.K=K) (hu:X.A.units + 64 < cLine):OpR X (compareOp .NotEq) (rNeD K):=by subst h; exact C5s hu
theorem M1 {K:PySem.W.Frag} (h:X.K=K):SlR X (rSlL K):=by subst h; exact C03
end
end L2
namespace Pu
open PySem L2 My Prf
def A6b (pt:PTt) (pb:PSt) (D:PEnds) (env:PEnv):Prop:=∃ Inv:Nat->PEnv->Prop,(∃ m,Inv m env)/\∀ m e,Inv m e->pt e fun b e2=>if b=true then pb ⟨fun e3=>∃ m',m' < m/\Inv m' e3,D.rt,D.nx,fun e3=>∃ m',m' < m/\Inv m' e3⟩ e2 else D.nx e2
instance rs_while {K:Frag} {tt:TT} {tb:TS} {pt:PTt} {pb:PSt} [ht:RT K tt pt] [hb:RS K tb pb]:RS K (A9f tt tb) (A6b pt pb) where
 ok:=by
  rintro c w env σ Dp D rfl E h ⟨Inv,⟨m0,i0⟩,step⟩;refine ⟨fun m σ' H'=>∃ e w',w'.H=H'/\EnvOk c w' e σ'/\Same w.F w'.F/\Inv m e,⟨m0,env,w,rfl,E,Same.refl _,i0⟩,?_⟩;rintro m σ1 _ ⟨e1,w1,rfl,E1,s1,i1⟩;refine ht.ok c w1 e1 σ1 _ _ rfl E1 (step m e1 i1) fun b e2 w2 E2 l2 q2=>?_;cases b with
  | true =>
   refine ⟨fun σ' H'=>∃ e w',w'.H=H'/\EnvOk c w' e σ'/\Same w.F w'.F/\∃ m',m' < m/\Inv m' e,fun σ' H' ⟨e,w',e1,E',s',m',hm,i'⟩=>⟨m',hm,e,w',e1,E',s',i'⟩,?_⟩;refine hb.ok c w2 e2 σ1 ⟨fun e3=>∃ m',m' < m/\Inv m' e3,Dp.rt,Dp.nx,fun e3=>∃ m',m' < m/\Inv m' e3⟩ _ rfl E2 ⟨fun e3 σ3 w3 E3 s3 n3=>⟨e3,w3,rfl,E3,s1.trans (l2.f.trans s3),n3⟩,h.rt,fun e3 σ3 w3 E3 s3 n3=>h.nx e3 σ3 w3 E3 (s1.trans (l2.f.trans s3)) n3,fun e3 σ3 w3 E3 s3 n3=>⟨e3,w3,rfl,E3,s1.trans (l2.f.trans s3),n3⟩⟩ q2
  | false=>exact h.nx e2 σ1 w2 E2 (s1.trans l2.f) q2
def Walk (c:Ct) (w1:Wd) (J:It) (xs:LP):Prop :=
 ∀ w',w'.Ok->Le c.w0 w'->Same w1.F w'.F->(∀ i,i < xs.length->J.go i w'.H)/\J.stop xs.length w'.H/\∀ i v H',J.yld i w'.H v H'->i < xs.length->∃ w2 x,w2.H=H'/\w2.Ok/\Le w' w2/\xs[i]?=some x/\Den c.K w2.F v x
class RI (K:Frag) (wi:TI) (pi:outParam PAr):Prop where
 ok:∀ (c:Ct) (w:Wd) (env:PEnv) (σ:St) (Qp:LP->PEnv->Prop) (R:It->Hpp->Prop),c.K=K->EnvOk c w env σ->pi env Qp->(∀ J xs env' w',EnvOk c w' env' σ->Lw w w'->Walk c w' J xs->Qp xs env'->R J w'.H)->wi σ w.H R
theorem N4 {c:Ct} {w1:Wd} {a:Addr} {vs:List V} {xs:LP} (d:DenAll c.K w1.F vs xs) (h:∀ w',w'.Ok->Le c.w0 w'->Same w1.F w'.F->SqL c.K w'.H a vs):Walk c w1 (Itl c.K a) xs:=by
 intro w' ok l s;have q:=h w' ok l s;have hl:=d.len;refine ⟨fun i hi=>⟨vs,vs[i]'(by omega),q,Zg _⟩,⟨vs,q,by omega⟩,fun i v H' y hi=>?_⟩;obtain ⟨e,y⟩:=y;obtain ⟨x,g1,g2⟩:=d.get (y vs q);exact ⟨w',x,e.symm,ok,Le.refl w',g1,Den.same s g2⟩
theorem A5n {c:Ct} {w1:Wd} {a:Addr} {vs:List V} {xs:LP} (d:DenAll c.K w1.F vs xs) (h:∀ w',w'.Ok->Le c.w0 w'->Same w1.F w'.F->SqT c.K w'.H a vs):Walk c w1 (Itt c.K a) xs:=by
 intro w' ok l s;have q:=h w' ok l s;have hl:=d.len;refine ⟨fun i hi=>⟨vs,vs[i]'(by omega),q,Zg _⟩,⟨vs,q,by omega⟩,fun i v H' y hi=>?_⟩;obtain ⟨e,y⟩:=y;obtain ⟨x,g1,g2⟩:=d.get (y vs q);exact ⟨w',x,e.symm,ok,Le.refl w',g1,Den.same s g2⟩
def U6 (x:PyData) (k:LP->Prop):Prop:=match x with
 | .list xs=>k xs
 | .tuple xs=>k xs
 | _=>False
def C2e (pd:PDt) (env:PEnv) (Q:LP->PEnv->Prop):Prop:=pd env fun x e=>U6 x fun xs=>Q xs e
instance (priority:=low) ri_sq {K:Frag} {tl:TE} {pd:PDt} [hl:RD K tl pd]:RI K (iSq K tl) (C2e pd) where
 ok:=by
  rintro c w env σ Qp R rfl E p k;refine hl.ok c w env σ _ _ rfl E p fun v x e1 w1 E1 l1 d1 q1=>?_;unfold U6 at q1;split at q1
  ·obtain ⟨a,vs,e,h1,h2⟩:=d1.lstE;exact .inl ⟨a,e,⟨vs,E1.wok.sub.seq h1⟩,k _ _ e1 w1 E1 l1 (N4 h2 fun w' ok l s=>(s.trans ok.sub).seq h1) q1⟩
  ·obtain ⟨a,vs,e,h1,h2⟩:=d1.tupE;exact .inr ⟨a,e,⟨vs,SqT.same E1.wok.sub h1⟩,k _ _ e1 w1 E1 l1 (A5n h2 fun w' ok l s=>SqT.same (s.trans ok.sub) h1) q1⟩
  ·exact q1.elim
def B1c (i:Nat) (env:PEnv) (Q:LP->PEnv->Prop):Prop:=match env[i]? with
 | some (some (.d x))=>U6 x fun xs=>Q xs env
 | some (some (.own xs))=>Q xs (env.set i (some (.d (.list xs))))
 | some (some (.bor xs))=>Q xs env
 | _=>False
instance ri_var {K:Frag} {i:Nat}:RI K (iSq K (tVar i)) (B1c i) where
 ok:=by
  rintro c w env σ Qp R rfl E p k;unfold B1c at p;split at p
  ·rename_i x e;obtain ⟨v,h1,h2⟩:=E.at' i _ e;refine ⟨v,h1,?_⟩;unfold U6 at p;split at p
   ·obtain ⟨a,vs,e,g1,g2⟩:=Den.lstE h2;exact .inl ⟨a,e,⟨vs,E.wok.sub.seq g1⟩,k _ _ env w E (Lw.refl w) (N4 g2 fun w' ok l s=>(s.trans ok.sub).seq g1) p⟩
   ·obtain ⟨a,vs,e,g1,g2⟩:=Den.tupE h2;exact .inr ⟨a,e,⟨vs,SqT.same E.wok.sub g1⟩,k _ _ env w E (Lw.refl w) (A5n g2 fun w' ok l s=>SqT.same (s.trans ok.sub) g1) p⟩
   ·exact p.elim
  ·rename_i xs e;obtain ⟨w',v,e',hv,E',l,d⟩:=E.frz e;refine ⟨v,hv,?_⟩;obtain ⟨a,vs,e,g1,g2⟩:=d.lstE;have:=k _ _ _ w' E' l (N4 g2 fun w' ok l s=>(s.trans ok.sub).seq g1) p;rw [e'] at this;exact .inl ⟨a,e,⟨vs,by rw [<- e']; exact E'.wok.sub.seq g1⟩,this⟩
  ·rename_i xs e;obtain ⟨v,h1,h2⟩:=E.at' i _ e;refine ⟨v,h1,?_⟩;rcases h2 with h2 | ⟨l,vs,ev,g1,g2,g3⟩
   ·obtain ⟨a,vs,e,g1,g2⟩:=Den.lstE h2;exact .inl ⟨a,e,⟨vs,E.wok.sub.seq g1⟩,k _ _ env w E (Lw.refl w) (N4 g2 fun w' ok l s=>(s.trans ok.sub).seq g1) p⟩
   ·exact .inl ⟨l,ev,⟨vs,SqL.of (E.le0.h _ _ g1 g2)⟩,k _ _ env w E (Lw.refl w) (N4 g3 fun w' ok l' s=>SqL.of (l'.h _ _ g1 g2)) p⟩
  ·exact p.elim
def rngD (lo:Int) (n:Nat):LP:=(List.range n).map fun k:Nat=>PyData.int (lo + (k:Int))
theorem V1 (lo:Int) (n:Nat):(rngD lo n).length=n:=by simp [rngD]
theorem B5n {lo:Int} {n i:Nat} {x:PyData} (h:(rngD lo n)[i]?=some x):i < n/\x=.int (lo + (i:Int)):=by
 unfold rngD at h;rw [Zh] at h;by_cases hi:i < n
 ·rw [List.getElem?_range hi] at h; cases h; exact ⟨hi,rfl⟩
 ·rw [List.getElem?_eq_none (by simpa using hi)] at h; cases h
theorem A5o {c:Ct} {w1:Wd} {lo:Int} {n:Nat}:Walk c w1 (Itr lo n) (rngD lo n):=by
 intro w' ok l s;refine ⟨fun i hi=>by rw [V1] at hi; exact hi,by rw [V1]; exact Zv _,fun i v H' y hi=>?_⟩;obtain ⟨e,y⟩:=y;subst y;rw [V1] at hi;refine ⟨w',.int (lo + i),e.symm,ok,Le.refl w',?_,.int _⟩;unfold rngD;rw [Zh,List.getElem?_range hi]; rfl
def C40 (pa:PAr) (env:PEnv) (Q:LP->PEnv->Prop):Prop:=pa env fun xs e=>match xs with
 | [.int j]=>(-(2 ^ 62)<=j/\j < 2 ^ 62)/\Q (rngD 0 j.toNat) e
 | _=>False
def C4z (pa:PAr) (env:PEnv) (Q:LP->PEnv->Prop):Prop:=pa env fun xs e=>match xs with
 | [.int i,.int j]=>(-(2 ^ 62)<=i/\i < 2 ^ 62/\-(2 ^ 62)<=j/\j < 2 ^ 62)/\Q (rngD i (j - i).toNat) e
 | _=>False
instance ri_rng1 {K:Frag} {ta:TA} {pa:PAr} [ha:RAv K ta pa]:RI K (C2z ta) (C40 pa) where
 ok:=by
  rintro c w env σ Qp R rfl E p k;refine ha.ok c w env σ _ _ rfl E p fun vs xs e1 w1 E1 l1 v1 q1=>?_;split at q1
  ·cases v1 with | cons h t=>cases t; exact ⟨_,by rw [h.intE],q1.1.1,q1.1.2,k _ _ e1 w1 E1 l1 A5o q1.2⟩
  ·exact q1.elim
instance ri_rng2 {K:Frag} {ta:TA} {pa:PAr} [ha:RAv K ta pa]:RI K (C2y ta) (C4z pa) where
 ok:=by
  rintro c w env σ Qp R rfl E p k;refine ha.ok c w env σ _ _ rfl E p fun vs xs e1 w1 E1 l1 v1 q1=>?_;split at q1
  ·cases v1 with | cons h t=>cases t with | cons h' t=>cases t; exact ⟨_,_,by rw [h.intE,h'.intE],q1.1,k _ _ e1 w1 E1 l1 A5o q1.2⟩
  ·exact q1.elim
def A6k (xs:LP) (pg:PyData->PEnv->(PEnv->Prop)->Prop) (pb:PSt) (D:PEnds) (env:PEnv):Prop :=
 ∃ Inv:Nat->PEnv->Prop,Inv 0 env/\(∀ i x e,xs[i]?=some x->Inv i e->pg x e fun e2=>pb ⟨Inv (i + 1),D.rt,D.nx,Inv (i + 1)⟩ e2)/\∀ e,Inv xs.length e->D.nx e
def pFor (pi:PAr) (pg:PyData->PEnv->(PEnv->Prop)->Prop) (pb:PSt) (D:PEnds) (env:PEnv):Prop:=pi env fun xs e=>A6k xs pg pb D e
instance rs_for {K:Frag} {wi:TI} {g:TG} {tb:TS} {pi:PAr} {pg:PyData->PEnv->(PEnv->Prop)->Prop} {pb:PSt} [hi:RI K wi pi] [hg:RG K g pg] [hb:RS K tb pb]:RS K (tFor wi g tb) (pFor pi pg pb) where
 ok:=by
  rintro c w env σ Dp D rfl E h p;refine hi.ok c w env σ _ _ rfl E p fun J xs e1 w1 E1 l1 wk ⟨Iv,i0,step,fin⟩=>?_;refine ⟨fun i m σ' H'=>m=xs.length - i/\i<=xs.length/\∃ e w',w'.H=H'/\EnvOk c w' e σ'/\Same w1.F w'.F/\Iv i e,⟨xs.length,rfl,Nat.zero_le _,e1,w1,rfl,E1,Same.refl _,i0⟩,?_⟩;rintro i m σ2 _ ⟨rfl,hle,e2,w2,rfl,E2,s2,i2⟩;obtain ⟨go,stop,yld⟩:=wk w2 E2.wok E2.le0 s2;by_cases hlt:i < xs.length
  ·refine .inr ⟨go i hlt,fun σ' H'=>i + 1<=xs.length/\∃ e w',w'.H=H'/\EnvOk c w' e σ'/\Same w1.F w'.F/\Iv (i + 1) e,fun σ' H' ⟨q0,q⟩=>⟨xs.length - (i + 1),by omega,rfl,q0,q⟩,fun v H' y=>?_⟩;obtain ⟨w2',x,rfl,ok2,le2,hx,dx⟩:=yld i v H' y hlt;replace E2:=E2.mono ok2 le2;replace s2:=s2.trans le2.f;clear yld go stop y le2 ok2;generalize w2'=w2 at E2 s2 dx;refine hg.ok c w2 e2 σ2 v x _ _ rfl E2 dx (step i x e2 hx i2) fun e3 σ3 E3 q3=>?_;refine hb.ok c w2 e3 σ3 ⟨Iv (i + 1),Dp.rt,Dp.nx,Iv (i + 1)⟩ _ rfl E3 ⟨fun e4 σ4 w4 E4 s4 n4=>⟨hlt,e4,w4,rfl,E4,s2.trans s4,n4⟩,h.rt,fun e4 σ4 w4 E4 s4 n4=>h.nx e4 σ4 w4 E4 (l1.f.trans (s2.trans s4)) n4,fun e4 σ4 w4 E4 s4 n4=>⟨hlt,e4,w4,rfl,E4,s2.trans s4,n4⟩⟩ q3
  ·have e:i=xs.length:=by omega
   subst e;exact .inl ⟨stop,h.nx e2 σ2 w2 E2 (l1.f.trans s2) (fin e2 i2)⟩
theorem A5c {lo:Int} {n:Nat} {pg:PyData->PEnv->(PEnv->Prop)->Prop} {pb:PSt} {D:PEnds} {env:PEnv} (Inv:Nat->PEnv->Prop) (h0:Inv 0 env)
  (hs:∀ (i:Nat) e,i < n->Inv i e->pg (.int (lo + (i:Int))) e fun e2=>pb ⟨Inv (i + 1),D.rt,D.nx,Inv (i + 1)⟩ e2) (hd:∀ e,Inv n e->D.nx e):A6k (rngD lo n) pg pb D env :=
 ⟨Inv,h0,fun i x e hx hi=>by obtain ⟨h1,rfl⟩:=B5n hx; exact hs i e h1 hi,fun e h=>hd e (by rwa [V1] at h)⟩
def SV.lent:SV->Option SV
 | .own xs=>some (.bor xs)
 | .tr _=>none
 | .bt _=>none
 | .dk _=>none
 | s=>some s
def F6 (cap:List (Option Nat)) (env:PEnv):PEnv:=cap.map fun o=>o.bind fun j=>(env[j]?).join.bind SV.lent
theorem EnvOk.writeZ {c:Ct} {w:Wd} {env:PEnv} {σ:St} {l:Addr} {us:List V} (E:EnvOk c w env σ) (z:c.Z l) (h4:c.w0.H l=none):EnvOk c ⟨w.M,upd w.H l (.lst us),w.F⟩ env σ:=by
 obtain ⟨h2,h1,h3⟩:=E.zf l z;have ne:∀ b,w.M b->b≠l:=fun b hb z=>h3 (z ▸ hb);refine ⟨⟨fun b o q=>?_,fun p hp=>(E.wok.st p hp).kp (ne p hp) Kp.upd,E.wok.nf⟩,⟨⟨E.le0.f,fun b o q n=>?_,E.le0.m,E.le0.mn,fun b q=>E.le0.dom b (Q1 q)⟩,E.le0.n⟩,E.len,fun j s q=>?_,E.own,fun a za=>?_,E.zo⟩
 ·show upd w.H l (.lst us) b=some o;rw [B7 (fun z=>by rw [z,h2] at q; cases q)]; exact E.wok.sub b o q
 ·show upd w.H l (.lst us) b=some o;rw [B7 (fun z=>by rw [z,h4] at q; cases q)]; exact E.le0.h b o q n
 ·obtain ⟨v,g1,g2⟩:=E.at' j s q;exact ⟨v,g1,g2.writ h1 (E.zo l j s v z q g1)⟩
 ·obtain ⟨z1,z2,z3⟩:=E.zf a za;exact ⟨z1,fun q=>z2 (Q1 q),z3⟩
theorem EnvOk.cap {c:Ct} {w:Wd} {env:PEnv} {σ:St} {D:Addr} (cap:List (Option Nat)) (E:EnvOk c w env σ) (hD:w.H D=none):EnvOk ⟨c.K,w,fun a=>a=D⟩ (w.lay D (.lst [])) (F6 cap env) (capσ cap σ):=by
 have nown:∀ (i:Nat) s v a,(F6 cap env)[i]?=some (some s)->¬ s.foot v a:=fun i s0 v a q f=>by
  unfold F6 at q;rw [Zh] at q;cases hc:cap[i]? with
  | none=>rw [hc] at q; cases q
  | some o =>
   rw [hc] at q;cases o with
   | none=>cases q
   | some j =>
    have q':((env[j]?).join.bind SV.lent)=some s0:=Zj q;cases hj:(env[j]?).join with
    | none=>rw [hj] at q'; cases q'
    | some s=>rw [hj] at q'; cases s <;> cases q' <;> exact f
 refine ⟨Wd.lay_ok E.wok hD,Wd.lay_le hD,by simp [F6,capσ],fun i s q=>?_,fun i j s t v u a q _ _ _ f=>absurd f (nown i s v a q),fun a za=>?_,fun a j t u _ q _=>nown j t u a q⟩
 ·unfold F6 at q;unfold capσ;rw [Zh] at q ⊢;cases hc:cap[i]? with
  | none=>rw [hc] at q; cases q
  | some o =>
   rw [hc] at q;cases o with
   | none=>cases q
   | some j =>
    have q':((env[j]?).join.bind SV.lent)=some s:=Zj q;cases hj:env[j]? with
    | none=>rw [hj] at q'; cases q'
    | some t =>
     rw [hj] at q';cases t with
     | none=>cases q'
     | some s0 =>
      have q2:s0.lent=some s:=q';obtain ⟨v,h1,h2⟩:=E.at' j s0 hj;refine ⟨v,by simp [h1],?_⟩;cases s0 with
      | d x=>cases q2; exact h2
      | own xs=>cases q2; obtain ⟨l,vs,e,g1,g2,g3,g4,g5⟩:=h2; exact .inr ⟨l,vs,e,g1,g3,g5⟩
      | bor xs =>
       cases q2;rcases h2.vv E.le0 with g | ⟨l,vs,ys,e,e',g1,g2,g3⟩
       ·exact .inl g
       ·cases e'; exact .inr ⟨l,vs,e,g1,g2,g3⟩
      | st=>cases q2; exact h2
      | tr t=>cases q2
      | bt t=>cases q2
      | al t=>cases q2; exact h2
      | dk t=>cases q2
 ·have e:a=D:=za;subst e;exact ⟨E.wok.fnone hD,by show upd w.H a (.lst []) a≠none; rw [B9]; simp,fun z=>E.wok.mne hD z rfl⟩
theorem Walk.up {c:Ct} {w:Wd} {J:It} {xs:LP} (h:Walk c w J xs) (l:Le c.w0 w):Walk ⟨c.K,w,c.Z⟩ w J xs:=fun w' ok l' s=>h w' ok (l.trans l') s
def N9 (xs:LP) (pg:PyData->PEnv->(PEnv->Prop)->Prop) (pt:PTt) (pd:PDt) (e0:PEnv) (Fin:LP->Prop):Prop :=
 ∃ Pv:Nat->PEnv->LP->Prop,Pv 0 e0 []/\(∀ i x e ys,xs[i]?=some x->Pv i e ys->pg x e fun e2=>pt e2 fun b e3=>if b=true then pd e3 fun y e4=>Pv (i + 1) e4 (ys++[y]) else Pv (i + 1) e3 ys)/\∀ e ys,Pv xs.length e ys->Fin ys
theorem B4m {K:Frag} {g:TG} {tt:TT} {te:TE} {pg:PyData->PEnv->(PEnv->Prop)->Prop} {pt:PTt} {pd:PDt} [hg:RG K g pg] [ht:RT K tt pt] [he:RD K te pd] {c:Ct} {w:Wd} {env:PEnv} {σ:St} {J:It} {xs:LP} {cap:List (Option Nat)} {D:Addr} {Fp:LP->Prop} {Fin:Hpp->Prop}
  (hK:c.K=K) (E:EnvOk c w env σ) (wk:Walk ⟨c.K,w,c.Z⟩ w J xs) (hn:xs.length < 1000000) (p:N9 xs pg pt pd (F6 cap env) Fp) (hD:w.H D=none) (k:∀ w' ys,Res c w env σ w' (.ref D) (.own ys)->Fp ys->Fin w'.H):A3p J g tt te D Fin (capσ cap σ) w.H:=by
 subst hK;obtain ⟨Pv,p0,step,fin⟩:=p;have hw0:c.w0.H D=none:=E.le0.dom D hD;refine ⟨fun i m σ' H' vs=>m=xs.length - i/\i<=xs.length/\∃ e w' ys,w'.H=H'/\EnvOk ⟨c.K,w,fun a=>a=D⟩ w' e σ'/\w'.H D=some (.lst vs)/\vs.length<=i/\DenAll c.K w'.F vs ys/\Pv i e ys,
  ⟨xs.length,rfl,Nat.zero_le _,F6 cap env,w.lay D (.lst []),[],rfl,E.cap cap hD,B9,Zv _,.nil,p0⟩,?_⟩
 rintro i m σ1 _ vs ⟨rfl,hle,e1,w1,ys,rfl,E1,h1,hvl,d1,q1⟩;refine ⟨h1,A14 (by omega),?_⟩;obtain ⟨go,stop,yld⟩:=wk w1 E1.wok E1.le0 E1.le0.f;by_cases hlt:i < xs.length
 ·refine .inr ⟨go i hlt,fun v H' y=>?_⟩;obtain ⟨w1',x,rfl,ok1',le1,hx,dx⟩:=yld i v H' y hlt;replace h1:=le1.h _ _ h1 (E1.zf D rfl).2.2;replace E1:=E1.mono ok1' le1;replace d1:=DenAll.same le1.f d1;clear yld go stop y le1 ok1';generalize w1'=w1 at E1 h1 d1 dx;refine hg.ok ⟨c.K,w,fun a=>a=D⟩ w1 e1 σ1 v x _ _ rfl E1 dx (step i x e1 ys hx q1) fun e2 σ2 E2 q2=>?_;refine ht.ok ⟨c.K,w,fun a=>a=D⟩ w1 e2 σ2 _ _ rfl E2 q2 fun b e3 w3 E3 l3 q3=>?_;have nm:=(E2.zf D rfl).2.2;have h3:=l3.h _ _ h1 nm;cases b with
  | true =>
   refine he.ok ⟨c.K,w,fun a=>a=D⟩ w3 e3 σ2 _ _ rfl E3 q3 fun y' y e4 w4 E4 l4 d4 q4=>?_;have h4:=l4.h _ _ h3 (E3.zf D rfl).2.2;refine ⟨vs,h4,A14 (by omega),xs.length - (i + 1),by omega,rfl,hlt,e4,⟨w4.M,upd w4.H D (.lst (vs++[y'])),w4.F⟩,ys++[y],rfl,E4.writeZ rfl hD,B9,by rw [Ze]; simp; exact hvl,(DenAll.same (l3.f.trans l4.f) d1).app (.cons d4 .nil),q4⟩
  | false =>
   exact ⟨xs.length - (i + 1),by omega,rfl,hlt,e3,w3,ys,rfl,E3,h3,by omega,DenAll.same l3.f d1,q3⟩
 ·have e:i=xs.length:=by omega
  subst e;obtain ⟨z1,z2,z3⟩:=E1.zf D rfl;refine .inl ⟨stop,k w1 ys ⟨E.mono E1.wok E1.le0,E1.le0.toLw,⟨D,vs,rfl,h1,z1,z3,hw0,d1⟩,fun a f=>?_,rfl⟩ (fin e1 ys q1)⟩;have:V.ref D=.ref a:=f;cases this;exact E.fresh hD
def C5k (pi:PAr) (pg:PyData->PEnv->(PEnv->Prop)->Prop) (pt:PTt) (pd:PDt) (cap:List (Option Nat)) (env:PEnv) (Q:SV->PEnv->Prop):Prop:=pi env fun xs e=>xs.length < 1000000/\N9 xs pg pt pd (F6 cap e) fun ys=>Q (.own ys) e
instance re_comp {K:Frag} {wi:TI} {g:TG} {tt:TT} {te:TE} {cap:List (Option Nat)} {pi:PAr} {pg:PyData->PEnv->(PEnv->Prop)->Prop} {pt:PTt} {pd:PDt} [hi:RI K wi pi] [hg:RG K g pg] [ht:RT K tt pt] [he:RD K te pd]:RE K (C0z wi g tt te cap) (C5k pi pg pt pd cap) where
 ok:=by
  rintro c w env σ Qp Q rfl E p k;refine hi.ok c w env σ _ _ rfl E p fun J xs e1 w1 E1 l1 wk ⟨hn,q⟩ D hD=>?_;exact B4m (pg:=pg) (pt:=pt) (pd:=pd) rfl E1 (wk.up E1.le0) hn q hD fun w' ys R q'=>k _ _ e1 w' (R.pre l1) q'
def A6c (pi:PAr) (pg:PyData->PEnv->(PEnv->Prop)->Prop) (pt:PTt) (pd:PDt) (cap:List (Option Nat)) (i:Nat) (D:PEnds) (env:PEnv):Prop:=pi env fun xs e=>xs.length < 1000000/\N9 xs pg pt pd (F6 cap e) fun ys=>D.nx (e.set i (some (.own ys)))
instance rs_setComp {K:Frag} {wi:TI} {g:TG} {tt:TT} {te:TE} {cap:List (Option Nat)} {i:Nat} {pi:PAr} {pg:PyData->PEnv->(PEnv->Prop)->Prop} {pt:PTt} {pd:PDt} [hi:RI K wi pi] [hg:RG K g pg] [ht:RT K tt pt] [he:RD K te pd]:RS K (R8 wi g tt te cap i) (A6c pi pg pt pd cap i) where
 ok:=by
  rintro c w env σ Dp D rfl E h p;refine hi.ok c w env σ _ _ rfl E p fun J xs e1 w1 E1 l1 wk ⟨hn,q⟩ l hl=>?_;exact B4m (pg:=pg) (pt:=pt) (pd:=pd) rfl E1 (wk.up E1.le0) hn q hl fun w' ys R q'=>h.nx _ _ w' (R.ev.set R.val R.new) (l1.f.trans R.lw.f) q'
class RP (K:Frag) (to:TO) (po:outParam (PEnv->(Option Int->PEnv->Prop)->Prop)):Prop where
 ok:∀ (c:Ct) (w:Wd) (env:PEnv) (σ:St) (Qp:Option Int->PEnv->Prop) (Q:Option Int->Hpp->Prop),c.K=K->EnvOk c w env σ->po env Qp->(∀ o env' w',EnvOk c w' env' σ->Lw w w'->Qp o env'->Q o w'.H)->to σ w.H Q
def A4x (env:PEnv) (Q:Option Int->PEnv->Prop):Prop:=Q none env
def asI (x:PyData) (k:Int->Prop):Prop:=match x with
 | .int i=>k i
 | _=>False
def C17 (pa:PDt) (env:PEnv) (Q:Option Int->PEnv->Prop):Prop:=pa env fun x e=>asI x fun i=>Q (some i) e
instance rp_no {K:Frag}:RP K A4g A4x:=⟨fun c w env σ Qp Q _ E p k=>k none env w E (Lw.refl w) p⟩
instance rp_part {K:Frag} {te:TE} {pa:PDt} [ha:RW K te pa]:RP K (C0v te) (C17 pa) where
 ok:=by
  rintro c w env σ Qp Q rfl E p k;refine ha.ok c w env σ _ _ rfl E p fun x dx e1 w1 E1 l1 v1 q1=>?_;unfold asI at q1;split at q1
  ·exact ⟨_,v1.intE,k _ e1 w1 E1 l1 q1⟩
  ·exact q1.elim
def cutD (xs:LP) (lo hi:Option Int):LP:=(xs.drop (HT.sIx xs.length 0 lo)).take (HT.sIx xs.length xs.length hi - HT.sIx xs.length 0 lo)
def pSlL (pa:PDt) (pl ph:PEnv->(Option Int->PEnv->Prop)->Prop) (env:PEnv) (Q:SV->PEnv->Prop):Prop:=pa env fun x e=>asL x fun xs=>pl e fun lo e1=>ph e1 fun hi e2=>Q (.own (cutD xs lo hi)) e2
instance re_sl {K:Frag} {te:TE} {tl th:TO} {pa:PDt} {pl ph:PEnv->(Option Int->PEnv->Prop)->Prop} [ha:RW K te pa] [hl:RP K tl pl] [hh:RP K th ph]:RE K (tSl (rSlL K) te tl th) (pSlL pa pl ph) where
 ok:=by
  rintro c w env σ Qp Q rfl E p k;refine ha.ok c w env σ _ _ rfl E p fun x dx e1 w1 E1 l1 v1 q1=>?_;unfold asL at q1;split at q1
  ·rename_i xs;refine hl.ok c w1 e1 σ _ _ rfl E1 q1 fun lo e2 w2 E2 l2 q2=>?_;refine hh.ok c w2 e2 σ _ _ rfl E2 q2 fun hi e3 w3 E3 l3 q3=>?_;obtain ⟨a,vs,e,g1,g2⟩:=((v1.mono l2).mono l3).lst E3.wok;refine ⟨a,vs,e,g1,fun p hp=>k _ _ e3 _ ((Res.lst E3 hp (xs:=cutD xs lo hi) ?_).pre (l1.trans (l2.trans l3))) q3⟩;unfold cutV cutD;rw [g2.len];exact (g2.drop _).take _
  ·exact q1.elim
def pRev (pa pb:PDt) (env:PEnv) (Q:SV->PEnv->Prop):Prop:=pa env fun x e=>asL x fun xs=>pb e fun k e2=>k=.int (-1)/\Q (.own xs.reverse) e2
instance re_rev {K:Frag} {te ts:TE} {pa pb:PDt} [ha:RW K te pa] [hb:RW K ts pb]:RE K (tRev K te ts) (pRev pa pb) where
 ok:=by
  rintro c w env σ Qp Q rfl E p k;refine ha.ok c w env σ _ _ rfl E p fun x dx e1 w1 E1 l1 v1 q1=>?_;unfold asL at q1;split at q1
  ·refine hb.ok c w1 e1 σ _ _ rfl E1 q1 fun y dy e2 w2 E2 l2 v2 ⟨ey,q2⟩=>?_;subst ey;obtain ⟨a,vs,e,g1,g2⟩:=(v1.mono l2).lst E2.wok;exact ⟨v2.intE,a,vs,e,g1,fun p hp=>k _ _ e2 _ ((Res.lst E2 hp g2.rev).pre (l1.trans l2)) q2⟩
  ·exact q1.elim
theorem L5 {K:Frag} {w:Wd}:∀ {md:List Md} {vs:List V} {as:List SV},Args K w md vs as->as.length=vs.length/\∀ (i:Nat) s,as[i]?=some s->(∃ v,vs[i]?=some v/\VR ⟨K,w,noZ⟩ w v s)/\∀ u a,¬ s.foot u a
 | _,_,_,.nil=>⟨rfl,fun i s h=>by simp at h⟩
 | _,_,_,.dat h t=>⟨by simp [(L5 t).1],fun i s e=>match i,e with
  | 0,e=>by simp at e; subst e; exact ⟨⟨_,rfl,h⟩,fun _ _ z=>z⟩
  | i + 1,e=>by simpa using (L5 t).2 i s (by simpa using e)⟩
 | _,_,_,.vw h t=>⟨by simp [(L5 t).1],fun i s e=>match i,e with
  | 0,e=>by
   simp at e; subst e;refine ⟨⟨_,rfl,?_⟩,fun _ _ z=>z⟩;rcases h with h | ⟨l,vs,ys,e1,e2,h1,h2,h3⟩
   ·exact .inl h
   ·cases e2; exact .inr ⟨l,vs,e1,h1,h2,h3⟩
  | i + 1,e=>by simpa using (L5 t).2 i s (by simpa using e)⟩
 | _,_,_,.bt h t=>⟨by simp [(L5 t).1],fun i s e=>match i,e with
  | 0,e=>by simp at e; subst e; exact ⟨⟨_,rfl,h⟩,fun _ _ z=>z⟩
  | i + 1,e=>by simpa using (L5 t).2 i s (by simpa using e)⟩
 | _,_,_,.st h t=>⟨by simp [(L5 t).1],fun i s e=>match i,e with
  | 0,e=>by simp at e; subst e; exact ⟨⟨_,rfl,h⟩,fun _ _ z=>z⟩
  | i + 1,e=>by simpa using (L5 t).2 i s (by simpa using e)⟩
theorem F2 {K:Frag} {ts:TS} {ps:PSt} [hs:RS K ts ps] {md:List Md} {psp:PSp} {vs:List V} {H:Hpp} {Q:VK} {E:XK} {N:List Str} (h:spOf K md psp vs H Q E)
  (hb:∀ as Qp,psp as Qp->ps ⟨fun _=>Qp (.d .none),fun s _=>Qp s,fun _=>False,fun _=>False⟩ (as.map some++List.replicate (N.length - md.length) none)):ts { nx:=fun _ H'=>Q .non H',rt:=Q } (L2.start N vs) H:=by
 obtain ⟨w,as,Qp,rfl,ok,a,p,k⟩:=h;obtain ⟨hl,hat⟩:=L5 a;have look:∀ (i:Nat) s,(as.map some++List.replicate (N.length - md.length) none)[i]?=some (some s)->as[i]?=some s:=fun i s e=>by
  rw [List.getElem?_append] at e;split at e
  ·rw [Zh] at e;cases q:as[i]? with
   | none=>rw [q] at e; cases e
   | some t=>rw [q] at e; cases e; rfl
  ·rw [List.getElem?_replicate] at e;split at e <;> cases e
 refine hs.ok ⟨K,w,noZ⟩ w (as.map some++List.replicate (N.length - md.length) none) (L2.start N vs) _ _ rfl ⟨ok,Le.refl w,by simp [L2.start,hl,a.len],fun i s e=>?_,fun i j s t v u a e _ _ _ f=>absurd f ((hat i _ (look i _ e)).2 v a),fun a z=>z.elim,fun a j t u z=>z.elim⟩ ⟨fun env σ w' E' _ q=>?_,fun v s _ _ w' E' h r q=>k v s w' E'.wok E'.le0 h r q,fun _ _ _ _ _ z=>z,fun _ _ _ _ _ z=>z⟩ (hb as Qp p)
 ·obtain ⟨⟨v,h1,h2⟩,_⟩:=hat i s (look i s e);refine ⟨v,?_,h2⟩;unfold L2.start;rw [List.getElem?_append_left (by rw [Zl]; exact (Zs h1).1),Zh,h1]; rfl
 ·exact k .non (.d .none) w' E'.wok E'.le0 (show Den _ _ _ _ from .non) rfl q
def pLaw:PSp:=fun as Q=>∃ ns:List Int,as=[.bor (ns.map .int)]/\ns.length<=63/\Q (.d (.bool true))
theorem B4k {K:Frag} {F:Hpp}:∀ ns:List Int,DenAll K F (ns.map V.int) (ns.map .int)
 | []=>.nil
 | n :: r=>.cons (.int n) (B4k r)
theorem C6p {K:Frag}:∀ vs H Q E,C02 K vs H Q E->spOf K [.vw] pLaw vs H Q E:=by
 rintro vs H Q E ⟨a,ns,rfl,hS,hl,k⟩;refine ⟨⟨fun _=>False,H,fun b=>if b=a then H a else none⟩,[.bor (ns.map .int)],fun s=>s=.d (.bool true),rfl,⟨fun b o e=>?_,fun _ z=>z.elim,fun _ z=>z.elim⟩,.vw (.inl (.lst ?_ (B4k ns))) .nil,⟨ns,rfl,hl,rfl⟩,fun v s w' ok l h r e=>?_⟩
 ·dsimp only at e;split at e
  ·rename_i z; rw [z]; exact e
  ·cases e
 ·rcases hS with (h | ⟨o,h⟩) | h
  ·exact .inl (.inl (by dsimp only; rw [if_pos rfl]; exact h))
  ·exact .inl (.inr ⟨o,by dsimp only; rw [if_pos rfl]; exact h⟩)
  ·exact .inr h
 ·subst e;have:v=.bl true:=Den.blE h;subst this;exact k _
end Pu
namespace L2
open PySem PySem.Spec PyProof.Rows
theorem C1s {X:Cx} {K:PySem.W.Frag} {e st:Expr} {te ts:TE} {pos p2:Pos} (h:X.K=K) (he:PE X e te) (hst:PE X st ts)
  (hsub:∀ (a sz:Addr),∃ ops,subscripted (.Slice none none (some st) p2) false (.ref a) (.ref sz)=operate ops (getItem (.ref a) (.ref sz)):=by intro a sz; exact ⟨_,by with_unfolding_all rfl⟩):PE X (.Subscript e (.Slice none none (some st) p2) pos) (tRev K te ts):=by subst h; exact C4n he hst hsub
end L2
namespace Pu
open PySem L2 My Prf
theorem B1b {q:Rat} {Q:SV->Prop}:pIx (dq q) (.int 0) Q=Q (.d (.int q.num)):=rfl
theorem B1a {q:Rat} {Q:SV->Prop}:pIx (dq q) (.int 1) Q=Q (.d (.int (q.den:Int))):=rfl
theorem B22 {i:Int}:(PyData.int i).canLay0=true:=rfl
theorem A61 {b:Bool}:(PyData.bool b).canLay0=true:=rfl
theorem A6z:PyData.none.canLay0=true:=rfl
theorem B4h {i:Int}:(PyData.int i).depth=0:=rfl
theorem A7n {b:Bool}:(PyData.bool b).depth=0:=rfl
theorem B4e {s:Str}:(PyData.str s).depth=0:=rfl
theorem A7m:PyData.none.depth=0:=rfl
theorem B9y {q:Rat}:(dq q).canLay0=true:=rfl
theorem C0j {q:Rat}:(dq q).depth=1:=rfl
theorem A1p {i j:Int}:PyData.eqv (.int i) (.int j)=decide (i=j):=by
 show (i == j)=_;by_cases h:i=j <;> simp [h]
theorem C07 {p q:Rat} (h1:p.num=q.num) (h2:(p.den:Int)=q.den):p=q:=Rat.ext h1 (by omega)
theorem C0h {p q:Rat}:PyData.eqv (dq p) (dq q)=decide (p=q):=by
 show (PyData.eqv (.int p.num) (.int q.num) && (PyData.eqv (.int (p.den:Int)) (.int (q.den:Int)) && true))=_;rw [A1p,A1p,Bool.and_true];by_cases h:p=q
 ·subst h; simp
 ·rw [Zd h];by_cases h1:p.num=q.num
  ·have h2:¬ (p.den:Int)=(q.den:Int):=fun z=>h (C07 h1 z);rw [Zd h2,Bool.and_false]
  ·rw [Zd h1,Bool.false_and]
theorem A3j {q:Rat}:PyData.eqv .none (dq q)=false:=rfl
theorem A3i {q:Rat}:PyData.eqv (dq q) .none=false:=rfl
theorem B3y {q:Rat}:isNo (dq q)=false:=rfl
theorem A8z:PyData.tuple [.int 0,.int 1]=dq 0:=rfl
theorem B9i:PyData.tuple [.int 1,.int 1]=dq 1:=rfl
theorem B7l {q:Rat}:tyD (dq q)="tuple":=rfl
theorem C0d:kitB "bool" "bool"=some true:=by decide +kernel
theorem B99:kitB "int" "int"=some true:=by decide +kernel
theorem C0c:kitB "bool" "int"=some true:=by decide +kernel
theorem B93:kitB "str" "str"=some true:=by decide +kernel
theorem B97:kitB "list" "list"=some true:=by decide +kernel
theorem B96:kitB "list" "tuple"=some false:=by decide +kernel
theorem B91:kitB "tuple" "list"=some false:=by decide +kernel
theorem B92:kitB "tuple" "bool"=some false:=by decide +kernel
theorem B94:kitB "NoneType" "tuple"=some false:=by decide +kernel
theorem B3z {K:Frag} {F:Hpp}:∀ {vs:List V} {ns:List Int},DenAll K F vs (ns.map .int)->vs=ns.map V.int
 | _,[],.nil=>rfl
 | _,n :: r,.cons h t=>by rw [h.intE,B3z t]; rfl
def A95:PSp:=fun as Q=>∃ n:Int,as=[.st,.d (.int n)]/\0 < n/\Sm 4000 n/\∀ d:Int,0<=d->d < n->Q (.d (.int d))
def A57:PSp:=fun as Q=>∃ (ns:List Int) (k:Int),as=[.bor (ns.map .int),.d (.int k)]/\0<=k/\k<=63/\Q .st
theorem C0s {K:Frag}:∀ vs H Q E,spOf K [.st,.dat] A95 vs H Q E->A9m vs H Q E:=by
 rintro vs H Q E ⟨w,as,Qp,rfl,ok,a,⟨n,rfl,n0,sn,q⟩,k⟩;cases a with
 | st h t=>cases t with
  | dat h' t =>
   cases t;obtain ⟨p,e,hm⟩:=h;subst e;rw [Den.intE h'];refine ⟨p,n,rfl,ok.st p hm,n0,sn,fun d H' d0 d1 S' kp=>?_⟩;have out:∀ b o,w.H b=some o->b≠p->H' b=some o:=fun b o e ne=>kp b o ne e;have pn:=ok.nf p hm;refine k (.int d) (.d (.int d)) ⟨w.M,H',w.F⟩ ⟨fun b o e=>out b o (ok.sub b o e) (fun z=>by rw [z,pn] at e; cases e),fun r hr=>?_,ok.nf⟩ ⟨⟨Same.refl _,fun b o e nb=>out b o e (fun z=>nb (z ▸ hm)),fun _ z=>z,fun _ z=>.inl z,fun b e=>?_⟩,fun _ _ z=>.inl z⟩ (Den.int d) rfl (q d d0 d1)
   ·by_cases z:r=p
    ·subst z; exact S'
    ·exact (ok.st r hr).kp z kp
   ·cases hb:w.H b with
    | none=>rfl
    | some o =>
     by_cases z:b=p
     ·subst z; obtain ⟨_,_,_,hp,_⟩:=S'.ex; rw [show H' b=none from e] at hp; cases hp
     ·have:=out b o hb z; rw [show H' b=none from e] at this; cases this
theorem B7c {K:Frag}:∀ vs H Q E,spOf K [.vw,.dat] A57 vs H Q E->A5y K vs H Q E:=by
 rintro vs H Q E ⟨w,as,Qp,rfl,ok,a,⟨ns,kk,rfl,k0,k1,q⟩,k⟩;cases a with
 | vw h t=>cases t with
  | dat h' t =>
   cases t;obtain ⟨a,us,e,hS,hd⟩:=h.lst ok;subst e;rw [Den.intE h'];refine ⟨a,ns,kk,rfl,by rw [<- B3z hd]; exact hS,k0,k1,fun p H' hp S' kp=>?_⟩;have out:∀ b o,w.H b=some o->H' b=some o:=fun b o e=>kp b o (C7 e hp) e;refine k (.ref p) .st ⟨fun b=>w.M b\/b=p,H',w.F⟩ ⟨fun b o e=>out b o (ok.sub b o e),fun r hr=>?_,fun r hr=>?_⟩ ⟨⟨Same.refl _,fun b o e _=>out b o e,fun _ z=>.inl z,fun b z=>?_,fun b e=>?_⟩,fun _ _ z=>.inl z⟩ ⟨p,rfl,.inr rfl⟩ rfl q
   ·rcases hr with hr | rfl
    ·exact (ok.st r hr).kp (ok.mne hp hr) kp
    ·exact S'
   ·rcases hr with hr | rfl
    ·exact ok.nf r hr
    ·exact ok.fnone hp
   ·rcases z with z | rfl
    ·exact .inl z
    ·exact .inr hp
   ·cases hb:w.H b with
    | none=>rfl
    | some o=>have:=out b o hb; rw [show H' b=none from e] at this; cases this
def C4g:PSp:=fun as Q=>∃ a b:Int,as=[.d (.int a),.d (.int b)]/\Q (.d (.int ((Int.gcd a b:Nat):Int)))
def C1j:PSp:=fun as Q=>∃ t b:Int,as=[.d (.int t),.d (.int b)]/\0 < b/\Sm 8000 t/\Sm 8000 b/\Q (.d (dq (Rat.divInt t b)))
def C1k:PSp:=fun as Q=>∃ p q:Rat,as=[.d (dq p),.d (dq q)]/\SmQ 3900 p/\SmQ 3900 q/\Q (.d (.bool (decide (p < q))))
end Pu
namespace L2
open PySem PySem.Spec PyProof.Rows
section
variable {X:Cx} {tg:Expr}
def C38 (K:PySem.W.Frag):R2:=fun x y H Q=>∃ l b xs zs,x=.ref l/\y=.ref b/\SqL K H l xs/\SqL K H b zs/\xs.length + zs.length<=sizeLine/\∀ p,H p=none->Q (.ref p) (upd H p (.lst (xs++zs)))
theorem Q7 {K:PySem.W.Frag} (hK:X.K=K):OpR X (binaryOp .Add) (C38 K):=by
 subst hK;intro pins s σ H x y v u Q I rx ry h;obtain ⟨l,b,xs,zs,rfl,rfl,hH,hB,hz,q⟩:=h;cases rx;cases ry;obtain ⟨its,r,hl,z⟩:=I.list hH;obtain ⟨its2,r2,hl2,z2⟩:=I.list hB;have n1:=r.length;have n2:=r2.length;obtain ⟨⟨k1,dd,da,sl⟩,m1,ho,e1,e2,e3⟩:=hl;obtain ⟨⟨k2,dd2,da2,sl2⟩,m2,ho2,e4,e5,e6⟩:=hl2;dsimp only at e1 e2 e3 e4 e5 e6;subst e1 e2 e3 e4 e5 e6;refine concat_meets ⟨_,ho,rfl⟩ ⟨_,ho2,rfl⟩ noFill_list_add seq_list_add F.slot_list_add F.entry_list_add (F.args_list_add_2 _ _) (list_addW l b its.toArray its2.toArray m1 m2 none none sl sl2 (by rw [List.size_toArray,List.size_toArray]; omega)) ⟨ho,ho2,?_⟩;rw [show its.toArray++its2.toArray=(its++its2).toArray by simp];exact ⟨.ref _,_,I.lnew (t':=s.toks) (r.append r2) (by rw [Ze]; omega),rfl,q _ I.fresh⟩
def rAll (K:PySem.W.Frag):List V->Hp->VK->Prop:=fun xs H Q=>∃ (p:Addr) (bs:List Bool),xs=[.ref p]/\SqL K H p (bs.map V.bl)/\Q (.bl (bs.all id)) H
theorem C3b {bs:List Bool}:∀ {us:List Value},Vals (bs.map V.bl) us->us=bs.map Value.bool:=by
 induction bs with
 | nil=>intro us h; cases h; rfl
 | cons b r ih =>
  intro us h;cases h with
  | cons h t=>rw [ih t,show _=Value.bool b from h]; rfl
theorem A9r (bs:List Bool):(List.range bs.length).all (fun i=>bs.getD i false)=bs.all id:=by
 rw [Bool.eq_iff_iff,List.all_eq_true,List.all_eq_true];constructor
 ·intro h b hb;obtain ⟨i,hi,e⟩:=List.mem_iff_getElem.mp hb;have:=h i (List.mem_range.mpr hi);rw [List.getD_eq_getElem?_getD,Zg hi,e] at this;exact this
 ·intro h i hi;have hi:=List.mem_range.mp hi;rw [List.getD_eq_getElem?_getD,Zg hi];exact h _ (List.getElem_mem hi)
theorem C0q {pins:List (Addr × Obj)} {σ:St} {H:Hp} {s:Shared} {p:Addr} {bs:List Bool} (hc:X.calm=true) (I:Inv X pins σ H s) (hS:SqL X.K H p (bs.map V.bl)) {A:Around} (hA:A.handled=none) {Qf:Bool->Value->Shared->Prop} {E:Value->Shared->Prop} {g:(Nat->Bool)->Nat->Bool}
  (hQ:∀ h' tk,Inv X pins σ H { s with heap:=h',toks:=tk }->Qf (g (fun i=>bs.getD i false) bs.length) (.bool (g (fun i=>bs.getD i false) bs.length)) { s with heap:=h',toks:=tk }) :
  wpAny (model X.prog X.w) A (pyIter (.ref p)) (fun it s₂=>∃ J fp wr n P St tr,it=.ref J/\Walks X.prog X.w A J fp wr n P St/\St 0 s₂.heap/\TruthOf X.prog X.w A P tr /\
   ∀ h' tk,(∀ b o,b ∉ wr->s₂.heap.get? b=some o->h'.get? b=some o)->Qf (g tr n) (.bool (g tr n)) { s₂ with heap:=h',toks:=tk }) E s:=by
 obtain ⟨its,r,hl,z⟩:=I.list hS;have e:=C3b r;refine wpAny_pyIter_list hl.isList ?_;have hne:p≠s.heap.objs.size:=by
  obtain ⟨o,_,ho,_⟩:=hl;exact Nat.ne_of_lt (Heap.lt_size ho)
 have W:=Walks.list (prog:=X.prog) (w:=X.w) (A:=A) hA s.heap.objs.size p hne its.toArray;have hn:its.toArray.size=bs.length:=by rw [List.size_toArray,e,Zl]
 rw [hn] at W;refine ⟨s.heap.objs.size,_,_,_,_,_,fun i=>bs.getD i false,rfl,W,⟨⟨_,Heap.get?_push_size _ rfl,rfl,rfl⟩,hl.isList.push _⟩,fun i v s' Q' E' hP q=>?_,fun h' tk hk=>hQ h' tk ?_⟩
 ·dsimp only at hP;rw [List.getElem?_toArray,e,Zh] at hP;cases hb:bs[i]? with
  | none=>rw [hb] at hP; cases hP
  | some b =>
   rw [hb] at hP; cases hP;refine wpAny_truthy_bool ?_;dsimp only at q;rw [List.getD_eq_getElem?_getD,hb] at q;exact q
 ·have I1:Inv X pins σ H { s with heap:=s.heap.push { cls:=.type "list_iterator",data:=.fields #[.ref p,.int 0 0] } }:=I.kept (t':=s.toks) fun b o e=>Heap.get?_push_of_some _ e;have f:=I.fpOk (H':=H) (Zv s.heap.objs.size) I.fresh;exact I1.turned (t':=tk) (fun b o hb e=>hk b o (fun z=>hb (Zn z)) e) f.1 f.2.1 f.2.2.2.1 f.2.2.2.2.1 f.2.2.2.2.2
theorem B4r {K:PySem.W.Frag} (hK:X.K=K) (hc:X.calm=true:=by rfl):CallR X (.builtin "all") (rAll K):=by
 subst hK;intro pins s σ H xs us Q I r h;obtain ⟨p,bs,rfl,hS,q⟩:=h;cases r with
 | cons r rr =>
  cases rr;cases r;refine call_all_walk (C0q hc I hS (A:=X.A.in1) (I.ok.hd hc) (g:=fun tr n=>(List.range n).all tr) (Qf:=fun _=>EP X pins σ Q) fun h' tk I'=>⟨.bl _,H,I',rfl,?_⟩);rw [A9r]; exact q
end
end L2
namespace L2
open PySem PySem.Spec PyProof.Rows
section
variable {X:Cx}
def A1n (T:String):List String->Option Bool
 | []=>some false
 | c :: r=>match kitB T c with
  | some true=>some true
  | some false=>A1n T r
  | none=>none
end
end L2
namespace Pu
open PySem L2 My Prf
def dwnD (lo:Int) (n:Nat):LP:=(List.range n).map fun k:Nat=>PyData.int (lo - (k:Int))
def C77 (pa:PAr) (env:PEnv) (Q:LP->PEnv->Prop):Prop:=pa env fun xs e=>match xs with
 | [.int i,.int j,.int k]=>k=-1/\((-(2 ^ 61)<=i/\i < 2 ^ 61)/\-(2 ^ 61)<=j/\j < 2 ^ 61)/\Q (dwnD i (i - j).toNat) e
 | _=>False
def pCat (x y:PyData) (Q:SV->Prop):Prop:=match x,y with
 | .list xs,.list ys=>xs.length + ys.length<=1000000/\Q (.own (xs++ys))
 | _,_=>False
instance ro_cat {K:Frag}:RO K (C38 K) pCat where
 ok:=by
  rintro c w env σ x y dx dy Qp Q rfl E vx vy p k;unfold pCat at p;split at p
  ·obtain ⟨a,vs,e,h1,h2⟩:=vx.lst E.wok;obtain ⟨b,us,e',g1,g2⟩:=vy.lst E.wok;exact ⟨a,b,vs,us,e,e',h1,g1,by rw [h2.len,g2.len]; exact Zx p.1 (by decide),fun q hq=>k _ _ _ (Res.lst E hq (h2.app g2)) p.2⟩
  ·exact p.elim
def blsD:LP->Option (List Bool)
 | []=>some []
 | .bool b :: r=>(blsD r).map (b :: ·)
 | _=>none
theorem A7s:∀ bs:List Bool,blsD (bs.map .bool)=some bs
 | []=>rfl
 | b :: r=>by show (blsD (r.map .bool)).map (b :: ·)=_; rw [A7s r]; rfl
theorem A7t {K:Frag} {F:Hpp}:∀ {vs:List V} {xs:LP} {bs:List Bool},DenAll K F vs xs->blsD xs=some bs->vs=bs.map V.bl
 | _,_,bs,.nil,h=>by cases h; rfl
 | _,_,bs,.cons (x:=x) (xs:=vs) (d:=d) (ds:=ds) h t,e=>by
  cases d with
  | bool b =>
   have e':(blsD ds).map (b :: ·)=some bs:=e;cases q:blsD ds with
   | none=>rw [q] at e'; cases e'
   | some r =>
    rw [q] at e'; cases e';rw [h.blE,A7t t q]; rfl
  | _=>cases e
def pAll (xs:LP) (Q:SV->Prop):Prop:=match xs with
 | [.list ys]=>∃ bs,blsD ys=some bs/\Q (.d (.bool (bs.all id)))
 | _=>False
def pAny (xs:LP) (Q:SV->Prop):Prop:=match xs with
 | [.list ys]=>∃ bs,blsD ys=some bs/\Q (.d (.bool (bs.any id)))
 | _=>False
instance rb_all {K:Frag}:RB K (rAll K) pAll where
 ok:=by
  rintro c w env σ vs xs Qp Q rfl E vv p k;unfold pAll at p;split at p
  ·obtain ⟨bs,e,q⟩:=p;cases vv with | cons h t=>cases t; obtain ⟨a,us,e',h1,h2⟩:=h.lst E.wok; exact ⟨a,bs,by rw [e'],by rw [<- A7t h2 e]; exact h1,k _ _ w (Res.data E (.bl _)) q⟩
  ·exact p.elim
def C79 (cs:List String) (pa:PDt) (env:PEnv) (Q:SV->PEnv->Prop):Prop:=pa env fun x e=>cs.length<=1000/\match A1n (tyD x) cs with
 | some b=>Q (.d (.bool b)) e
 | none=>False
theorem A67:A1n "bool" ["list","tuple"]=some false:=by decide +kernel
theorem A64:A1n "NoneType" ["list","tuple"]=some false:=by decide +kernel
theorem A66:A1n "int" ["list","tuple"]=some false:=by decide +kernel
theorem A63:A1n "str" ["list","tuple"]=some false:=by decide +kernel
theorem A65:A1n "list" ["list","tuple"]=some true:=by decide +kernel
theorem A62:A1n "tuple" ["list","tuple"]=some true:=by decide +kernel
theorem C2h {x:PyData} {xs:LP} {Q:SV->Prop}:pGet (x :: xs) 0 Q=Q (.d x):=by unfold pGet; rw [at0]
theorem C2g {x y:PyData} {xs:LP} {Q:SV->Prop}:pGet (x :: y :: xs) 1 Q=Q (.d y):=by unfold pGet; rw [at1]
theorem C5f {x y z:PyData} {xs:LP} {Q:SV->Prop}:pGet (x :: y :: z :: xs) 2 Q=Q (.d z):=by unfold pGet; rw [at2]
theorem C5e {x y z u:PyData} {xs:LP} {Q:SV->Prop}:pGet (x :: y :: z :: u :: xs) 3 Q=Q (.d u):=by unfold pGet; rw [at3]
theorem W6 {xs:LP} {i:Int} {z:PyData} {Q:SV->Prop} (h:atI xs i=some z) (q:Q (.d z)):pGet xs i Q:=by unfold pGet; rw [h]; exact q
theorem pIxT {xs:LP} {i:Int} {Q:SV->Prop}:pIx (.tuple xs) (.int i) Q=pGet xs i Q:=rfl
end Pu
namespace L2
open PySem PySem.Spec PyProof.Rows
structure QE (X:Cx) (e:Expr) (t:TE):Prop where
 out:PE X e  t
structure QT (X:Cx) (e:Expr) (t:TT):Prop where
 out:PT X e  t
structure QW (X:Cx) (e:Expr) (t:TT):Prop where
 out:PW X e  t
structure QA (X:Cx) (e:List Expr) (t:TA):Prop where
 out:PA X e  t
structure QSs (X:Cx) (e:List Stmt) (t:TS):Prop where
 out:PSs X e  t
structure QS (X:Cx) (e:Stmt) (t:TS):Prop where
 out:PS X e  t
structure QGs (X:Cx) (e:List Expr) (t:TGs):Prop where
 out:PGs X e  t
structure QG (X:Cx) (e:Expr) (t:TG):Prop where
 out:PG X e  t
structure QI (X:Cx) (e e2:Expr) (t:TI):Prop where
 out:PI X e e2  t
structure QTs (X:Cx) (e:List Expr) (t:TT):Prop where
 out:PTs X e  t
structure QO (X:Cx) (e:Option Expr) (t:TO):Prop where
 out:PO X e  t
section
variable {X:Cx}
theorem qpv (i: Nat) {x:Str} {pos:Pos} (hN: X.N[i]?=some x:=by rfl) (hv: Vis X.env.scope x:=by first | exact Or.inl rfl | exact Or.inr (Or.inl rfl) | exact Or.inr (Or.inr rfl)) (hd: (x == ("__debug__":Str))=false:=by decide) (hcd: (x == ("__classdict__":Str))=false:=by decide):QE X (.Name x pos) (tVar i):=⟨pv i hN hv hd hcd⟩
theorem A3 {i j pos}:QE X (.Constant (.int i) j pos) (tC (.int i)):=⟨D0 ⟩
theorem I0 {b j pos}:QE X (.Constant (.bool b) j pos) (tC (.bl b)):=⟨C75 ⟩
theorem B2 {j pos}:QE X (.Constant .none j pos) (tC .non):=⟨C4p ⟩
theorem A5 {x j pos}:QE X (.Constant (.str x) j pos) (tC (.str x)):=⟨C4m ⟩
theorem G8 {x:Str} {v:V} {u:Value} {pos:Pos} (hg: Gl X x) (hm: X.mg x=some u) (r: RelV v u) (hd: (x == ("__debug__":Str))=false:=by decide):QE X (.Name x pos) (tC v):=⟨B0h hg hm r hd⟩
theorem E9 {x:Str} {v:V} {u:Value} {pos:Pos} (hg: Gl X x) (hm: X.mg x=none) (hv: bootBuiltins x=some u) (r: RelV v u) (hn: x≠"__name__":=by decide) (hd: (x == ("__debug__":Str))=false:=by decide):QE X (.Name x pos) (tC v):=⟨B0i hg hm hv r hn hd⟩
theorem B3 {op:Operator} {r:R2} (ho: OpR X (binaryOp op) r) (ha: QE X a ta) (hb: QE X b tb):QE X (.BinOp a op b pos) (tOp r ta tb):=⟨K2 ho ha.out hb.out⟩
theorem B76 {op:UnaryOp} {r:V->Hp->VK->Prop} (ho: UnR X (unaryOp op) r) (ha: QE X a ta):QE X (.UnaryOp op a pos) (tUn r ta):=⟨C73 ho ha.out⟩
theorem C1a (ha: QE X a ta):QE X (.UnaryOp .Not a pos) (C0w ta):=⟨C4o ha.out⟩
theorem G9 {op:CmpOp} {r:R2} (ho: OpR X (compareOp op) r) (ha: QE X a ta) (hb: QE X b tb) (hm: behindInMarks op b=false):QE X (.Compare a [op] [b] pos) (tOp r ta tb):=⟨A1c ho ha.out hb.out hm⟩
theorem A7 {op:CmpOp} {r:R2} (ho: OpR X (compareOp op) r) (ha: QE X a ta) (hb: QE X b tb) (hm: behindInMarks op b=false):QT X (.Compare a [op] [b] pos) (A9g (tOp r ta tb)):=⟨A94 ho ha.out hb.out hm⟩
theorem A2a {op op':CmpOp} {r r':R2} (ho: OpR X (compareOp op) r) (ho': OpR X (compareOp op') r') (ha: QE X a ta) (hb: QE X b tb) (hc: QE X c tc) (hm: lastMarks [op,op'] [b,c]=false:=by with_unfolding_all rfl):QT X (.Compare a [op,op'] [b,c] pos) (A9g (A9h r r' ta tb tc)):=⟨B5t ho ho' ha.out hb.out hc.out hm⟩
theorem A0y {rest:List Expr} (ha: QE X a ta) (hb: QE X (.BoolOp .And (b :: rest) pos) tb):QE X (.BoolOp .And (a :: b :: rest) pos) (C00 ta tb):=⟨B8g ha.out hb.out⟩
theorem A4m {op} {t:TE} (h: QE X a t):QE X (.BoolOp op [a] pos) t:=⟨B8e h.out⟩
theorem A0x {rest:List Expr} (ha: QT X a tA) (hb: QW X (.BoolOp .And (b :: rest) pos) tB'):QW X (.BoolOp .And (a :: b :: rest) pos) (tAnd tA tB'):=⟨C4e ha.out hb.out⟩
theorem D9 {rest:List Expr} (ha: QT X a tA) (hb: QW X (.BoolOp .Or (b :: rest) pos) tB'):QW X (.BoolOp .Or (a :: b :: rest) pos) (tOr tA tB'):=⟨C4c ha.out hb.out⟩
theorem V2 (ha: QT X a tA):QW X (.BoolOp .And [a] pos) tA:=⟨C1f ha.out⟩
theorem F4 (ha: QT X a tA):QW X (.BoolOp .Or [a] pos) tA:=⟨B79 ha.out⟩
theorem E6 (ha: QT X a tA):QT X (.UnaryOp .Not a pos) (tNot tA):=⟨B8b ha.out⟩
theorem B8 {e:Expr} {t:TE} (h: QE X e t) (he: ∀ whole,isTrue e X.env whole=(do let v <- whole; standAt e.pos; holding [v] (truthy v)):=by intro _; rfl):QT X e (tB t):=⟨A93 h.out he⟩
theorem G2 {c:Expr} (hc: QT X c tA) (ha: QE X a ta) (hb: QE X b tb):QE X (.IfExp c a b pos) (tIf tA ta tb):=⟨A59 hc.out ha.out hb.out⟩
theorem S5 (hc: X.calm=true) (C: CompSc X scope cl N' cap) (hi: QI X tg iter wi) (hg: ∀ s3 H3 fp,QG (X.block scope cl N' s3 H3 fp) tg g) (ht: ∀ s3 H3 fp,QTs (X.block scope cl N' s3 H3 fp) ifs tt) (he: ∀ s3 H3 fp,QE (X.block scope cl N' s3 H3 fp) elt te) (hs: ∀ x,foldedSetIterable iter X.env x=pure x:=by intro _; rfl):QE X (.ListComp elt [⟨tg,iter,ifs,0⟩] scope pos) (C0z wi g tt te cap):=⟨C1t hc C hi.out (fun a b c=>(hg a b c).out) (fun a b c=>(ht a b c).out) (fun a b c=>(he a b c).out) hs⟩
theorem Q5 (hc: X.calm=true) (hN: X.N.Nodup) (hi: X.N[i]?=some y) (hy: X.env.scope.names.lookup y=some .local) (C: CompSc X scope cl N' cap) (hit: QI X tg iter wi) (hg: ∀ s3 H3 fp,QG (X.block scope cl N' s3 H3 fp) tg g) (ht: ∀ s3 H3 fp,QTs (X.block scope cl N' s3 H3 fp) ifs tt) (he: ∀ s3 H3 fp,QE (X.block scope cl N' s3 H3 fp) elt te) (hsw: swapsWith (.ListComp elt [⟨tg,iter,ifs,0⟩] scope pos) (some (.Name y py)) spos.line X.env=pure true) (hs: ∀ x,foldedSetIterable iter X.env x=pure x:=by intro _; rfl):QS X (.Assign [.Name y py] (.ListComp elt [⟨tg,iter,ifs,0⟩] scope pos) spos) (R8 wi g tt te cap i):=⟨A78 hc hN hi hy C hit.out (fun a b c=>(hg a b c).out) (fun a b c=>(ht a b c).out) (fun a b c=>(he a b c).out) hsw hs⟩
theorem C5 {x1} (h: QA X es t):QE X (.Tuple es x1 pos) (tTup t):=⟨C4l h.out⟩
theorem C2 (h: QA X es t):QE X (.List es pos) (tLst t):=⟨B8f h.out⟩
theorem C4 {lo hi:Option Expr} {r:V->Option Int->Option Int->Hp->VK->Prop} (hr: SlR X r) (he: QE X e te) (hl: QO X lo tl) (hu: QO X hi th):QE X (.Subscript e (.Slice lo hi none p2) pos) (tSl r te tl th):=⟨B55 hr he.out hl.out hu.out⟩
theorem D7 :QO X none A4g:=⟨C1n ⟩
theorem D6 (h: QE X e te):QO X (some e) (C0v te):=⟨C1m h.out⟩
theorem A55 {X:Cx} {K:PySem.W.Frag} {e st:Expr} {te ts:TE} {pos p2:Pos} (h: X.K=K) (he: QE X e te) (hst: QE X st ts) (hsub: ∀ (a sz:Addr),∃ ops,subscripted (.Slice none none (some st) p2) false (.ref a) (.ref sz)=operate ops (getItem (.ref a) (.ref sz)):=by intro a sz; exact ⟨_,by with_unfolding_all rfl⟩):QE X (.Subscript e (.Slice none none (some st) p2) pos) (tRev K te ts):=⟨C1s h he.out hst.out hsub⟩
theorem C39 {r:R2} (hr: IxR X r) (ha: QE X a ta) (hb: QE X b tb) (hs: A5l b):QE X (.Subscript a b pos) (tOp r ta tb):=⟨A1b hr ha.out hb.out hs⟩
theorem B5r (F: FnOk X.prog X.w X.K X.mg X.base CX k f fd ps sp) (hr: Room k X.A) (hg: Gl X x) (hm: X.mg x=some (.ref f)) (hk: PySem.W.keepIn X.K (.ref f)=true) (hb: Binds X.K fd ps ds) (hd: Vals dvs ds) (hx: A7z CX X E) (ha: QA X (e :: es) t) (hdb: (x == ("__debug__":Str))=false:=by decide) (he: starEach (e :: es) X.env=(false,eval e X.env) :: starEach es X.env:=by rfl) (hpl: (backTo pos (starEach es X.env)).any (·.1)=false:=by rfl):QE X (.Call (.Name x p) (e :: es) [] pos) (A1y sp dvs E t):=⟨C1u F hr hg hm hk hb hd hx ha.out hdb he hpl⟩
theorem B6 {id:String} (hc: CallR X (.builtin id) r) (hg: Gl X x) (hm: X.mg x=none) (hv: bootBuiltins x=some (.builtin id)) (ha: QA X (e :: es) t) (hn: x≠"__name__":=by decide) (hdb: (x == ("__debug__":Str))=false:=by decide) (he: starEach (e :: es) X.env=(false,eval e X.env) :: starEach es X.env:=by rfl) (hpl: (backTo pos (starEach es X.env)).any (·.1)=false:=by rfl):QE X (.Call (.Name x p) (e :: es) [] pos) (tCB r t):=⟨A1d hc hg hm hv ha.out hn hdb he hpl⟩
theorem D1 (hc: CallR X (.type T) r) (hg: Gl X x) (hm: X.mg x=none) (hv: bootBuiltins x=some (.type T)) (ha: QA X (e :: es) t) (hn: x≠"__name__":=by decide) (hdb: (x == ("__debug__":Str))=false:=by decide) (he: starEach (e :: es) X.env=(false,eval e X.env) :: starEach es X.env:=by rfl) (hpl: (backTo pos (starEach es X.env)).any (·.1)=false:=by rfl):QE X (.Call (.Name x p) (e :: es) [] pos) (tCB r t):=⟨A2q hc hg hm hv ha.out hn hdb he hpl⟩
theorem C3 {K:PySem.W.Frag} (hK:X.K=K) {id:String} (pa: PlainAttrs T) (slot: Slot T name id) (hty: typeOf (.builtin id)=pure (.type "method_descriptor")) (hm: MtR X id r) (ho: QE X o to) (ha: QA X (e :: es) t) (hbase: attributeBase o name X.env (eval o X.env)=eval o X.env:=by rfl) (hfew: ((backTo cpos (starEach (e :: es) X.env)).all (fun x=>!x.1) && (backToKw cpos (keywordEach [] X.env)).all (fun x=>x.1.isSome)
   && decide ((e :: es).length + ([]:List Keyword).length + (if ([]:List Keyword).isEmpty then 0 else 1) < 30))=true:=by rfl) (hline: (apos.endLine == cpos.line)=true:=by rfl) (hs: starEach (e :: es) X.env=(false,eval e X.env) :: starEach es X.env:=by rfl) (hplain: (backTo cpos (starEach es X.env)).any (·.1)=false:=by rfl):QE X (.Call (.Attribute o name apos) (e :: es) [] cpos) (tBM K T r to t):=by subst hK; exact ⟨C74 pa slot hty hm ho.out ha.out hbase hfew hline hs hplain⟩
theorem A1 :QA X [] tNil:=⟨pa_nil ⟩
theorem A0 (ha: QE X e te) (hr: QA X es t) (hs: starEach (e :: es) X.env=(false,eval e X.env) :: starEach es X.env:=by rfl):QA X (e :: es) (G4 te t):=⟨pa_cons ha.out hr.out hs⟩
theorem B0 :QSs X [] C0x:=⟨A03 ⟩
theorem A4 {st:Stmt} (h1: QS X st t):QSs X [st] t:=⟨Q6 h1.out⟩
theorem A2 {st:Stmt} {rest:List Stmt} (h1: QS X st t) (h2: QSs X rest u):QSs X (st :: rest) (tSeq t u):=⟨J0 h1.out h2.out⟩
theorem A2c {st:Stmt}:QS X st A5v:=⟨B5w ⟩
theorem A8 (he: QE X e te):QS X (.Return (some e) pos) (tRet te):=⟨A0a he.out⟩
theorem K5 (he: QE X e te) (hs: swapsWith e none pos.line X.env=pure false:=by rfl):QS X (.Expr e pos) (C0y te):=⟨C1l he.out hs⟩
theorem B5 {c:Expr} {a b:List Stmt} {tc:TT} (hc: QT X c tc) (ha: QSs X a t) (hb: QSs X b u):QS X (.If c a b pos) (tIfS tc t u):=⟨B5x hc.out ha.out hb.out⟩
theorem W2 {c:Expr} {body:List Stmt} {tc:TT} {tb:TS} (hp: PassesOwn (model X.prog X.w) X.A X.env X.xe) (hc: QT X c tc) (hb: QSs X body tb):QS X (.While c body [] pos) (A9f tc tb):=⟨B5v hp hc.out hb.out⟩
theorem N7 {iter:Expr} {body:List Stmt} {wi:TI} {g:TG} {tb:TS} {pos:Pos} (hp: PassesOwn (model X.prog X.w) X.A X.env X.xe) (hc: X.calm=true) (hi: QI X tg iter wi) (hg: QG X tg g) (hb: QSs X body tb) (hs: ∀ x,foldedSetIterable iter X.env x=pure x:=by intro _; rfl):QS X (.For tg iter body [] pos) (tFor wi g tb):=⟨B8d hp hc hi.out hg.out hb.out hs⟩
theorem A9w {i:Nat} {x:Str} {e:Expr} {te:TE} {pos':Pos} (hN: X.N.Nodup) (hi: X.N[i]?=some x) (hx: Loc X.env.scope x) (he: QE X e te) (hs: swapsWith e (some (.Name x pos')) pos.line X.env=pure false:=by rfl) (hf: X.fn x=true\/X.env.scope.names.lookup x=some .local:=by first | exact .inl rfl | exact .inr rfl | assumption):QS X (.Assign [.Name x pos'] e pos) (tAsg te (R0 i)):=⟨Z9 hN hi hx he.out hs hf⟩
theorem W3 {i j:Nat} {x y:Str} {a b:Expr} {ta:TA} {px py pt:Pos} {kt k2 pt2} (hc: X.calm=true) (hN: X.N.Nodup) (hi: X.N[i]?=some x) (hj: X.N[j]?=some y) (hij: i≠j) (hx: X.env.scope.names.lookup x=some .local) (hy: X.env.scope.names.lookup y=some .local) (ha: QA X [a,b] ta) (hw: swappedStores [.Tuple [.Name x px,.Name y py] kt pt] (.Tuple [a,b] k2 pt2) X.env=pure (some [x,y])) (hs: swapsWithSole [.Tuple [.Name x px,.Name y py] kt pt] (.Tuple [a,b] k2 pt2) pos.line X.env=pure false:=by rfl):QS X (.Assign [.Tuple [.Name x px,.Name y py] kt pt] (.Tuple [a,b] k2 pt2) pos) (tPar i j ta):=⟨C4f hc hN hi hj hij hx hy ha.out hw hs⟩
theorem W4 {tg e:Expr} {te:TE} {g:TG} (he: QE X e te) (hg: QG X tg g) (hs: swapsWithSole [tg] e pos.line X.env=pure false:=by rfl) (hw: swappedStores [tg] e X.env=pure none:=by rfl) (h1: (assignEach [tg] X.env).map (·.2)=[assign tg X.env]:=by rfl):QS X (.Assign [tg] e pos) (tAsg te g):=⟨A58 he.out hg.out hs hw h1⟩
theorem A54 {i:Nat} {x:Str} (hN: X.N.Nodup) (hi: X.N[i]?=some x) (hx: Loc X.env.scope x) (hf: X.fn x=true\/X.env.scope.names.lookup x=some .local:=by first | exact .inl rfl | exact .inr rfl | assumption):QG X (.Name x pos) (R0 i):=⟨B0g hN hi hx hf⟩
theorem G6 :QGs X [] gNil:=⟨C1q ⟩
theorem B4 {e:Expr} {es:List Expr} {t:TG} {u:TGs} (h1: QG X e t) (h2: QGs X es u) (hs: (assignEach (e :: es) X.env).map (·.2)=assign e X.env :: (assignEach es X.env).map (·.2):=by rfl):QGs X (e :: es) (A5b t u):=⟨B54 h1.out h2.out hs⟩
theorem G7 {K:PySem.W.Frag} {pos:Pos} {es:List Expr} {k:Nat} {t:TGs} {n:Nat} (h: X.K=K) (hc: X.calm=true) (hg: QGs X es t) (hn: (assignEach es X.env).length=n:=by rfl) (hst: (assignEach es X.env).findIdx? (·.1)=none:=by rfl):QG X (.Tuple es k pos) (gTup K n t):=⟨C1r h hc hg.out hn hst⟩
theorem A76 {a:Expr} {ta:TA} {p pos:Pos} (hg: Gl X "range") (hm: X.mg "range"=none) (ha: QA X [a] ta) (hs: starEach [a] X.env=[(false,eval a X.env)]:=by rfl):QI X tg (.Call (.Name "range" p) [a] [] pos) (C2z ta):=⟨A2p hg hm ha.out hs⟩
theorem Z8 {a b:Expr} {ta:TA} {p pos:Pos} (hg: Gl X "range") (hm: X.mg "range"=none) (ha: QA X [a,b] ta) (hs: starEach [a,b] X.env=[(false,eval a X.env),(false,eval b X.env)]:=by rfl) (hs2: starEach [b] X.env=[(false,eval b X.env)]:=by rfl):QI X tg (.Call (.Name "range" p) [a,b] [] pos) (C2y ta):=⟨B0e hg hm ha.out hs hs2⟩
theorem M2 {K:PySem.W.Frag} {l:Expr} {tl:TE} (h: X.K=K) (hl: QE X l tl):QI X tg l (iSq K tl):=⟨C4j h hl.out⟩
theorem K4 {X:Cx}:QTs X [] tYes:=⟨C1g ⟩
theorem QW.pt {X:Cx} {e:Expr} {t:TT} (h:QW X e t):QT X e t:=⟨h.out.pt⟩
end
end L2
namespace Pu
open PySem L2 My Prf
theorem A6i {c:Rat × Rat} {Q:SV->Prop}:pIx (dcn c) (.int 0) Q=Q (.d (dq c.1)):=by unfold dcn; rw [pIxT,C2h]
theorem A6h {c:Rat × Rat} {Q:SV->Prop}:pIx (dcn c) (.int 1) Q=Q (.d (dq c.2)):=by unfold dcn; rw [pIxT,C2g]
theorem K6 {α:Type} {f:α->PyData} {xs:List α} {pg:PyData->PEnv->(PEnv->Prop)->Prop} {pt:PTt} {pd:PDt} {e0:PEnv} {Fin:LP->Prop} (Pv:Nat->PEnv->LP->Prop) (h0:Pv 0 e0 [])
  (hs:∀ (i:Nat) a e ys,xs[i]?=some a->Pv i e ys->pg (f a) e fun e2=>pt e2 fun b e3=>if b=true then pd e3 fun y e4=>Pv (i + 1) e4 (ys++[y]) else Pv (i + 1) e3 ys) (hd:∀ e ys,Pv xs.length e ys->Fin ys):N9 (xs.map f) pg pt pd e0 Fin:=by
 refine ⟨Pv,h0,fun i x e ys hx hi=>?_,fun e ys h=>hd e ys (by rwa [List.length_map] at h)⟩;rw [Zh] at hx;cases ha:xs[i]? with
 | none=>rw [ha] at hx; cases hx
 | some a=>rw [ha] at hx; cases hx; exact hs i a e ys ha hi
theorem A5d {α:Type} {f:α->PyData} {xs:List α} {pg:PyData->PEnv->(PEnv->Prop)->Prop} {pb:PSt} {D:PEnds} {env:PEnv} (Iv:Nat->PEnv->Prop) (h0:Iv 0 env)
  (hs:∀ (i:Nat) a e,xs[i]?=some a->Iv i e->pg (f a) e fun e2=>pb ⟨Iv (i + 1),D.rt,D.nx,Iv (i + 1)⟩ e2) (hd:∀ e,Iv xs.length e->D.nx e):A6k (xs.map f) pg pb D env:=by
 refine ⟨Iv,h0,fun i x e hx hi=>?_,fun e h=>hd e (by rwa [List.length_map] at h)⟩;rw [Zh] at hx;cases ha:xs[i]? with
 | none=>rw [ha] at hx; cases hx
 | some a=>rw [ha] at hx; cases hx; exact hs i a e ha hi
theorem A89:PyData.tuple [.int 2,.int 3]=dq (Rat.divInt 2 3):=by
 unfold dq;rw [show (Rat.divInt 2 3).num=2 by decide +kernel,show (Rat.divInt 2 3).den=3 by decide +kernel]; rfl
theorem B32:PyData.tuple [.int 1,.int 2]=dq (Rat.divInt 1 2):=by
 unfold dq;rw [show (Rat.divInt 1 2).num=1 by decide +kernel,show (Rat.divInt 1 2).den=2 by decide +kernel]; rfl
end Pu
namespace Pu
open PySem L2 My Prf
theorem A7x {q:Rat} {k:LP->Prop}:U6 (dq q) k=k [.int q.num,.int (q.den:Int)]:=rfl
theorem B03 {q:Rat} {Q:SV->Prop}:pLen [dq q] Q=Q (.d (.int 2)):=rfl
theorem A2w {xs:LP} {Q:SV->Prop}:pLen [.list xs] Q=Q (.d (.int xs.length)):=rfl
theorem A6g {xs:LP} {Q:SV->Prop}:pLen [.tuple xs] Q=Q (.d (.int xs.length)):=rfl
theorem B38:PyData.eqv (.list []) (.list [])=true:=rfl
theorem B21:(PyData.list []).canLay0=true:=rfl
theorem B4f:(PyData.list []).depth=1:=rfl
theorem A87 {i:Int}:tyD (.int i)="int":=rfl
theorem A5t {b:Bool}:tyD (.bool b)="bool":=rfl
theorem A86 {s:Str}:tyD (.str s)="str":=rfl
theorem A5q:tyD .none="NoneType":=rfl
theorem A5r {xs:LP}:tyD (.list xs)="list":=rfl
theorem A85 {xs:LP}:tyD (.tuple xs)="tuple":=rfl
theorem A88 {c:Rat × Rat}:tyD (dcn c)="tuple":=rfl
theorem A0o {xs:LP} {k:LP->Prop}:U6 (.list xs) k=k xs:=rfl
theorem A4b {xs:LP} {k:LP->Prop}:U6 (.tuple xs) k=k xs:=rfl
theorem A4c {c:Rat × Rat} {k:LP->Prop}:U6 (dcn c) k=k [dq c.1,dq c.2]:=rfl
theorem A3c:isNo .none=true:=rfl
theorem A7c {i:Int}:isNo (.int i)=false:=rfl
theorem A3e {b:Bool}:isNo (.bool b)=false:=rfl
theorem A7b {s:Str}:isNo (.str s)=false:=rfl
theorem A3d {xs:LP}:isNo (.list xs)=false:=rfl
theorem A7a {xs:LP}:isNo (.tuple xs)=false:=rfl
end Pu
namespace L2
open PySem PySem.Spec PyProof.Rows
section
variable {X:Cx} {pins:List (Addr × Obj)} {σ:St} {H:Hp} {s:Shared} {h':Heap}
theorem Inv.turnL {t':Nat} {wr:List Addr} (I:Inv X pins σ H s) (k:∀ b o,b ∉ wr->s.heap.get? b=some o->h'.get? b=some o) (hf:∀ b ∈ wr,FpOk X pins H b):Inv X pins σ H { s with heap:=h',toks:=t' }:=by
 have nw:∀ b u,H b=some u->b ∉ wr:=fun b u e z=>by have:=(hf b z).1; rw [e] at this; cases this
 refine I.call (g':=s.gens) (d':=s.drawn) (ch:=wr) ⟨fun b o e _ _ hb=>k b o hb e,fun b o e _ _ hb=>⟨o.slots,k b o hb e⟩,fun _ _ _ n _=>n,fun b o e hb=>⟨o,k b o hb e⟩,fun _ _ e=>e,fun _ _ _ e=>e,fun b ps e=>⟨#[],by rw [e]; simp⟩⟩ (fun b u e=>?_) I.bare fun b hb=>?_
 ·refine (I.hok b u e).stay (fun c v hc q=>k c v ?_ q) (fun _ q=>q) fun _ _ q=>q;rcases hc with z | z
  ·rw [z]; exact nw b u e
  ·exact nw c _ z
 ·have f:=hf b hb;exact ⟨f.2.2.2.1,f.2.1,f.2.2.2.2.1,f.2.2.2.2.2⟩
theorem Inv.laidL {t':Nat} {wr:List Addr} {T:Addr} {o:HO} (I:Inv X pins σ H s) (k:∀ b u,b ∉ wr->s.heap.get? b=some u->h'.get? b=some u) (hf:∀ b ∈ wr,FpOk X pins H b) (hp:s.heap.objs.size<=T) (new:ObjOk X.prog X.w (upd H T o) h' T o) :
  Inv X pins σ (upd H T o) { s with heap:=h',toks:=t' }:=by
 have hn:=I.hok.fresh hp;have nw:∀ b u,H b=some u->b ∉ wr:=fun b u e z=>by have:=(hf b z).1; rw [e] at this; cases this
 refine I.call (g':=s.gens) (d':=s.drawn) (ch:=wr) ⟨fun b u e _ _ hb=>k b u hb e,fun b u e _ _ hb=>⟨u.slots,k b u hb e⟩,fun b u e n _=>by rw [B7 (Nat.ne_of_lt (Nat.lt_of_lt_of_le (Heap.lt_size e) hp))]; exact n,fun b u e hb=>⟨u,k b u hb e⟩,
  fun b xs e=>by rw [B7 (C7 e hn)]; exact e,fun b u xs e=>by rw [B7 (C7 e hn)]; exact e,fun b ps e=>⟨#[],by rw [B7 (C7 e hn),e]; simp⟩⟩ (fun b u e=>?_) I.bare fun b hb=>?_
 ·by_cases hb:b=T
  ·subst hb; rw [B9] at e; cases e; exact new
  ·rw [B7 hb] at e;refine (I.hok b u e).stay (fun c v hc q=>k c v ?_ q) (fun c q=>by rw [B7 (C7 q hn)]; exact q) fun c xs q=>by rw [B7 (C7 q hn)]; exact q
   rcases hc with z | z
   ·rw [z]; exact nw b u e
   ·exact nw c _ z
 ·have f:=hf b hb;exact ⟨f.2.2.2.1,f.2.1,f.2.2.2.2.1,f.2.2.2.2.2⟩
end
def Itz (K:PySem.W.Frag) (l1 l2:Addr):It :=
 ⟨fun i H=>∃ xs ys x y,SqL K H l1 xs/\SqL K H l2 ys/\xs[i]?=some x/\ys[i]?=some y,
  fun i H v H'=>∃ T x y,v=.ref T/\H T=none/\H'=upd H T (.tup [x,y])/\(∀ xs,SqL K H l1 xs->xs[i]?=some x)/\∀ ys,SqL K H l2 ys->ys[i]?=some y,
  fun i H=>∃ xs ys,SqL K H l1 xs/\SqL K H l2 ys/\(xs.length<=i\/ys.length<=i)⟩
theorem R6:∀ {xs:List V} {us:List Value} {i:Nat} {x:V},Vals xs us->xs[i]?=some x->∃ u,us[i]?=some u/\RelV x u
 | _,_,_,_,.nil,e=>by simp at e
 | _,_,0,_,.cons h _,e=>by simp at e; subst e; exact ⟨_,rfl,h⟩
 | _,_,i + 1,x,.cons _ t,e=>by
  obtain ⟨u,h1,h2⟩:=R6 (i:=i) (x:=x) t (by simpa using e);exact ⟨u,by simpa using h1,h2⟩
theorem B5e {P:Program} {w:World} {K:PySem.W.Frag} {es:List Expr} {kk:Nat} {tp:Pos} {z TI TO i1 i2 l1 l2:Addr} (D:ZipApart z TI TO i1 i2 l1 l2) :
    Turn P w K (.Tuple es kk tp) (Itz K l1 l2) [z,TI,TO,i1,i2] z (fun i h=>IsZip h z TI TO .none/\IsPair h TI (.ref i1) (.ref i2)/\(∃ a b,IsPair h TO a b)/\h.IsListIter i1 l1 i/\h.IsListIter i2 l2 i) where
  mem:=Zy
  obj:=fun i h st b hb=>by
    obtain ⟨hz,hTI,⟨a,c,hTO⟩,⟨o1,g1,k1,d1⟩,⟨o2,g2,k2,d2⟩⟩:=st;simp only [List.mem_cons,List.mem_nil_iff,or_false] at hb;rcases hb with rfl | rfl | rfl | rfl | rfl
    · exact ⟨_,hz,fun v q=>Data.noConfusion (show Data.fields _=Data.cell v from q)⟩
    · exact ⟨_,hTI,fun v q=>Data.noConfusion (show Data.seq _ _=Data.cell v from q)⟩
    · exact ⟨_,hTO,fun v q=>Data.noConfusion (show Data.seq _ _=Data.cell v from q)⟩
    · exact ⟨_,g1,fun v q=>by rw [d1] at q; cases q⟩
    · exact ⟨_,g2,fun v q=>by rw [d2] at q; cases q⟩
  keep:=fun i h h' st k=>by
    obtain ⟨hz,hTI,⟨a,c,hTO⟩,h1,h2⟩:=st;exact ⟨k z (by simp) _ hz,k TI (by simp) _ hTI,⟨a,c,k TO (by simp) _ hTO⟩,h1.at fun o e=>k i1 (by simp) o e,h2.at fun o e=>k i2 (by simp) o e⟩
  item:=by
    intro X hP hw hK hc i pins s σ H E I hf st hg;subst hP hw hK;obtain ⟨hz,hTI,⟨a,c,hTO⟩,h1,h2⟩:=st;obtain ⟨xs,ys,x,y,q1,q2,ex,ey⟩:=hg;obtain ⟨its1,r1,p1,_⟩:=I.list q1;obtain ⟨its2,r2,p2,_⟩:=I.list q2;obtain ⟨u1,e1,ru1⟩:=R6 r1 ex;obtain ⟨u2,e2,ru2⟩:=R6 r2 ey;refine wpAny_pyNext_zip_item D hz hTI hTO h1 h2 p1.isList p2.isList (by simpa using e1) (by simpa using e2) fun h' a1 a2 a3 a4 a5 a6 hk=>⟨_,rfl,?_⟩;refine wpAny_letOwnedTupleGo_zip a1 fun h'' b1 sb=>?_;have lt:∀ {b o},s.heap.get? b=some o->s.heap.objs.size≠b:=fun e=>Nat.ne_of_gt (Heap.lt_size e);have k2:∀ b o,b ∉ [z,TO,i1,i2]->s.heap.get? b=some o->h''.get? b=some o:=fun b o hb e=>by
      simp only [List.mem_cons,List.mem_nil_iff,or_false,not_or] at hb;exact (sb.2 b hb.1).trans (hk b o hb.1 hb.2.1 hb.2.2.1 hb.2.2.2 e)
    have I2:Inv X pins σ (upd H s.heap.objs.size (.tup [x,y])) { s with heap:=h'',toks:=s.toks }:=by
      refine I.laidL (wr:=[z,TO,i1,i2]) k2 (fun b hb=>hf b ?_) (Zv _) ⟨by show 2<=sizeLine; decide,[u1,u2],.cons ru1 (.cons ru2 .nil),?_⟩
      · simp only [List.mem_cons,List.mem_nil_iff,or_false] at hb ⊢
        rcases hb with q | q | q | q <;> simp [q]
      · exact ⟨_,(sb.2 _ (lt hz)).trans a5,rfl,_,rfl⟩
    refine ⟨.ref s.heap.objs.size,_,I2,rfl,⟨_,x,y,rfl,I.fresh,rfl,fun zs hzs=>by rw [I.list_inj hzs q1]; exact ex,fun zs hzs=>by rw [I.list_inj hzs q2]; exact ey⟩,⟨b1,(sb.2 _ D.TIz).trans (hk _ _ D.TIz D.TITO D.TIi1 D.TIi2 hTI),⟨_,_,(sb.2 _ D.TOz).trans a2⟩,a3.at fun o e=>(sb.2 _ D.i1z).trans e,a4.at fun o e=>(sb.2 _ D.i2z).trans e⟩,fun b hb=>?_⟩;have:b≠s.heap.objs.size:=by
      simp only [List.mem_cons,List.mem_nil_iff,or_false] at hb;obtain ⟨_,g1,_⟩:=h1;obtain ⟨_,g2,_⟩:=h2;rcases hb with rfl | rfl | rfl | rfl | rfl
      · exact (lt hz).symm
      · exact (lt hTI).symm
      · exact (lt hTO).symm
      · exact (lt g1).symm
      · exact (lt g2).symm
    rw [B7 this]; exact (hf b hb).1
  done:=by
    intro X hP hw hK hc i pins s σ H E I hf st hg;subst hP hw hK;obtain ⟨hz,hTI,⟨a,c,hTO⟩,h1,h2⟩:=st;obtain ⟨xs,ys,q1,q2,hl⟩:=hg;obtain ⟨its1,r1,p1,_⟩:=I.list q1;obtain ⟨its2,r2,p2,_⟩:=I.list q2;have n1:=r1.length;have n2:=r2.length;refine wpAny_pyNext_zip_end (I.ok.hd hc) D hz hTI hTO h1 h2 p1.isList p2.isList (hl.imp (fun q=>by simp; omega) fun q=>by simp; omega) fun h' hk=>⟨rfl,?_⟩;refine I.turnL (t':=s.toks) (wr:=[z,TO,i1,i2]) (fun b o hb e=>?_) (fun b hb=>hf b ?_)
    · simp only [List.mem_cons,List.mem_nil_iff,or_false,not_or] at hb
      exact hk b o hb.1 hb.2.1 hb.2.2.1 hb.2.2.2 e
    · simp only [List.mem_cons,List.mem_nil_iff,or_false] at hb ⊢
      rcases hb with q | q | q | q <;> simp [q]
  self:=fun _ _ _ _ _ st h=>wpAny_pyIter_zip st.1 h
section
variable {X:Cx}
end
end L2
namespace Pu
open PySem L2 My Prf
def C47 (pd:PDt) (env:PEnv) (Q:LP->PEnv->Prop):Prop:=pd env fun x e=>asL x fun xs=>Q xs e
def C78 (i:Nat) (env:PEnv) (Q:LP->PEnv->Prop):Prop:=match env[i]? with
 | some (some (.d x))=>asL x fun xs=>Q xs env
 | some (some (.own xs))=>Q xs (env.set i (some (.d (.list xs))))
 | some (some (.bor xs))=>Q xs env
 | _=>False
def pLsN (env:PEnv) (Q:List LP->PEnv->Prop):Prop:=Q [] env
def pLsC (pl:PAr) (pr:PEnv->(List LP->PEnv->Prop)->Prop) (env:PEnv) (Q:List LP->PEnv->Prop):Prop:=pl env fun xs e1=>pr e1 fun xss e2=>Q (xs :: xss) e2
def zipD (xs ys:LP):LP:=List.zipWith (fun x y=>.tuple [x,y]) xs ys
def C23 (xs:LP):LP:=xs.zipIdx.map fun p=>.tuple [.int (p.2:Int),p.1]
theorem B48 {xs ys:LP} {i:Nat} {x:PyData} (h:(zipD xs ys)[i]?=some x):∃ a b,xs[i]?=some a/\ys[i]?=some b/\x=.tuple [a,b]:=by
 unfold zipD at h;rw [List.getElem?_zipWith] at h;cases h1:xs[i]? with
 | none=>rw [h1] at h; cases h
 | some a=>cases h2:ys[i]? with
  | none=>rw [h1,h2] at h; cases h
  | some b=>rw [h1,h2] at h; cases h; exact ⟨a,b,rfl,rfl,rfl⟩
theorem B47 {xs ys:LP}:(zipD xs ys).length=min xs.length ys.length:=List.length_zipWith
def pZip (pa:PEnv->(List LP->PEnv->Prop)->Prop) (env:PEnv) (Q:LP->PEnv->Prop):Prop:=pa env fun xss e=>match xss with
 | [xs,ys]=>Q (zipD xs ys) e
 | _=>False
def C8a (pa:PEnv->(List LP->PEnv->Prop)->Prop) (env:PEnv) (Q:LP->PEnv->Prop):Prop:=pa env fun xss e=>match xss with
 | [xs]=>Q (C23 xs) e
 | _=>False
end Pu
namespace Pu
open PySem L2 My Prf
theorem A0z {n:Nat} {pr:LP->PEnv->(PEnv->Prop)->Prop} {xs:LP} {env:PEnv} {Q:PEnv->Prop}:qTup n pr (.tuple xs) env Q=(xs.length=n/\pr xs env Q):=rfl
theorem A56 {pr:LP->PEnv->(PEnv->Prop)->Prop} {c:Rat × Rat} {env:PEnv} {Q:PEnv->Prop}:qTup 2 pr (dcn c) env Q=pr [dq c.1,dq c.2] env Q:=by
 show (2=2/\_)=_; simp
theorem A49 {c:Rat × Rat}:(dcn c).canLay0=true:=rfl
theorem B4i {c:Rat × Rat}:(dcn c).depth=2:=rfl
theorem B39 {c:Rat × Rat}:PyData.eqv (dcn c) (dcn c)=true:=PySem.SeqAt.eqv_refl _ A49
theorem A7d {c:Rat × Rat}:isNo (dcn c)=false:=rfl
theorem A3m {α:Type} {f:α->PyData} {xs:List α}:cutD (xs.map f) (some 1) none=(xs.drop 1).map f:=by
 unfold cutD;rw [HT.sIx_none,show HT.sIx (xs.map f).length 0 (some 1)=min 1 xs.length by rw [Zl]; exact HT.sIx_nat _ _ 1,Zl];cases xs with
 | nil=>rfl
 | cons x r =>
  rw [show min 1 (x :: r).length=1 by simp];simp;rw [<- Zl (f:=f),List.take_length]
end Pu
namespace L2
open PySem PySem.Spec PyProof.Rows
section
variable {prog:Program} {w:World} {A:Around} {E:Value->Shared->Prop} {s:Shared}
theorem U2 {it t:Addr} {i:Nat} {items:Array Value} {x:Value} {Q:Value->Shared->Prop} (hit:s.heap.IsTupleIter it t i) (ht:s.heap.IsTuple t items) (hx:items[i]?=some x)
  (hQ:∀ h',h'.IsTupleIter it t (i + 1)->Heap.SameBut it s.heap h'->Q x { s with heap:=h' }):wpAny (model prog w) A (Builtin.SmallTypes.nextOf (.ref it)) Q E s:=by
 have hit':=hit;obtain ⟨ob,go,gc,gd⟩:=hit';obtain ⟨ot,tg,_,tn,td⟩:=ht;have key:wpAny (model prog w) A (callSpecial? (.ref it) (Str.ofString "__next__")) (fun r s'=>r=some x/\Q x s') E s:=by
  refine wpAny_callSpecial?_slot (name:=Str.ofString "__next__") hit.typeIs F.slot_tuple_iterator_next (wpAny_call_entry F.slot_tuple_iterator_next hit.typeIs F.entry_tuple_iterator_next ?_ (F.args_tuple_iterator_next_1 _));refine wpAny_bind (m:=field (.ref it) 0) (wpAny_field go gd (x:=.ref t) rfl ?_);show wpAny _ _ (if (Value.ref t == .none)=true then _ else _) _ _ s;rw [if_neg (fun q=>by cases q)];refine wpAny_bind (m:=field (.ref it) 1) (wpAny_field go gd (x:=.int i 0) rfl (wpAny_bind (m:=seqItems? (.ref t)) (wpAny_seqItems tg td ?_)));simp only [Int.toNat_natCast,hx];refine wpAny_bind (wpAny_setField go gd (by simp) (wpAny_pure ⟨x,rfl,rfl,hQ _ ?_ (Heap.SameBut.update ..)⟩));refine ⟨_,Heap.get?_update_self _ go (Obj.isFreed_of_fields (Obj.data_mapFields gd _)),(Obj.cls_mapFields ..).trans gc,?_⟩;rw [Obj.data_mapFields gd]; simp [rawInt]
 unfold Builtin.SmallTypes.nextOf;refine wpAny_bind (wpAny_mono key (fun r s' h=>?_) fun _ _ e=>e);obtain ⟨rfl,q⟩:=h;exact wpAny_pure q
theorem A28 {it t:Addr} {i:Nat} {items:Array Value} {Q:Value->Shared->Prop} (hh:A.handled=none) (hit:s.heap.IsTupleIter it t i) (ht:s.heap.IsTuple t items) (hx:items[i]?=none)
  (hE:∀ h' e,Heap.ExtBut it s.heap h'->(∃ o,h'.get? e=some o/\o.cls=.type "StopIteration")->E (.ref e) { s with heap:=h' }):wpAny (model prog w) A (Builtin.SmallTypes.nextOf (.ref it)) Q E s:=by
 have hit':=hit;obtain ⟨ob,go,gc,gd⟩:=hit';obtain ⟨ot,tg,_,tn,td⟩:=ht;unfold Builtin.SmallTypes.nextOf;refine wpAny_bind (wpAny_callSpecial?_slot (name:=Str.ofString "__next__") hit.typeIs F.slot_tuple_iterator_next (wpAny_call_entry F.slot_tuple_iterator_next hit.typeIs F.entry_tuple_iterator_next ?_ (F.args_tuple_iterator_next_1 _)));refine wpAny_bind (m:=field (.ref it) 0) (wpAny_field go gd (x:=.ref t) rfl ?_);show wpAny _ _ (if (Value.ref t == .none)=true then _ else _) _ _ s;rw [if_neg (fun q=>by cases q)];refine wpAny_bind (m:=field (.ref it) 1) (wpAny_field go gd (x:=.int i 0) rfl (wpAny_bind (m:=seqItems? (.ref t)) (wpAny_seqItems tg td ?_)));simp only [Int.toNat_natCast,hx];refine wpAny_bind (wpAny_rule (wpAny_bind (wpAny_setField go gd (by simp) (wpAny_bind ?_))));simp only [newExc,newTuple];refine wpAny_bind (wpAny_newObj_type (wpAny_bind (m:=firstArgMember _ _) (wpAny_of_eq (a:=Value.none) (by first | rfl | (simp only [firstArgMember]; rfl)) (wpAny_newObj_type ?_ (by size_fits)))) (by size_fits));simp only [raiseNew];refine wpAny_bind (wpAny_handled ?_);rw [show A.in1.handled=none from hh];refine wpAny_bind (wpAny_pure (wpAny_throw (hE _ _ (((Heap.SameBut.update ..).extBut.push _).push _) ⟨_,Heap.get?_push_size _ rfl,rfl⟩)))
theorem A8y {z TI TO i1 i2 l1 l2:Addr} {k1 k2:Nat} {xs ys:Array Value} {x y a b:Value} {Q:Value->Shared->Prop} (D:ZipApart z TI TO i1 i2 l1 l2) (hz:IsZip s.heap z TI TO .none) (hTI:IsPair s.heap TI (.ref i1) (.ref i2)) (hTO:IsPair s.heap TO a b)
  (h1:s.heap.IsTupleIter i1 l1 k1) (h2:s.heap.IsTupleIter i2 l2 k2) (hl1:s.heap.IsTuple l1 xs) (hl2:s.heap.IsTuple l2 ys) (hx:xs[k1]?=some x) (hy:ys[k2]?=some y)
  (hQ:∀ h',IsZip h' z TI TO (rawInt s.heap.objs.size)->IsPair h' TO x y->h'.IsTupleIter i1 l1 (k1 + 1)->h'.IsTupleIter i2 l2 (k2 + 1)->IsPair h' s.heap.objs.size x y ->
   (∀ c o,c≠z->c≠TO->c≠i1->c≠i2->s.heap.get? c=some o->h'.get? c=some o)->Q (.ref s.heap.objs.size) { s with heap:=h' }) :
  wpAny (model prog w) A (Builtin.«zip.__next__» ⟨[.ref z],[]⟩) (fun fin s'=>∃ v,fin=.done (.ret v)/\Q v s') E s:=by
 refine wpAny_bind (m:=field (.ref z) 2) (wpAny_field hz rfl (x:=.bool false) rfl ?_);refine wpAny_bind (m:=field (.ref z) 3) (wpAny_field hz rfl (x:=.ref TI) rfl (wpAny_bind (wpAny_seqItems hTI rfl (wpAny_bind (m:=Builtin.SmallTypes.ownedTupleIsFree (.ref z)) ?_))));unfold Builtin.SmallTypes.ownedTupleIsFree;refine wpAny_bind (wpAny_field hz rfl (x:=.none) rfl (wpAny_pure ?_));simp only [if_true];refine wpAny_bind (wpAny_rule (wpAny_bind (wpAny_field hz rfl (x:=.ref TO) rfl (wpAny_bind (wpAny_setField_rec hz (by simp) fun g1 z1 e1=>wpAny_bind ?_)))));have z1:IsZip g1 z TI TO .ellipsis:=z1;simp only [List.zipIdx_cons,List.zipIdx_nil,List.forIn_cons,List.forIn_nil];refine wpAny_bind (wpAny_bind (wpAny_onRaise (wpAny_bind (U2 (h1.at fun o q=>e1.extBut _ _ D.i1z q) (hl1.at fun o q=>e1.extBut _ _ D.l1z q) hx fun g2 n1 e2=>wpAny_pure ?_))));have t2:IsPair g2 TO a b:=e2.extBut _ _ D.TOi1 (e1.extBut _ _ D.TOz hTO);refine wpAny_bind (wpAny_seqItems t2 rfl (wpAny_bind (wpAny_updateSeq_pair t2 fun g3 t3 e3=>wpAny_bind (wpAny_letGo (wpAny_pure ?_)))));have t3:IsPair g3 TO x b:=t3;refine wpAny_bind (wpAny_bind (wpAny_onRaise (wpAny_bind (U2 (h2.at fun o q=>e3.extBut _ _ D.TOi2.symm (e2.extBut _ _ D.i12.symm (e1.extBut _ _ D.i2z q))) (hl2.at fun o q=>e3.extBut _ _ D.l2TO (e2.extBut _ _ D.l2i1 (e1.extBut _ _ D.l2z q))) hy fun g4 n2 e4=>wpAny_pure ?_))));have t4:IsPair g4 TO x b:=e4.extBut _ _ D.TOi2 t3;refine wpAny_bind (wpAny_seqItems t4 rfl (wpAny_bind (wpAny_updateSeq_pair t4 fun g5 t5 e5=>wpAny_bind (wpAny_letGo (wpAny_pure (wpAny_pure ?_))))));have t5:IsPair g5 TO x y:=t5;refine wpAny_bind (wpAny_seqItems t5 rfl (wpAny_bind (wpAny_newTuple (wpAny_bind (m:=Builtin.SmallTypes.ownedTupleHandOut (.ref z) (.ref g5.objs.size)) ?_))));have sz:g5.objs.size=s.heap.objs.size:=by rw [e5.1,e4.1,e3.1,e2.1,e1.1]
 have z5:IsZip g5 z TI TO .ellipsis:=e5.extBut _ _ D.TOz.symm (e4.extBut _ _ D.i2z.symm (e3.extBut _ _ D.TOz.symm (e2.extBut _ _ D.i1z.symm z1)));have k5:∀ c o,c≠z->c≠TO->c≠i1->c≠i2->s.heap.get? c=some o->g5.get? c=some o:=fun c o c1 c2 c3 c4 q=>e5.extBut _ _ c2 (e4.extBut _ _ c4 (e3.extBut _ _ c2 (e2.extBut _ _ c3 (e1.extBut _ _ c1 q))));have n15:g5.IsTupleIter i1 l1 (k1 + 1):=n1.at fun o q=>e5.extBut _ _ D.TOi1.symm (e4.extBut _ _ D.i12 (e3.extBut _ _ D.TOi1.symm q));have n25:g5.IsTupleIter i2 l2 (k2 + 1):=n2.at fun o q=>e5.extBut _ _ D.TOi2.symm q;have zl:z < g5.objs.size:=Heap.lt_size z5;unfold Builtin.SmallTypes.ownedTupleHandOut;have z6:IsZip (g5.push { cls:=.type "tuple",data:=.seq #[x,y] }) z TI TO .ellipsis:=Heap.get?_push_of_some _ z5;refine wpAny_bind (wpAny_setField_rec z6 (by simp) fun g7 z7 e7=>?_);have z7:IsZip g7 z TI TO (rawInt g5.objs.size):=z7;refine wpAny_setField_rec z7 (by simp) fun g8 z8 e8=>?_;have z8:IsZip g8 z TI TO (rawInt g5.objs.size):=z8;have up:∀ c o,c≠z->g5.get? c=some o->g8.get? c=some o:=fun c o c1 q=>e8.extBut _ _ c1 (e7.extBut _ _ c1 (Heap.get?_push_of_some _ q));have p8:IsPair g8 g5.objs.size x y:=e8.extBut _ _ (Nat.ne_of_gt zl) (e7.extBut _ _ (Nat.ne_of_gt zl) (Heap.get?_push_size _ rfl));rw [sz] at z8 p8;refine wpAny_pure ⟨_,rfl,?_⟩;show Q (.ref g5.objs.size) _;rw [sz];exact hQ g8 z8 (up _ _ D.TOz t5) (n15.at fun o q=>up _ o D.i1z q) (n25.at fun o q=>up _ o D.i2z q) p8 fun c o c1 c2 c3 c4 q=>up c o c1 (k5 c o c1 c2 c3 c4 q)
theorem B46 {z TI TO i1 i2 l1 l2:Addr} {k1 k2:Nat} {xs ys:Array Value} {a b:Value} {Q:Fin->Shared->Prop} (hh:A.handled=none) (D:ZipApart z TI TO i1 i2 l1 l2) (hz:IsZip s.heap z TI TO .none) (hTI:IsPair s.heap TI (.ref i1) (.ref i2)) (hTO:IsPair s.heap TO a b)
  (h1:s.heap.IsTupleIter i1 l1 k1) (h2:s.heap.IsTupleIter i2 l2 k2) (hl1:s.heap.IsTuple l1 xs) (hl2:s.heap.IsTuple l2 ys) (hend:xs[k1]?=none\/ys[k2]?=none)
  (hE:∀ h' e,(∀ c o,c≠z->c≠TO->c≠i1->c≠i2->s.heap.get? c=some o->h'.get? c=some o)->(∃ o,h'.get? e=some o/\o.cls=.type "StopIteration")->E (.ref e) { s with heap:=h' }) :
  wpAny (model prog w) A (Builtin.«zip.__next__» ⟨[.ref z],[]⟩) Q E s:=by
 refine wpAny_bind (m:=field (.ref z) 2) (wpAny_field hz rfl (x:=.bool false) rfl ?_);refine wpAny_bind (m:=field (.ref z) 3) (wpAny_field hz rfl (x:=.ref TI) rfl (wpAny_bind (wpAny_seqItems hTI rfl (wpAny_bind (m:=Builtin.SmallTypes.ownedTupleIsFree (.ref z)) ?_))));unfold Builtin.SmallTypes.ownedTupleIsFree;refine wpAny_bind (wpAny_field hz rfl (x:=.none) rfl (wpAny_pure ?_));simp only [if_true];refine wpAny_bind (wpAny_rule (wpAny_bind (wpAny_field hz rfl (x:=.ref TO) rfl (wpAny_bind (wpAny_setField_rec hz (by simp) fun g1 z1 e1=>wpAny_bind ?_)))));have z1:IsZip g1 z TI TO .ellipsis:=z1;simp only [List.zipIdx_cons,List.zipIdx_nil,List.forIn_cons,List.forIn_nil];refine wpAny_bind (wpAny_bind (wpAny_onRaise (wpAny_bind (m:=Builtin.SmallTypes.nextOf (.ref i1)) ?_)));cases hx:xs[k1]? with
 | none =>
  refine A28 hh (h1.at fun o q=>e1.extBut _ _ D.i1z q) (hl1.at fun o q=>e1.extBut _ _ D.l1z q) hx fun g2 e e2 he=>?_;obtain ⟨oe,go,gc⟩:=he;have z2:IsZip g2 z TI TO .ellipsis:=e2 _ _ D.i1z.symm z1;have ez:e≠z:=fun q=>by subst q; rw [z2] at go; cases go; simp at gc
  exact wpAny_setField_rec z2 (by simp) fun g3 _ e3=>hE g3 e (fun c o c1 _ c3 _ q=>e3.extBut _ _ c1 (e2 _ _ c3 (e1.extBut _ _ c1 q))) ⟨oe,e3.extBut _ _ ez go,gc⟩
 | some x =>
  have hy:ys[k2]?=none:=hend.elim (fun q=>by rw [hx] at q; cases q) id;refine U2 (h1.at fun o q=>e1.extBut _ _ D.i1z q) (hl1.at fun o q=>e1.extBut _ _ D.l1z q) hx fun g2 n1 e2=>wpAny_pure ?_;have t2:IsPair g2 TO a b:=e2.extBut _ _ D.TOi1 (e1.extBut _ _ D.TOz hTO);refine wpAny_bind (wpAny_seqItems t2 rfl (wpAny_bind (wpAny_updateSeq_pair t2 fun g3 t3 e3=>wpAny_bind (wpAny_letGo (wpAny_pure ?_)))));refine wpAny_bind (wpAny_bind (wpAny_onRaise (wpAny_bind (A28 hh (h2.at fun o q=>e3.extBut _ _ D.TOi2.symm (e2.extBut _ _ D.i12.symm (e1.extBut _ _ D.i2z q))) (hl2.at fun o q=>e3.extBut _ _ D.l2TO (e2.extBut _ _ D.l2i1 (e1.extBut _ _ D.l2z q))) hy fun g4 e e4 he=>?_))));obtain ⟨oe,go,gc⟩:=he;have z4:IsZip g4 z TI TO .ellipsis:=e4 _ _ D.i2z.symm (e3.extBut _ _ D.TOz.symm (e2.extBut _ _ D.i1z.symm z1));have ez:e≠z:=fun q=>by subst q; rw [z4] at go; cases go; simp at gc
  exact wpAny_setField_rec z4 (by simp) fun g5 _ e5=>hE g5 e (fun c o c1 c2 c3 c4 q=>e5.extBut _ _ c1 (e4 _ _ c4 (e3.extBut _ _ c2 (e2.extBut _ _ c3 (e1.extBut _ _ c1 q))))) ⟨oe,e5.extBut _ _ ez go,gc⟩
end
end L2
namespace L2
open PySem PySem.Spec PyProof.Rows
def zT1 (h:Heap) (l1:Addr):Heap:=h.push { cls:=.type "tuple_iterator",data:=.fields #[.ref l1,.int 0 0] }
def zT2 (h:Heap) (l1 l2:Addr):Heap:=(zT1 h l1).push { cls:=.type "tuple_iterator",data:=.fields #[.ref l2,.int 0 0] }
def zT3 (h:Heap) (l1 l2:Addr):Heap:=(zT2 h l1 l2).push { cls:=.type "tuple",data:=.seq #[.ref h.objs.size,.ref (zT1 h l1).objs.size] }
def zT4 (h:Heap) (l1 l2:Addr):Heap:=(zT3 h l1 l2).push { cls:=.type "tuple",data:=.seq #[.none,.none] }
def zT5 (h:Heap) (l1 l2:Addr):Heap:=(zT4 h l1 l2).push { cls:=.type "zip",data:=.fields #[.none,.bool false,.bool false,.ref (zT2 h l1 l2).objs.size,.ref (zT3 h l1 l2).objs.size] }
theorem A8l (l1 l2:Addr) (xs ys:Array Value):Meets (Builtin.«zip.__new__» ⟨[.type "zip",.ref l1,.ref l2],[]⟩)
  (fun _ R s=>s.heap.IsTuple l1 xs/\s.heap.IsTuple l2 ys/\R (.ok (.ret (.ref (zT4 s.heap l1 l2).objs.size))) { s with heap:=zT5 s.heap l1 l2 }) :=
 .of_wp fun prog w A R s h=>by
  obtain ⟨hp,g,d,tk,os⟩:=s;obtain ⟨q1,q2,h⟩:=h;have hsub:=sub_zip;have hL1:Heap.IsTuple (Shared.heap ⟨hp,g,d,tk,os⟩) l1 xs:=q1;have hL2:Heap.IsTuple (Shared.heap ⟨hp.push { cls:=.type "tuple_iterator",data:=.fields #[.ref l1,.int 0 0] },g,d,tk,os⟩) l2 ys:=Heap.IsTuple.push q2 _
  wp_walk using wpAny_pyIter_tuple hL1,wpAny_pyIter_tuple hL2
  exact ⟨_,rfl,h⟩
section
variable {prog:Program} {w:World} {A:Around} {E:Value->Shared->Prop} {s:Shared}
theorem B4n {l1 l2:Addr} {xs ys:Array Value} {Q:Value->Shared->Prop} (hl1:s.heap.IsTuple l1 xs) (hl2:s.heap.IsTuple l2 ys)
  (h:∀ h',IsZip h' (s.heap.objs.size + 4) (s.heap.objs.size + 2) (s.heap.objs.size + 3) .none->IsPair h' (s.heap.objs.size + 2) (.ref s.heap.objs.size) (.ref (s.heap.objs.size + 1))->IsPair h' (s.heap.objs.size + 3) .none .none ->
   h'.IsTupleIter s.heap.objs.size l1 0->h'.IsTupleIter (s.heap.objs.size + 1) l2 0->(∀ c o,s.heap.get? c=some o->h'.get? c=some o)->Q (.ref (s.heap.objs.size + 4)) { s with heap:=h' }) :
  wpAny (model prog w) A (call (.type "zip") [.ref l1,.ref l2]) Q E s:=by
 refine callType_new F.called_zip (by decide) (F.typeCall_zip_2 _ _) (F.newCall_zip_2 _ _) (fun obj=>F.args_object_init_3 obj _ _) F.entry_zip_new (A8l l1 l2 xs ys) ⟨hl1,hl2,?_⟩;have s1:(zT1 s.heap l1).objs.size=s.heap.objs.size + 1:=Heap.size_push ..;have s2:(zT2 s.heap l1 l2).objs.size=s.heap.objs.size + 2:=(Heap.size_push ..).trans (by rw [s1]);have s3:(zT3 s.heap l1 l2).objs.size=s.heap.objs.size + 3:=(Heap.size_push ..).trans (by rw [s2]);have s4:(zT4 s.heap l1 l2).objs.size=s.heap.objs.size + 4:=(Heap.size_push ..).trans (by rw [s3]);have u5:∀ {c o},(zT4 s.heap l1 l2).get? c=some o->(zT5 s.heap l1 l2).get? c=some o:=fun q=>Heap.get?_push_of_some _ q;have u4:∀ {c o},(zT3 s.heap l1 l2).get? c=some o->(zT4 s.heap l1 l2).get? c=some o:=fun q=>Heap.get?_push_of_some _ q;have u3:∀ {c o},(zT2 s.heap l1 l2).get? c=some o->(zT3 s.heap l1 l2).get? c=some o:=fun q=>Heap.get?_push_of_some _ q;have u2:∀ {c o},(zT1 s.heap l1).get? c=some o->(zT2 s.heap l1 l2).get? c=some o:=fun q=>Heap.get?_push_of_some _ q;have g5:(zT5 s.heap l1 l2).get? (zT4 s.heap l1 l2).objs.size=some _:=Heap.get?_push_size _ rfl;have g4:(zT5 s.heap l1 l2).get? (zT3 s.heap l1 l2).objs.size=some _:=u5 (Heap.get?_push_size _ rfl);have g3:(zT5 s.heap l1 l2).get? (zT2 s.heap l1 l2).objs.size=some _:=u5 (u4 (Heap.get?_push_size _ rfl));have g2:(zT5 s.heap l1 l2).get? (zT1 s.heap l1).objs.size=some _:=u5 (u4 (u3 (Heap.get?_push_size _ rfl)));have g1:(zT5 s.heap l1 l2).get? s.heap.objs.size=some _:=u5 (u4 (u3 (u2 (Heap.get?_push_size _ rfl))));rw [s2,s3,s4] at g5;rw [s1,s2] at g3;rw [s3] at g4;rw [s1] at g2;show _/\_;rw [s4];exact ⟨⟨_,g5,rfl⟩,h _ g5 g3 g4 ⟨_,g1,rfl,rfl⟩ ⟨_,g2,rfl,rfl⟩ fun c o q=>u5 (u4 (u3 (u2 (Heap.get?_push_of_some _ q))))⟩
theorem A8i {z TI TO i1 i2 l1 l2:Addr} {k1 k2:Nat} {xs ys:Array Value} {x y a b:Value} {Q:Option Value->Shared->Prop} (D:ZipApart z TI TO i1 i2 l1 l2) (hz:IsZip s.heap z TI TO .none) (hTI:IsPair s.heap TI (.ref i1) (.ref i2)) (hTO:IsPair s.heap TO a b)
  (h1:s.heap.IsTupleIter i1 l1 k1) (h2:s.heap.IsTupleIter i2 l2 k2) (hl1:s.heap.IsTuple l1 xs) (hl2:s.heap.IsTuple l2 ys) (hx:xs[k1]?=some x) (hy:ys[k2]?=some y)
  (hQ:∀ h',IsZip h' z TI TO (rawInt s.heap.objs.size)->IsPair h' TO x y->h'.IsTupleIter i1 l1 (k1 + 1)->h'.IsTupleIter i2 l2 (k2 + 1)->IsPair h' s.heap.objs.size x y ->
   (∀ c o,c≠z->c≠TO->c≠i1->c≠i2->s.heap.get? c=some o->h'.get? c=some o)->Q (some (.ref s.heap.objs.size)) { s with heap:=h' }):wpAny (model prog w) A (pyNext (.ref z)) Q E s:=by
 have tz:s.TypeIs (.ref z) "zip":=⟨_,hz,rfl⟩;unfold pyNext;refine wpAny_bind (wpAny_attempt (wpAny_callSpecial?_slot (name:=Str.ofString "__next__") tz F.slot_zip_next (wpAny_call_entry F.slot_zip_next tz F.entry_zip_next ?_ (F.args_zip_next_1 _))));exact A8y D hz hTI hTO h1 h2 hl1 hl2 hx hy fun h' a1 a2 a3 a4 a5 a6=>wpAny_pure (hQ h' a1 a2 a3 a4 a5 a6)
theorem B2u {z TI TO i1 i2 l1 l2:Addr} {k1 k2:Nat} {xs ys:Array Value} {a b:Value} {Q:Option Value->Shared->Prop} (hh:A.handled=none) (D:ZipApart z TI TO i1 i2 l1 l2) (hz:IsZip s.heap z TI TO .none) (hTI:IsPair s.heap TI (.ref i1) (.ref i2)) (hTO:IsPair s.heap TO a b)
  (h1:s.heap.IsTupleIter i1 l1 k1) (h2:s.heap.IsTupleIter i2 l2 k2) (hl1:s.heap.IsTuple l1 xs) (hl2:s.heap.IsTuple l2 ys) (hend:xs[k1]?=none\/ys[k2]?=none)
  (hQ:∀ h',(∀ c o,c≠z->c≠TO->c≠i1->c≠i2->s.heap.get? c=some o->h'.get? c=some o)->Q none { s with heap:=h' }):wpAny (model prog w) A (pyNext (.ref z)) Q E s:=by
 have tz:s.TypeIs (.ref z) "zip":=⟨_,hz,rfl⟩;unfold pyNext;refine wpAny_bind (wpAny_attempt (wpAny_callSpecial?_slot (name:=Str.ofString "__next__") tz F.slot_zip_next (wpAny_call_entry F.slot_zip_next tz F.entry_zip_next ?_ (F.args_zip_next_1 _))));refine B46 hh D hz hTI hTO h1 h2 hl1 hl2 hend fun h' e hk ⟨o,ho,hc⟩=>?_;exact wpAny_bind (wpAny_isInstance (T:="StopIteration") (b:=true) ⟨o,ho,hc⟩ isSubtype_stop (wpAny_pure (hQ _ hk)))
end
def ItzT (K:PySem.W.Frag) (l1 l2:Addr):It :=
 ⟨fun i H=>∃ xs ys x y,SqT K H l1 xs/\SqT K H l2 ys/\xs[i]?=some x/\ys[i]?=some y,
  fun i H v H'=>∃ T x y,v=.ref T/\H T=none/\H'=upd H T (.tup [x,y])/\(∀ xs,SqT K H l1 xs->xs[i]?=some x)/\∀ ys,SqT K H l2 ys->ys[i]?=some y,
  fun i H=>∃ xs ys,SqT K H l1 xs/\SqT K H l2 ys/\(xs.length<=i\/ys.length<=i)⟩
theorem A9a {P:Program} {w:World} {K:PySem.W.Frag} {es:List Expr} {kk:Nat} {tp:Pos} {z TI TO i1 i2 l1 l2:Addr} (D:ZipApart z TI TO i1 i2 l1 l2) :
    Turn P w K (.Tuple es kk tp) (ItzT K l1 l2) [z,TI,TO,i1,i2] z (fun i h=>IsZip h z TI TO .none/\IsPair h TI (.ref i1) (.ref i2)/\(∃ a b,IsPair h TO a b)/\h.IsTupleIter i1 l1 i/\h.IsTupleIter i2 l2 i) where
  mem:=Zy
  obj:=fun i h st b hb=>by
    obtain ⟨hz,hTI,⟨a,c,hTO⟩,⟨o1,g1,k1,d1⟩,⟨o2,g2,k2,d2⟩⟩:=st;simp only [List.mem_cons,List.mem_nil_iff,or_false] at hb;rcases hb with rfl | rfl | rfl | rfl | rfl
    · exact ⟨_,hz,fun v q=>Data.noConfusion (show Data.fields _=Data.cell v from q)⟩
    · exact ⟨_,hTI,fun v q=>Data.noConfusion (show Data.seq _ _=Data.cell v from q)⟩
    · exact ⟨_,hTO,fun v q=>Data.noConfusion (show Data.seq _ _=Data.cell v from q)⟩
    · exact ⟨_,g1,fun v q=>by rw [d1] at q; cases q⟩
    · exact ⟨_,g2,fun v q=>by rw [d2] at q; cases q⟩
  keep:=fun i h h' st k=>by
    obtain ⟨hz,hTI,⟨a,c,hTO⟩,h1,h2⟩:=st;exact ⟨k z (by simp) _ hz,k TI (by simp) _ hTI,⟨a,c,k TO (by simp) _ hTO⟩,h1.at fun o e=>k i1 (by simp) o e,h2.at fun o e=>k i2 (by simp) o e⟩
  item:=by
    intro X hP hw hK hc i pins s σ H E I hf st hg;subst hP hw hK;obtain ⟨hz,hTI,⟨a,c,hTO⟩,h1,h2⟩:=st;obtain ⟨xs,ys,x,y,q1,q2,ex,ey⟩:=hg;obtain ⟨its1,r1,p1,_⟩:=I.tuple q1;obtain ⟨its2,r2,p2,_⟩:=I.tuple q2;obtain ⟨u1,e1,ru1⟩:=R6 r1 ex;obtain ⟨u2,e2,ru2⟩:=R6 r2 ey;refine A8i D hz hTI hTO h1 h2 (xs:=its1.toArray) (ys:=its2.toArray) p1 p2 (by simpa using e1) (by simpa using e2) fun h' a1 a2 a3 a4 a5 hk=>⟨_,rfl,?_⟩;refine wpAny_letOwnedTupleGo_zip a1 fun h'' b1 sb=>?_;have lt:∀ {b o},s.heap.get? b=some o->s.heap.objs.size≠b:=fun e=>Nat.ne_of_gt (Heap.lt_size e);have k2:∀ b o,b ∉ [z,TO,i1,i2]->s.heap.get? b=some o->h''.get? b=some o:=fun b o hb e=>by
      simp only [List.mem_cons,List.mem_nil_iff,or_false,not_or] at hb;exact (sb.2 b hb.1).trans (hk b o hb.1 hb.2.1 hb.2.2.1 hb.2.2.2 e)
    have I2:Inv X pins σ (upd H s.heap.objs.size (.tup [x,y])) { s with heap:=h'',toks:=s.toks }:=by
      refine I.laidL (wr:=[z,TO,i1,i2]) k2 (fun b hb=>hf b ?_) (Zv _) ⟨by show 2<=sizeLine; decide,[u1,u2],.cons ru1 (.cons ru2 .nil),?_⟩
      · simp only [List.mem_cons,List.mem_nil_iff,or_false] at hb ⊢
        rcases hb with q | q | q | q <;> simp [q]
      · exact ⟨_,(sb.2 _ (lt hz)).trans a5,rfl,_,rfl⟩
    refine ⟨.ref s.heap.objs.size,_,I2,rfl,⟨_,x,y,rfl,I.fresh,rfl,fun zs hzs=>by rw [I.tuple_inj hzs q1]; exact ex,fun zs hzs=>by rw [I.tuple_inj hzs q2]; exact ey⟩,⟨b1,(sb.2 _ D.TIz).trans (hk _ _ D.TIz D.TITO D.TIi1 D.TIi2 hTI),⟨_,_,(sb.2 _ D.TOz).trans a2⟩,a3.at fun o e=>(sb.2 _ D.i1z).trans e,a4.at fun o e=>(sb.2 _ D.i2z).trans e⟩,fun b hb=>?_⟩;have:b≠s.heap.objs.size:=by
      simp only [List.mem_cons,List.mem_nil_iff,or_false] at hb;obtain ⟨_,g1,_⟩:=h1;obtain ⟨_,g2,_⟩:=h2;rcases hb with rfl | rfl | rfl | rfl | rfl
      · exact (lt hz).symm
      · exact (lt hTI).symm
      · exact (lt hTO).symm
      · exact (lt g1).symm
      · exact (lt g2).symm
    rw [B7 this]; exact (hf b hb).1
  done:=by
    intro X hP hw hK hc i pins s σ H E I hf st hg;subst hP hw hK;obtain ⟨hz,hTI,⟨a,c,hTO⟩,h1,h2⟩:=st;obtain ⟨xs,ys,q1,q2,hl⟩:=hg;obtain ⟨its1,r1,p1,_⟩:=I.tuple q1;obtain ⟨its2,r2,p2,_⟩:=I.tuple q2;have n1:=r1.length;have n2:=r2.length;refine B2u (I.ok.hd hc) D hz hTI hTO h1 h2 (xs:=its1.toArray) (ys:=its2.toArray) p1 p2 (hl.imp (fun q=>by simp; omega) fun q=>by simp; omega) fun h' hk=>⟨rfl,?_⟩;refine I.turnL (t':=s.toks) (wr:=[z,TO,i1,i2]) (fun b o hb e=>?_) (fun b hb=>hf b ?_)
    · simp only [List.mem_cons,List.mem_nil_iff,or_false,not_or] at hb
      exact hk b o hb.1 hb.2.1 hb.2.2.1 hb.2.2.2 e
    · simp only [List.mem_cons,List.mem_nil_iff,or_false] at hb ⊢
      rcases hb with q | q | q | q <;> simp [q]
  self:=fun _ _ _ _ _ st h=>wpAny_pyIter_zip st.1 h
section
variable {X:Cx}
def C61 (K:PySem.W.Frag) (ta:TA):TI:=fun σ H R=>ta σ H fun vs H1=>∃ l1 l2 xs ys,vs=[.ref l1,.ref l2]/\((SqL K H1 l1 xs/\SqL K H1 l2 ys/\R (Itz K l1 l2) H1)\/(SqT K H1 l1 xs/\SqT K H1 l2 ys/\R (ItzT K l1 l2) H1))
theorem C1p {K:PySem.W.Frag} {a b:Expr} {ta:TA} {p pos:Pos} {es:List Expr} {kk:Nat} {tp:Pos} (hK:X.K=K) (hg:Gl X "zip") (hm:X.mg "zip"=none) (ha:QA X [a,b] ta)
  (hs:starEach [a,b] X.env=[(false,eval a X.env),(false,eval b X.env)]:=by rfl) (hs2:starEach [b] X.env=[(false,eval b X.env)]:=by rfl):QI X (.Tuple es kk tp) (.Call (.Name "zip" p) [a,b] [] pos) (C61 K ta):=by
 subst hK;refine ⟨fun pins s σ H R I h=>?_⟩;refine Call_ (X2 I hg hm boot_zip (PyProof.Rows.callWith_type1 (thn (ha.out pos pins s σ H _ I h) fun us s1 ⟨vs,H1,I1,r1,q1⟩=>?_) (hs.trans (by rw [hs2])) (by rw [hs2]; rfl)));obtain ⟨l1,l2,xs,ys,e,q⟩:=q1;subst e;obtain ⟨u,v,rfl,ru,rv⟩:=Vals.two r1;cases (show u=Value.ref l1 from ru);cases (show v=Value.ref l2 from rv);have ap:(show Nat from l1) < s1.heap.objs.size->(show Nat from l2) < s1.heap.objs.size->ZipApart (s1.heap.objs.size + 4) (s1.heap.objs.size + 2) (s1.heap.objs.size + 3) s1.heap.objs.size (s1.heap.objs.size + 1) l1 l2:=fun lt1 lt2=>by
  generalize s1.heap.objs.size=n at lt1 lt2;have g:∀ a b:Nat,a < b->a≠b:=fun a b q=>Nat.ne_of_lt q;have g':∀ a b:Nat,b < a->a≠b:=fun a b q=>Nat.ne_of_gt q;constructor <;> first | exact g _ _ (Nat.lt_trans lt1 (by omega)) | exact g _ _ (Nat.lt_trans lt2 (by omega)) | exact g _ _ lt1 | exact g _ _ lt2 | exact g _ _ (by omega) | exact g' _ _ (by omega)
 have fps:∀ b ∈ [s1.heap.objs.size + 4,s1.heap.objs.size + 2,s1.heap.objs.size + 3,s1.heap.objs.size,s1.heap.objs.size + 1],FpOk X pins H1 b:=fun b hb=>by
  have hb':s1.heap.objs.size<=b:=by
   simp only [List.mem_cons,List.mem_nil_iff,or_false] at hb;rcases hb with rfl | rfl | rfl | rfl | rfl <;> omega
  exact I1.fpOk hb' (I1.hok.fresh hb')
 rcases q with ⟨g1,g2,q⟩ | ⟨g1,g2,q⟩
 ·obtain ⟨its1,_,p1,_⟩:=I1.list g1;obtain ⟨its2,_,p2,_⟩:=I1.list g2;refine call_zip_2 p1.isList p2.isList fun h' a1 a2 a3 a4 a5 a6 hk=>wpAny_pyIter_zip a1 ?_;have lt1:(show Nat from l1) < s1.heap.objs.size:=by obtain ⟨o,_,ho,_⟩:=p1; exact Heap.lt_size ho
  have lt2:(show Nat from l2) < s1.heap.objs.size:=by obtain ⟨o,_,ho,_⟩:=p2; exact Heap.lt_size ho
  exact ⟨_,_,_,_,H1,rfl,I1.kept (t':=s1.toks) hk,B5e (ap lt1 lt2),⟨a1,a2,⟨_,_,a3⟩,a4,a5⟩,fps,q⟩
 ·obtain ⟨its1,_,p1,_⟩:=I1.tuple g1;obtain ⟨its2,_,p2,_⟩:=I1.tuple g2;refine B4n (xs:=its1.toArray) (ys:=its2.toArray) p1 p2 fun h' a1 a2 a3 a4 a5 hk=>wpAny_pyIter_zip a1 ?_;have lt1:(show Nat from l1) < s1.heap.objs.size:=by obtain ⟨o,ho,_⟩:=p1; exact Heap.lt_size ho
  have lt2:(show Nat from l2) < s1.heap.objs.size:=by obtain ⟨o,ho,_⟩:=p2; exact Heap.lt_size ho
  exact ⟨_,_,_,_,H1,rfl,I1.kept (t':=s1.toks) hk,A9a (ap lt1 lt2),⟨a1,a2,⟨_,_,a3⟩,a4,a5⟩,fps,q⟩
end
end L2
namespace Pu
open PySem L2 My Prf
def B7f (xs:LP) (k:LP->Prop):Prop:=match xs with
 | [.list xs,.list ys]=>k (zipD xs ys)
 | [.tuple xs,.tuple ys]=>k (zipD xs ys)
 | _=>False
def C1z (pa:PAr) (env:PEnv) (Q:LP->PEnv->Prop):Prop:=pa env fun xs e=>B7f xs fun zs=>Q zs e
theorem A5m {c:Ct} {w1:Wd} {K:Frag} (hK:c.K=K) {J:It} {us1 us2:List V} {xs ys:LP} (d1:DenAll K w1.F us1 xs) (d2:DenAll K w1.F us2 ys)
  (go:∀ w':Wd,w'.Ok->Le c.w0 w'->Same w1.F w'.F->(∀ i,i < min us1.length us2.length->J.go i w'.H)/\J.stop (min us1.length us2.length) w'.H/\∀ i v H',J.yld i w'.H v H'->∃ T x y,v=.ref T/\w'.H T=none/\H'=upd w'.H T (.tup [x,y])/\us1[i]?=some x/\us2[i]?=some y):Walk c w1 J (zipD xs ys):=by
 subst hK;intro w' ok l s;obtain ⟨g1,g2,g3⟩:=go w' ok l s;rw [B47,<- d1.len,<- d2.len];refine ⟨g1,g2,fun i v H' y hi=>?_⟩;obtain ⟨T,x,y',rfl,hT,rfl,y1,y2⟩:=g3 i v H' y;obtain ⟨dx,x1,x2⟩:=d1.get y1;obtain ⟨dy,y3,y4⟩:=d2.get y2;refine ⟨w'.tup T (.tup [x,y']),.tuple [dx,dy],rfl,Wd.tup_ok ok hT,Wd.tup_le ok hT,?_,?_⟩
 ·unfold zipD; rw [List.getElem?_zipWith,x1,y3]
 ·have f:=(Wd.tup_le (o:=.tup [x,y']) ok hT).f;exact .tup (SqD.of B9) (.cons (Den.same (s.trans f) x2) (.cons (Den.same (s.trans f) y4) .nil))
instance ri_zipS {K:Frag} {ta:TA} {pa:PAr} [ha:RAd K ta pa]:RI K (C61 K ta) (C1z pa) where
 ok:=by
  rintro c w env σ Qp R rfl E p k;refine ha.ok c w env σ _ _ rfl E p fun vs xs e1 w1 E1 l1 d1 q1=>?_;unfold B7f at q1;split at q1
  ·cases d1 with | cons h t=>cases t with | cons h' t =>
    cases t;obtain ⟨a1,us1,rfl,s1,m1⟩:=h.lstE;obtain ⟨a2,us2,rfl,s2,m2⟩:=h'.lstE;refine ⟨a1,a2,us1,us2,rfl,.inl ⟨E1.wok.sub.seq s1,E1.wok.sub.seq s2,k _ _ e1 w1 E1 l1 (A5m rfl m1 m2 fun w' ok l s=>?_) q1⟩⟩;have t1:=(s.trans ok.sub).seq s1;have t2:=(s.trans ok.sub).seq s2;exact ⟨fun i hi=>⟨us1,us2,us1[i]'(by omega),us2[i]'(by omega),t1,t2,Zg _,Zg _⟩,⟨us1,us2,t1,t2,by omega⟩,fun i v H' ⟨T,x,y,e1,e2,e3,e4,e5⟩=>⟨T,x,y,e1,e2,e3,e4 _ t1,e5 _ t2⟩⟩
  ·cases d1 with | cons h t=>cases t with | cons h' t =>
    cases t;obtain ⟨a1,us1,rfl,s1,m1⟩:=h.tupE;obtain ⟨a2,us2,rfl,s2,m2⟩:=h'.tupE;refine ⟨a1,a2,us1,us2,rfl,.inr ⟨SqT.same E1.wok.sub s1,SqT.same E1.wok.sub s2,k _ _ e1 w1 E1 l1 (A5m rfl m1 m2 fun w' ok l s=>?_) q1⟩⟩;have t1:=SqT.same (s.trans ok.sub) s1;have t2:=SqT.same (s.trans ok.sub) s2;exact ⟨fun i hi=>⟨us1,us2,us1[i]'(by omega),us2[i]'(by omega),t1,t2,Zg _,Zg _⟩,⟨us1,us2,t1,t2,by omega⟩,fun i v H' ⟨T,x,y,e1,e2,e3,e4,e5⟩=>⟨T,x,y,e1,e2,e3,e4 _ t1,e5 _ t2⟩⟩
  ·exact q1.elim
end Pu
namespace Pu
open PySem L2 My Prf
def okA:Nat->PyData->Prop
 | _,.none=>True
 | _,.bool _=>True
 | _,.int _=>True
 | _,.str s=>(PyData.str s).canLay0=true
 | _,.dict _=>False
 | 0,.list _=>False
 | 0,.tuple _=>False
 | n + 1,.list xs=>xs.length < 1000/\∀ x ∈ xs,okA n x
 | n + 1,.tuple xs=>xs.length < 1000/\∀ x ∈ xs,okA n x
def A07 (n:Nat):PSp:=fun as Q=>∃ x,as=[.d x,.d x]/\okA n x/\Q (.d (.bool true))
theorem B61 {P:Program} {w:World} {K:Frag} {mg:Str->Option Value} {base:Heap} {k:Nat} {f:Addr} {fd:FuncData} {ps:List Str} {md:List Md} (h:md.length=ps.length):FnOk P w K mg base CX0 k f fd ps (spOf K md fun _ _=>False) :=
 ⟨spOf.len h,fun _ _ _ _ _ _ _ _ _ _ _ _ _ hs=>by obtain ⟨_,_,_,_,_,_,z,_⟩:=hs; exact z.elim⟩
theorem A0n {xs ys:LP} {k:LP->Prop}:B7f [.list xs,.list ys] k=k (zipD xs ys):=rfl
theorem A4a {xs ys:LP} {k:LP->Prop}:B7f [.tuple xs,.tuple ys] k=k (zipD xs ys):=rfl
theorem A1u {xs:LP} {i:Nat} {x:PyData} (h:(zipD xs xs)[i]?=some x):∃ a,xs[i]?=some a/\x=.tuple [a,a]:=by
 obtain ⟨a,b,h1,h2,rfl⟩:=B48 h;rw [h1] at h2; cases h2; exact ⟨a,h1,rfl⟩
theorem A7j {a b:Bool}:PyData.eqv (.bool a) (.bool b)=decide (a=b):=by cases a <;> cases b <;> rfl
theorem B37 {s:Str}:PyData.eqv (.str s) (.str s)=true:=by show (s == s)=true; simp
theorem B98:kitB "int" "str"=some false:=by decide +kernel
theorem C0b:kitB "bool" "str"=some false:=by decide +kernel
theorem B95:kitB "NoneType" "str"=some false:=by decide +kernel
theorem A27 (q:Rat) (n:Nat):okA (n + 1) (dq q):=by
 show _ < 1000/\_;refine ⟨by simp,fun x hx=>?_⟩;simp at hx;rcases hx with rfl | rfl <;> (unfold okA; trivial)
end Pu
namespace Pu
open PySem L2 My Prf
def C0:LP->OT
 | []=>.nil
 | x :: r=>.cons (.leaf x) (C0 r)
def OT.len:OT->Nat
 | .cons _ t=>t.len + 1
 | .nil=>0
 | _=>1
def OT.kid:OT->Nat->Option OT
 | .cons h _,0=>some h
 | .cons _ t,n + 1=>t.kid n
 | _,_=>none
theorem X1:∀ xs,(C0 xs).fp=[]
 | []=>rfl
 | _ :: r=>by show []++(C0 r).fp=[]; rw [X1 r]; rfl
theorem U3:∀ xs,(C0 xs).dat=xs
 | []=>rfl
 | x :: r=>by show [x]++(C0 r).dat=x :: r; rw [U3 r]; rfl
theorem Z0 {K:Frag} {w:Wd}:∀ {vs:List V} {xs:LP},DenAll K w.F vs xs->Tre K w (C0 xs) vs
 | _,_,.nil=>rfl
 | _,_,.cons h t=>⟨_,_,rfl,⟨_,rfl,h⟩,Z0 t⟩
theorem V7 {K:Frag} {w:Wd}:∀ {xs:LP} {vs:List V},Tre K w (C0 xs) vs->DenAll K w.F vs xs
 | [],_,e=>by cases (show _=[] from e); exact .nil
 | _ :: _,_,⟨_,_,rfl,⟨_,e,h⟩,t⟩=>by cases e; exact .cons h (V7 t)
noncomputable def hm (w:Wd):Hpp:=fun a=>open Classical in if w.M a then none else w.H a
theorem X7 {w:Wd} {a:Addr} {o:HO} (h:w.H a=some o) (n:¬ w.M a):hm w a=some o:=by unfold hm; rw [if_neg n]; exact h
theorem B30 {w:Wd} {a:Addr} {o:HO} (h:hm w a=some o):w.H a=some o/\¬ w.M a:=by
 unfold hm at h; split at h
 ·cases h
 ·exact ⟨h,‹_›⟩
theorem hm_F {w:Wd} (ok:w.Ok):Same w.F (hm w):=fun a o h=>X7 (ok.sub a o h) fun z=>by rw [ok.nf a z] at h; cases h
theorem C20 {w w':Wd} (l:Lw w w'):Same (hm w) (hm w'):=fun a o h=>by
 obtain ⟨h1,h2⟩:=B30 h;exact X7 (l.h _ _ h1 h2) (l.nm (by rw [h1]; simp) h2)
theorem Tre.den {K:Frag} {w:Wd} (ok:w.Ok):∀ {t:OT} {vs:List V},Tre K w t vs->(∀ a ∈ t.fp,¬ w.M a)->DenAll K (hm w) vs t.dat
 | .leaf _,_,⟨_,e,h⟩,_=>by rw [e]; exact .cons (Den.same (hm_F ok) h) .nil
 | .nd true a _,_,⟨e,_,h,k⟩,n=>by rw [e]; exact .cons (.lst (SqL.of (X7 h (n a (by simp [OT.fp])))) (Tre.den ok k fun q hq=>n q (by simp [OT.fp,hq]))) .nil
 | .nd false a _,_,⟨e,_,h,k⟩,n=>by rw [e]; exact .cons (.tup (SqD.of (X7 h (n a (by simp [OT.fp])))) (Tre.den ok k fun q hq=>n q (by simp [OT.fp,hq]))) .nil
 | .nil,_,e,_=>by rw [show _=[] from e]; exact .nil
 | .cons _ _,_,⟨v,r,e,h,t⟩,n=>by
  rw [e];exact (Tre.den ok h fun q hq=>n q (by simp [OT.fp,hq])).app (vs:=[v]) (us:=r) (Tre.den ok t fun q hq=>n q (by simp [OT.fp,hq]))
def VH (K:Frag) (w:Wd) (v:V) (x:PyData):Prop:=Den K (hm w) v x
theorem VR.vh {c:Ct} {w:Wd} {v:V} {t:OT} {x:PyData} (ok:w.Ok) (h:VR c w v (.tr t)) (e:t.dat=[x]):VH c.K w v x:=by
 have:=h.1.den ok fun a ha=>(h.2.1 a ha).2.2.1;rw [e] at this;cases this with | cons a _=>exact a
theorem VV.vh {K:Frag} {w:Wd} {v:V} {x:PyData} (ok:w.Ok) (h:VV K w v x):VH K w v x:=by
 rcases h with h | ⟨l,vs,xs,rfl,rfl,h1,h2,h3⟩
 ·exact Den.same (hm_F ok) h
 ·exact .lst (SqL.of (X7 h1 h2)) (DenAll.same (hm_F ok) h3)
class RH (K:Frag) (te:TE) (pd:outParam PDt):Prop where
 ok:∀ (c:Ct) (w:Wd) (env:PEnv) (σ:St) (Qp:PyData->PEnv->Prop) (Q:VK),c.K=K->EnvOk c w env σ->pd env Qp->(∀ v x env' w',EnvOk c w' env' σ->Lw w w'->VH K w' v x->Qp x env'->Q v w'.H)->te σ w.H Q
def C11 (i:Nat) (env:PEnv) (Q:PyData->PEnv->Prop):Prop:=match env[i]? with
 | some (some (.d x))=>Q x env
 | some (some (.own xs))=>Q (.list xs) env
 | some (some (.bor xs))=>Q (.list xs) env
 | some (some (.tr t))=>∃ x,t.dat=[x]/\Q x env
 | _=>False
instance rh_var {K:Frag} {i:Nat}:RH K (tVar i) (C11 i) where
 ok:=by
  rintro c w env σ Qp Q rfl E p k;unfold C11 at p;split at p
  ·rename_i x e;obtain ⟨v,h1,h2⟩:=E.at' i _ e;exact ⟨v,h1,k v _ env w E (Lw.refl w) (Den.same (hm_F E.wok) h2) p⟩
  ·rename_i xs e;obtain ⟨v,h1,l,vs,e',g1,g2,g3,g4,g5⟩:=E.at' i _ e;exact ⟨v,h1,k v _ env w E (Lw.refl w) (VV.vh E.wok (.inr ⟨l,vs,xs,e',rfl,g1,g3,g5⟩)) p⟩
  ·rename_i xs e;obtain ⟨v,h1,h2⟩:=E.at' i _ e;exact ⟨v,h1,k v _ env w E (Lw.refl w) ((h2.vv E.le0).vh E.wok) p⟩
  ·rename_i t e;obtain ⟨x,e1,q⟩:=p;obtain ⟨v,h1,h2⟩:=E.at' i _ e;exact ⟨v,h1,k v _ env w E (Lw.refl w) (h2.vh E.wok e1) q⟩
  ·exact p.elim
def B7m (sp:Sp) (dvs:List V) (X:XK) (t:TA):TE:=A1y sp dvs X t
def B9b (psp:PSp) (pa pb:PDt) (env:PEnv) (Q:SV->PEnv->Prop):Prop:=pa env fun x e=>pb e fun y e2=>psp [.d x,.d y] fun s=>∃ b,s=.d (.bool b)/\Q (.d (.bool b)) e2
instance re_callH {K:Frag} {psp:PSp} {X:XK} {ta tb:TE} {pa pb:PDt} [ha:RH K ta pa] [hb:RH K tb pb]:RE K (B7m (spOf K [.dat,.dat] psp) [] X (G4 ta (G4 tb tNil))) (B9b psp pa pb) where
 ok:=by
  rintro c w env σ Qp Q rfl E p k;refine ha.ok c w env σ _ _ rfl E p fun x dx e1 w1 E1 l1 v1 q1=>?_;refine hb.ok c w1 e1 σ _ _ rfl E1 q1 fun y dy e2 w2 E2 l2 v2 q2=>?_;have v1':VH c.K w2 x dx:=Den.same (C20 l2) v1;refine ⟨⟨w2.M,w2.H,hm w2⟩,[.d dx,.d dy],_,rfl,⟨fun a o h=>(B30 h).1,E2.wok.st,fun a ha=>?_⟩,.dat v1' (.dat v2 .nil),q2,fun v s w' ok l h r q=>?_⟩
  ·show hm w2 a=none;unfold hm; rw [if_pos ha]
  ·obtain ⟨b,rfl,q⟩:=q;have ev:v=.bl b:=Den.blE h;have fl:∀ a o,w2.F a=some o->w2.H a=some o/\¬ w2.M a:=fun a o e=>⟨E2.wok.sub a o e,fun z=>by rw [E2.wok.nf a z] at e; cases e⟩;have le:Le w2 ⟨w'.M,w'.H,w2.F⟩:=⟨⟨Same.refl _,l.h,l.m,l.mn,l.dom⟩,fun a o e=>.inl e⟩;have ok':Wd.Ok ⟨w'.M,w'.H,w2.F⟩:=⟨fun a o e=>l.h a o (fl a o e).1 (fl a o e).2,ok.st,fun a ha=>by
    cases e:w2.F a with
    | none=>rfl
    | some o =>
     obtain ⟨f1,f2⟩:=fl a o e;rcases l.mn a ha with z | z
     ·exact absurd z f2
     ·have z':w2.H a=none:=z;rw [f1] at z'; cases z'⟩
   have E3:=E2.mono ok' le;exact k v (.d (.bool b)) e2 ⟨w'.M,w'.H,w2.F⟩ ⟨E3,l1.trans (l2.trans le.toLw),by rw [ev]; exact .bl b,fun _ z=>(nomatch z),rfl⟩ q
def Own (c:Ct) (w:Wd) (t:OT):Prop:=(∀ a ∈ t.fp,w.H a≠none/\w.F a=none/\¬ w.M a/\c.w0.H a=none)/\t.fp.Nodup
def NewT (c:Ct) (env:PEnv) (σ:St) (t:OT):Prop:=∀ a ∈ t.fp,(∀ (j:Nat) s u,env[j]?=some (some s)->σ[j]?=some (some u)->¬ s.foot u a)/\¬ c.Z a
def SV.ot (s:SV) (k:OT->Prop):Prop:=match s with
 | .d x=>k (.leaf x)
 | .own xs=>∀ a,k (.nd true a (C0 xs))
 | .tr t=>k t
 | _=>False
theorem Res.ot {c:Ct} {w w1:Wd} {env:PEnv} {σ:St} {v:V} {s:SV} {k:OT->Prop} (R:Res c w env σ w1 v s) (h:s.ot k):∃ t,Tre c.K w1 t [v]/\Own c w1 t/\NewT c env σ t/\k t:=by
 obtain ⟨E,lw,val,new,_⟩:=R;cases s with
 | d x=>exact ⟨.leaf x,⟨v,rfl,val⟩,⟨fun a z=>(nomatch z),List.nodup_nil⟩,fun a z=>(nomatch z),h⟩
 | own xs =>
  obtain ⟨l,vs,rfl,h1,h2,h3,h4,h5⟩:=val;have one:∀ a,a ∈ (OT.nd true l (C0 xs)).fp->a=l:=fun a ha=>by
   rw [show (OT.nd true l (C0 xs)).fp=l :: (C0 xs).fp from rfl,X1] at ha;simpa using ha
  refine ⟨.nd true l (C0 xs),⟨rfl,vs,h1,Z0 h5⟩,⟨fun a ha=>?_,by show (l :: (C0 xs).fp).Nodup; rw [X1]; simp⟩,fun a ha=>?_,h l⟩
  ·rw [one a ha]; exact ⟨by rw [h1]; simp,h2,h3,h4⟩
  ·rw [one a ha]; exact new l rfl
 | bor xs=>exact (show False from h).elim
 | st=>exact (show False from h).elim
 | tr t=>exact ⟨t,val.1,val.2,new,h⟩
 | bt t=>exact (show False from h).elim
 | al t=>exact (show False from h).elim
 | dk t=>exact (show False from h).elim
theorem VR.reZ {K:Frag} {w0 w:Wd} {Z Z':Addr->Prop} {v:V}:∀ {s:SV},VR ⟨K,w0,Z⟩ w v s->VR ⟨K,w0,Z'⟩ w v s
 | .d _,h=>h
 | .own _,h=>h
 | .bor _,h=>h
 | .st,h=>h
 | .tr _,h=>h
 | .bt _,h=>h
 | .al _,h=>h
 | .dk _,h=>h
def Ct.with (c:Ct) (t:OT):Ct:=⟨c.K,c.w0,fun a=>c.Z a\/a ∈ t.fp⟩
def C46 (env:PEnv) (Q:OT->PEnv->Prop):Prop:=Q .nil env
def B84 (pe:PX) (pr:PEnv->(OT->PEnv->Prop)->Prop) (env:PEnv) (Q:OT->PEnv->Prop):Prop:=pe env fun s e1=>s.ot fun t=>pr e1 fun r e2=>(∀ a ∈ r.fp,a ∉ t.fp)->Q (.cons t r) e2
def C4y (b:Bool) (pa:PEnv->(OT->PEnv->Prop)->Prop) (env:PEnv) (Q:SV->PEnv->Prop):Prop:=pa env fun t e=>t.len<=1000/\∀ a,a ∉ t.fp->Q (.tr (.nd b a t)) e
def asTr (o:Option (Option SV)) (k:OT->Prop):Prop:=match o with
 | some (some (.tr t))=>k t
 | _=>False
def pKid (i:Nat) (n:Int) (env:PEnv) (Q:PyData->PEnv->Prop):Prop:=asTr env[i]? fun t=>∃ (m:Nat) (b:Bool) (a a':Addr) (ks:OT) (xs:LP),n=m/\t=.nd b a ks/\ks.kid m=some (.nd true a' (C0 xs))/\Q (.list xs) env
def B1l (i:Nat) (n:Int) (D:PEnds) (env:PEnv):Prop:=asTr env[i]? fun t=>∃ (m:Nat) (b:Bool) (a a':Addr) (ks ls:OT),n=m/\t=.nd b a ks/\ks.kid m=some (.nd true a' ls)/\D.nx (env.set i (some (.tr (OT.put a' .nil t))))
end Pu
namespace L2
open PySem PySem.Spec PyProof.Rows
section
variable {X:Cx} {e:Expr}
theorem U5 {sp:Sp} {dvs:List V} {E:XK} {t:TA} (h:QE X e (A1y sp dvs E t)):QE X e (Pu.B7m sp dvs E t):=h
end
end L2
namespace Pu
open PySem L2 My Prf
def SV.asH (s:SV) (k:PyData->Prop):Prop:=match s with
 | .d x=>k x
 | .own xs=>k (.list xs)
 | .tr t=>∃ x,t.dat=[x]/\k x
 | _=>False
def C1v (pe:PX) (env:PEnv) (Q:PyData->PEnv->Prop):Prop:=pe env fun s e=>s.asH fun x=>Q x e
instance (priority:=200) rh_re {K:Frag} {te:TE} {pe:PX} [h:RE K te pe]:RH K te (C1v pe) where
 ok:=by
  rintro c w env σ Qp Q rfl E p k;refine h.ok c w env σ _ Q rfl E p fun v s env' w' R q=>?_;have E':=R.ev;cases s with
  | d x=>exact k v x env' w' E' R.lw (Den.same (hm_F E'.wok) R.val) q
  | own xs =>
   obtain ⟨l,vs,e',g1,g2,g3,g4,g5⟩:=R.val;exact k v _ env' w' E' R.lw (VV.vh E'.wok (.inr ⟨l,vs,xs,e',rfl,g1,g3,g5⟩)) q
  | tr t =>
   obtain ⟨x,e,q⟩:=q;exact k v x env' w' E' R.lw (VR.vh E'.wok R.val e) q
  | bor xs=>exact (show False from q).elim
  | bt t=>exact (show False from q).elim
  | al t=>exact (show False from q).elim
  | dk t=>exact (show False from q).elim
  | st=>exact (show False from q).elim
theorem VR.btv {c:Ct} {w:Wd} {v:V} {t:OT} (l:Le c.w0 w) (h:VR c w v (.bt t)):TV c.K w v t:=by
 have lw:Lw ⟨c.w0.M,c.w0.H,w.F⟩ w:=⟨Same.refl _,l.h,l.m,l.mn,l.dom⟩;exact ⟨h.1.mono lw h.2,fun a ha=>l.nm (h.1.has a ha) (h.2 a ha)⟩
class RTr (K:Frag) (te:TE) (pb:outParam (PEnv->(OT->PEnv->Prop)->Prop)):Prop where
 ok:∀ (c:Ct) (w:Wd) (env:PEnv) (σ:St) (Qp:OT->PEnv->Prop) (Q:VK),c.K=K->EnvOk c w env σ->pb env Qp->(∀ v t env' w',EnvOk c w' env' σ->Lw w w'->TV K w' v t->Qp t env'->Q v w'.H)->te σ w.H Q
def pTr (pe:PX) (env:PEnv) (Q:OT->PEnv->Prop):Prop:=pe env fun s e=>s.ot fun t=>Q t e
def pTrV (i:Nat) (env:PEnv) (Q:OT->PEnv->Prop):Prop:=match env[i]? with
 | some (some (.d x))=>Q (.leaf x) env
 | some (some (.tr t))=>Q t env
 | some (some (.bt t))=>Q t env
 | _=>False
instance rtr_var {K:Frag} {i:Nat}:RTr K (tVar i) (pTrV i) where
 ok:=by
  rintro c w env σ Qp Q rfl E p k;unfold pTrV at p;split at p
  ·rename_i x e;obtain ⟨v,h1,h2⟩:=E.at' i _ e;exact ⟨v,h1,k v (.leaf x) env w E (Lw.refl w) ⟨⟨v,rfl,h2⟩,fun a z=>nomatch z⟩ p⟩
  ·rename_i t e;obtain ⟨v,h1,h2⟩:=E.at' i _ e;exact ⟨v,h1,k v _ env w E (Lw.refl w) ⟨h2.1,fun a ha=>(h2.2.1 a ha).2.2.1⟩ p⟩
  ·rename_i t e;obtain ⟨v,h1,h2⟩:=E.at' i _ e;exact ⟨v,h1,k v _ env w E (Lw.refl w) (h2.btv E.le0) p⟩
  ·exact p.elim
def B86 (pb:PEnv->(OT->PEnv->Prop)->Prop) (pr:PAs) (env:PEnv) (Q:List SV->PEnv->Prop):Prop:=pb env fun t e1=>pr e1 fun as e2=>Q (.bt t :: as) e2
def OT.lvs:OT->Option LP
 | .nil=>some []
 | .cons (.leaf x) t=>t.lvs.map (x :: ·)
 | _=>none
theorem A0g:∀ xs,(C0 xs).lvs=some xs
 | []=>rfl
 | x :: r=>by show (C0 r).lvs.map _=_; rw [A0g r]; rfl
theorem A0i:∀ {t:OT} {xs:LP},t.lvs=some xs->t=C0 xs
 | .nil,_,h=>by cases h; rfl
 | .cons (.leaf x) t,xs,h=>by
  have h':t.lvs.map (x :: ·)=some xs:=h;cases q:t.lvs with
  | none=>rw [q] at h'; cases h'
  | some ys=>rw [q] at h'; cases h'; rw [A0i q]; rfl
def OT.sv:OT->SV
 | .leaf (.list xs)=>.bor xs
 | .leaf x=>.d x
 | .nd true a k=>match k.lvs with
  | some xs=>.bor xs
  | none=>.bt (.nd true a k)
 | t=>.bt t
theorem A1z {a:Addr} {xs:LP}:OT.sv (.nd true a (C0 xs))=.bor xs:=by show (match (C0 xs).lvs with | some xs=>SV.bor xs | none=>_)=_; rw [A0g]
theorem VR.sv {c:Ct} {w:Wd} {v:V} {u:OT} (h:VR c w v (.bt u)):VR c w v u.sv:=by
 unfold OT.sv;split
 ·obtain ⟨⟨v',e,h⟩,_⟩:=h;cases e; exact .inl h
 ·obtain ⟨⟨v',e,h⟩,_⟩:=h;cases e; exact h
 ·rename_i a k;split
  ·rename_i xs q;obtain ⟨⟨e,us,h1,h2⟩,h3⟩:=h;cases e;rw [A0i q] at h2;exact .inr ⟨a,us,rfl,h1,h3 a (by simp [OT.fp]),V7 (w:=⟨c.w0.M,c.w0.H,w.F⟩) h2⟩
  ·exact h
 ·exact h
theorem B7n {c:Ct} {env:PEnv} {σ:St} {v:V}:∀ {u:OT},New c env σ v u.sv:=by
 intro u a f;unfold OT.sv at f;split at f
 ·exact f.elim
 ·exact f.elim
 ·split at f
  ·exact f.elim
  ·exact f.elim
 ·exact f.elim
def OT.pair:OT->Option (OT × OT)
 | .nd false _ (.cons u (.cons v .nil))=>some (u,v)
 | .leaf (.tuple [x,y])=>some (.leaf x,.leaf y)
 | _=>none
def pUnp (i a b:Nat) (pr:LP->PEnv->(PEnv->Prop)->Prop) (D:PEnds) (env:PEnv):Prop:=match env[i]? with
 | some (some (.bt t))=>∃ u v,t.pair=some (u,v)/\D.nx ((env.set a (some u.sv)).set b (some v.sv))
 | some (some (.d x))=>qTup 2 pr x env D.nx
 | _=>False
theorem C3l {c:Ct} {w:Wd} {v:V} {t u1 u2:OT} (ok:w.Ok) (l:Le c.w0 w) (h:VR c w v (.bt t)) (e:t.pair=some (u1,u2)):∃ p x y,v=.ref p/\SqT c.K w.H p [x,y]/\VR c w x (.bt u1)/\VR c w y (.bt u2):=by
 unfold OT.pair at e;split at e
 ·rename_i a k1 k2;cases e;obtain ⟨⟨ev,us,h1,x,r,e1,hx,y,r2,e2,hy,e3⟩,h3⟩:=h;cases ev;have e3':r2=[]:=e3;subst e1; subst e2; subst e3';exact ⟨a,x,y,rfl,SqT.of (l.h _ _ h1 (h3 a (by simp [OT.fp]))),⟨hx,fun q hq=>h3 q (by simp [OT.fp,hq])⟩,⟨hy,fun q hq=>h3 q (by simp [OT.fp,hq])⟩⟩
 ·cases e;obtain ⟨⟨v',ev,h⟩,_⟩:=h;cases ev;obtain ⟨p,vs,rfl,h1,h2⟩:=Den.tupE h;cases h2 with
  | cons hx t=>cases t with
   | cons hy t =>
    cases t;exact ⟨p,_,_,rfl,SqT.same ok.sub h1,⟨⟨_,rfl,hx⟩,fun q hq=>nomatch hq⟩,⟨⟨_,rfl,hy⟩,fun q hq=>nomatch hq⟩⟩
 ·cases e
instance (priority:=high) rs_unp {K:Frag} {i a b:Nat} {pr:LP->PEnv->(PEnv->Prop)->Prop} [hr:RGs K (A5b (R0 a) (A5b (R0 b) gNil)) pr]:RS K (tAsg (tVar i) (gTup K 2 (A5b (R0 a) (A5b (R0 b) gNil)))) (pUnp i a b pr) where
 ok:=by
  rintro c w env σ Dp D rfl E h p;unfold pUnp at p;split at p
  ·rename_i t e;obtain ⟨u1,u2,hp,q⟩:=p;obtain ⟨v,h1,h2⟩:=E.at' i _ e;obtain ⟨p,x,y,rfl,hs,hx,hy⟩:=C3l E.wok E.le0 h2 hp;refine ⟨_,h1,p,[x,y],rfl,hs,rfl,x,[y],rfl,y,[],rfl,rfl,?_⟩;have E1:=E.set (i:=a) hx.sv B7n;have E2:=E1.set (i:=b) hy.sv B7n;exact h.nx _ _ w E2 (Same.refl _) q
  ·rename_i x e;obtain ⟨v,h1,h2⟩:=E.at' i _ e;refine ⟨v,h1,?_⟩;exact rg_tup.ok c w env σ v x _ _ rfl E h2 p fun e2 σ2 E2 q2=>h.nx e2 σ2 w E2 (Same.refl _) q2
  ·exact p.elim
def C8d (i:Nat) (n:Int) (j:Nat) (D:PEnds) (env:PEnv):Prop:=match env[i]? with
 | some (some (.bt t))=>∃ u v,t.pair=some (u,v)/\((n=0/\D.nx (env.set j (some u.sv)))\/(n=1/\D.nx (env.set j (some v.sv))))
 | _=>False
end Pu
namespace Pu
open PySem L2 My Prf
theorem A9y {pr:LP->PEnv->(PEnv->Prop)->Prop} {q:Rat} {env:PEnv} {Q:PEnv->Prop}:qTup 2 pr (dq q) env Q=pr [.int q.num,.int q.den] env Q:=by
 unfold dq; rw [A0z]; exact propext ⟨fun h=>h.2,fun h=>⟨rfl,h⟩⟩
theorem C68 (q:Rat):PyData.tuple [.int (-q.num),.int q.den]=dq (-q):=rfl
end Pu
namespace Pu
open PySem L2 My Prf
section
variable {x y:PyData} {xs ys:LP} {i j:Nat} {env e:PEnv} {s:SV} {t:OT}
theorem C7r {k:PyData->Prop}:(SV.d x).asD k=k x:=rfl
theorem C7q {k:PyData->Prop}:(SV.own xs).asD k=k (.list xs):=rfl
def oVar (o:Option (Option SV)) (i:Nat) (env:PEnv) (Q:SV->PEnv->Prop):Prop:=match o with
 | some (some (.d x))=>Q (.d x) env
 | some (some (.own xs))=>Q (.d (.list xs)) (env.set i (some (.d (.list xs))))
 | some (some .st)=>Q .st env
 | _=>False
theorem B8i {Q:SV->PEnv->Prop}:pVar i env Q=oVar env[i]? i env Q:=rfl
theorem B9n {Q:SV->PEnv->Prop}:oVar (some (some (.d x))) i env Q=Q (.d x) env:=rfl
theorem B9m {Q:SV->PEnv->Prop}:oVar (some (some (.own xs))) i env Q=Q (.d (.list xs)) (env.set i (some (.d (.list xs)))):=rfl
theorem B9l {Q:SV->PEnv->Prop}:oVar (some (some .st)) i env Q=Q .st env:=rfl
def B6m (o:Option (Option SV)) (env:PEnv) (Q:PyData->PEnv->Prop):Prop:=match o with
 | some (some (.d x))=>Q x env
 | some (some (.own xs))=>Q (.list xs) env
 | some (some (.bor xs))=>Q (.list xs) env
 | _=>False
theorem B0p {Q:PyData->PEnv->Prop}:C10 i env Q=B6m env[i]? env Q:=rfl
theorem B13 {Q:PyData->PEnv->Prop}:B6m (some (some (.d x))) env Q=Q x env:=rfl
theorem B12 {Q:PyData->PEnv->Prop}:B6m (some (some (.own xs))) env Q=Q (.list xs) env:=rfl
theorem B14 {Q:PyData->PEnv->Prop}:B6m (some (some (.bor xs))) env Q=Q (.list xs) env:=rfl
theorem pI_i {C:Int->Int->Prop} {gd:Int->Int->PyData} {i j:Int} {Q:SV->Prop}:pI C gd (.int i) (.int j) Q=(C i j/\Q (.d (gd i j))):=rfl
theorem C5c {gd:Int->Int->PyData} {i j:Int} {Q:SV->Prop}:pI0 gd (.int i) (.int j) Q=Q (.d (gd i j)):=rfl
theorem pU_i {gd:Int->PyData} {i:Int} {Q:SV->Prop}:pU gd (.int i) Q=Q (.d (gd i)):=rfl
theorem B9g {i:Int} {Q:SV->Prop}:pAbs [.int i] Q=Q (.d (.int (if i < 0 then -i else i))):=rfl
theorem B8q {i j:Int} {Q:SV->Prop}:pMax [.int i,.int j] Q=Q (.d (.int (if j > i then j else i))):=rfl
theorem B8p {i j:Int} {Q:SV->Prop}:pMin [.int i,.int j] Q=Q (.d (.int (if j < i then j else i))):=rfl
theorem B81 {i:Int} {Q:SV->Prop}:pInt [.int i] Q=Q (.d (.int i)):=rfl
theorem B82 {b:Bool} {Q:SV->Prop}:pInt [.bool b] Q=Q (.d (.int (if b then 1 else 0))):=rfl
theorem A6e {Q:SV->Prop}:A6f [.list ys] Q=Q (.own ys):=rfl
theorem A6d {Q:SV->Prop}:A6f [.tuple ys] Q=Q (.own ys):=rfl
def oKit (o:Option Bool) (Q:SV->Prop):Prop:=match o with
 | some b=>Q (.d (.bool b))
 | none=>False
theorem B80 {c:String} {pa:PDt} {Q:SV->PEnv->Prop}:pIsi c pa env Q=pa env fun x e=>oKit (kitB (tyD x) c) fun s=>Q s e:=rfl
theorem B1e {cs:List String} {pa:PDt} {Q:SV->PEnv->Prop}:C79 cs pa env Q=pa env fun x e=>cs.length<=1000/\oKit (A1n (tyD x) cs) fun s=>Q s e:=rfl
theorem B9v {b:Bool} {Q:SV->Prop}:oKit (some b) Q=Q (.d (.bool b)):=rfl
theorem C7s {b:Bool} {k:Bool->Prop}:asB (.bool b) k=k b:=rfl
theorem C7k {k:LP->Prop}:asL (.list xs) k=k xs:=rfl
theorem C0e {k:Prop}:isSt (some (some .st)) k=k:=rfl
theorem B7h {i:Int} {k:Int->Prop}:asI (.int i) k=k i:=rfl
def B2i (o:Option (Option SV)) (D:PEnds) (env:PEnv):Prop:=match o with
 | some (some (.bor _))=>False
 | some (some (.bt _))=>False
 | some (some (.al _))=>False
 | some (some s)=>D.rt s env
 | _=>False
theorem B0v {D:PEnds}:C16 i D env=B2i env[i]? D env:=rfl
theorem B2h {D:PEnds}:B2i (some (some (.d x))) D env=D.rt (.d x) env:=rfl
theorem B2g {D:PEnds}:B2i (some (some (.own xs))) D env=D.rt (.own xs) env:=rfl
theorem B2f {D:PEnds}:B2i (some (some .st)) D env=D.rt .st env:=rfl
theorem B2e {D:PEnds}:B2i (some (some (.tr t))) D env=D.rt (.tr t) env:=rfl
theorem B77 {Q:PEnv->Prop}:qNil [] env Q=Q env:=rfl
theorem A90 {pg:PyData->PEnv->(PEnv->Prop)->Prop} {pr:LP->PEnv->(PEnv->Prop)->Prop} {Q:PEnv->Prop}:C1e pg pr (x :: xs) env Q=pg x env fun e=>pr xs e Q:=rfl
def oPar (i j:Nat) (xs:LP) (D:PEnds) (e:PEnv):Prop:=match xs with
 | [x,y]=>D.nx ((e.set i (some (.d x))).set j (some (.d y)))
 | _=>False
theorem B8o {pa:PAr} {D:PEnds}:pPar i j pa D env=pa env fun xs e=>oPar i j xs D e:=rfl
theorem B9t {D:PEnds}:oPar i j [x,y] D e=D.nx ((e.set i (some (.d x))).set j (some (.d y))):=rfl
theorem B41 {k:LP->Prop}:N1 (some (some (.own xs))) k=k xs:=rfl
def A6u (o:Option (Option SV)) (i:Nat) (env:PEnv) (Q:LP->PEnv->Prop):Prop:=match o with
 | some (some (.d x))=>U6 x fun xs=>Q xs env
 | some (some (.own xs))=>Q xs (env.set i (some (.d (.list xs))))
 | some (some (.bor xs))=>Q xs env
 | _=>False
theorem A6j {Q:LP->PEnv->Prop}:B1c i env Q=A6u env[i]? i env Q:=rfl
theorem A6s {Q:LP->PEnv->Prop}:A6u (some (some (.d x))) i env Q=U6 x fun xs=>Q xs env:=rfl
theorem A6r {Q:LP->PEnv->Prop}:A6u (some (some (.own xs))) i env Q=Q xs (env.set i (some (.d (.list xs)))):=rfl
theorem A6t {Q:LP->PEnv->Prop}:A6u (some (some (.bor xs))) i env Q=Q xs env:=rfl
def C57 (xs:LP) (Q:LP->Prop):Prop:=match xs with
 | [.int j]=>(-(2 ^ 62)<=j/\j < 2 ^ 62)/\Q (rngD 0 j.toNat)
 | _=>False
theorem B0u {pa:PAr} {Q:LP->PEnv->Prop}:C40 pa env Q=pa env fun xs e=>C57 xs fun ys=>Q ys e:=rfl
theorem B2d {j:Int} {Q:LP->Prop}:C57 [.int j] Q=((-(2 ^ 62)<=j/\j < 2 ^ 62)/\Q (rngD 0 j.toNat)):=rfl
def C56 (xs:LP) (Q:LP->Prop):Prop:=match xs with
 | [.int i,.int j]=>(-(2 ^ 62)<=i/\i < 2 ^ 62/\-(2 ^ 62)<=j/\j < 2 ^ 62)/\Q (rngD i (j - i).toNat)
 | _=>False
theorem B0t {pa:PAr} {Q:LP->PEnv->Prop}:C4z pa env Q=pa env fun xs e=>C56 xs fun ys=>Q ys e:=rfl
theorem B2c {i j:Int} {Q:LP->Prop}:C56 [.int i,.int j] Q=((-(2 ^ 62)<=i/\i < 2 ^ 62/\-(2 ^ 62)<=j/\j < 2 ^ 62)/\Q (rngD i (j - i).toNat)):=rfl
def C55 (xs:LP) (Q:LP->Prop):Prop:=match xs with
 | [.int i,.int j,.int k]=>k=-1/\((-(2 ^ 61)<=i/\i < 2 ^ 61)/\-(2 ^ 61)<=j/\j < 2 ^ 61)/\Q (dwnD i (i - j).toNat)
 | _=>False
theorem B0s {pa:PAr} {Q:LP->PEnv->Prop}:C77 pa env Q=pa env fun xs e=>C55 xs fun ys=>Q ys e:=rfl
theorem B2b {i j k:Int} {Q:LP->Prop}:C55 [.int i,.int j,.int k] Q=(k=-1/\((-(2 ^ 61)<=i/\i < 2 ^ 61)/\-(2 ^ 61)<=j/\j < 2 ^ 61)/\Q (dwnD i (i - j).toNat)):=rfl
theorem B9a {Q:SV->Prop}:pCat (.list xs) (.list ys) Q=(xs.length + ys.length<=1000000/\Q (.own (xs++ys))):=rfl
theorem B9f {Q:SV->Prop}:pAll [.list ys] Q=∃ bs,blsD ys=some bs/\Q (.d (.bool (bs.all id))):=rfl
theorem B9e {Q:SV->Prop}:pAny [.list ys] Q=∃ bs,blsD ys=some bs/\Q (.d (.bool (bs.any id))):=rfl
def B6o (o:Option (Option SV)) (i:Nat) (env:PEnv) (Q:LP->PEnv->Prop):Prop:=match o with
 | some (some (.d x))=>asL x fun xs=>Q xs env
 | some (some (.own xs))=>Q xs (env.set i (some (.d (.list xs))))
 | some (some (.bor xs))=>Q xs env
 | _=>False
theorem B01 {Q:LP->PEnv->Prop}:C78 i env Q=B6o env[i]? i env Q:=rfl
theorem B2n {Q:LP->PEnv->Prop}:B6o (some (some (.d x))) i env Q=asL x fun xs=>Q xs env:=rfl
theorem B2m {Q:LP->PEnv->Prop}:B6o (some (some (.own xs))) i env Q=Q xs (env.set i (some (.d (.list xs)))):=rfl
theorem B2o {Q:LP->PEnv->Prop}:B6o (some (some (.bor xs))) i env Q=Q xs env:=rfl
def oZip (xss:List LP) (Q:LP->Prop):Prop:=match xss with
 | [xs,ys]=>Q (zipD xs ys)
 | _=>False
theorem B8h {pa:PEnv->(List LP->PEnv->Prop)->Prop} {Q:LP->PEnv->Prop}:pZip pa env Q=pa env fun xss e=>oZip xss fun ys=>Q ys e:=rfl
theorem B9k {Q:LP->Prop}:oZip [xs,ys] Q=Q (zipD xs ys):=rfl
def C6a (xss:List LP) (Q:LP->Prop):Prop:=match xss with
 | [xs]=>Q (C23 xs)
 | _=>False
theorem B1g {pa:PEnv->(List LP->PEnv->Prop)->Prop} {Q:LP->PEnv->Prop}:C8a pa env Q=pa env fun xss e=>C6a xss fun ys=>Q ys e:=rfl
theorem B2r {Q:LP->Prop}:C6a [xs] Q=Q (C23 xs):=rfl
def B19 (o:Option (Option SV)) (env:PEnv) (Q:PyData->PEnv->Prop):Prop:=match o with
 | some (some (.d x))=>Q x env
 | some (some (.own xs))=>Q (.list xs) env
 | some (some (.bor xs))=>Q (.list xs) env
 | some (some (.tr t))=>∃ x,t.dat=[x]/\Q x env
 | _=>False
theorem B0q {Q:PyData->PEnv->Prop}:C11 i env Q=B19 env[i]? env Q:=rfl
theorem B17 {Q:PyData->PEnv->Prop}:B19 (some (some (.d x))) env Q=Q x env:=rfl
theorem B16 {Q:PyData->PEnv->Prop}:B19 (some (some (.own xs))) env Q=Q (.list xs) env:=rfl
theorem B18 {Q:PyData->PEnv->Prop}:B19 (some (some (.bor xs))) env Q=Q (.list xs) env:=rfl
theorem B15 {Q:PyData->PEnv->Prop}:B19 (some (some (.tr t))) env Q=∃ x,t.dat=[x]/\Q x env:=rfl
theorem ot_d {k:OT->Prop}:(SV.d x).ot k=k (.leaf x):=rfl
theorem ot_o {k:OT->Prop}:(SV.own xs).ot k=∀ a,k (.nd true a (C0 xs)):=rfl
theorem ot_t {k:OT->Prop}:(SV.tr t).ot k=k t:=rfl
theorem C0m {k:OT->Prop}:asTr (some (some (.tr t))) k=k t:=rfl
theorem C7n {k:PyData->Prop}:(SV.d x).asH k=k x:=rfl
theorem C7m {k:PyData->Prop}:(SV.own xs).asH k=k (.list xs):=rfl
theorem C7l {k:PyData->Prop}:(SV.tr t).asH k=∃ x,t.dat=[x]/\k x:=rfl
def oTrV (o:Option (Option SV)) (env:PEnv) (Q:OT->PEnv->Prop):Prop:=match o with
 | some (some (.d x))=>Q (.leaf x) env
 | some (some (.tr t))=>Q t env
 | some (some (.bt t))=>Q t env
 | _=>False
theorem B8l {Q:OT->PEnv->Prop}:pTrV i env Q=oTrV env[i]? env Q:=rfl
theorem B9r {Q:OT->PEnv->Prop}:oTrV (some (some (.d x))) env Q=Q (.leaf x) env:=rfl
theorem B9q {Q:OT->PEnv->Prop}:oTrV (some (some (.tr t))) env Q=Q t env:=rfl
theorem B9s {Q:OT->PEnv->Prop}:oTrV (some (some (.bt t))) env Q=Q t env:=rfl
def oUnp (o:Option (Option SV)) (a b:Nat) (pr:LP->PEnv->(PEnv->Prop)->Prop) (D:PEnds) (env:PEnv):Prop:=match o with
 | some (some (.bt t))=>∃ u v,t.pair=some (u,v)/\D.nx ((env.set a (some u.sv)).set b (some v.sv))
 | some (some (.d x))=>qTup 2 pr x env D.nx
 | _=>False
theorem B8j {a b:Nat} {pr:LP->PEnv->(PEnv->Prop)->Prop} {D:PEnds}:pUnp i a b pr D env=oUnp env[i]? a b pr D env:=rfl
theorem B9p {a b:Nat} {pr:LP->PEnv->(PEnv->Prop)->Prop} {D:PEnds}:oUnp (some (some (.bt t))) a b pr D env=∃ u v,t.pair=some (u,v)/\D.nx ((env.set a (some u.sv)).set b (some v.sv)):=rfl
theorem B9o {a b:Nat} {pr:LP->PEnv->(PEnv->Prop)->Prop} {D:PEnds}:oUnp (some (some (.d x))) a b pr D env=qTup 2 pr x env D.nx:=rfl
def C6c (o:Option (Option SV)) (n:Int) (j:Nat) (D:PEnds) (env:PEnv):Prop:=match o with
 | some (some (.bt t))=>∃ u v,t.pair=some (u,v)/\((n=0/\D.nx (env.set j (some u.sv)))\/(n=1/\D.nx (env.set j (some v.sv))))
 | _=>False
theorem B1p {n:Int} {D:PEnds}:C8d i n j D env=C6c env[i]? n j D env:=rfl
theorem B2t {n:Int} {D:PEnds}:C6c (some (some (.bt t))) n j D env=∃ u v,t.pair=some (u,v)/\((n=0/\D.nx (env.set j (some u.sv)))\/(n=1/\D.nx (env.set j (some v.sv)))):=rfl
class Box (α:Type) where
 f:α->Prop
def hold {α:Type} [b:Box α] (x:α):Prop:=b.f x
theorem A7e {α:Type} {f:α->Prop} {x:α}:@hold α ⟨f⟩ x=f x:=rfl
theorem B1o {psp:PSp} {pa:PAs} {env:PEnv} {Q:SV->PEnv->Prop}:C5o psp pa env Q=pa env fun as e=>psp as (@hold SV ⟨fun s=>Q s e⟩):=rfl
theorem A6n {psp:PSp} {pa pb:PDt} {env:PEnv} {Q:SV->PEnv->Prop}:B9b psp pa pb env Q=pa env fun x e=>pb e fun y e2=>psp [.d x,.d y] (@hold SV ⟨fun s=>∃ b,s=.d (.bool b)/\Q (.d (.bool b)) e2⟩):=rfl
theorem B8s {xs:LP} {i:Int} {Q:SV->Prop}:pIx (.list xs) (.int i) Q=pGet xs i (@hold SV ⟨Q⟩):=rfl
theorem B8r {xs:LP} {i:Int} {Q:SV->Prop}:pIx (.tuple xs) (.int i) Q=pGet xs i (@hold SV ⟨Q⟩):=rfl
theorem B1k {pi:PAr} {pg:PyData->PEnv->(PEnv->Prop)->Prop} {pt:PTt} {pd:PDt} {cap:List (Option Nat)} {env:PEnv} {Q:SV->PEnv->Prop}:C5k pi pg pt pd cap env Q=pi env fun xs e=>xs.length < 1000000/\N9 xs pg pt pd (F6 cap e) (@hold LP ⟨fun ys=>Q (.own ys) e⟩):=rfl
theorem A0d {pi:PAr} {pg:PyData->PEnv->(PEnv->Prop)->Prop} {pt:PTt} {pd:PDt} {cap:List (Option Nat)} {i:Nat} {D:PEnds} {env:PEnv}:A6c pi pg pt pd cap i D env=pi env fun xs e=>xs.length < 1000000/\N9 xs pg pt pd (F6 cap e) (@hold LP ⟨fun ys=>D.nx (e.set i (some (.own ys)))⟩):=rfl
end
end Pu
namespace L2
open PySem PySem.Spec PyProof.Rows
section
variable {X:Cx}
def rInD (K:PySem.W.Frag) (neg:Bool):R2:=fun x y H Q=>∃ dx dy xs,Den K H x dx/\Den K H y dy/\(dy=.list xs\/dy=.tuple xs)/\PyData.canLayAll0 xs=true/\dx.canLay0=true/\dx.depth<=60/\Q (.bl (if neg then !(xs.any fun z=>z.eqv dx) else xs.any fun z=>z.eqv dx)) H
theorem C5v (hu:X.A.units + 64 < cLine):OpR X (compareOp .In) (rInD X.K false):=by
 intro pins s σ H x y v u Q I rx ry h;obtain ⟨dx,dy,xs,h1,h2,h3,c1,c2,hd,q⟩:=h;obtain ⟨as,r1⟩:=h1.reads I rx c2;obtain ⟨bs,r2⟩:=h2.reads I ry (by rcases h3 with rfl | rfl <;> exact c1)
 rcases h3 with rfl | rfl
 ·exact PySem.SeqAt.in_list_reads r2 r1 c1 c2 (by omega) ⟨.bl _,H,I,rfl,q⟩
 ·exact PySem.SeqAt.in_tuple_reads r2 r1 c1 c2 (by omega) ⟨.bl _,H,I,rfl,q⟩
theorem B1t (hu:X.A.units + 64 < cLine):OpR X (compareOp .NotIn) (rInD X.K true):=by
 intro pins s σ H x y v u Q I rx ry h;obtain ⟨dx,dy,xs,h1,h2,h3,c1,c2,hd,q⟩:=h;obtain ⟨as,r1⟩:=h1.reads I rx c2;obtain ⟨bs,r2⟩:=h2.reads I ry (by rcases h3 with rfl | rfl <;> exact c1)
 rcases h3 with rfl | rfl
 ·exact PySem.SeqAt.notIn_list_reads r2 r1 c1 c2 (by omega) ⟨.bl _,H,I,rfl,q⟩
 ·exact PySem.SeqAt.notIn_tuple_reads r2 r1 c1 c2 (by omega) ⟨.bl _,H,I,rfl,q⟩
theorem B1v {K:PySem.W.Frag} (h:X.K=K) (hu:X.A.units + 64 < cLine):OpR X (compareOp .In) (rInD K false):=by subst h; exact C5v hu
theorem A0e {K:PySem.W.Frag} (h:X.K=K) (hu:X.A.units + 64 < cLine):OpR X (compareOp .NotIn) (rInD K true):=by subst h; exact B1t hu
end
end L2
namespace Pu
open PySem L2 My Prf
def pIn (neg:Bool) (x y:PyData) (Q:SV->Prop):Prop:=U6 y fun xs=>PyData.canLayAll0 xs=true/\x.canLay0=true/\x.depth<=60/\Q (.d (.bool (if neg then !(xs.any fun z=>z.eqv x) else xs.any fun z=>z.eqv x)))
instance ro_in {K:Frag} {neg:Bool}:RO K (rInD K neg) (pIn neg) where
 ok:=by
  rintro c w env σ x y dx dy Qp Q rfl E vx vy p k;unfold pIn U6 at p;split at p
  ·rename_i xs;exact ⟨dx,_,xs,vx.den E.wok,vy.den E.wok,.inl rfl,p.1,p.2.1,p.2.2.1,k _ _ w (Res.data E (.bl _)) p.2.2.2⟩
  ·rename_i xs;exact ⟨dx,_,xs,vx.den E.wok,vy.den E.wok,.inr rfl,p.1,p.2.1,p.2.2.1,k _ _ w (Res.data E (.bl _)) p.2.2.2⟩
  ·exact p.elim
theorem hm_H {w:Wd}:Same (hm w) w.H:=fun _ _ h=>(B30 h).1
instance (priority:=high) re_neH {K:Frag} {ta tb:TE} {pa pb:PDt} [ha:RH K ta pa] [hb:RH K tb pb]:RE K (tOp (rNeD K) ta tb) (pOp pNeD pa pb) where
 ok:=by
  rintro c w env σ Qp Q rfl E p k;refine ha.ok c w env σ _ _ rfl E p fun x dx e1 w1 E1 l1 v1 q1=>?_;refine hb.ok c w1 e1 σ _ _ rfl E1 q1 fun y dy e2 w2 E2 l2 v2 q2=>?_;have v1':VH c.K w2 x dx:=Den.same (C20 l2) v1;exact ⟨dx,dy,Den.same hm_H v1',Den.same hm_H v2,q2.1,q2.2.1,q2.2.2.1,k _ _ e2 w2 ((Res.data E2 (.bl _)).pre (l1.trans l2)) q2.2.2.2⟩
instance (priority:=high) re_eqH {K:Frag} {ta tb:TE} {pa pb:PDt} [ha:RH K ta pa] [hb:RH K tb pb]:RE K (tOp (rEqD K) ta tb) (pOp pEqD pa pb) where
 ok:=by
  rintro c w env σ Qp Q rfl E p k;refine ha.ok c w env σ _ _ rfl E p fun x dx e1 w1 E1 l1 v1 q1=>?_;refine hb.ok c w1 e1 σ _ _ rfl E1 q1 fun y dy e2 w2 E2 l2 v2 q2=>?_;have v1':VH c.K w2 x dx:=Den.same (C20 l2) v1;exact ⟨dx,dy,Den.same hm_H v1',Den.same hm_H v2,q2.1,q2.2.1,q2.2.2.1,k _ _ e2 w2 ((Res.data E2 (.bl _)).pre (l1.trans l2)) q2.2.2.2⟩
def B9w (o:Option (Option SV)) (n:Int) (env:PEnv) (Q:LP->PEnv->Prop):Prop:=match o with
 | some (some (.bt t))=>∃ u v xs,t.pair=some (u,v)/\n=1/\v.sv=.bor xs/\Q xs env
 | _=>False
def B8z (i:Nat) (n:Int) (env:PEnv) (Q:LP->PEnv->Prop):Prop:=B9w env[i]? n env Q
theorem A6v {t:OT} {n:Int} {env:PEnv} {Q:LP->PEnv->Prop}:B9w (some (some (.bt t))) n env Q=∃ u v xs,t.pair=some (u,v)/\n=1/\v.sv=.bor xs/\Q xs env:=rfl
theorem EnvOk.take {c:Ct} {w:Wd} {env:PEnv} {σ:St} {i:Nat} {s:SV} (E:EnvOk c w env σ) (h:env[i]?=some (some s)) (hr:s.isRes=true):∃ v,σ[i]?=some (some v)/\Res c w (env.set i none) σ w v s:=by
 obtain ⟨v,hv,hV⟩:=E.at' i _ h;have up:∀ {j:Nat} {t:SV},(env.set i none)[j]?=some (some t)->i≠j/\env[j]?=some (some t):=by
  intro j t q;rw [List.getElem?_set] at q;split at q
  ·split at q <;> cases q
  ·rename_i z; exact ⟨z,q⟩
 have E':EnvOk c w (env.set i none) σ:=⟨E.wok,E.le0,by simpa using E.len,fun j s q=>E.at' j s (up q).2,fun j k s t v u a q1 q2=>E.own j k s t v u a (up q1).2 (up q2).2,E.zf,fun a j t u za q=>E.zo a j t u za (up q).2⟩;exact ⟨v,hv,E',Lw.refl w,hV,fun a f=>⟨fun j t u q z g=>(up q).1 (E.own i j _ _ _ _ a h (up q).2 hv z f g),fun za=>E.zo a i _ _ za h hv f⟩,hr⟩
def B6n (o:Option (Option SV)) (i:Nat) (env:PEnv) (k:OT->PEnv->Prop):Prop:=match o with
 | some (some (.d x))=>k (.leaf x) env
 | some (some (.own xs))=>∀ a,k (.nd true a (C0 xs)) (env.set i none)
 | some (some (.tr t))=>k t (env.set i none)
 | _=>False
theorem B2l {x:PyData} {i:Nat} {env:PEnv} {k:OT->PEnv->Prop}:B6n (some (some (.d x))) i env k=k (.leaf x) env:=rfl
theorem B2k {xs:LP} {i:Nat} {env:PEnv} {k:OT->PEnv->Prop}:B6n (some (some (.own xs))) i env k=∀ a,k (.nd true a (C0 xs)) (env.set i none):=rfl
theorem B2j {t:OT} {i:Nat} {env:PEnv} {k:OT->PEnv->Prop}:B6n (some (some (.tr t))) i env k=k t (env.set i none):=rfl
def B85 (i:Nat) (pr:PEnv->(OT->PEnv->Prop)->Prop) (env:PEnv) (Q:OT->PEnv->Prop):Prop:=B6n env[i]? i env fun t e1=>pr e1 fun r e2=>(∀ a ∈ r.fp,a ∉ t.fp)->Q (.cons t r) e2
def C5a (i:Nat) (n:Int) (env:PEnv) (Q:SV->PEnv->Prop):Prop:=asTr env[i]? fun t=>∃ (m:Nat) (b:Bool) (a:Addr) (ks:OT) (x:PyData),n=m/\t=.nd b a ks/\ks.kid m=some (.leaf x)/\Q (.d x) env
end Pu
namespace L2
open PySem PySem.Spec PyProof.Rows
section
variable {X:Cx} {tg:Expr}
def Its (x:Str):It:=⟨fun i _=>i < x.cps.size,fun i H v H'=>H'=H/\∃ c,x.cps[i]?=some c/\v=.str ⟨#[c]⟩,fun i _=>x.cps.size<=i⟩
theorem A9c {P:Program} {w:World} {K:PySem.W.Frag} {tg:Expr} (it:Addr) (x:Str) (t:Tok):Turn P w K tg (Its x) [it] it (fun i h=>h.IsStrIter it "str_ascii_iterator" x t i) where
 mem:=by simp
 obj:=fun i h st b hb=>by
  have e:b=it:=by simpa using hb
  subst e;obtain ⟨o,e,c,d⟩:=st;exact ⟨o,e,fun v z=>by rw [d] at z; cases z⟩
 keep:=fun i h h' ⟨o,e,c,d⟩ k=>⟨o,k it (by simp) o e,c,d⟩
 item:=by
  intro X hP hw hK hc i pins s σ H E I hf st hg;subst hP hw hK;have hg:i < x.cps.size:=hg;obtain ⟨f0,f1,f2,f3,f4,f5⟩:=hf it (by simp);refine wpAny_pyNext_ascii_item (c:=x.cps[i]) st (Array.getElem?_eq_getElem hg) fun h' st' sb=>?_;have I1:Inv X pins σ H { s with heap:=h',toks:=s.toks + 1 }:=I.turned (t':=s.toks + 1) (fun b o hb e=>(sb.2 b hb).trans e) f0 f1 f3 f4 f5;obtain ⟨o,e,c,d⟩:=id st';exact ⟨_,rfl,A8q (s:={ s with heap:=h',toks:=s.toks + 1 }) e c d (by decide) ⟨.str ⟨#[x.cps[i]]⟩,H,I1,⟨_,rfl⟩,⟨rfl,_,Array.getElem?_eq_getElem hg,rfl⟩,st',fun b hb=>(hf b hb).1⟩⟩
 done:=by
  intro X hP hw hK hc i pins s σ H E I hf st hg;subst hP hw hK;have hg:x.cps.size<=i:=hg;obtain ⟨f0,f1,f2,f3,f4,f5⟩:=hf it (by simp);exact wpAny_pyNext_ascii_end (I.ok.hd hc) st (Array.getElem?_eq_none hg) fun h' eb=>⟨rfl,I.turned (t':=s.toks) (fun b o hb e=>eb b o hb e) f0 f1 f3 f4 f5⟩
 self:=fun _ _ _ _ _ st h=>wpAny_pyIter_striter_ascii st h
theorem A9b {P:Program} {w:World} {K:PySem.W.Frag} {tg:Expr} (it:Addr) (x:Str) (t:Tok):Turn P w K tg (Its x) [it] it (fun i h=>h.IsStrIter it "str_iterator" x t i) where
 mem:=by simp
 obj:=fun i h st b hb=>by
  have e:b=it:=by simpa using hb
  subst e;obtain ⟨o,e,c,d⟩:=st;exact ⟨o,e,fun v z=>by rw [d] at z; cases z⟩
 keep:=fun i h h' ⟨o,e,c,d⟩ k=>⟨o,k it (by simp) o e,c,d⟩
 item:=by
  intro X hP hw hK hc i pins s σ H E I hf st hg;subst hP hw hK;have hg:i < x.cps.size:=hg;obtain ⟨f0,f1,f2,f3,f4,f5⟩:=hf it (by simp);refine wpAny_pyNext_wide_item (c:=x.cps[i]) st (Array.getElem?_eq_getElem hg) fun h' st' sb=>?_;have I1:Inv X pins σ H { s with heap:=h',toks:=s.toks + 1 }:=I.turned (t':=s.toks + 1) (fun b o hb e=>(sb.2 b hb).trans e) f0 f1 f3 f4 f5;obtain ⟨o,e,c,d⟩:=id st';exact ⟨_,rfl,A8q (s:={ s with heap:=h',toks:=s.toks + 1 }) e c d (by decide) ⟨.str ⟨#[x.cps[i]]⟩,H,I1,⟨_,rfl⟩,⟨rfl,_,Array.getElem?_eq_getElem hg,rfl⟩,st',fun b hb=>(hf b hb).1⟩⟩
 done:=by
  intro X hP hw hK hc i pins s σ H E I hf st hg;subst hP hw hK;have hg:x.cps.size<=i:=hg;obtain ⟨f0,f1,f2,f3,f4,f5⟩:=hf it (by simp);exact wpAny_pyNext_wide_end (I.ok.hd hc) st (Array.getElem?_eq_none hg) fun h' eb=>⟨rfl,I.turned (t':=s.toks) (fun b o hb e=>eb b o hb e) f0 f1 f3 f4 f5⟩
 self:=fun _ _ _ _ _ st h=>wpAny_pyIter_striter_wide st h
def iStr (tl:TE):TI:=fun σ H R=>tl σ H fun x H1=>∃ z,x=.str z/\R (Its z) H1
theorem C4i {l:Expr} {tl:TE} (hl:PE X l tl):PI X tg l (iStr tl):=by
 intro pins s σ H R I h;refine thn (hl pins s σ H _ I h) fun v s1 ⟨x,H1,I1,r1,q1⟩=>?_;obtain ⟨z,rfl,q⟩:=q1;obtain ⟨t,rfl⟩:=r1;refine wpAny_pyIter_strU ?_;have fp:∀ b ∈ [s1.heap.objs.size],FpOk X pins H1 b:=fun b hb=>by
  have e:b=s1.heap.objs.size:=by simpa using hb
  subst e;exact I1.fpOk (Zv _) (I1.hok.fresh (Zv _))
 by_cases ha:(z.cps.all fun x=>decide (x < 128))=true
 ·have ty:strIterType z="str_ascii_iterator":=by unfold strIterType; rw [if_pos ha]
  rw [ty];exact ⟨s1.heap.objs.size,[s1.heap.objs.size],_,_,H1,rfl,I1.kept (t':=s1.toks) fun b o e=>Heap.get?_push_of_some _ e,A9c _ z t,⟨_,Heap.get?_push_size _ rfl,rfl,rfl⟩,fp,q⟩
 ·have ty:strIterType z="str_iterator":=by unfold strIterType; rw [if_neg ha]
  rw [ty];exact ⟨s1.heap.objs.size,[s1.heap.objs.size],_,_,H1,rfl,I1.kept (t':=s1.toks) fun b o e=>Heap.get?_push_of_some _ e,A9b _ z t,⟨_,Heap.get?_push_size _ rfl,rfl,rfl⟩,fp,q⟩
def rS (g:Str->Str->V):R2:=fun x y H Q=>∃ i j,x=.str i/\y=.str j/\Q (g i j) H
theorem B1s:OpR X (compareOp .NotIn) (rS fun i j=>.bl (!(!(Builtin.Str.occurrences j i 0 j.length 1).isEmpty))):=A2y
def A9u:R2:=fun x y H Q=>∃ i j,x=.str i/\y=.str j/\i.length + j.length<=1000/\Q (.str (i++j)) H
theorem F5:OpR X (binaryOp .Add) A9u:=by
 intro pins s σ H x y v u Q I rx ry h;obtain ⟨i,j,rfl,rfl,l,q⟩:=h;exact A8f pins s σ H _ _ v u Q I rx ry ⟨i,j,rfl,rfl,Zx l (by rw [sizeLine_eq]; decide),q⟩
def C08 (K:PySem.W.Frag):List V->Hp->VK->Prop:=fun xs H Q=>(∃ p ys,xs=[.ref p]/\(SqL K H p ys\/SqT K H p ys)/\Q (.int ys.length) H)\/∃ z,xs=[.str z]/\z.length<=sizeLine/\Q (.int z.length) H
theorem A8s {K:PySem.W.Frag} (h:X.K=K):CallR X (.builtin "len") (C08 K):=by subst h; exact call_len_seq.or A3w
theorem A10:∀ {zs:List Str} {its:List Value},Vals (zs.map V.str) its->∃ l:List (Str × Tok),its=strValues l/\l.map (·.1)=zs
 | [],_,.nil=>⟨[],rfl,rfl⟩
 | z :: zs,_,.cons r t=>by
  obtain ⟨k,rfl⟩:=r;obtain ⟨l,rfl,e⟩:=A10 (zs:=zs) t;exact ⟨(z,k) :: l,rfl,by rw [List.map_cons,e]⟩
theorem A7g (k:Nat):∀ (zs:List Str) (a:Nat),List.foldl (fun x1 (x2:Str)=>x1 + x2.length + k) a zs=a + (zs.map fun z=>z.length + k).sum
 | [],a=>by simp
 | z :: zs,a=>by rw [List.foldl_cons,A7g k zs,List.map_cons,List.sum_cons]; omega
theorem A3g (k:Array Nat):∀ (ps:List Str) (a:Array Nat),(List.foldl (fun acc (p:Str)=>acc++k++p.cps) a ps).size=a.size + (ps.map fun z=>z.length + k.size).sum
 | [],a=>by simp
 | p :: ps,a=>by
  rw [List.foldl_cons,A3g k ps,List.map_cons,List.sum_cons,Array.size_append,Array.size_append];show a.size + k.size + p.cps.size + _=a.size + (p.cps.size + k.size + _);omega
theorem B6y {sep:Str}:∀ {zs:List Str},(sep.join zs).length<=(zs.map fun z=>z.length + sep.length).sum:=by
 intro zs;rw [<- StrLaws.glued_eq_join];cases zs with
 | nil=>exact Zv _
 | cons z r =>
  show (List.foldl (fun acc (p:Str)=>acc++sep.cps++p.cps) z.cps r).size<=_;rw [A3g,List.map_cons,List.sum_cons];show z.cps.size + (r.map fun z=>z.length + sep.cps.size).sum<=z.cps.size + sep.cps.size + (r.map fun z=>z.length + sep.cps.size).sum;omega
theorem A6y:1000<=sizeLine:=by rw [sizeLine_eq]; decide
end
end L2
namespace L2
open PySem PySem.Spec PyProof.Rows
section
variable {X:Cx} {tg:Expr} {pos:Pos}
theorem A9x {l:Expr} {tl:TE} (hl:QE X l tl):QI X tg l (iStr tl):=⟨C4i hl.out⟩
end
end L2
namespace Pu
open PySem L2 My Prf
def asS (x:PyData) (k:Str->Prop):Prop:=match x with
 | .str z=>k z
 | _=>False
theorem B7g {z:Str} {k:Str->Prop}:asS (.str z) k=k z:=rfl
theorem VV.strE {K:Frag} {w:Wd} {v:V} {z:Str} (h:VV K w v (.str z)):v=.str z:=by
 rcases h with h | ⟨l,vs,xs,e,e',_⟩
 ·cases h; rfl
 ·cases e'
def sgn (c:Nat):PyData:=.str ⟨#[c]⟩
def A9p (z:Str):LP:=z.cps.toList.map sgn
def B1d (pd:PDt) (env:PEnv) (Q:LP->PEnv->Prop):Prop:=pd env fun x e=>asS x fun z=>Q (A9p z) e
instance ri_str {K:Frag} {tl:TE} {pd:PDt} [hl:RW K tl pd]:RI K (iStr tl) (B1d pd) where
 ok:=by
  rintro c w env σ Qp R rfl E p k;refine hl.ok c w env σ _ _ rfl E p fun v x e1 w1 E1 l1 d1 q1=>?_;unfold asS at q1;split at q1
  ·rename_i z;refine ⟨z,d1.strE,k _ _ e1 w1 E1 l1 (fun w' ok l s=>?_) q1⟩;have hl:(A9p z).length=z.cps.size:=by unfold A9p; rw [Zl,Array.length_toList]
   refine ⟨fun i hi=>by rw [hl] at hi; exact hi,by rw [hl]; exact Zv _,fun i v H' y hi=>?_⟩;obtain ⟨e,cc,h1,rfl⟩:=y;refine ⟨w',sgn cc,e.symm,ok,Le.refl w',?_,.str _⟩;unfold A9p;rw [Zh,Array.getElem?_toList,h1]; rfl
  ·exact q1.elim
class SGS (g:Str->Str->V) (gd:outParam (Str->Str->PyData)):Prop where
 ok:∀ i j K F,Den K F (g i j) (gd i j)
instance sgs_bl {f:Str->Str->Bool}:SGS (fun i j=>.bl (f i j)) (fun i j=>.bool (f i j)):=⟨fun _ _ _ _=>.bl _⟩
def pS (gd:Str->Str->PyData) (x y:PyData) (Q:SV->Prop):Prop:=asS x fun i=>asS y fun j=>Q (.d (gd i j))
instance ro_S {K:Frag} {g:Str->Str->V} {gd:Str->Str->PyData} [s:SGS g gd]:RO K (rS g) (pS gd) where
 ok:=by
  rintro c w env σ x y dx dy Qp Q rfl E vx vy p k;unfold pS asS at p;split at p
  ·split at p
   ·exact ⟨_,_,vx.strE,vy.strE,k _ _ w (Res.data E (s.ok _ _ _ _)) p⟩
   ·exact p.elim
  ·exact p.elim
def B6e (x y:PyData) (Q:SV->Prop):Prop:=asS x fun i=>asS y fun j=>i.length + j.length<=1000/\Q (.d (.str (i++j)))
instance ro_catS {K:Frag}:RO K A9u B6e where
 ok:=by
  rintro c w env σ x y dx dy Qp Q rfl E vx vy p k;unfold B6e asS at p;split at p
  ·split at p
   ·exact ⟨_,_,vx.strE,vy.strE,p.1,k _ _ w (Res.data E (.str _)) p.2⟩
   ·exact p.elim
  ·exact p.elim
def C5d (z:Str) (i:Int) (Q:SV->Prop):Prop:=∃ c,atI z.cps.toList i=some c/\Q (.d (sgn c))
def pIx2 (x y:PyData) (Q:SV->Prop):Prop:=match x with
 | .str z=>asI y fun i=>z.length<=1000/\C5d z i Q
 | x=>pIx x y Q
theorem B8w {xs:LP} {y:PyData} {Q:SV->Prop}:pIx2 (.list xs) y Q=pIx (.list xs) y Q:=rfl
theorem B8t {xs:LP} {y:PyData} {Q:SV->Prop}:pIx2 (.tuple xs) y Q=pIx (.tuple xs) y Q:=rfl
theorem B8v {q:Rat} {y:PyData} {Q:SV->Prop}:pIx2 (dq q) y Q=pIx (dq q) y Q:=rfl
theorem B8x {q:Rat × Rat} {y:PyData} {Q:SV->Prop}:pIx2 (dcn q) y Q=pIx (dcn q) y Q:=rfl
theorem B8u {z:Str} {i:Int} {Q:SV->Prop}:pIx2 (.str z) (.int i) Q=(z.length<=1000/\C5d z i Q):=rfl
instance (priority:=high) ro_ix2 {K:Frag}:RO K (rIx K) pIx2 where
 ok:=by
  rintro c w env σ x y dx dy Qp Q rfl E vx vy p k;unfold pIx2 at p;split at p
  ·unfold asI at p;split at p
   ·obtain ⟨hl,cc,h1,q⟩:=p;exact .inr (.inr ⟨_,_,cc,vx.strE,vy.intE,Zx hl A6y,h1,k _ _ w (Res.data E (.str _)) q⟩)
   ·exact p.elim
  ·exact ro_ix.ok c w env σ x y dx dy Qp Q rfl E vx vy p k
def A8d (xs:LP) (Q:SV->Prop):Prop:=match xs with
 | [.list ys]=>Q (.d (.int ys.length))
 | [.tuple ys]=>Q (.d (.int ys.length))
 | [.str z]=>z.length<=1000/\Q (.d (.int z.length))
 | _=>False
theorem B07 {ys:LP} {Q:SV->Prop}:A8d [.list ys] Q=Q (.d (.int ys.length)):=rfl
theorem B04 {ys:LP} {Q:SV->Prop}:A8d [.tuple ys] Q=Q (.d (.int ys.length)):=rfl
theorem B06 {q:Rat} {Q:SV->Prop}:A8d [dq q] Q=Q (.d (.int 2)):=rfl
theorem B05 {z:Str} {Q:SV->Prop}:A8d [.str z] Q=(z.length<=1000/\Q (.d (.int z.length))):=rfl
instance rb_len2 {K:Frag}:RB K (C08 K) A8d where
 ok:=by
  rintro c w env σ vs xs Qp Q rfl E vv p k;unfold A8d at p;split at p
  ·cases vv with | cons h t=>cases t; obtain ⟨a,us,e,h1,h2⟩:=h.lst E.wok; exact .inl ⟨a,us,by rw [e],.inl h1,by rw [h2.len]; exact k _ _ w (Res.data E (.int _)) p⟩
  ·cases vv with | cons h t=>cases t; obtain ⟨a,us,e,h1,h2⟩:=h.tup E.wok; exact .inl ⟨a,us,by rw [e],.inr h1,by rw [h2.len]; exact k _ _ w (Res.data E (.int _)) p⟩
  ·cases vv with | cons h t=>cases t; exact .inr ⟨_,by rw [h.strE],Zx p.1 A6y,k _ _ w (Res.data E (.int _)) p.2⟩
  ·exact p.elim
def A12:LP->Option (List Str)
 | []=>some []
 | .str z :: r=>(A12 r).map (z :: ·)
 | _=>none
theorem A11 {K:Frag} {F:Hpp}:∀ {vs:List V} {xs:LP} {zs:List Str},DenAll K F vs xs->A12 xs=some zs->vs=zs.map V.str
 | _,_,zs,.nil,h=>by cases h; rfl
 | _,x :: r,zs,.cons d t,h=>by
  cases d with
  | str z =>
   have h:(A12 r).map (z :: ·)=some zs:=h;cases q:A12 r with
   | none=>rw [q] at h; cases h
   | some ys=>rw [q] at h; cases h; rw [A11 t q]; rfl
  | non=>cases h
  | bl=>cases h
  | int=>cases h
  | lst=>cases h
  | tup=>cases h
  | dct=>cases h
def C5b (po pa:PDt) (env:PEnv) (Q:SV->PEnv->Prop):Prop:=po env fun x e=>asS x fun sep=>pa e fun y e2=>asL y fun ys=>∃ zs,A12 ys=some zs/\(zs.map fun z=>z.length + sep.length).sum<=1000/\Q (.d (.str (sep.join zs))) e2
def C4x (pd:PDt) (i:Nat) (pi:PDt) (D:PEnds) (env:PEnv):Prop:=pd env fun x e=>N1 e[i]? fun _=>pi e fun y e2=>asI y fun n=>N1 e2[i]? fun xs=>∃ j,ixN xs.length n=some j/\D.nx (e2.set i (some (.own (xs.set j x))))
def C5h (env:PEnv) (Q:SV->PEnv->Prop):Prop:=Q (.d (.dict [])) env
def B83 (key:Key) (y:V) (env:PEnv) (Q:SV->PEnv->Prop):Prop:=Q (.d (.dict [C24 (key,y)])) env
theorem B3l:kitB "int" "int"=some true:=by decide +kernel
theorem B3m:kitB "int" "bool"=some false:=by decide +kernel
theorem B3j:kitB "int" "tuple"=some false:=by decide +kernel
theorem B3k:kitB "int" "str"=some false:=by decide +kernel
theorem B3t:kitB "bool" "int"=some true:=by decide +kernel
theorem B3u:kitB "bool" "bool"=some true:=by decide +kernel
theorem B3r:kitB "bool" "tuple"=some false:=by decide +kernel
theorem B3s:kitB "bool" "str"=some false:=by decide +kernel
theorem B3d:kitB "NoneType" "int"=some false:=by decide +kernel
theorem B3e:kitB "NoneType" "bool"=some false:=by decide +kernel
theorem B3b:kitB "NoneType" "tuple"=some false:=by decide +kernel
theorem B3c:kitB "NoneType" "str"=some false:=by decide +kernel
theorem B29:kitB "str" "int"=some false:=by decide +kernel
theorem B3a:kitB "str" "bool"=some false:=by decide +kernel
theorem B27:kitB "str" "tuple"=some false:=by decide +kernel
theorem B28:kitB "str" "str"=some true:=by decide +kernel
theorem B3h:kitB "list" "int"=some false:=by decide +kernel
theorem B3i:kitB "list" "bool"=some false:=by decide +kernel
theorem B3f:kitB "list" "tuple"=some false:=by decide +kernel
theorem B3g:kitB "list" "str"=some false:=by decide +kernel
theorem B25:kitB "tuple" "int"=some false:=by decide +kernel
theorem B26:kitB "tuple" "bool"=some false:=by decide +kernel
theorem B23:kitB "tuple" "tuple"=some true:=by decide +kernel
theorem B24:kitB "tuple" "str"=some false:=by decide +kernel
theorem B3p:kitB "dict" "int"=some false:=by decide +kernel
theorem B3q:kitB "dict" "bool"=some false:=by decide +kernel
theorem B3n:kitB "dict" "tuple"=some false:=by decide +kernel
theorem B3o:kitB "dict" "str"=some false:=by decide +kernel
theorem A5s {kvs:List (PyData × PyData)}:tyD (.dict kvs)="dict":=rfl
def B1m (pr pr':PyData->PyData->(SV->Prop)->Prop) (pa pb pc:PDt) (env:PEnv) (Q:SV->PEnv->Prop):Prop :=
 pa env fun x e1=>pb e1 fun y e2=>pr x y fun s=>s.asD fun b=>asB b fun k=>if k=true then pc e2 fun z e3=>pr' y z fun s2=>Q s2 e3 else Q (.d (.bool false)) e2
instance re_chain {K:Frag} {r r':R2} {ta tb tc:TE} {pr pr':PyData->PyData->(SV->Prop)->Prop} {pa pb pc:PDt} [h:RO K r pr] [h':RO K r' pr'] [ha:RW K ta pa] [hb:RW K tb pb] [hc:RW K tc pc]:RE K (A9h r r' ta tb tc) (B1m pr pr' pa pb pc) where
 ok:=by
  rintro c w env σ Qp Q rfl E p k;refine ha.ok c w env σ _ _ rfl E p fun x dx e1 w1 E1 l1 v1 q1=>?_;refine hb.ok c w1 e1 σ _ _ rfl E1 q1 fun y dy e2 w2 E2 l2 v2 q2=>?_;refine h.ok c w2 e2 σ x y dx dy _ _ rfl E2 (v1.mono l2) v2 q2 fun v s w3 R q3=>?_;cases s with
  | d b =>
   cases b with
   | bool b =>
    have ev:v=.bl b:=Den.blE R.val;refine ⟨b,ev,?_⟩;cases b with
    | true =>
     refine hc.ok c w3 e2 σ _ _ rfl R.ev q3 fun z dz e3 w4 E4 l4 v4 q4=>?_;exact h'.ok c w4 e3 σ y z dy dz _ _ rfl E4 ((v2.mono R.lw).mono l4) v4 q4 fun v s w' R' q=>k v s e3 w' (R'.pre (l1.trans (l2.trans (R.lw.trans l4)))) q
    | false=>exact k _ _ e2 w3 ((Res.data R.ev (.bl _)).pre (l1.trans (l2.trans R.lw))) q3
   | _=>exact (show False from q3).elim
  | own xs=>exact (show False from q3).elim
  | bor xs=>exact (show False from q3).elim
  | st=>exact (show False from q3).elim
  | tr t=>exact (show False from q3).elim
  | bt t=>exact (show False from q3).elim
  | al t=>exact (show False from q3).elim
  | dk t=>exact (show False from q3).elim
end Pu
namespace L2
open PySem PySem.Spec PyProof.Rows
section
variable {prog:Program} {w:World} {A:Around} {E:Value->Shared->Prop} {h:Heap} {g:Array GenState} {d:Drawn} {t:Nat} {os:OsState} {a C:Addr} {o:Obj} {vs:Array Value} {K:PySem.W.Frag}
structure ExK (K:PySem.W.Frag) (C:Addr):Prop where
 ga:PySem.W.findIn K (.ref C) "__getattribute__"=some (some (.builtin "BaseException.__getattribute__"))
 gn:PySem.W.findIn K (.ref C) "__getattr__"=some none
 gc:PySem.W.findIn K (.ref C) "__class__"=some (some (.builtin "object.__class__"))
 sb:PySem.W.subIn K (.ref C) (.type "BaseException")=some true
 so:PySem.W.subIn K (.ref C) (.type "object")=some true
theorem C3g {R:Result->Shared->Prop} (X:K.In h) (k:ExK K C) (hx:h.get? a=some o) (hc:o.cls=.ref C) (hq:R (.ok (.ret (.ref C))) ⟨h,g,d,t,os⟩) :
  codeAny (model prog w) A (.call (.builtin "getset_descriptor.__get__") ⟨[.builtin "object.__class__",.ref a,.ref C],[]⟩) R ⟨h,g,d,t,os⟩:=by
 have yT:(⟨h,g,d,t,os⟩:Shared).TypeIs (.builtin "object.__class__") "getset_descriptor":=F.typeOf_object_class;have LO:=PySem.W.looks_subIn (M:=model prog w) X k.so;have ow:(".".intercalate ("object.__class__".cutAt '.').dropLast)="object":=F.owner_object_class;refine codeAny_call_builtin F.slot_gs_get.plain F.entry_gs_get (F.slot_gs_get.check _ _ _ _ _ _ _ _ (yT) (F.args_gs_get _ _ _) ?_)
 repeat (any_goals (first | assumption | (with_reducible refine wpAny_loadPart_at hx ?_; rw [hc]) | (rw [ow]; with_reducible refine LO.at ?_) | with_reducible refine LO.at ?_ | wp_step))
 refine ⟨Code.quiet_builtin _ (by decide +kernel),codeAny_builtin (F.entry_object_class) ?_⟩
 repeat (any_goals (first | assumption | (with_reducible refine wpAny_loadPart_at hx ?_; rw [hc]) | wp_step))
theorem B5a {tk:Tok} {Q:Fin->Shared->Prop} (X:K.In h) (k:ExK K C) (hx:h.get? a=some o) (hc:o.cls=.ref C) (hq:Q (.done (.ret (.ref C))) ⟨h,g,d,t,os⟩) :
  wpAny (model prog w) A (Builtin.«object.__getattribute__» ⟨[.ref a,.str "__class__" tk],[]⟩) Q E ⟨h,g,d,t,os⟩:=by
 have yT:(⟨h,g,d,t,os⟩:Shared).TypeIs (.builtin "object.__class__") "getset_descriptor":=F.typeOf_object_class;have LC:=PySem.W.looks_findIn (M:=model prog w) X k.gc;have u5:=F.typeOf_object_class;have u6:=F.slot_gs_get.lookup;have u7:=F.slot_gs_set.lookup
 repeat (any_goals (first | assumption | (with_reducible refine wpAny_loadPart_at hx ?_; rw [hc]) | with_reducible refine LC.at ?_ | wp_step))
 refine C3g X k hx hc ?_
 repeat (any_goals first | assumption | wp_step)
theorem B5b {M:Model} {nameV:Value} {Q:Unit->Shared->Prop} (X:K.In h) (k:ExK K C) (hx:h.get? a=some o) (hc:o.cls=.ref C) (hq:Q () ⟨h,g,d,t,os⟩) :
  wpAny M A (checkBuiltinCall "BaseException.__getattribute__" ⟨[.ref a,nameV],[]⟩) Q E ⟨h,g,d,t,os⟩:=by
 have k1:builtinKind "BaseException.__getattribute__"=some .slot:=by decide +kernel
 have k2:splitId "BaseException.__getattribute__"=some ("BaseException","__getattribute__"):=by decide +kernel
 have LB:=PySem.W.looks_subIn (M:=M) X k.sb;have u0:=F.args_bexc_ga (.ref a) nameV;simp only [checkBuiltinCall,k1,k2];refine wpAny_bind ?_;unfold isInstance
 repeat (first | (with_reducible refine wpAny_loadPart_at hx ?_; rw [hc]) | with_reducible refine LB.at ?_ | wp_step)
 exact hq
theorem C7u {tk:Tok} {Q:Value->Shared->Prop} (X:K.In h) (k:ExK K C) (hx:h.get? a=some o) (hc:o.cls=.ref C) (hq:Q (.ref C) ⟨h,g,d,t,os⟩) :
  wpAny (model prog w) A (getAttrBy (.ref a) (.str "__class__" tk) false) Q E ⟨h,g,d,t,os⟩:=by
 have u3:=F.attrBase_ValueError.ga.bind (.ref a);have LG:=PySem.W.looks_findIn (M:=model prog w) X k.ga;have LN:=PySem.W.looks_findIn (M:=model prog w) X k.gn;have z2:(Value.builtin "BaseException.__getattribute__" == Value.builtin "object.__getattribute__")=false:=by decide +kernel
 have z1:(onTheHeap (Value.ref C) && Value.builtin "BaseException.__getattribute__" == Value.builtin "object.__getattribute__")=false:=by rw [z2]; rfl
 repeat (any_goals (first | assumption | (with_reducible refine wpAny_loadPart_at hx ?_; rw [hc]) | with_reducible refine LG.at ?_ | with_reducible refine LN.at ?_ | wp_step))
 refine codeAny_call_builtin F.attrBase_ValueError.ga.plain F.entry_bexc_ga (B5b X k hx hc (B5a X k hx hc ?_))
 repeat (any_goals first | assumption | wp_step)
theorem C0n {Q:Option Value->Shared->Prop} (X:K.In h) (k:ExK K C) (hx:h.get? a=some o) (hc:o.cls=.ref C) (hq:Q (some (.ref C)) ⟨h,g,d,t + 1,os⟩):wpAny (model prog w) A (getAttr? (.ref a) "__class__") Q E ⟨h,g,d,t,os⟩:=by
 unfold getAttr? getAttrBy?
 repeat (any_goals (first | assumption | with_reducible apply C7u X k hx hc | wp_step))
def ExAt (a C:Addr) (h:Heap):Prop:=∃ o,h.get? a=some o/\o.cls=.ref C
theorem ExAt.ty {M:Model} (p:ExAt a C h):PySem.W.Looks M h (typeOf (.ref a)) (.ref C):=by
 obtain ⟨o,e,q⟩:=p;rw [<- q];exact (PySem.W.Looks.ld e).andThen .now
theorem B6u (k:ExK K C) (it:∀ (M:Model) (h:Heap),K.In h->PySem.W.Looks M h (isType (.ref C)) true) (ne:∀ o,K.lookup C=some o->o.cls≠.type "tuple") (hl:(K.lookup C).isSome=true):PySem.W.KitX K (.ref a) (.ref C) (ExAt a C) where
 ty:=fun _ _ _ p=>p.ty
 it:=fun M h X _=>it M h X
 ne:=fun h tp dd its n sl X e=>Bool.eq_false_iff.mpr fun q=>by
  have z:C=tp:=Value.ref.inj (beq_iff_eq.mp q);subst z;obtain ⟨o,ho⟩:=Option.isSome_iff_exists.mp hl;have:=X _ _ ho;rw [e] at this; cases this;exact ne _ ho rfl
 ca:=fun {_ _ _ _ _ s} X p q=>by
  obtain ⟨h,g,d,t,os⟩:=s;obtain ⟨o,e,z⟩:=p;exact C0n X k e z q
end
end L2
namespace L2
open PySem PySem.Spec PyProof.Rows
structure Fly (P:Program) (w:World) (outer:List Env) (H:Hp) (s s':Shared) (a:Addr) (cls a0:Value) (H':Hp) (B:Heap):Prop where
 os:s'.os=s.os
 bare:AllBare s'.gens
 fly:Heap.FlyingW B outer a cls a0 s'.heap
 hok:HOk P w H' B
 keep:∀ b o,s.heap.get? b=some o->H b=none->b ∉ frs outer->B.get? b=some o
 slot:∀ b o,s.heap.get? b=some o->H b=none->b ∈ frs outer->∃ sl,s'.heap.get? b=some { o with slots:=sl }
 free:∀ b o,s.heap.get? b=some o->H b=none->H' b=none
 there:∀ b o,s.heap.get? b=some o->b ∉ frs outer->∃ o',B.get? b=some o'
 tups:∀ b xs,H b=some (.tup xs)->H' b=some (.tup xs)
 frzs:∀ b o u,H b=some (.frz o u)->H' b=some (.frz o u)
 tbls:∀ b ps,H b=some (.tbl ps)->∃ more,H' b=some (.tbl (ps++more))
def CX1 (P:Program) (w:World):CXT:=fun outer H s E e s'=>∃ (a:Addr) (cls a0:Value) (H':Hp) (B:Heap),e=.ref a/\Fly P w outer H s s' a cls a0 H' B/\E cls none H'
section
variable {P:Program} {w:World} {outer:List Env} {H H':Hp} {s s':Shared} {a:Addr} {cls a0:Value} {B:Heap}
theorem Fly.un (F:Fly P w outer H s s' a cls a0 H' B):Un (frs outer) [] H H' s.heap s'.heap where
 keep:=fun b o e n hb _=>F.fly.1 b o (F.keep b o e n hb)
 slot:=fun b o e n hb _=>F.slot b o e n hb
 free:=fun b o e n _=>F.free b o e n
 there:=fun b o e _=>by
  by_cases hb:b ∈ frs outer
  ·obtain ⟨_,o',ho,_⟩:=F.fly.2.2.1.mem hb;exact ⟨o',ho⟩
  ·obtain ⟨o',ho⟩:=F.there b o e hb;exact ⟨o',F.fly.1 b o' ho⟩
 tups:=F.tups
 frzs:=F.frzs
 tbls:=F.tbls
theorem Fly.step {h':Heap} (F:Fly P w outer H s s' a cls a0 H' B) (hf:Heap.FlyingW B outer a cls a0 h') (hs:s'.heap.UpToSlots h'):Fly P w outer H s { s' with heap:=h' } a cls a0 H' B :=
 ⟨F.os,F.bare,hf,F.hok,F.keep,fun b o e n hb=>by
  obtain ⟨sl,e1⟩:=F.slot b o e n hb;obtain ⟨_,o',ho,hn⟩:=F.fly.2.2.1.mem hb;rw [e1] at ho; cases ho;obtain ⟨sl2,e2⟩:=hs b _ e1 hn;exact ⟨sl2,e2⟩,F.free,F.there,F.tups,F.frzs,F.tbls⟩
theorem B11 {h:Heap} {o:HO} (x:ObjOk P w H h a o):∃ ob,h.get? a=some ob:=by
 cases o with
 | lst xs=>obtain ⟨_,_,_,_,e⟩:=x; exact ⟨_,e⟩
 | tup xs=>obtain ⟨_,_,_,o,e,_⟩:=x; exact ⟨_,e⟩
 | dK kvs=>obtain ⟨_,_,_,_,o,_,_,e,_⟩:=x; exact ⟨_,e⟩
 | dT kvs=>obtain ⟨_,_,_,_,o,_,_,e,_⟩:=x; exact ⟨_,e⟩
 | set S n=>obtain ⟨o,_,_,_,e,_⟩:=x; exact ⟨_,e⟩
 | ins C dx fs=>obtain ⟨_,_,_,e,_⟩:=x; exact ⟨_,e⟩
 | own y=>exact x
 | xd fs=>obtain ⟨_,⟨_,_,_,e,_⟩,_⟩:=x; exact ⟨_,e⟩
 | rng lo hi=>obtain ⟨_,_,_,e⟩:=x; exact ⟨_,e⟩
 | frz ob u=>obtain ⟨e,_⟩:=x; exact ⟨_,e⟩
 | tbl ps=>exact ⟨_,x⟩
 | met f y=>exact ⟨_,x⟩
 | ext φ=>exact x.2.1
theorem Fly.new (F:Fly P w outer H s s' a cls a0 H' B):H' a=none:=by
 cases q:H' a with
 | none=>rfl
 | some o =>
  obtain ⟨ob,e⟩:=B11 (F.hok a o q);rw [F.fly.2.1] at e; cases e
end
section
variable {P:Program} {w:World} {K:PySem.W.Frag} {mg:Str->Option Value} {base:Heap} {N:List Str} {qual:Str} {scope:Scope} {f:Addr} {cd:Value} {A:Around} {outer:List Env} {s0:Shared} {H0:Hp} {E:XK}
theorem B2v {X:Cx} {pins:List (Addr × Obj)} {σ:St} {H:Hp} {s:Shared} (I:Inv X pins σ H s) {b:Addr} {o:Obj} (e:X.s₀.heap.get? b=some o) (hb:b ∉ X.fs):b ∉ frs X.stack:=fun z=>by
 rcases List.mem_cons.mp (I.stkSub b z) with q | q
 ·exact Nat.ne_of_lt (Nat.lt_of_lt_of_le (Heap.lt_size e) I.ok.above) q
 ·exact hb q
end
end L2
namespace L2
open PySem PySem.Spec PyProof.Rows
def A84:List Value:=[.type "ValueError",.type "Exception",.type "BaseException",.type "object"]
section
variable {X:Cx} {E:XK} {x:Str} {C:Addr} {pos np cpos:Pos} {e:Expr} {es:List Expr} {t:TA}
end
abbrev Cx.held (X:Cx) (a:Addr) (oe:Obj):Cx:={ X with A:=X.A.mark (some (.ref a)),calm:=false,pn:=(a,oe) :: X.pn,xe:=fun _ _=>False }
section
variable {X:Cx} {pins:List (Addr × Obj)} {σ:St} {H:Hp} {s:Shared} {a:Addr} {oe:Obj}
theorem Cx.Ok.held (ok:X.Ok):(X.held a oe).Ok :=
 ⟨ok.mod,ok.kind,ok.glob,ok.blt,ok.above,ok.inj,ok.has,ok.cab,fun z=>(by cases z),ok.frames,ok.stk,ok.exf,ok.bs,ok.bsz,ok.noex,ok.exfs,ok.funs,ok.frf⟩
theorem Inv.hold (I:Inv X pins σ H s) (e:s.heap.get? a=some oe) (n:H a=none) (nl:a≠X.env.locals) (nf:a ∉ X.fs) (nc:∀ v,oe.data≠.cell v):Inv (X.held a oe) pins σ H s :=
 ⟨I.ok.held,I.os,I.bare,I.base,I.loc,I.cell,I.free,I.freeC,fun p hp=>by
  rcases List.mem_cons.mp (show p ∈ (a,oe) :: (X.pn++pins) from hp) with q | q
  ·subst q; exact ⟨e,n,nl,nf,nc⟩
  ·exact I.pin p q,I.hok,I.len⟩
theorem Inv.loose (I:Inv (X.held a oe) pins σ H s) (ok:X.Ok):Inv X pins σ H s :=
 ⟨ok,I.os,I.bare,I.base,I.loc,I.cell,I.free,I.freeC,fun p hp=>I.pin p (Zr _ hp),I.hok,I.len⟩
theorem A5a {i:Nat} {n:Str} {pos:Pos} {M:Model} {A:Around} {E:Value->Shared->Prop} {Q:Unit->Shared->Prop} (I:Inv X pins σ H s) (hN:X.N.Nodup) (hi:X.N[i]?=some n) (hk:X.env.scope.names.lookup n=some .local)
  (h:∀ s',Inv X pins (σ.set i none) H s'->Q () s'):wpAny M A (do bindName X.env n .none; unbindBehindTheSuite X.env n pos) Q E s:=by
 obtain ⟨m,hn,hl⟩:=id I.loc;have his:i < σ.length:=by rw [I.len]; exact (Zs hi).1
 refine wpAny_nameGoes_keeps hk hn (by rw [I.ok.kind]; rfl) fun h' v hn' hs=>h _ ?_;obtain ⟨oo,_,_,hoo,_⟩:=id hn;have ne:∀ b o,X.s₀.heap.get? b=some o->b≠X.env.locals:=fun b o e=>Nat.ne_of_lt (Nat.lt_of_lt_of_le (Heap.lt_size e) I.ok.above);refine ⟨I.ok,I.os,I.bare,⟨fun b o e z hb hx=>(hs.2 b (ne b o e)).trans (I.base.keep b o e z hb hx),fun b o e z hb hx=>?_,I.base.free,fun b o e hx=>?_,I.base.tups,I.base.frzs,I.base.tbls⟩,⟨_,hn',fun j y v2 e1 e2 e3=>?_⟩,fun y c e=>?_,I.free,I.freeC,fun p hp=>?_,fun b ob e=>?_,by simpa using I.len⟩
 ·obtain ⟨sl,e1⟩:=I.base.slot b o e z hb hx;exact ⟨sl,(hs.2 b (ne b o e)).trans e1⟩
 ·obtain ⟨o',e1⟩:=I.base.there b o e hx;exact ⟨o',(hs.2 b (ne b o e)).trans e1⟩
 ·by_cases hj:j=i
  ·subst hj;rw [List.getElem?_set_self his] at e2;cases e2
  ·rw [List.getElem?_set_ne (Ne.symm hj)] at e2;obtain ⟨u2,r2,q⟩:=hl j y v2 e1 e2 e3;refine ⟨u2,r2,?_⟩;rcases q with ⟨k,e⟩ | ⟨k,c,e,zz⟩
   ·refine .inl ⟨k,?_⟩;have:y≠n:=fun e=>hj (A1j hN e1 (e ▸ hi));simp [this,e]
   ·exact .inr ⟨k,c,e,zz.sameBut hs (I.cne y c e)⟩
 ·obtain ⟨w2,z⟩:=I.cell y c e;exact ⟨w2,z.sameBut hs (I.cne y c e)⟩
 ·obtain ⟨e,z,nl,nf,d⟩:=I.pin p hp;exact ⟨(hs.2 p.1 nl).trans e,z,nl,nf,d⟩
 ·refine (I.hok b ob e).stay (fun c w2 hc q=>(hs.2 c ?_).trans q) (fun _ q=>q) fun _ _ q=>q;rintro rfl;rcases hc with rfl | hc
  ·rw [I.free] at e; cases e
  ·rw [I.free] at hc; cases hc
end
end L2
namespace L2
open PySem PySem.Spec PyProof.Rows
section
variable {P:Program} {w:World} {outer:List Env} {H H':Hp} {s s':Shared} {a:Addr} {cls a0:Value} {B:Heap}
theorem Fly.hok2 (F:Fly P w outer H s s' a cls a0 H' B):HOk P w H' s'.heap:=fun b o e=>(F.hok b o e).stay (fun c v _ z=>F.fly.1 c v z) (fun _ z=>z) fun _ _ z=>z
end
section
variable {X:Cx} {pins:List (Addr × Obj)} {σ:St} {H H':Hp} {s s':Shared} {a:Addr} {cls a0:Value} {B:Heap}
theorem Fly.inv (F:Fly X.prog X.w X.stack H s s' a cls a0 H' B) (I:Inv X pins σ H s):Inv X pins σ H' s' :=
 I.call' (ch:=[]) F.os F.un F.hok2 F.bare fun b z=>absurd z (by simp)
theorem Fly.hold (F:Fly X.prog X.w X.stack H s s' a cls a0 H' B) (I:Inv X pins σ H s):∃ oe,s'.heap.get? a=some oe/\oe.cls=cls/\Inv (X.held a oe) pins σ H' s':=by
 obtain ⟨oe,vs,e1,e2,e3,_⟩:=F.fly.first;have I2:=F.inv I;refine ⟨oe,e1,e2,I2.hold e1 F.new (fun z=>?_) (fun z=>?_) fun v q=>by rw [e3] at q; cases q⟩
 ·obtain ⟨m,⟨o,es,ep,ho,hd,_⟩,_⟩:=I2.loc;rw [<- z,e1] at ho; cases ho; rw [e3] at hd; cases hd
 ·obtain ⟨_,o',ho,hn⟩:=I2.funs.mem z;rw [e1] at ho; cases ho; exact hn _ e3
end
section
variable {X:Cx} {k i:Nat} {f C CH:Addr} {fd:FuncData} {ps:List Str} {sp:Sp} {x xh n:Str} {p pos pos2 pos3 pos4 pos5:Pos} {e:Expr} {es:List Expr} {t:TA} {b0:Stmt} {suite:List Stmt} {b:Bool}
end
end L2
namespace L2
open PySem PySem.Spec PyProof.Rows
def tK (i:Nat) (a:Addr) (b:Bool):TT:=fun σ H Q=>σ[i]?=some (some (.ref a))/\∀ H3,Same H H3->Q b H3
def tKE (i:Nat) (a:Addr) (b:Bool):TE:=fun σ H Q=>σ[i]?=some (some (.ref a))/\∀ H3,Same H H3->Q (.bl b) H3
structure ExC (K:PySem.W.Frag) (C:Addr):Prop where
 k:ExK K C
 hd:PySem.W.hasDictIn K C=true
 ne:∀ o,K.lookup C=some o->o.cls≠.type "tuple"
 hl:(K.lookup C).isSome=true
theorem ExC.kit {K:PySem.W.Frag} {C a:Addr} (c:ExC K C):PySem.W.KitX K (.ref a) (.ref C) (ExAt a C) :=
 B6u c.k (fun M h X=>PySem.W.mc_isType (s:=⟨h,#[],{},0,{}⟩) X c.hd) c.ne c.hl
section
variable {X:Cx} {a C:Addr} {oe:Obj} {i:Nat} {b:Bool}
inductive ClV:V->Value->Prop
 | own (c:Addr):ClV (.ref c) (.ref c)
 | ty (c:String):ClV (.ty c) (.type c)
theorem ClV.get {c:V} {u cv:Value} (h:ClV c cv) (r:RelV c u):u=cv:=by
 cases h with
 | own c=>exact r
 | ty c=>exact r
inductive ClVs:List V->List Value->Prop
 | nil:ClVs [] []
 | cons {c:V} {cv:Value} {r:List V} {s:List Value}:ClV c cv->ClVs r s->ClVs (c :: r) (cv :: s)
theorem ClVs.get:∀ {cs:List V} {us cvs:List Value},ClVs cs cvs->Vals cs us->us=cvs
 | [],_,_,.nil,.nil=>rfl
 | _ :: _,_,_,.cons h t,.cons r s=>by rw [h.get r,t.get s]
structure KE (X:Cx) (i:Nat) (a:Addr) (e:Expr) (b:Bool):Prop where
 out:PE X e (tKE i a b)
structure KT (X:Cx) (i:Nat) (a:Addr) (e:Expr) (b:Bool):Prop where
 out:PT X e (tK i a b)
structure KW (X:Cx) (i:Nat) (a:Addr) (e:Expr) (b:Bool):Prop where
 out:PW X e (tK i a b)
structure KC (X:Cx) (e:Expr) (cv:Value):Prop where
 out:∃ c,ClV c cv/\PE X e (tC c)
theorem B3v {x:Str} {D:Addr} {pos:Pos} (hg:Gl X x) (hm:X.mg x=some (.ref D)) (hd:(x == ("__debug__":Str))=false:=by decide):KC X (.Name x pos) (.ref D):=⟨_,.own D,B0h hg hm rfl hd⟩
theorem C8k {x:Str} {c:String} {pos:Pos} (hg:Gl X x) (hm:X.mg x=none) (hv:bootBuiltins x=some (.type c)) (hn:x≠"__name__":=by decide) (hd:(x == ("__debug__":Str))=false:=by decide):KC X (.Name x pos) (.type c):=⟨_,.ty c,B0i hg hm hv rfl hn hd⟩
theorem C4q {e:Expr} {t t':TE} (h:PE X e t) (k:∀ σ H Q,t' σ H Q->t σ H Q):PE X e t':=fun pins s σ H Q I q=>h pins s σ H Q I (k _ _ _ q)
theorem B8c {e:Expr} {t t':TT} (h:PT X e t) (k:∀ σ H Q,t' σ H Q->t σ H Q):PT X e t':=fun pins s σ H Q I q=>h pins s σ H Q I (k _ _ _ q)
theorem C4d {e:Expr} {t t':TT} (h:PW X e t) (k:∀ σ H Q,t' σ H Q->t σ H Q):PW X e t':=fun wh pins s σ H Q I q=>h wh pins s σ H Q I (k _ _ _ q)
theorem C1h {e:List Stmt} {t t':TS} (h:PSs X e t) (k:∀ D σ H,t' D σ H->t D σ H):PSs X e t':=fun pins s σ H D I q=>h pins s σ H D I (k _ _ _ q)
theorem KE.t {e:Expr} (h:KE X i a e b) (he:∀ whole,isTrue e X.env whole=(do let v <- whole; standAt e.pos; holding [v] (truthy v)):=by intro _; rfl):KT X i a e b :=
 ⟨B8c (A93 h.out he) fun _ _ _ q=>⟨q.1,fun H3 z=>⟨_,rfl,q.2 H3 z⟩⟩⟩
theorem C6s {e:Expr} {pos:Pos} {d:Bool} (h:KT X i a e b) (hd:(!b)=d:=by rfl):KT X i a (.UnaryOp .Not e pos) d:=by
 subst hd;exact ⟨B8c (B8b h.out) fun _ _ _ q=>⟨q.1,fun H3 z=>q.2 H3 z⟩⟩
theorem C6r {e e2:Expr} {rest:List Expr} {c d:Bool} {pos:Pos} (h:KT X i a e b) (h2:KW X i a (.BoolOp .Or (e2 :: rest) pos) c) (hd:(b || c)=d:=by rfl):KW X i a (.BoolOp .Or (e :: e2 :: rest) pos) d:=by
 subst hd;exact ⟨C4d (C4c h.out h2.out) fun σ H Q q=>⟨q.1,fun H3 z=>by
  cases b with
  | true=>exact q.2 H3 z
  | false=>exact ⟨q.1,fun H4 z4=>q.2 H4 (z.trans z4)⟩⟩⟩
theorem C6q {e:Expr} {pos:Pos} (h:KT X i a e b):KW X i a (.BoolOp .Or [e] pos) b:=⟨B79 h.out⟩
theorem KW.t {e:Expr} (h:KW X i a e b):KT X i a e b:=⟨h.out.pt⟩
end
end L2
namespace L2
open PySem PySem.Spec PyProof.Rows
section
variable {X:Cx}
theorem B75 {st:Stmt} {t:TS} (h:QS X.nox st t):QS X st t:=⟨fun pins s σ H D I hw =>
 wpAny_mono (h.out pins s σ H D (I.wish _) hw) (fun _ _ q=>q.unwish) fun _ _ z=>False.elim z⟩
theorem B74 {e:Expr} {t:TT} (h:QT X.nox e t):QT X e t:=⟨h.out.nox⟩
variable {k i:Nat} {f C CH:Addr} {fd:FuncData} {ps:List Str} {sp:Sp} {x xh n:Str} {p pos pos2 pos3 pos4 pos5:Pos} {e:Expr} {es:List Expr} {t:TA} {b0:Stmt} {suite:List Stmt} {b:Bool}
end
end L2
namespace Pu
open PySem PySem.Spec PyProof.Rows L2 My Prf
class RSX (K:Frag) (w0:Wd) (ts:TS) (ps:outParam PSt):Prop where
 ok:∀ (c:Ct) (w:Wd) (env:PEnv) (σ:L2.St) (Dp:PEnds) (D:Ends),c.K=K->c.w0=w0->EnvOk c w env σ->EndsOk c w Dp D->ps Dp env->ts D σ w.H
instance (priority:=low) rsx_of {K:Frag} {w0:Wd} {ts:TS} {ps:PSt} [h:RS K ts ps]:RSX K w0 ts ps:=⟨fun c w env σ Dp D e _=>h.ok c w env σ Dp D e⟩
instance rsx_seq {K:Frag} {w0:Wd} {t u:TS} {p q:PSt} [ht:RSX K w0 t p] [hu:RSX K w0 u q]:RSX K w0 (tSeq t u) (pSeq p q) where
 ok:=by
  rintro c w env σ Dp D rfl rfl E h pr;refine ht.ok c w env σ { Dp with nx:=q Dp } _ rfl rfl E ⟨fun e1 σ1 w1 E1 s1 n1=>?_,h.rt,h.bk,h.ct⟩ pr;exact hu.ok c w1 e1 σ1 Dp D rfl rfl E1 (h.on s1) n1
instance rsx_if {K:Frag} {w0:Wd} {tt:TT} {t u:TS} {pt:PTt} {p q:PSt} [hc:RT K tt pt] [ht:RSX K w0 t p] [hu:RSX K w0 u q]:RSX K w0 (tIfS tt t u) (pIf pt p q) where
 ok:=by
  rintro c w env σ Dp D rfl rfl E h pr;refine hc.ok c w env σ _ _ rfl E pr fun b e1 w1 E1 l1 q1=>?_;cases b with
  | true=>exact ht.ok c w1 e1 σ Dp D rfl rfl E1 (h.on l1.f) q1
  | false=>exact hu.ok c w1 e1 σ Dp D rfl rfl E1 (h.on l1.f) q1
theorem C67 {K:Frag} {w:Wd} {ts:TS} {ps:PSt} [hs:RSX K w ts ps] {md:List Md} {vs:List V} {as:List SV} {D:Ends} {N:List Str} (ok:w.Ok) (a:Args K w md vs as)
  (hb:ps ⟨fun _=>False,fun _ _=>False,fun _=>False,fun _=>False⟩ (as.map some++List.replicate (N.length - md.length) none)):ts D (L2.start N vs) w.H:=by
 obtain ⟨hl,hat⟩:=L5 a;have look:∀ (i:Nat) s,(as.map some++List.replicate (N.length - md.length) none)[i]?=some (some s)->as[i]?=some s:=fun i s e=>by
  rw [List.getElem?_append] at e;split at e
  ·rw [Zh] at e;cases q:as[i]? with
   | none=>rw [q] at e; cases e
   | some t=>rw [q] at e; cases e; rfl
  ·rw [List.getElem?_replicate] at e;split at e <;> cases e
 refine hs.ok ⟨K,w,noZ⟩ w (as.map some++List.replicate (N.length - md.length) none) (L2.start N vs) ⟨fun _=>False,fun _ _=>False,fun _=>False,fun _=>False⟩ D rfl rfl ⟨ok,Le.refl w,by simp [L2.start,hl,a.len],fun i s e=>?_,fun i j s t v u a e _ _ _ f=>absurd f ((hat i _ (look i _ e)).2 v a),fun a z=>z.elim,fun a j t u z=>z.elim⟩ ⟨fun _ _ _ _ _ z=>z.elim,fun _ _ _ _ _ _ _ _ z=>z.elim,fun _ _ _ _ _ z=>z.elim,fun _ _ _ _ _ z=>z.elim⟩ hb;obtain ⟨⟨v,h1,h2⟩,_⟩:=hat i s (look i s e);refine ⟨v,?_,h2⟩;unfold L2.start;rw [List.getElem?_append_left (by rw [Zl]; exact (Zs h1).1),Zh,h1]; rfl
end Pu
namespace L2
open PySem PySem.Spec PyProof.Rows
theorem A19 {X:Cx} {st:List Stmt}:QSs X st A5v:=⟨fun _ _ _ _ _ _ q=>q.elim⟩
theorem ExC.of {K:PySem.W.Frag} {C:Addr} (ga:PySem.W.findIn K (.ref C) "__getattribute__"=some (some (.builtin "BaseException.__getattribute__"))) (gn:PySem.W.findIn K (.ref C) "__getattr__"=some none)
  (gc:PySem.W.findIn K (.ref C) "__class__"=some (some (.builtin "object.__class__"))) (sb:PySem.W.subIn K (.ref C) (.type "BaseException")=some true) (so:PySem.W.subIn K (.ref C) (.type "object")=some true)
  (hd:PySem.W.hasDictIn K C=true) (ty:(K.lookup C).map (·.cls)=some (.type "type")):ExC K C :=
 ⟨⟨ga,gn,gc,sb,so⟩,hd,(fun o e z=>by rw [e] at ty; simp only [Option.map_some,Option.some.injEq] at ty; rw [ty] at z; exact absurd (Value.type.inj z) (by decide)),(by
  cases q:K.lookup C with
  | none=>rw [q] at ty; cases ty
  | some o=>rfl)⟩
theorem us0:∀ {us:List Value},us.length=0->us=[]
 | [],_=>rfl
theorem usS {n:Nat}:∀ {us:List Value},us.length=n + 1->∃ a r,us=a :: r/\r.length=n
 | a :: r,h=>⟨a,r,rfl,Nat.succ.inj h⟩
theorem us1 {us:List Value} (h:us.length=1):∃ a,us=[a]:=by
 obtain ⟨a,r,e,k⟩:=usS h;exact ⟨a,by rw [e,us0 k]⟩
theorem us2 {us:List Value} (h:us.length=2):∃ a b,us=[a,b]:=by
 obtain ⟨a,r,e,k⟩:=usS h; obtain ⟨b,z⟩:=us1 k; exact ⟨a,b,by rw [e,z]⟩
end L2
namespace L2
open PySem PySem.Spec PyProof.Rows
section
variable {X:Cx}
end
end L2
namespace Pu
open PySem L2 My Prf
theorem B4j {K:Frag} {F:Hpp} {vs:List V} {xs:LP} (d:DenAll K F vs xs):∀ k:Nat,DenAll K F (List.replicate k vs).flatten (List.replicate k xs).flatten
 | 0=>.nil
 | k + 1=>by rw [List.replicate_succ,List.replicate_succ,List.flatten_cons,List.flatten_cons]; exact d.app (B4j d k)
def pRep (pe:PX) (pb:PDt) (env:PEnv) (Q:SV->PEnv->Prop):Prop:=pe env fun s e=>∃ xs,s=.own xs/\pb e fun y e2=>∃ n:Int,y=.int n/\0<=n/\n<=1000/\xs.length<=1000/\Q (.own (List.replicate n.toNat xs).flatten) e2
def B1q (i j:Nat) (pd:PDt) (D:PEnds) (env:PEnv):Prop:=i≠j/\N1 env[i]? fun _=>N1 env[j]? fun _=>pd env fun x e=>N1 e[i]? fun xs=>N1 e[j]? fun ys=>∃ (k:Nat) (y:PyData),x=.int k/\ys[k]?=some y/\xs.length < 1000000/\ys.length < 1000000/\D.nx ((e.set j (some (.own (ys.eraseIdx k)))).set i (some (.own (xs++[y]))))
end Pu
namespace L2
open PySem PySem.Spec PyProof.Rows
section
variable {prog:Program} {w:World} {A:Around} {E:Value->Shared->Prop} {s:Shared}
end
section
variable {prog:Program} {w:World} {A:Around} {E:Value->Shared->Prop} {s:Shared} {R:Result->Shared->Prop} {us vs:Array Value}
end
section
variable {prog:Program} {w:World} {A:Around} {E:Value->Shared->Prop} {s:Shared} {us vs:Array Value}
end
section
variable {X:Cx} {pins:List (Addr × Obj)} {σ:St} {H:Hp} {s:Shared}
end
section
variable {X:Cx}
end
end L2
namespace Pu
open PySem L2 My Prf
def B00 (pa:PEnv->(List LP->PEnv->Prop)->Prop) (env:PEnv) (Q:SV->PEnv->Prop):Prop:=pa env fun xss e=>∃ xs ys,xss=[xs,ys]/\xs.length<=1000/\Q (.own (zipD xs ys)) e
end Pu
namespace L2
open PySem PySem.Spec PyProof.Rows
section
variable {X:Cx}
end
end L2
namespace Pu
open PySem L2 My Prf
def pIdx (po pa:PDt) (env:PEnv) (Q:SV->PEnv->Prop):Prop:=po env fun x e=>asL x fun xs=>pa e fun d e2=>PyData.canLayAll0 xs=true/\d.canLay0=true/\d.depth<=60/\xs.length<=1000/\∃ j:Nat,xs.findIdx? (fun z=>z.eqv d)=some j/\Q (.d (.int (j:Int))) e2
end Pu
namespace L2
open PySem PySem.Spec PyProof.Rows
def C04 (d:PyData):Prop:=(d.canLay0=true/\d.showable=true/\d.hasDict=false\/d=.dict [])/\d.depth<=60/\d.shown.length<=sizeLine
section
variable {X:Cx}
end
end L2
namespace Pu
open PySem L2 My Prf
def C42 (pa:PDt) (env:PEnv) (Q:SV->PEnv->Prop):Prop:=pa env fun d e=>C04 d/\Q (.d (.str d.shown)) e
end Pu
namespace L2
open PySem PySem.Spec PyProof.Rows
def C3n (n:Nat) (i j:Int):List Nat:=sliceRange (sliceBounds (some i) none (some j) n).1 (sliceBounds (some i) none (some j) n).2.1 (sliceBounds (some i) none (some j) n).2.2
section
variable {X:Cx}
end
end L2
namespace Pu
open PySem L2 My Prf
def C7w (xs:LP) (i j:Int):LP:=(C3n xs.length i j).filterMap (xs[·]?)
def C4w (pe pl ps:PDt) (env:PEnv) (Q:SV->PEnv->Prop):Prop:=pe env fun x e1=>asL x fun xs=>pl e1 fun y e2=>asI y fun i=>ps e2 fun z e3=>asI z fun j=>j≠0/\Q (.own (C7w xs i j)) e3
end Pu
namespace L2
open PySem PySem.Spec PyProof.Rows
end L2
namespace Pu
open PySem L2 My Prf
def B8k (pa:PEnv->(List LP->PEnv->Prop)->Prop) (env:PEnv) (Q:SV->PEnv->Prop):Prop:=pa env fun xss e=>∃ xs,xss=[xs]/\Q (.d (.tuple xs)) e
end Pu
namespace L2
open PySem PySem.Spec PyProof.Rows
def told:PyData->Str
 | .str z=>z
 | d=>d.shown
section
variable {X:Cx}
end
end L2
namespace Pu
open PySem L2 My Prf
def pStr (pa:PDt) (env:PEnv) (Q:SV->PEnv->Prop):Prop:=pa env fun d e=>C04 d/\Q (.d (.str (told d))) e
end Pu
namespace L2
open PySem PySem.Spec PyProof.Rows
mutual
def lay1:PyData->Bool
 | .list xs=>C2v xs
 | .tuple xs=>C2v xs
 | .dict kvs=>kvs.isEmpty
 | .str x=>PyData.strOk x
 | _=>true
def C2v:LP->Bool
 | []=>true
 | x :: r=>lay1 x && C2v r
end
section
variable {X:Cx} {pins:List (Addr × Obj)} {σ:St} {H:Hp} {s:Shared}
end
end L2
namespace L2
open PySem PySem.Spec PyProof.Rows
def C3w (d:PyData):Prop:=(lay1 d=true/\d.showable=true)/\d.depth<=60/\d.shown.length<=sizeLine
section
variable {X:Cx}
end
end L2
namespace Pu
open PySem L2 My Prf
def C4v (pa:PDt) (env:PEnv) (Q:SV->PEnv->Prop):Prop:=pa env fun d e=>C3w d/\Q (.d (.str (told d))) e
end Pu
namespace L2
open PySem PySem.Spec PyProof.Rows
end L2
namespace Pu
open PySem L2 My Prf
def C8c (x y:PyData) (Q:SV->Prop):Prop:=match x,y with
 | .tuple (x :: xs),.tuple (y :: ys)=>xs.length + ys.length<=1000/\Q (.d (.tuple (x :: xs++y :: ys)))
 | _,_=>False
theorem B1n {x y:PyData} {xs ys:LP} {Q:SV->Prop}:C8c (.tuple (x :: xs)) (.tuple (y :: ys)) Q=(xs.length + ys.length<=1000/\Q (.d (.tuple (x :: xs++y :: ys)))):=rfl
end Pu
namespace L2
open PySem PySem.Spec PyProof.Rows
section
variable {prog:Program} {w:World} {A:Around} {E:Value->Shared->Prop}
end
end L2
namespace Pu
open PySem L2 My Prf
def qLsU (n:Nat) (pr:LP->PEnv->(PEnv->Prop)->Prop) (x:PyData) (env:PEnv) (Q:PEnv->Prop):Prop:=match x with
 | .list xs=>xs.length=n/\pr xs env Q
 | _=>False
theorem B78 {n:Nat} {pr:LP->PEnv->(PEnv->Prop)->Prop} {xs:LP} {env:PEnv} {Q:PEnv->Prop}:qLsU n pr (.list xs) env Q=(xs.length=n/\pr xs env Q):=rfl
def C5p (pd:PDt) (n:Nat) (pr:LP->PEnv->(PEnv->Prop)->Prop) (D:PEnds) (env:PEnv):Prop:=pd env fun x e=>qLsU n pr x e D.nx
end Pu
namespace L2
open PySem PySem.Spec PyProof.Rows
section
variable {M:Model} {A:Around} {E:Value->Shared->Prop} {s:Shared}
end
section
variable {P:Program} {w:World} {K:PySem.W.Frag} {mg:Str->Option Value} {base:Heap} {N:List Str} {qual:Str} {scope:Scope} {f:Addr} {cd:Value} {A:Around} {outer:List Env} {s0:Shared} {H0:Hp} {E:XK}
end
end L2
namespace L2
open PySem PySem.Spec PyProof.Rows
def bx (X:Cx) (scope:Scope) (cl:List (Str × Addr)) (N':List Str) (s3:Shared) (H3:Hp) (fp:List Addr) (E0:XK):Value->Shared->Prop:=fun e s'=>∃ pl σ H s,Inv (X.block scope cl N' s3 H3 fp) pl σ H s/\CX1 X.prog X.w X.stack H s E0 e s'
section
variable {X:Cx} {scope:Scope} {cl:List (Str × Addr)} {N':List Str} {cap:List (Option Nat)} {elt tg iter:Expr} {ifs:List Expr} {wi:TI} {g:TG} {tt:TT} {te:TE} {pos:Pos}
end
section
variable {P:Program} {w:World} {K:PySem.W.Frag} {mg:Str->Option Value} {base:Heap} {N:List Str} {qual:Str} {dsc:Scope} {f:Addr} {cd:Value} {A:Around} {outer:List Env} {s0:Shared} {H0:Hp} {E:XK}
variable {scope:Scope} {cl:List (Str × Addr)} {N':List Str} {cap:List (Option Nat)} {elt tg iter:Expr} {ifs:List Expr} {wi:TI} {g:TG} {tt:TT} {te:TE} {pos:Pos}
end
end L2
namespace L2
open PySem PySem.Spec PyProof.Rows
section
variable {X:Cx} {e:Expr} {t u:TE}
end
section
variable {P:Program} {w:World} {K:PySem.W.Frag} {mg:Str->Option Value} {base:Heap} {N:List Str} {qual:Str} {dsc:Scope} {f:Addr} {cd:Value} {A:Around} {outer:List Env} {s0:Shared} {H0:Hp} {E:XK}
variable {scope:Scope} {cl:List (Str × Addr)} {N':List Str} {cap:List (Option Nat)} {elt tg iter:Expr} {ifs:List Expr} {wi:TI} {g:TG} {tt:TT} {te:TE} {pos:Pos}
end
end L2
namespace Pu
open PySem PySem.Spec PyProof.Rows L2 My Prf
end Pu
namespace L2
open PySem PySem.Spec PyProof.Rows
def A9s:R2:=fun x y H Q=>∃ i n,x=.str i/\y=.int n/\(0<=n/\n<=100)/\i.length<=100/\Q (.str (Txt.mul i n)) H
theorem C6j {x:Str} {n:Int} (h0:0<=n) (h1:n<=100) (h:x.length<=100):MulOk x n:=by
 refine ⟨?_,fun hn _=>?_,fun hn _=>?_⟩
 ·rw [Bool.or_eq_false_iff];exact ⟨Zd (by omega),Zd (by omega)⟩
 ·have hp:0 < n:=by omega
  have h2:100 * n<=2 ^ 63 - 1:=by omega
  have h3:(100:Int)<=(2 ^ 63 - 1) / n:=Int.le_ediv_of_mul_le hp h2;omega
 ·have h2:x.length * n.toNat<=100 * 100:=Nat.mul_le_mul h (by omega);have h3:100 * 100<=sizeLine:=by rw [sizeLine_eq]; decide
  show decide _=false;exact Zd (by omega)
theorem A1e {X:Cx}:OpR X (binaryOp .Mult) A9s:=by
 intro pins s σ H x y v u Q I rx ry h;obtain ⟨i,n,rfl,rfl,⟨h0,h1⟩,h2,q⟩:=h;obtain ⟨t,rfl⟩:=rx;obtain ⟨t2,rfl⟩:=ry;exact PySem.SB.mul (C6j h0 h1 h2) fun t' k=>⟨.str _,H,I.tok _,⟨t',rfl⟩,q⟩
end L2
namespace Pu
open PySem L2 My Prf
def C2c (x y:PyData) (Q:SV->Prop):Prop:=asS x fun i=>asI y fun n=>(0<=n/\n<=100)/\i.length<=100/\Q (.d (.str (Txt.mul i n)))
theorem B0z {i:Str} {n:Int} {Q:SV->Prop}:C2c (.str i) (.int n) Q=((0<=n/\n<=100)/\i.length<=100/\Q (.d (.str (Txt.mul i n)))):=rfl
instance ro_mulS {K:Frag}:RO K A9s C2c where
 ok:=by
  rintro c w env σ x y dx dy Qp Q rfl E vx vy p k;unfold C2c asS at p;split at p
  ·unfold asI at p;split at p
   ·exact ⟨_,_,vx.strE,vy.intE,p.1,p.2.1,k _ _ w (Res.data E (.str _)) p.2.2⟩
   ·exact p.elim
  ·exact p.elim
end Pu
namespace L2
open PySem PySem.Spec PyProof.Rows
section
variable {pg:Program} {wo:World} {ar:Around} {xe:Value->Shared->Prop} {st:Shared}
end
end L2
namespace Pu
open PySem L2 My Prf
def pSlT (pa:PDt) (pl ph:PEnv->(Option Int->PEnv->Prop)->Prop) (env:PEnv) (Q:SV->PEnv->Prop):Prop:=pa env fun x e=>pl e fun lo e1=>ph e1 fun hi e2=>∃ (xs:LP) (b:Nat),x=.tuple xs/\lo=none/\hi=some (b:Int)/\Q (.d (.tuple (xs.take b))) e2
end Pu
namespace Pu
open PySem L2 My Prf
def OT.part:OT->Int->Option OT
 | .leaf (.tuple xs),i=>(L2.atI xs i).map .leaf
 | .leaf (.list xs),i=>(L2.atI xs i).map .leaf
 | .nd _ _ k,i=>(ixN k.len i).bind k.kid
 | _,_=>none
def C2p (o:Option (Option SV)) (env:PEnv) (Q:OT->PEnv->Prop):Prop:=match o with
 | some (some (.bt t))=>Q t env
 | some (some (.d x))=>Q (.leaf x) env
 | _=>False
def C48 (i:Nat) (env:PEnv) (Q:OT->PEnv->Prop):Prop:=C2p env[i]? env Q
theorem B2q {t:OT} {env:PEnv} {Q:OT->PEnv->Prop}:C2p (some (some (.bt t))) env Q=Q t env:=rfl
theorem B2p {x:PyData} {env:PEnv} {Q:OT->PEnv->Prop}:C2p (some (some (.d x))) env Q=Q (.leaf x) env:=rfl
def pPth (pb:PEnv->(OT->PEnv->Prop)->Prop) (pi:PDt) (env:PEnv) (Q:OT->PEnv->Prop):Prop:=pb env fun t e1=>pi e1 fun y e2=>asI y fun n=>∃ u,t.part n=some u/\Q u e2
def OT.vw (t:OT) (k:PyData->Prop):Prop:=match t with
 | .leaf x=>k x
 | t=>∃ xs,t.sv=.bor xs/\k (.list xs)
theorem A82 {x:PyData} {k:PyData->Prop}:OT.vw (.leaf x) k=k x:=rfl
def pVw (pb:PEnv->(OT->PEnv->Prop)->Prop) (env:PEnv) (Q:PyData->PEnv->Prop):Prop:=pb env fun t e=>t.vw fun x=>Q x e
def OT.lf (t:OT) (k:PyData->Prop):Prop:=match t with
 | .leaf x=>k x
 | _=>False
theorem B20 {x:PyData} {k:PyData->Prop}:OT.lf (.leaf x) k=k x:=rfl
def pLf (pb:PEnv->(OT->PEnv->Prop)->Prop) (env:PEnv) (Q:SV->PEnv->Prop):Prop:=pb env fun t e=>t.lf fun x=>Q (.d x) e
def pBr (pb:PEnv->(OT->PEnv->Prop)->Prop) (env:PEnv) (Q:LP->PEnv->Prop):Prop:=pb env fun t e=>∃ xs,t.sv=.bor xs/\Q xs e
end Pu
namespace L2
open PySem PySem.Spec PyProof.Rows
end L2
namespace Pu
open PySem L2 My Prf
def Mut (K:Frag) (w:Wd) (l:Addr) (xs:LP):Prop:=∃ vs,w.H l=some (.lst vs)/\w.F l=none/\¬ w.M l/\DenAll K w.F vs xs
abbrev PMu:=LP->LP->LP->(PyData->LP->LP->Prop)->Prop
def C66 (nd:Nat) (p q:Addr) (Qp:PyData->LP->LP->Prop) (x:PyData) (e:PEnv):Prop:=∃ ys zs,e[nd]?=some (some (.tr (.nd true p (C0 ys))))/\e[nd + 1]?=some (some (.tr (.nd true q (C0 zs))))/\Qp x ys zs
def rtMu (nd:Nat) (p q:Addr) (Qp:PyData->LP->LP->Prop) (s:SV) (e:PEnv):Prop:=match s with
 | .d x=>C66 nd p q Qp x e
 | _=>False
theorem B7y {nd:Nat} {p q:Addr} {Qp:PyData->LP->LP->Prop} {x:PyData} {e:PEnv}:rtMu nd p q Qp (.d x) e=C66 nd p q Qp x e:=rfl
def oMu (o:Option (Option SV)) (k:Addr->LP->Prop):Prop:=match o with
 | some (some (.tr t))=>∃ a xs,t=.nd true a (C0 xs)/\k a xs
 | _=>False
theorem C8f {a:Addr} {xs:LP} {k:Addr->LP->Prop} (h:k a xs):oMu (some (some (.tr (.nd true a (C0 xs))))) k:=⟨a,xs,rfl,h⟩
theorem A8p {xs ys:LP} (h:C0 xs=C0 ys):xs=ys:=by
 have:=congrArg OT.dat h
 rwa [U3,U3] at this
theorem C59 {a:Addr} {xs:LP} {k:Addr->LP->Prop}:oMu (some (some (.tr (.nd true a (C0 xs))))) k=k a xs :=
 propext ⟨fun ⟨_,_,e,h⟩=>by
  have e1:=(OT.nd.inj e).2.1;have e2:=A8p (OT.nd.inj e).2.2;subst e1; subst e2; exact h,C8f⟩
def pMuV (i:Nat) (env:PEnv) (Q:PyData->PEnv->Prop):Prop:=oMu env[i]? fun _ xs=>Q (.list xs) env
def B8m (pd:PDt) (i:Nat) (pi:PDt) (D:PEnds) (env:PEnv):Prop:=pd env fun x e=>oMu e[i]? fun _ _=>pi e fun y e2=>asI y fun n=>oMu e2[i]? fun a xs=>∃ j,ixN xs.length n=some j/\D.nx (e2.set i (some (.tr (.nd true a (C0 (xs.set j x))))))
def is2 (o o':Option (Option SV)) (k:Prop):Prop:=match o,o' with
 | some (some (.own _)),some (some (.own _))=>k
 | _,_=>False
theorem C60 {xs ys:LP} {k:Prop}:is2 (some (some (.own xs))) (some (some (.own ys))) k=k:=rfl
def pA2 (i j:Nat) (env:PEnv) (Q:LP->Nat->Nat->PEnv->Prop):Prop:=is2 env[i]? env[j]? (Q [] i j env)
def pC2 (pd:PDt) (pr:PEnv->(LP->Nat->Nat->PEnv->Prop)->Prop) (env:PEnv) (Q:LP->Nat->Nat->PEnv->Prop):Prop:=pd env fun x e1=>pr e1 fun xs i j e2=>Q (x :: xs) i j e2
def own2 (o o':Option (Option SV)) (k:LP->LP->Prop):Prop:=match o,o' with
 | some (some (.own xs)),some (some (.own ys))=>k xs ys
 | _,_=>False
theorem B9h {xs ys:LP} {k:LP->LP->Prop}:own2 (some (some (.own xs))) (some (some (.own ys))) k=k xs ys:=rfl
def pMu (psp:PMu) (pa:PEnv->(LP->Nat->Nat->PEnv->Prop)->Prop) (env:PEnv) (Q:PyData->PEnv->Prop):Prop:=pa env fun xs i j e=>i≠j/\own2 e[i]? e[j]? fun ys zs=>psp xs ys zs fun x ys' zs'=>Q x ((e.set i (some (.own ys'))).set j (some (.own zs')))
def B9d (psp:PMu) (pa:PEnv->(LP->Nat->Nat->PEnv->Prop)->Prop) (m:Nat) (D:PEnds) (env:PEnv):Prop:=pMu psp pa env fun x e=>D.nx (e.set m (some (.d x)))
def B1h (psp:PMu) (pa:PEnv->(LP->Nat->Nat->PEnv->Prop)->Prop) (D:PEnds) (env:PEnv):Prop:=pMu psp pa env fun _ e=>D.nx e
end Pu
namespace L2
open PySem PySem.Spec PyProof.Rows
end L2
namespace Pu
open PySem L2 My Prf
def B88 (i:Nat) (pg:PyData->PEnv->(PEnv->Prop)->Prop) (pt:PTt) (pd:PDt) (cap:List (Option Nat)) (env:PEnv) (Q:SV->PEnv->Prop):Prop:=N1 env[i]? fun xs=>xs.length < 1000000/\N9 xs pg pt pd (F6 cap env) fun ys=>Q (.own ys) env
def A2u (i:Nat) (pg:PyData->PEnv->(PEnv->Prop)->Prop) (pt:PTt) (pd:PDt) (cap:List (Option Nat)) (j:Nat) (D:PEnds) (env:PEnv):Prop:=N1 env[i]? fun xs=>xs.length < 1000000/\N9 xs pg pt pd (F6 cap env) fun ys=>D.nx (env.set j (some (.own ys)))
end Pu
namespace L2
open PySem PySem.Spec PyProof.Rows
end L2
namespace Pu
open PySem L2 My Prf
def OT.setK:OT->Nat->OT->OT
 | .cons _ t,0,x=>.cons x t
 | .cons h t,n + 1,x=>.cons h (t.setK n x)
 | t,_,_=>t
structure Sub (K:Frag) (w:Wd) (T u:OT) (r:OT->OT) (v0 v:V):Prop where
 tre:Tre K w u [v]
 re:∀ (w':Wd) x,(∀ a o,w.H a=some o->a ∉ u.fp->w'.H a=some o)->Same w.F w'.F->Tre K w' x [v]->Tre K w' (r x) [v0]
 fp:∃ A B,T.fp=A++u.fp++B/\∀ x,(r x).fp=A++x.fp++B
def C8h (T:OT) (k:OT->(OT->OT)->Prop):Prop:=k T fun x=>x
def mIx (pm:OT->(OT->(OT->OT)->Prop)->Prop) (n:Int) (T:OT) (k:OT->(OT->OT)->Prop):Prop:=pm T fun t r=>∃ b a ks j u,t=.nd b a ks/\ixN ks.len n=some j/\ks.kid j=some u/\k u fun x=>r (.nd b a (ks.setK j x))
def isLs (u:OT) (k:Addr->LP->Prop):Prop:=∃ a xs,u=.nd true a (C0 xs)/\k a xs
def C8b (i:Nat) (pm:OT->(OT->(OT->OT)->Prop)->Prop) (D:PEnds) (env:PEnv):Prop:=asTr env[i]? fun T=>pm T fun u r=>isLs u fun a _=>D.nx (env.set i (some (.tr (r (.nd true a .nil)))))
def oInt (o:Option (Option SV)) (k:Int->Prop):Prop:=match o with
 | some (some (.d (.int n)))=>k n
 | _=>False
theorem B9x {n:Int} {k:Int->Prop}:oInt (some (some (.d (.int n)))) k=k n:=rfl
def OT.slot:OT->SV
 | .leaf x=>.d x
 | .nd true a k=>match k.lvs with
  | some xs=>.own xs
  | none=>.tr (.nd true a k)
 | t=>.tr t
def tUn (te:TE):TE:=te
def kids:List OT->OT
 | []=>.nil
 | t :: r=>.cons t (kids r)
theorem J4 {t:OT}:∀ {ts:List OT},(kids (ts++[t])).fp=(kids ts).fp++t.fp
 | []=>by show t.fp++[]=[]++t.fp; simp
 | s :: r=>by show s.fp++(kids (r++[t])).fp=(s.fp++(kids r).fp)++t.fp; rw [J4]; simp
theorem Tre.snoc {K:Frag} {w:Wd} {t:OT} {v:V} (h:Tre K w t [v]):∀ {ts:List OT} {vs:List V},Tre K w (kids ts) vs->Tre K w (kids (ts++[t])) (vs++[v])
 | [],_,e=>by cases (show _=[] from e); exact ⟨v,[],rfl,h,rfl⟩
 | _ :: _,_,⟨x,r,rfl,hx,hr⟩=>⟨x,r++[v],rfl,hx,Tre.snoc h hr⟩
def B6b (xs:LP) (pg:PyData->PEnv->(PEnv->Prop)->Prop) (pt:PTt) (pe:PX) (e0:PEnv) (Fin:List OT->Prop):Prop :=
 ∃ Pv:Nat->PEnv->List OT->Prop,Pv 0 e0 []/\(∀ i x e ys,xs[i]?=some x->Pv i e ys->pg x e fun e2=>pt e2 fun b e3=>if b=true then pe e3 fun s e4=>s.ot fun t=>Pv (i + 1) e4 (ys++[t]) else Pv (i + 1) e3 ys)/\∀ e ys,Pv xs.length e ys->Fin ys
def OT.tup (a:Addr) (k:OT):SV:=match k.lvs with
 | some xs=>.d (.tuple xs)
 | none=>.tr (.nd false a k)
end Pu
namespace L2
open PySem PySem.Spec PyProof.Rows
section
variable {X:Cx} {e:Expr}
end
end L2
namespace Pu
open PySem L2 My Prf
end Pu
namespace L2
open PySem PySem.Spec PyProof.Rows
section
variable {X:Cx} {e:Expr}
end
end L2
namespace L2
open PySem PySem.Spec PyProof.Rows
section
variable {X:Cx} {tg:Expr}
def ItrS (lo st:Int) (n:Nat):It:=⟨fun i _=>i < n,fun i H x H'=>H'=H/\x=.int (lo + (i:Nat) * st),fun i _=>n<=i⟩
theorem A9d {P:Program} {w:World} {K:PySem.W.Frag} {tg:Expr} (it:Addr) (lo st:Int) (n:Nat):Turn P w K tg (ItrS lo st n) [it] it (fun i h=>IsRangeIter h it (lo + (i:Nat) * st) ((n:Int) - (i:Nat)) st) where
 mem:=List.mem_singleton.mpr rfl
 obj:=fun i h st b hb=>by
  cases Zn hb;refine ⟨_,st,fun v z=>?_⟩;have z':Data.fields _=Data.cell v:=z;cases z'
 keep:=fun i h h' st k=>k it (List.mem_singleton.mpr rfl) _ st
 item:=by
  intro X hP hw hK hc i pins s σ H E I hf hst hg;subst hP hw hK;have f:=hf it (List.mem_singleton.mpr rfl);have W:=Walks.range (prog:=X.prog) (w:=X.w) (I.ok.hd hc) it lo st n;refine W.item i s _ _ hg hst fun v h' tk hv st' kk=>?_;obtain ⟨t,rfl⟩:=hv;have I1:Inv X pins σ H { s with heap:=h',toks:=tk }:=I.turned (fun b o hb e=>kk b o (fun z=>hb (Zn z)) e) f.1 f.2.1 f.2.2.2.1 f.2.2.2.2.1 f.2.2.2.2.2;exact ⟨_,rfl,A8q (s:={ s with heap:=h',toks:=tk }) (n:="range_iterator") st' rfl rfl (by decide) ⟨.int (lo + (i:Nat) * st),H,I1,⟨t,rfl⟩,⟨rfl,rfl⟩,st',fun b hb=>(hf b hb).1⟩⟩
 done:=by
  intro X hP hw hK hc i pins s σ H E I hf st hg;subst hP hw hK;have f:=hf it (List.mem_singleton.mpr rfl);have hn:n<=i:=hg;exact wpAny_pyNext_range_end (I.ok.hd hc) st (by omega) fun h' eb=>⟨rfl,I.turned (t':=s.toks) (fun b o hb e=>eb b o hb e) f.1 f.2.1 f.2.2.2.1 f.2.2.2.2.1 f.2.2.2.2.2⟩
 self:=fun _ _ _ _ _ st h=>wpAny_pyIter_rangeiter st h
def stepN (i j k:Int):Nat:=if i < j then ((j - i - 1) / k + 1).toNat else 0
theorem A17 {a b c:Int} (hc:0 < c):Builtin.Range.rangeSize a b c=(stepN a b c:Nat):=by
 unfold Builtin.Range.rangeSize stepN;rw [if_pos hc];by_cases h:a < b
 ·rw [if_pos h,if_pos h];have:=Int.ediv_nonneg (show (0:Int)<=b - a - 1 by omega) (Int.le_of_lt hc);omega
 ·rw [if_neg h,if_neg h]; rfl
theorem A73 {a b c:Int} (h:(0<=a/\a<=1000)/\(0<=b/\b<=1000)/\0 < c/\c<=1000):Builtin.Range.small a b c=true:=by
 obtain ⟨⟨h1,h2⟩,⟨h3,h4⟩,h5,h6⟩:=h;unfold Builtin.Range.small;rw [A17 h5];have hn:stepN a b c<=1000:=by
  unfold stepN;split
  ·have:=Int.ediv_le_self c (show (0:Int)<=b - a - 1 by omega);omega
  ·omega
 have hm:0<=(stepN a b c:Int) * c/\(stepN a b c:Int) * c<=1000 * 1000:=⟨Int.mul_nonneg (by omega) (by omega),Int.mul_le_mul (by omega) h6 (by omega) (by omega)⟩;generalize hq:stepN a b c=q at hn hm;simp only [Builtin.Range.rangeFitsLong,Bool.and_eq_true,Bool.or_eq_true,decide_eq_true_eq,beq_iff_eq,h5,if_true];omega
def C2x (ta:TA):TI:=fun σ H R=>ta σ H fun vs H1=>∃ i j k:Int,vs=[.int i,.int j,.int k]/\((0<=i/\i<=1000)/\(0<=j/\j<=1000)/\0 < k/\k<=1000)/\R (ItrS i k (stepN i j k)) H1
theorem B0d {a b c:Expr} {ta:TA} {p pos:Pos} (hg:Gl X "range") (hm:X.mg "range"=none) (ha:PA X [a,b,c] ta) (hs:starEach [a,b,c] X.env=[(false,eval a X.env),(false,eval b X.env),(false,eval c X.env)])
  (hs2:starEach [b,c] X.env=[(false,eval b X.env),(false,eval c X.env)]):PI X tg (.Call (.Name "range" p) [a,b,c] [] pos) (C2x ta):=by
 intro pins s σ H R I h;refine Call_ (X2 I hg hm boot_range (PyProof.Rows.callWith_type1 (thn (ha pos pins s σ H _ I h) fun us s1 ⟨vs,H1,I1,r1,q1⟩=>?_) (hs.trans (by rw [hs2])) (by rw [hs2]; rfl)));obtain ⟨i,j,k,e,hb,q⟩:=q1;subst e;cases r1 with
 | cons r rr=>cases rr with
  | cons r' rr=>cases rr with
   | cons r2 rr =>
    cases rr;obtain ⟨t,rfl⟩:=r;obtain ⟨t',rfl⟩:=r';obtain ⟨t2,rfl⟩:=r2;refine call_range_3 (by omega) ?_ (.inl (PyProof.noPylong_small (by omega)));refine wpAny_pyIter_range (IsRange.new ..) (A73 hb) ?_;have I2:Inv X pins σ H1 { s1 with heap:=s1.heap.push { cls:=.type "range",data:=.fields #[.int i t,.int j t',.int k t2] },toks:=s1.toks }:=I1.kept fun b o e=>Heap.get?_push_of_some _ e;refine ⟨(s1.heap.push { cls:=.type "range",data:=.fields #[.int i t,.int j t',.int k t2] }).objs.size,[(s1.heap.push { cls:=.type "range",data:=.fields #[.int i t,.int j t',.int k t2] }).objs.size],_,_,H1,rfl,
     I2.kept (t':=s1.toks) fun b o e=>Heap.get?_push_of_some _ e,A9d _ i k (stepN i j k),?_,fun b hb=>?_,q⟩
    ·have e1:i + ((0:Nat):Int) * k=i:=by simp
     have e2:((stepN i j k:Nat):Int) - ((0:Nat):Int)=Builtin.Range.rangeSize i j k:=by rw [A17 hb.2.2.1]; omega
     show IsRangeIter _ _ (i + ((0:Nat):Int) * k) (((stepN i j k:Nat):Int) - ((0:Nat):Int)) k;rw [e1,e2];exact Heap.get?_push_size _ rfl
    ·cases Zn hb;exact I2.fpOk (Zv _) (I2.hok.fresh (Zv _))
theorem A75 {a b c:Expr} {ta:TA} {p pos:Pos} (hg: Gl X "range") (hm: X.mg "range"=none) (ha: QA X [a,b,c] ta) (hs: starEach [a,b,c] X.env=[(false,eval a X.env),(false,eval b X.env),(false,eval c X.env)]:=by rfl) (hs2: starEach [b,c] X.env=[(false,eval b X.env),(false,eval c X.env)]:=by rfl):QI X tg (.Call (.Name "range" p) [a,b,c] [] pos) (C2x ta):=⟨B0d hg hm ha.out hs hs2⟩
end
end L2
namespace Pu
open PySem L2 My Prf
def stpD (lo st:Int) (n:Nat):LP:=(List.range n).map fun k:Nat=>PyData.int (lo + (k:Nat) * st)
theorem U7 (lo st:Int) (n:Nat):(stpD lo st n).length=n:=by simp [stpD]
theorem B5g {lo st:Int} {n i:Nat} {x:PyData} (h:(stpD lo st n)[i]?=some x):i < n/\x=.int (lo + (i:Nat) * st):=by
 unfold stpD at h;rw [Zh] at h;by_cases hi:i < n
 ·rw [List.getElem?_range hi] at h; cases h; exact ⟨hi,rfl⟩
 ·rw [List.getElem?_eq_none (by simpa using hi)] at h; cases h
def C2o (xs:LP) (Q:LP->Prop):Prop:=match xs with
 | [.int i,.int j,.int k]=>((0<=i/\i<=1000)/\(0<=j/\j<=1000)/\0 < k/\k<=1000)/\Q (stpD i k (stepN i j k))
 | _=>False
theorem B2a {i j k:Int} {Q:LP->Prop}:C2o [.int i,.int j,.int k] Q=(((0<=i/\i<=1000)/\(0<=j/\j<=1000)/\0 < k/\k<=1000)/\Q (stpD i k (stepN i j k))):=rfl
def C15 (pa:PAr) (env:PEnv) (Q:LP->PEnv->Prop):Prop:=pa env fun xs e=>C2o xs fun ys=>Q ys e
instance ri_rngS {K:Frag} {ta:TA} {pa:PAr} [ha:RAv K ta pa]:RI K (C2x ta) (C15 pa) where
 ok:=by
  rintro c w env σ Qp R rfl E p k;refine ha.ok c w env σ _ _ rfl E p fun vs xs e1 w1 E1 l1 v1 q1=>?_;unfold C2o at q1;split at q1
  ·rename_i i j k';obtain ⟨hb,q1⟩:=q1;cases v1 with | cons h t=>cases t with | cons h' t=>cases t with | cons h2 t =>
    cases t;refine ⟨i,j,k',by rw [h.intE,h'.intE,h2.intE],hb,k _ _ e1 w1 E1 l1 ?_ q1⟩;intro w' ok l s;refine ⟨fun m hm=>by rw [U7] at hm; exact hm,by rw [U7]; exact Zv _,fun m v H' y hm=>?_⟩;obtain ⟨e,y⟩:=y;subst y;rw [U7] at hm;refine ⟨w',.int (i + (m:Nat) * k'),e.symm,ok,Le.refl w',?_,.int _⟩;unfold stpD;rw [Zh,List.getElem?_range hm]; rfl
  ·exact q1.elim
theorem C22 {lo st:Int} {n:Nat} {pg:PyData->PEnv->(PEnv->Prop)->Prop} {pb:PSt} {D:PEnds} {env:PEnv} (Iv:Nat->PEnv->Prop) (h0:Iv 0 env)
  (hs:∀ (i:Nat) e,i < n->Iv i e->pg (.int (lo + (i:Nat) * st)) e fun e2=>pb ⟨Iv (i + 1),D.rt,D.nx,Iv (i + 1)⟩ e2) (hd:∀ e,Iv n e->D.nx e):A6k (stpD lo st n) pg pb D env :=
 ⟨Iv,h0,fun i x e hx hi=>by obtain ⟨h1,rfl⟩:=B5g hx; exact hs i e h1 hi,fun e h=>hd e (by rwa [U7] at h)⟩
def C44 (i j:Nat) (D:PEnds) (env:PEnv):Prop:=N1 env[j]? fun ys=>∃ y r,ys=y :: r/\D.nx ((env.set j (some (.own r))).set i (some (.d y)))
def B0w (i j a b:Nat) (D:PEnds) (env:PEnv):Prop:=a≠b/\N1 env[a]? fun xs=>N1 env[b]? fun ys=>∃ x r y t,xs=x :: r/\ys=y :: t/\D.nx ((((env.set a (some (.own r))).set b (some (.own t))).set i (some (.d x))).set j (some (.d y)))
def C45 (i j:Nat) (pa:PEnv->(OT->PEnv->Prop)->Prop) (D:PEnds) (env:PEnv):Prop:=pa env fun t e=>∃ a b xs ys,t=.cons (.nd true a (C0 xs)) (.cons (.nd true b (C0 ys)) .nil)/\i≠j/\D.nx ((e.set i (some (.own xs))).set j (some (.own ys)))
def OT.lks:OT->Bool
 | .nil=>true
 | .cons (.nd true _ _) t=>t.lks
 | _=>false
def B1f (i j:Nat) (D:PEnds) (env:PEnv):Prop:=asTr env[i]? fun t=>i≠j/\j < env.length/\∃ a ks,t=.nd true a ks/\ks.lks=true/\D.nx ((env.set i none).set j none)
def A4z (pe:PX) (pr:PAs) (env:PEnv) (Q:List SV->PEnv->Prop):Prop:=pe env fun s e1=>isSt (some (some s)) (pr e1 fun as e2=>Q (.st :: as) e2)
instance (priority:=low) ram_stE {K:Frag} {md:List Md} {te:TE} {tr:TA} {pe:PX} {pr:PAs} [he:RE K te pe] [hr:RAm K md tr pr]:RAm K (.st :: md) (G4 te tr) (A4z pe pr) where
 ok:=by
  rintro c w env σ Qp Q rfl E p k;refine he.ok c w env σ _ _ rfl E p fun v s e1 w1 R q1=>?_;unfold isSt at q1;split at q1
  ·rename_i e;cases e;refine hr.ok c w1 e1 σ _ _ rfl R.ev q1 fun vs xs e2 w2 E2 l2 v2 q2=>?_;obtain ⟨q,e',hm⟩:=R.val;exact k _ _ e2 w2 E2 (R.lw.trans l2) (.st ⟨q,e',l2.m _ hm⟩ v2) q2
  ·exact q1.elim
def B8n (pa:PDt) (env:PEnv) (Q:SV->PEnv->Prop):Prop:=pa env fun d e=>C04 d/\Q (.d (.str d.shown)) e
end Pu
namespace L2
open PySem
end L2
namespace L2
open PySem PySem.Spec PyProof.Rows
section
variable {X:Cx} {pos:Pos}
end
end L2
namespace Pu
open PySem L2 My Prf
def pDN (kvs:List (Key × V)) (env:PEnv) (Q:SV->PEnv->Prop):Prop:=Q (.d (.dict (kvs.map C24))) env
def C2t:List (PyData × PyData)->Str->Option PyData
 | [],_=>none
 | (.str x,z) :: r,s=>if x=s then some z else C2t r s
 | _ :: r,s=>C2t r s
def pDk (pa pb:PDt) (env:PEnv) (Q:SV->PEnv->Prop):Prop:=pa env fun x e=>pb e fun y e2=>∃ ds s t,x=.dict ds/\y=.str s/\C2t ds s=some (.str t)/\Q (.d (.str t)) e2
end Pu
namespace Pu
open PySem L2 My Prf
end Pu
namespace L2
open PySem PySem.Spec PyProof.Rows
section
variable {X:Cx} {e:Expr}
end
end L2
namespace L2
open PySem PySem.Spec PyProof.Rows
section
variable {κ:Type} [DecidableEq κ]
theorem KV.length {kvs:List (κ × V)} {vs:List (κ × Value)} (r:KV kvs vs):kvs.length=vs.length:=Paired.length r
end
section
variable {P:Program} {w:World} {H:Hp} {h:Heap} {a:Addr}
theorem C7y {u:HO} (ok:HOk P w H h) (e:Rd H a u):ObjOk P w H h a u:=e.ok ok
end
section
variable {X:Cx} {pins:List (Addr × Obj)} {σ:St} {H:Hp} {s:Shared} {a:Addr} {y v:V} {u r:Value} {o:Option V} {A:Around} {E:Value->Shared->Prop}
end
section
variable {X:Cx} {pins:List (Addr × Obj)} {σ:St} {H:Hp} {s:Shared} {a:Addr} {kvs:List (Key × V)} {k:Key} {u:Value} {A:Around} {E:Value->Shared->Prop}
end
section
variable {X:Cx} {o i e value:Expr} {pos pos' tpos:Pos} {td ty tv:TE}
end
section
variable {X:Cx} {pos:Pos}
end
theorem C6f {a b:Int}:NSI [V.int a,V.int b]:=fun _ _ z=>nomatch z
theorem u1 {n:Nat} (h:n + 64 < cLine):n + 1 < cLine:=by omega
section
variable {X:Cx} {o i e value:Expr} {pos pos':Pos} {td ty tv:TE}
end
end L2
namespace Pu
open PySem L2 My Prf
end Pu
open PySem L2 My
namespace Pu
end Pu
namespace Pu
open PySem L2 My Prf
def isKs (o:Option (Option SV)) (k:Addr->List OT->Prop):Prop:=asTr o fun T=>∃ a ks,T=.nd true a (kids ks)/\k a ks
end Pu
namespace L2
open PySem PySem.Spec PyProof.Rows
section
variable {X:Cx} {e:Expr}
end
end L2
namespace L2
open PySem
def KeptD (h h':Heap):Prop:=∀ b o,h.get? b=some o->∃ o',h'.get? b=some o'/\o'.cls=o.cls/\o'.dict=o.dict
theorem KeptD.refl (h:Heap):KeptD h h:=fun _ o e=>⟨o,e,rfl,rfl⟩
theorem KeptD.trans {h1 h2 h3:Heap} (x:KeptD h1 h2) (y:KeptD h2 h3):KeptD h1 h3:=fun b o e =>
 let ⟨o1,e1,c1,d1⟩:=x b o e
 let ⟨o2,e2,c2,d2⟩:=y b o1 e1
 ⟨o2,e2,c2.trans c1,d2.trans d1⟩
def Mild (f:Obj->Obj):Prop:=∀ o,o.isFreed=false->(f o).cls=o.cls/\(f o).dict=o.dict/\(f o).isFreed=false
theorem A3b {h:Heap} {a:Addr} {f:Obj->Obj} (m:Mild f):KeptD h (h.update a f):=fun b o e=>by
 by_cases q:a=b
 ·subst q;have nf:o.isFreed=false:=(Heap.get?_some_iff.mp e).2;exact ⟨f o,Heap.get?_update_self f e (m o nf).2.2,(m o nf).1,(m o nf).2.1⟩
 ·exact ⟨o,by rw [Heap.get?_update_other h f q]; exact e,rfl,rfl⟩
inductive Still {α:Type}:Sem α->Prop
 | pure (a:α):Still (.pure a)
 | raise (e:Value):Still (.raise e)
 | uns (x:String):Still (.unsupported x)
 | load {a:Addr} {p:Option Value} {k:Obj->Sem α}:(∀ o,Still (k o))->Still (.load a p k)
 | upd {a:Addr} {p:Option Value} {f:Obj->Obj} {k:Unit->Sem α}:Mild f->Still (k ())->Still (.update a p f k)
 | alloc {o:Obj} {k:Addr->Sem α}:(∀ a,Still (k a))->Still (.alloc o k)
 | stack {k:List (Code × Pos)->Sem α}:(∀ x,Still (k x))->Still (.stack k)
 | rule {t:String} {k:Unit->Sem α}:Still (k ())->Still (.rule t k)
theorem Still.bind' {α β:Type} {t:Sem α} {f:α->Sem β} (h:Still t) (g:∀ a,Still (f a)):Still (t.bind f):=by
 induction h with
 | pure a=>exact g a
 | raise e=>exact .raise e
 | uns x=>exact .uns x
 | load _ ih=>exact .load ih
 | upd m _ ih=>exact .upd m ih
 | alloc _ ih=>exact .alloc ih
 | stack _ ih=>exact .stack ih
 | rule _ ih=>exact .rule ih
theorem Still.bind {α β:Type} {t:Sem α} {f:α->Sem β} (h:Still t) (g:∀ a,Still (f a)):Still (t >>= f):=h.bind' g
theorem Still.wp {α:Type} {M:Model} {Γ:Ctx} {t:Sem α} (st:Still t):∀ {Q:α->Pos->Shared->Prop} {E:Value->Pos->Shared->Prop} {p:Pos} {s s0:Shared},KeptD s0.heap s.heap->Sem.wp M Γ t Q E p s ->
  Sem.wp M Γ t (fun a p' s'=>Q a p' s'/\KeptD s0.heap s'.heap) (fun e p' s'=>E e p' s'/\KeptD s0.heap s'.heap) p s:=by
 induction st with
 | pure a=>intro Q E p s s0 k h; rw [Sem.wp] at h ⊢; exact ⟨h,k⟩
 | raise e=>intro Q E p s s0 k h; rw [Sem.wp] at h ⊢; exact ⟨h,k⟩
 | uns x=>intro Q E p s s0 k h; rw [Sem.wp] at h; exact h.elim
 | load _ ih=>intro Q E p s s0 k h; rw [Sem.wp] at h ⊢; obtain ⟨o,e,h⟩:=h; exact ⟨o,e,ih o k h⟩
 | upd m _ ih=>intro Q E p s s0 k h; rw [Sem.wp] at h ⊢; exact ⟨h.1,ih (k.trans (A3b m)) h.2⟩
 | alloc _ ih=>intro Q E p s s0 k h; rw [Sem.wp] at h ⊢; exact ih _ (k.trans fun b o e=>⟨o,Heap.get?_push_of_some _ e,rfl,rfl⟩) h
 | stack _ ih=>intro Q E p s s0 k h; rw [Sem.wp] at h ⊢; exact ih _ k h
 | rule _ ih=>intro Q E p s s0 k h; rw [Sem.wp] at h ⊢; exact ih k h
theorem Still.any {α:Type} {M:Model} {A:Around} {t:Sem α} (st:Still t) {Q:α->Shared->Prop} {E:Value->Shared->Prop} {s:Shared} (h:wpAny M A t Q E s) :
  wpAny M A t (fun a s'=>Q a s'/\KeptD s.heap s'.heap) (fun e s'=>E e s'/\KeptD s.heap s'.heap) s:=fun Γ p g=>st.wp (KeptD.refl _) (h Γ p g)
theorem A45 {f:Array Value->Array Value}:Mild (Obj.mapFields f):=fun o nf=>by
 obtain ⟨c,d,da,sl⟩:=o;cases da <;> first | exact ⟨rfl,rfl,rfl⟩ | exact ⟨rfl,rfl,nf⟩
theorem A8k {g:Obj->Array (Option Value)}:Mild (fun o=>{ o with slots:=g o }):=fun o nf=>⟨rfl,rfl,by obtain ⟨c,d,da,sl⟩:=o; cases da <;> exact nf⟩
theorem L6 {α:Type} {c:Prop} [Decidable c] {x y:Sem α} (a:Still x) (b:Still y):Still (if c then x else y):=by split <;> assumption
theorem T5 {a:Addr}:Still (PySem.load a):=.load fun o=>.pure o
theorem Y4 {v:Value}:Still (fieldsOf v):=by
 unfold fieldsOf;split
 ·refine .bind T5 fun o=>?_;split
  ·exact .pure _
  ·exact .uns _
 ·exact .uns _
theorem M0 {v:Value} {i:Nat}:Still (field v i):=by
 unfold field;refine .bind Y4 fun o=>?_;split
 ·exact .pure _
 ·exact .uns _
theorem K8 {v:Value} {i:Nat} {x:Value}:Still (setField v i x):=by
 unfold setField;split
 ·unfold updateField;refine .bind T5 fun o=>?_;split
  ·refine L6 ?_ (.uns _);exact .upd A45 (.pure _)
  ·exact .uns _
 ·exact .uns _
theorem still_setFlight {e:Value} {f:Option Addr}:Still (setFlight e f):=by
 unfold setFlight;refine .bind M0 fun tb=>?_;exact L6 K8 (.pure _)
theorem Q3:Still PySem.stack:=.stack fun x=>.pure x
theorem A4i:∀ l:List Env,Still (readyFrames l):=by
 intro l;induction l with
 | nil=>exact .pure _
 | cons env outer ih =>
  unfold readyFrames;split
  ·refine .bind T5 fun o=>L6 (.pure _) ?_;refine .bind ?_ fun im=>.bind ?_ fun back=>.bind (.upd A8k (.pure _)) fun _=>ih
   ·unfold behindIsImport;refine L6 (.pure _) (L6 (.pure _) (.bind M0 fun _=>.pure _))
   ·cases outer with
    | nil=>unfold keptBack; exact L6 (.pure _) (.bind (.bind Q3 fun _=>.pure _) fun _=>.pure _)
    | cons c r=>exact .pure _
  ·exact .uns _
theorem A0r {env:Env}:Still (frameOf env):=by
 unfold frameOf;refine .bind (.bind Q3 fun _=>.pure _) fun l=>.bind ?_ fun x=>?_
 ·unfold frameObject;split
  ·exact .pure _
  ·exact .bind (A4i _) fun _=>.pure _
 ·split
  ·exact .pure _
  ·exact .uns _
theorem V9 {t:String} {l:List Value}:Still (newFields t l):=by
 unfold newFields newObj;have z:∀ u:Unit,Still (newObjAsIs (.type t) (.fields l.toArray) none):=fun _=>.alloc fun a=>.pure _;dsimp only;split
 ·exact .uns _
 ·exact z ()
theorem still_noteFrame {e:Value} {env:Env}:Still (noteFrame e env):=by
 unfold noteFrame;split
 ·rename_i f _;have r:∀ (hd:Value) (b:Bool),Still (do let a <- frameOf env; let pl <- entryPlaceOf f b; let x <- EntryCells.newEntry hd a .none (rawInt f) .none pl; setField e 1 x):=fun hd b =>
   .bind A0r fun a=>.bind (.bind Q3 fun l=>by dsimp only; split <;> exact .pure _) fun pl=>.bind V9 fun x=>K8
  refine .bind M0 fun hd=>?_;try dsimp only
  split
  ·refine .bind M0 fun x=>?_;try dsimp only
   split
   ·exact .pure _
   ·exact .bind K8 fun _=>r _ _
  ·exact r _ _
 ·exact .uns _
theorem still_leaving {e:Value} {env:Env}:Still (leaving env e):=.bind still_noteFrame fun _=>still_setFlight
open PySem.Spec PyProof.Rows PySem.W
def T8:List Value->Bool
 | .ref _ :: r=>T8 r
 | l=>l == A84
theorem B5o (self:Value):refuseLoop self "__setattr__" A84=pure ():=by
 unfold A84;rw [refuseLoop]
 kernel_rfl
theorem W1 (self:Value):∀ {l:List Value},T8 l=true->refuseLoop self "__setattr__" l=pure ()
 | [],e=>by cases e
 | x :: r,e=>by
  unfold T8 at e;split at e
  ·rename_i h; cases h; rw [refuseLoop_ref]; exact W1 self e
  ·rw [eq_of_beq e]; exact B5o self
theorem A6o:∀ {l:List Value},T8 l=true->l.contains (.type "object")=true
 | [],e=>by cases e
 | x :: r,e=>by
  unfold T8 at e;split at e
  ·rename_i h; cases h; rw [List.contains_cons,A6o e,Bool.or_true]
  ·rw [eq_of_beq e]; rfl
section
variable {K:PySem.W.Frag} {prog:Program} {w:World} {A:Around} {s:Shared} {x C:Addr} {ox:Obj} {od:Option Obj} {cd:ClassData} {name:Str} {v:Value}
theorem B6f {tk:Tok} {R:Result->Shared->Prop} (X:K.In s.heap) (I:PySem.W.InstAt s.heap x ox C od) (hc:clsIn K C=some cd) (ho:T8 cd.mro=true) (ha:findIn K (.ref C) name=some none)
  (h:wpAny (model prog w) A.in1 (Builtin.ObjectAttr.storeInOwnDict (.ref x) (.ref C) (.str name tk) name v false)
   (fun z s'=>match z with | .done f=>R (.ok f) s' | .again c=>c.quiet=true/\codeAny (model prog w) A c R s') (fun e s'=>R (.error e) s') s) :
  codeAny (model prog w) A (.call (.builtin "object.__setattr__") ⟨[.ref x,.str name tk,v],[]⟩) R s:=by
 have ne:cd.mro.isEmpty=false:=by
  cases q:cd.mro with
  | cons _ _=>rfl
  | nil=>rw [q] at ho; cases ho
 have isIn:Looks (model prog w) s.heap (isInstance (.ref x) (.type "object")) true :=
  I.type.andThen (looks_mroIn X (by unfold mroIn; rw [hc]; simp only [Option.bind_some,ne,Bool.false_eq_true,if_false,A6o ho]))
 have SO:=PySem.F.store_object;refine codeAny_call_builtin SO.slot.plain SO.entry
  (check_slot (i:="object.__setattr__") (owner:="object") (n:="__setattr__") (self:=.ref x) (rest:=[.str name tk,v]) (kw:=[]) SO.kind SO.split isIn (SO.args (.ref x) (.str name tk) v) ?_)
 have mro:Looks (model prog w) s.heap (mroOf (.ref C)) cd.mro:=Looks.andThen (looks_clsIn X hc) .now;rw [osa_eq,refuse_eq];refine wpAny_bind (wpAny_bind (I.type.here ?_));refine wpAny_bind (mro.here ?_);rw [W1 _ ho];refine wpAny_pure (wpAny_bind (I.type.here (wpAny_bind ((looks_findIn X ha).here ?_))));exact wpAny_bind (wpAny_pure h)
theorem B5k {vs:Array Value} {sl:Array (Option Value)} {Q:Unit->Shared->Prop} {E:Value->Shared->Prop} (X:K.In s.heap) (hx:s.heap.get? x=some ⟨.ref C,none,.fields vs,sl⟩)
  (hc:clsIn K C=some cd) (hh:cd.hasDict=true) (ho:T8 cd.mro=true) (hs:findIn K (.ref C) "__setattr__"=some (some (.builtin "object.__setattr__"))) (ha:findIn K (.ref C) name=some none)
  (h:∀ h' d,s.heap.get? d=none->d≠x->h'.get? x=some ⟨.ref C,some d,.fields vs,sl⟩->h'.Ns1 d (fun y=>if y=name then some v else none)->(∀ b o,b≠x->s.heap.get? b=some o->h'.get? b=some o) ->
   Q () { s with heap:=h',toks:=s.toks + 2 }):wpAny (model prog w) A (setAttr (.ref x) name v) Q E s:=by
 have I:PySem.W.InstAt s.heap x ⟨.ref C,none,.fields vs,sl⟩ C none:=⟨hx,rfl,rfl,True.intro⟩;have lt:=Heap.lt_size hx;refine set_plain X I hs (B6f (s:={ s with toks:=s.toks + 1 }) X I hc ho ha ?_);unfold Builtin.ObjectAttr.storeInOwnDict;refine wpAny_bind (wpAny_pure (wpAny_bind ?_));show wpAny _ _ (instanceDict x true) _ _ _;unfold instanceDict;refine wpAny_bind (wpAny_loadPart (s:={ s with toks:=s.toks + 1 }) hx (wpAny_bind (Looks.here (s:={ s with toks:=s.toks + 1 }) (looks_clsIn X hc) ?_)));rw [hh];have x1:(s.heap.push { cls:=.type "dict",data:=.dict #[] }).get? x=some ⟨.ref C,none,.fields vs,sl⟩:=Heap.get?_push_of_some _ hx;refine wpAny_bind (wpAny_alloc (s:={ s with toks:=s.toks + 1 }) (wpAny_bind (wpAny_update (s:={ heap:=_,gens:=_,drawn:=_,toks:=_,os:=_ }) x1 ?_)));refine wpAny_pure ?_;have nd:s.heap.objs.size≠x:=Nat.ne_of_gt lt;have e1:((s.heap.push { cls:=.type "dict",data:=.dict #[] }).update x fun o=>{ o with dict:=some s.heap.objs.size }).get? x=some ⟨.ref C,some s.heap.objs.size,.fields vs,sl⟩ :=
  Heap.get?_update_self _ x1 rfl
 have e2:((s.heap.push { cls:=.type "dict",data:=.dict #[] }).update x fun o=>{ o with dict:=some s.heap.objs.size }).get? s.heap.objs.size=some { cls:=.type "dict",data:=.dict #[] }:=by
  rw [Heap.get?_update_other _ _ (Ne.symm nd)]; exact Heap.get?_push_size _ rfl
 show wpAny _ _ (Builtin.ObjectAttr.storeInDict _ _ _ _) _ _ _;unfold Builtin.ObjectAttr.storeInDict;refine wpAny_bind (wpAny_pure (wpAny_bind ?_));refine wpAny_nsSet1 (m:=fun _=>none) (Heap.Ns1.of_empty ⟨_,#[],0,e2,rfl,fun e he=>absurd he (by simp),fun _=>rfl⟩) fun h' n2 sb=>?_;obtain ⟨oD,es,ep,g1,g2,g3⟩:=n2.count (PySem.Within.cons name v PySem.Within.nil);refine wpAny_bind (wpAny_lookBehind g1 (by rw [g2]; exact pastItsLine_dict (Zx g3 (by rw [sizeLine_eq]; show 1<=_; decide))) (wpAny_pure ?_));refine h h' s.heap.objs.size (Heap.get?_none_of_le (Zv _)) nd ((sb.2 x (Ne.symm nd)).trans e1) n2 fun b o bx e=>?_;refine (sb.2 b (Nat.ne_of_lt (Heap.lt_size e))).trans ?_;rw [Heap.get?_update_other _ _ (Ne.symm bx)];exact Heap.get?_push_of_some _ e
end
section
variable {K:PySem.W.Frag} {prog:Program} {w:World} {A:Around} {s:Shared} {x C:Addr} {ox:Obj} {od:Option Obj} {cd:ClassData} {name:Str} {v:Value}
theorem A2x:∀ {l:List Value},T8 l=true->l.contains (.type "BaseException")=true
 | [],e=>by cases e
 | y :: r,e=>by
  unfold T8 at e;split at e
  ·rename_i h; cases h; rw [List.contains_cons,A2x e,Bool.or_true]
  ·rw [eq_of_beq e]; rfl
theorem getx {expr:Bool} {Q:Value->Shared->Prop} {E:Value->Shared->Prop} (X:K.In s.heap) (I:PySem.W.InstAt s.heap x ox C od) (hc:clsIn K C=some cd) (ho:T8 cd.mro=true)
  (hg:findIn K (.ref C) "__getattribute__"=some (some (.builtin "BaseException.__getattribute__"))) (hk:findIn K (.ref C) "__getattr__"=some none)
  (hf:findObj K C od name=some (.value v)) (hh:handedIn v=true) (h:Q v { s with toks:=s.toks + 1 }):wpAny (model prog w) A (getAttr (.ref x) name expr) Q E s:=by
 obtain ⟨h0,g,d,t,os⟩:=s;have ne:cd.mro.isEmpty=false:=by
  cases q:cd.mro with
  | cons _ _=>rfl
  | nil=>rw [q] at ho; cases ho
 have isIn:Looks (model prog w) h0 (isInstance (.ref x) (.type "BaseException")) true :=
  I.type.andThen (looks_mroIn X (by unfold mroIn; rw [hc]; simp only [Option.bind_some,ne,Bool.false_eq_true,if_false,A2x ho]))
 have L0:=I.type (M:=model prog w);have L1:=looks_findIn (M:=model prog w) X hg;have L2:=looks_findIn (M:=model prog w) X hk;have L3:=looks_find (M:=model prog w) X I hf;unfold getAttr getAttrBy;refine wpAny_bind (wpAny_mkText (wpAny_holding (wpAny_bind (L0.at (wpAny_bind (L1.at ?_))))));dsimp only;rw [if_neg (by rw [show (Value.builtin "BaseException.__getattribute__" == Value.builtin "object.__getattribute__")=false by decide +kernel,Bool.and_false]; decide)];unfold getAttrByItsOwn;have ga:=F.excAttr_ValueError.ga;refine wpAny_bind (L2.at ?_);refine wpAny_bind (wpAny_attempt (wpAny_holding ?_));unfold callGetattribute;rw [if_neg (by cases expr <;> decide)]
 unfold boundAndCalled;rw [ga.bind];refine wpAny_bind (wpAny_pure ?_);dsimp only;refine wpAny_call (codeAny_call_builtin ga.plain F.entry_bexc_ga
  (check_slot (i:="BaseException.__getattribute__") (owner:="BaseException") (n:="__getattribute__") (self:=.ref x) (rest:=[.str name t]) (kw:=[]) (by decide +kernel) (by decide +kernel) isIn (F.args_bexc_ga (.ref x) (.str name t)) ?_))
 unfold Builtin.«object.__getattribute__»;refine wpAny_bind (wpAny_pure (a:=(Value.ref x,[Value.str name t])) ?_);refine wpAny_bind (wpAny_pure (a:=name) ?_);refine wpAny_bind (L0.at (wpAny_bind (L3.at ?_)));dsimp only;refine wpAny_pure ?_;dsimp only;rw [handedOut_of hh];exact wpAny_pure h
end
section
variable {prog:Program} {w:World} {A:Around} {E:Value->Shared->Prop} {s:Shared} {nm q:Str} {C N:Addr} {bs bm bmB:List Value} {hdct:Bool} {sn:List Str} {sub:List Value} {ab:Bool} {col:Option Bool} {dd:Option Addr} {k0 k1 k2 k3 k5:Option Value} {B newId initId:String}
theorem C8n (F:ExcBaseFacts B newId initId bmB) (T:OwnTail s.heap bmB bm) {mN:Str->Option Value} {as:List Value} {fI:Addr} {oI:Obj} {Q:Value->Shared->Prop}
  (hC:s.heap.get? C=some (excClassObj nm q C N bs bm hdct sn sub ab col dd k0 k1 k2 k3 k5 newId)) (hn:s.heap.Ns N mN) (hi:mN "__init__"=some (.ref fI))
  (hf:s.heap.get? fI=some oI) (hfc:oI.cls=.type "function") (hl:as.length<=sizeLine)
  (hq:∀ h' e,Heap.MadeExcOf s.heap h' e (.ref C) as ->
   wpAny (model prog w) (A.under (.builtin "type.__call__" ⟨.ref C :: as,[]⟩)) (call (.ref fI) (.ref e :: as)) (fun r s'=>r=.none/\Q (.ref e) s') E { s with heap:=h' }) :
  wpAny (model prog w) A (call (.ref C) as) Q E s:=by
 obtain ⟨h,g,d,t,os⟩:=s;have t1:=tc_lookup;have t2:=tc_bind (.ref C);have hT:(⟨h,g,d,t,os⟩:Shared).TypeIs (.ref C) "type":=⟨_,hC,rfl⟩;refine wpAny_call (codeAny_of_tree ?_);show wpAny _ _ (callAny (.ref C) ⟨as,[]⟩) _ _ _
 repeat (any_goals (first | assumption | with_reducible refine wpAny_loadPart_at hC ?_ | wp_step))
 refine ⟨rfl,codeAny_call_builtin_at (Code.quiet_builtin _ (by decide +kernel)) entry_typeCall (wpAny_check_type_call_sub hC ?_)⟩
 repeat (first | with_reducible refine wpAny_loadPart_at hC ?_ | with_reducible refine wpAny_madeBy_exc hC ?_ | wp_step)
 refine codeAny_call_builtin_code (Code.quiet_builtin _ F.quiet) (wpAny_check_new_subT F T hC (codeAny_exc_new_subT F T hC ?_ hl));show wpAny _ _ _ _ _ _
 let h2:=(h.push { cls:=.type "tuple",data:=.seq as.toArray }).push { cls:=.ref C,data:=.fields #[.ref h.objs.size,.none,.none,.none,.bool false,.none] }
 have kp:∀ b o,h.get? b=some o->h2.get? b=some o:=fun b o e=>Heap.get?_push_of_some _ (Heap.get?_push_of_some _ e);have hC2:=kp _ _ hC;have hn2:h2.Ns N mN:=let ⟨o,es,ep,e,r⟩:=hn; ⟨o,es,ep,kp _ _ e,r⟩;have he:h2.get? (h.objs.size + 1)=some { cls:=.ref C,data:=.fields #[.ref h.objs.size,.none,.none,.none,.bool false,.none] }:=by heap_get
 have T2:OwnTail h2 bmB bm:=T.keeps kp;have cc:(Value.ref C :: bm).contains (.ref C)=true:=by simp
 unfold isInstance
 repeat (first | with_reducible refine wpAny_loadPart_at he ?_ | wp_step)
 refine wpAny_isSubtype_exc hC2 ?_;rw [cc]
 repeat wp_step
 show wpAny _ _ (typeLookup (.ref C) _) _ _ _;refine wpAny_typeLookup_tail hC2 hn2 T2 F.mroIs F.init.lookup ?_;rw [hi];refine wpAny_holding (wpAny_bind ?_);unfold bindSpecial;refine wpAny_bind (wpAny_typeOf (T:="function") ⟨_,kp _ _ hf,hfc⟩ ?_);rw [if_pos (by decide)];refine wpAny_pure (wpAny_bind (wpAny_mono (hq h2 (h.objs.size + 1) ⟨kp,Heap.get?_none_of_le (Nat.le_succ _),h.objs.size,he,Heap.get?_none_of_le (Zv _),?_⟩) (fun r s' z=>?_) fun _ _ z=>z))
 ·exact Heap.get?_push_of_some _ (Heap.get?_push_at rfl rfl)
 ·obtain ⟨rfl,z⟩:=z
  wp_walk
  exact z
end
section
variable {P:Program} {w:World} {K:PySem.W.Frag} {mg:Str->Option Value} {base:Heap} {A:Around} {outer:List Env} {s:Shared} {H:Hp} {f C e:Addr} {u:Value} {qual nm x fld:Str} {params:Arguments} {scope:Scope} {dV kV doc pm cdv ct oc:Value} {an od:Option Addr} {osl:Array (Option Value)} {N:List Str}
 {p1 p2 p3 p4:Pos} {ob:Obj} {cd:ClassData} {vs:Array Value} {sl:Array (Option Value)} {v:V}
theorem C8l {R:Result->Shared->Prop} (lk:K.lookup f=some ⟨oc,od,.func (PySem.W.fnOf nm qual params [.Assign [.Attribute (.Name "self" p1) fld p2] (.Name x p3) p4] scope dV kV doc pm an cdv ct),osl⟩) (hcd:PySem.W.codeIn K cdv qual=true)
  (S:FnScope N ["self",x] scope) (hN0:N[0]?=some ("self":Str)) (hN1:N[1]?=some x) (hv0:Vis scope "self") (hv1:Vis scope x) (hr:Room 1 A) (e0:Env0 P w K mg base A outer s H)
  (hx1:(x == ("__debug__":Str))=false) (hx2:(x == ("__classdict__":Str))=false)
  (hb:BindsTo s (PySem.W.fnOf nm qual params [.Assign [.Attribute (.Name "self" p1) fld p2] (.Name x p3) p4] scope dV kV doc pm an cdv ct) ⟨[.ref e,u],[]⟩ [("self",.ref e),(x,u)]) (ru:RelV v u)
  (he:s.heap.get? e=some ⟨.ref C,none,.fields vs,sl⟩) (hne:H e=none) (hfr:e ∉ frs outer)
  (hc:PySem.W.clsIn K C=some cd) (hh:cd.hasDict=true) (ho:T8 cd.mro=true) (hs:PySem.W.findIn K (.ref C) "__setattr__"=some (some (.builtin "object.__setattr__"))) (ha:PySem.W.findIn K (.ref C) fld=some none)
  (hsw:∀ env:Env,swapsWith (.Name x p3) (some (.Attribute (.Name "self" p1) fld p2)) p4.line env=pure false)
  (h:∀ h' d tk g' dr u2,RelV v u2->s.heap.get? d=none->d≠e->h'.get? e=some ⟨.ref C,some d,.fields vs,sl⟩->h'.Ns1 d (fun y=>if y=fld then some u2 else none)->Un (frs outer) [e] H H s.heap h'->HOk P w H h'->AllBare g' ->
   R (.ok (.ret .none)) ⟨h',g',dr,tk,s.os⟩) :
  codeAny (model P w) A (.call (.ref f) ⟨[.ref e,u],[]⟩) R s:=by
 have KX:K.In s.heap:=e0.mod.kin.keeps fun b o e=>(e0.bs b o e).1;have lim:s.heap.NoLimit:=e0.mod.nolimit.keeps fun b o e=>(e0.bs b o e).1;have hkind:∀ y ∈ [(("self":Str),Value.ref e),(x,u)],scope.names.lookup y.1=some .local\/(scope.names.lookup y.1=some .cell/\((cellsFrom (s.heap.objs.size + 1) scope.names []).lookup y.1).isSome=true):=fun ⟨n,z⟩ hy=>by
  have hm:n ∈ [("self":Str),x]:=by
   rcases List.mem_cons.mp hy with q | q
   ·cases q; exact Zy
   ·cases Zn q; exact Zr _ Zy
  rcases S.par n hm with q | q
  ·exact .inl q
  ·exact .inr ⟨q,PySem.W.cellsFrom_some _ _ _ (.inl q)⟩
 refine codeAny_call_function hr.depth (KX _ _ lk) rfl S.co S.gen rfl (PySem.W.codeRec_of KX hcd) (hb _ _ _ _ ?_);refine wpAny_newFunctionEnv_cells S.kind hkind fun env hE s1 y=>?_;subst hE;refine ⟨lim.keeps y.toInCall.keep,codeAny_func ?_⟩
 let cx:CXT:=fun _ _ _ _ e s'=>R (.error e) s'
 have I:Inv (cxOf cx P w K mg base N qual scope f cdv A outer s H E0) [] (start N [.ref e,v]) H s1:=A3f (ps:=["self",x]) (us:=[.ref e,u]) S hr.hd e0 rfl (.cons rfl (.cons ru .nil)) y;have st0:(start N [V.ref e,v])[0]?=some (some (V.ref e)):=rfl;have st1:(start N [V.ref e,v])[1]?=some (some v):=rfl;refine wpAny_execs_cons ?_;refine plainObj_wpAny_Assign_Attribute ?_ (hsw _);have g1:=A0b (X:=cxOf cx P w K mg base N qual scope f cdv A outer s H E0) (pos:=p3) hN1 hv1 hx1 hx2 [] s1 _ H (fun z H'=>z=v/\H'=H) I ⟨v,st1,rfl,rfl⟩;refine wpAny_mono g1 (fun u2 s2 z=>?_) (fun _ _ z=>z);obtain ⟨v2,H2,I2,r2,ev,eH⟩:=z;rw [ev] at r2;rw [eH] at I2;have g2:=A0b (X:=cxOf cx P w K mg base N qual scope f cdv A outer s H E0) (pos:=p1) hN0 hv0 (by decide) (by decide) [] s2 _ H (fun z H2=>z=.ref e/\H2=H) I2 ⟨_,st0,rfl,rfl⟩;refine wpAny_mono g2 (fun u3 s3 z=>?_) (fun _ _ z=>z);obtain ⟨v3,H3,I3,r3,ev3,eH3⟩:=z;rw [ev3] at r3;rw [eH3] at I3;obtain rfl:u3=Value.ref e:=r3;have nx:∀ b:Addr,b ∉ (cxOf cx P w K mg base N qual scope f cdv A outer s H E0).ex:=fun b z=>absurd z (List.not_mem_nil);have he3:s3.heap.get? e=some ⟨.ref C,none,.fields vs,sl⟩:=I3.base.keep e _ he hne hfr (nx e);refine B5k (I3.ok.mod.kin.keeps I3.bk) he3 hc hh ho hs ha fun h' d d1 d2 d3 d4 d5=>wpAny_execs_nil ?_;have os:s3.os=s.os:=I3.os;have dn:s.heap.get? d=none:=by
  cases q:s.heap.get? d with
  | none=>rfl
  | some o =>
   obtain ⟨o',z⟩:=I3.base.there d o q (nx d);rw [d1] at z; cases z
 have lift:∀ b o,b≠e->s3.heap.get? b=some o->h'.get? b=some o:=d5;have un:Un (frs outer) [e] H H s.heap h':={
  keep:=fun b o q n hb hx=>lift b o (fun z=>hx (z ▸ List.mem_singleton.mpr rfl)) (I3.base.keep b o q n hb (nx b))
  slot:=fun b o q n hb hx=>by
   obtain ⟨sl2,z⟩:=I3.base.slot b o q n hb (nx b);exact ⟨sl2,lift b _ (fun z=>hx (z ▸ List.mem_singleton.mpr rfl)) z⟩
  free:=fun b o q n hx=>I3.base.free b o q n (nx b)
  there:=fun b o q hx=>by
   obtain ⟨o',z⟩:=I3.base.there b o q (nx b);exact ⟨o',lift b _ (fun z=>hx (z ▸ List.mem_singleton.mpr rfl)) z⟩
  tups:=I3.base.tups
  frzs:=I3.base.frzs
  tbls:=I3.base.tbls }
 have hok:HOk P w H h':=fun b ob q=>(I3.hok b ob q).stay (fun c u hc z=>lift c u (fun y=>by
  subst y;rcases hc with rfl | hc
  ·rw [hne] at q; cases q
  ·rw [hne] at hc; cases hc) z) (fun _ z=>z) (fun _ _ z=>z)
 obtain ⟨hp,g3,dr3,t3,os3⟩:=s3;show R (.ok (.ret .none)) ⟨h',g3,dr3,t3 + 2,os3⟩;rw [show os3=s.os from os];exact h h' d _ g3 dr3 u2 r2 dn d2 d3 d4 un hok I3.bare
end
section
variable {M:Model} {A:Around} {E:Value->Shared->Prop} {s:Shared} {base:Heap} {env:Env} {outer:List Env} {L e:Addr} {oe:Obj} {cls a0:Value} {Q:Unit->Shared->Prop} {dx:Option Addr}
def DictAt (h:Heap) (e:Addr) (dx:Option Addr):Prop:=∃ o,h.get? e=some o/\o.dict=dx
theorem DictAt.kept {h h':Heap} (x:DictAt h e dx) (k:KeptD h h'):DictAt h' e dx :=
 let ⟨_,q,d⟩:=x
 let ⟨o',q',_,d'⟩:=k _ _ q
 ⟨o',q',d'.trans d⟩
theorem A48 (hfr:A.frames=some (env :: outer)) (hf:env.frame=some L) (hl:s.heap.FunFrames base (env :: outer)) (he:s.heap.get? e=some oe) (hd:oe.data=.fields #[a0,.none,.none,.none,.bool false,.none])
  (hkb:base.StaysIn s.heap) (hen:base.get? e=none) (hQ:∀ h',Heap.FlyingW base outer e oe.cls a0 h'->s.heap.UpToSlots h'->DictAt h' e oe.dict->Q () { s with heap:=h' }):wpAny M A (leaving env (.ref e)) Q E s:=by
 have z:wpAny M A (leaving env (.ref e)) (fun _ s'=>∃ h',s'={ s with heap:=h' }/\Heap.FlyingW base outer e oe.cls a0 h'/\s.heap.UpToSlots h') E s:=by
  refine wpAny_leaving_firstW (a0:=a0) hfr hl hf he hkb hen hd rfl rfl fun h' hL=>?_;obtain ⟨k1,⟨_,_,k2⟩,k3,k4⟩:=hL;exact ⟨h',rfl,⟨k1,hen,k2,k3⟩,k4⟩
 refine wpAny_mono (still_leaving.any z) (fun _ s' q=>?_) fun _ _ q=>q.1;obtain ⟨⟨h',rfl,q1,q2⟩,k⟩:=q;exact hQ h' q1 q2 (DictAt.kept ⟨oe,he,rfl⟩ k)
theorem A29 (hfr:A.frames=some (env :: outer)) (hf:env.frame=some L) (hfl:Heap.FlyingW base (env :: outer) e cls a0 s.heap) (hd:DictAt s.heap e dx)
  (hQ:∀ h',Heap.HeldW base (env :: outer) e cls a0 L h'->s.heap.UpToSlots h'->DictAt h' e dx->Q () { s with heap:=h' }):wpAny M A (noteFrame (.ref e) env) Q E s:=by
 have z:wpAny M A (noteFrame (.ref e) env) (fun _ s'=>∃ h',s'={ s with heap:=h' }/\Heap.HeldW base (env :: outer) e cls a0 L h'/\s.heap.UpToSlots h') E s :=
  wpAny_looks_onW hfr hf hfl fun h' q1 q2=>⟨h',rfl,q1,q2⟩
 refine wpAny_mono (still_noteFrame.any z) (fun _ s' q=>?_) fun _ _ q=>q.1;obtain ⟨⟨h',rfl,q1,q2⟩,k⟩:=q;exact hQ h' q1 q2 (hd.kept k)
theorem B9z {l:List Env} (hh:Heap.HeldW base l e cls a0 L s.heap) (hd:DictAt s.heap e dx)
  (hQ:∀ h',Heap.FlyingW base l e cls a0 h'->s.heap.UpToSlots h'->DictAt h' e dx->Q () { s with heap:=h' }):wpAny M A (setFlight (.ref e) none) Q E s:=by
 have z:wpAny M A (setFlight (.ref e) none) (fun _ s'=>∃ h',s'={ s with heap:=h' }/\Heap.FlyingW base l e cls a0 h'/\s.heap.UpToSlots h') E s :=
  wpAny_landsW hh fun h' q1 q2=>⟨h',rfl,q1,q2⟩
 refine wpAny_mono (still_setFlight.any z) (fun _ s' q=>?_) fun _ _ q=>q.1;obtain ⟨⟨h',rfl,q1,q2⟩,k⟩:=q;exact hQ h' q1 q2 (hd.kept k)
end
def CX2 (P:Program) (w:World):CXT:=fun outer H s E e s'=>∃ (a:Addr) (cls a0:Value) (dx:Option Addr) (H':Hp) (B:Heap),e=.ref a/\Fly P w outer H s s' a cls a0 H' B/\DictAt s'.heap a dx/\E cls dx H'
section
variable {P:Program} {w:World} {K:PySem.W.Frag} {mg:Str->Option Value} {base:Heap} {N:List Str} {qual:Str} {scope:Scope} {f:Addr} {cd:Value} {A:Around} {outer:List Env} {s0:Shared} {H0:Hp} {E:XK}
def B45 (X:Cx) (E:XK):Prop:=∀ (pins:List (Addr × Obj)) (σ:St) (H H2:Hp) (s s2:Shared) (e:Addr) (oe:Obj) (a0:Value),Inv X pins σ H s->s2.os=s.os->AllBare s2.gens->s.heap.get? e=none->H2 e=none ->
 s2.heap.get? e=some oe->oe.data=.fields #[a0,.none,.none,.none,.bool false,.none]->Un (frs X.stack) [] H H2 s.heap s2.heap->s2.heap.FunFrames X.base X.stack->(∀ b ∈ frs X.stack,H2 b=none)->HOk X.prog X.w H2 s2.heap->E oe.cls oe.dict H2->X.xe (.ref e) s2
theorem C0r:B45 (cxOf (CX2 P w) P w K mg base N qual scope f cd A outer s0 H0 E) E:=by
 intro pins σ H H2 s s2 e oe a0 I os bare en e2n he hd un ff fr hok q;generalize hX:cxOf (CX2 P w) P w K mg base N qual scope f cd A outer s0 H0 E=X at *;have nx:∀ b:Addr,b ∉ X.ex:=by subst hX; exact fun b z=>absurd z (List.not_mem_nil)
 have enf:e ∉ frs X.stack:=fun z=>by
  obtain ⟨_,o',ho,_⟩:=I.stack.mem z;rw [en] at ho; cases ho
 have hB:∀ b o,s2.heap.get? b=some o->b≠e->b ∉ frs X.stack->(PySem.W.hideAll s2.heap (e :: frs X.stack)).get? b=some o:=fun b o z n m=>PySem.W.hideAll_get _ z fun y=>by
  rcases List.mem_cons.mp y with y | y
  ·exact n y
  ·exact m y
 have hin:∀ env ∈ X.stack,∀ a,env.frame=some a->a ∈ e :: frs X.stack:=fun env he a ha=>Zr _ (List.mem_filterMap.mpr ⟨env,he,ha⟩);have frs0:∀ b,b ∈ X.fs->b ∈ frs X.stack:=by
  subst hX;intro b hb;show b ∈ List.filterMap _ (_ :: outer);rw [List.filterMap_cons];split
  ·exact hb
  ·exact Zr _ hb
 have ne:∀ b o,X.s₀.heap.get? b=some o->b≠e:=fun b o z y=>by
  subst y;obtain ⟨o',z'⟩:=I.base.there b o z (nx b);rw [en] at z'; cases z'
 have FF:=PySem.W.funFrames_hide ff hin;have ST:(PySem.W.hideAll s2.heap (e :: frs X.stack)).StaysIn s2.heap:=fun b o z=>PySem.W.of_hideAll _ z;have EN:(PySem.W.hideAll s2.heap (e :: frs X.stack)).get? e=none:=PySem.W.hideAll_none _ Zy;have goal:∀ h',Heap.FlyingW (PySem.W.hideAll s2.heap (e :: frs X.stack)) outer e oe.cls a0 h'->s2.heap.UpToSlots h'->DictAt h' e oe.dict->CX2 P w outer H0 s0 E (.ref e) { s2 with heap:=h' }:=by
  intro h' hf hs D;subst hX;have nil:∀ b:Addr,b ∉ ([]:List Addr):=fun b z=>absurd z List.not_mem_nil;refine ⟨e,oe.cls,a0,oe.dict,H2,_,rfl,⟨os.trans I.os,bare,hf,fun b ob z=>?_,fun b o z n hb=>?_,fun b o z n hb=>?_,fun b o z n=>?_,fun b o z hb=>?_,fun b xs z=>un.tups b xs (I.base.tups b xs z),fun b o u z=>un.frzs b o u (I.base.frzs b o u z),fun b ps z=>?_⟩,D,q⟩
  ·refine (hok b ob z).stay (fun c v hc y=>hB c v y (fun m=>?_) (fun m=>?_)) (fun _ y=>y) (fun _ _ y=>y)
   ·subst m;rcases hc with rfl | hc
    ·rw [e2n] at z; cases z
    ·rw [e2n] at hc; cases hc
   ·have nn:=fr c m;rcases hc with rfl | hc
    ·rw [nn] at z; cases z
    ·rw [nn] at hc; cases hc
  ·exact hB b o (un.keep b o (I.base.keep b o z n hb (nx b)) (I.base.free b o z n (nx b)) (B2v I z hb) (nil b)) (ne b o z) (B2v I z hb)
  ·obtain ⟨sl,e1⟩:=I.base.slot b o z n hb (nx b);obtain ⟨sl2,e2⟩:=un.slot b _ e1 (I.base.free b o z n (nx b)) (frs0 b hb) (nil b);obtain ⟨_,o',ho,hn⟩:=ff.mem (frs0 b hb);rw [e2] at ho; cases ho;obtain ⟨sl3,e3⟩:=hs b _ e2 hn;exact ⟨sl3,e3⟩
  ·obtain ⟨o',e1⟩:=I.base.there b o z (nx b);exact un.free b o' e1 (I.base.free b o z n (nx b)) (nil b)
  ·obtain ⟨o',e1⟩:=I.base.there b o z (nx b);obtain ⟨o2,e2⟩:=un.there b o' e1 (nil b);exact ⟨o2,hB b o2 e2 (ne b o z) (B2v I z hb)⟩
  ·obtain ⟨m1,e1⟩:=I.base.tbls b ps z;obtain ⟨m2,e2⟩:=un.tbls b _ e1;exact ⟨m1++m2,by rw [e2,Array.append_assoc]⟩
 subst hX;exact A48 I.ok.frames rfl FF he hd ST EN fun h' hf hs D=>goal h' hf hs D
end
section
variable {prog:Program} {w:World} {M:Model} {A:Around} {E:Value->Shared->Prop} {s:Shared} {env:Env} {nm q:Str} {C N:Addr} {bs bm bmB:List Value} {hdct:Bool} {sn:List Str} {sub:List Value} {ab:Bool} {col:Option Bool} {dd:Option Addr} {k0 k1 k2 k3 k5:Option Value} {B newId initId:String}
theorem A74 {y:Sem Value} {Q:Flow->Shared->Prop} (hbase:bm.contains (.type "BaseException")=true) (hh:A.handled=none)
  (h:wpAny M A y (fun v s1=>∃ e t dx,v=.ref e/\s1.heap.get? C=some (excClassObj nm q C N bs bm hdct sn sub ab col dd k0 k1 k2 k3 k5 newId) /\
   s1.heap.get? e=some { cls:=.ref C,dict:=dx,data:=.fields #[.ref t,.none,.none,.none,.bool false,.none] }/\E (.ref e) s1) E s):wpAny M A (raiseStmt env (some y) none) Q E s:=by
 have cb:(Value.ref C :: bm).contains (.type "BaseException")=true:=by rw [List.contains_cons,hbase,Bool.or_true]
 unfold raiseStmt;refine wpAny_bind (wpAny_mono h (fun v s1 z=>?_) fun _ _ z=>z);obtain ⟨e,t,dx,rfl,hC,he,hE⟩:=z;obtain ⟨hp,g,d,tk,os⟩:=s1
 repeat (first | with_reducible refine wpAny_loadPart_at he ?_ | with_reducible refine wpAny_loadPart_at hC ?_ | (with_reducible refine wpAny_isSubtype_exc hC ?_; rw [cb]) | wp_step)
 exact wpAny_raiseNew_none hh hE
theorem A4l (F:ExcBaseFacts B newId initId bmB) {mN:Str->Option Value} {x:Str} {np cpos pos:Pos} {args:List Expr} {fI:Addr} {oI:Obj} {Q:Flow->Shared->Prop}
  (hbase:bm.contains (.type "BaseException")=true) (hh:A.handled=none) (hpl:(backTo cpos (starEach args env)).any (·.1)=false) (hi:mN "__init__"=some (.ref fI))
  (h:wpAny (model prog w) A (eval (.Name x np) env) (fun f s1=>f=.ref C/\wpAny (model prog w) A (evalArgs (.ref C) true (backTo cpos (starEach args env)) [])
   (fun a s2=>a.kw=[]/\a.pos.length<=sizeLine/\s2.heap.get? C=some (excClassObj nm q C N bs bm hdct sn sub ab col dd k0 k1 k2 k3 k5 newId)/\s2.heap.Ns N mN/\OwnTail s2.heap bmB bm/\s2.heap.get? fI=some oI/\oI.cls=.type "function" /\
    ∀ h' e,Heap.MadeExcOf s2.heap h' e (.ref C) a.pos->wpAny (model prog w) (A.under (.builtin "type.__call__" ⟨.ref C :: a.pos,[]⟩)) (call (.ref fI) (.ref e :: a.pos)) (fun r s3=>r=.none/\s3.heap.get? C=some (excClassObj nm q C N bs bm hdct sn sub ab col dd k0 k1 k2 k3 k5 newId) /\
     (∃ t dx,s3.heap.get? e=some { cls:=.ref C,dict:=dx,data:=.fields #[.ref t,.none,.none,.none,.bool false,.none] })/\E (.ref e) s3) E { s2 with heap:=h' }) E s1) E s) :
  wpAny (model prog w) A (exec (.Raise (some (.Call (.Name x np) args [] cpos)) none pos) env) Q E s:=by
 rw [arm_exec_Raise];simp only [evalOpt,Option.map];refine wpAny_bind (wpAny_standAt (A74 (C:=C) (nm:=nm) (q:=q) (N:=N) (bs:=bs) (bm:=bm) (hdct:=hdct) (sn:=sn) (sub:=sub) (ab:=ab) (col:=col) (dd:=dd) (k0:=k0) (k1:=k1) (k2:=k2) (k3:=k3) (k5:=k5) (newId:=newId) hbase hh ?_));refine wpAny_bind (wpAny_mono (wpAny_Call_ofName (wpAny_mono h (fun f s1 z=>?_) fun _ _ z=>z)) (fun v s3 z=>wpAny_bind (wpAny_standAt (wpAny_pure z))) fun _ _ z=>z);obtain ⟨rfl,z⟩:=z;unfold callWith;refine wpAny_bind (wpAny_holding (wpAny_mono z (fun a s2 y=>wpAny_bind (wpAny_standAt ?_)) fun _ _ y=>y));obtain ⟨ap,ak⟩:=a;obtain ⟨hk,hl,hC,hn,T,hf,hfc,y⟩:=y;obtain rfl:ak=[]:=hk;obtain ⟨hp,g,d,tk,os⟩:=s2;simp only [hpl];refine wpAny_bind (wpAny_keeperOf_exc hC ?_);refine wpAny_bind (C8n F T hC hn hi hf hfc hl fun h' e hm=>wpAny_mono (y h' e hm) (fun r s3 u=>⟨u.1,wpAny_bind (wpAny_holding (wpAny_point (wpAny_pure ?_)))⟩) fun _ _ u=>u);obtain ⟨_,u1,⟨t,dx,u2⟩,u3⟩:=u;exact ⟨e,t,dx,rfl,u1,u2,u3⟩
end
def A7i (K:PySem.W.Frag) (C:Addr) (nid:String) (fI:Addr):Bool:=match K.lookup C with
 | some ⟨.type "type",_,.cls cd,sl⟩=>(match cd.mro,sl.toList with
  | .ref C1 :: bm,[_,_,_,_,some (.builtin n),_]=>(C1 == C && n == nid && !cd.hasDel) && (PySem.W.tailIn K A84 bm && PySem.W.nsOkIn K cd.ns && cd.hasDict) && T8 cd.mro && PySem.W.nsIn K cd.ns "__init__" == some (some (.ref fI))
  | _,_=>false)
 | _=>false
theorem C6g {K:PySem.W.Frag} {h:Heap} {N:Addr} {m:Str->Option Value} {n:Str} {v:Value} (X:K.In h) (G:h.Ns N m) (e:PySem.W.nsIn K N n=some (some v)):m n=some v:=by
 obtain ⟨o,es,ep,ho,hd,_,hf⟩:=G;unfold PySem.W.nsIn at e;split at e
 ·rename_i c d es2 n2 sl q;have z:=X _ _ q;rw [ho] at z;cases z;cases hd;split at e
  ·rename_i en he;cases e;rw [<- hf];unfold nsFind findBy;rw [<- Array.find?_toList,he];rfl
  ·split at e <;> cases e
 ·cases e
theorem exoI {K:PySem.W.Frag} {h:Heap} {C fI:Addr} {nid:String} (X:K.In h) (q:A7i K C nid fI=true):∃ bm N nm qn bs hd sn sub ab col dd k0 k1 k2 k3 k5 mN cd,
  h.get? C=some (excClassObj nm qn C N bs bm hd sn sub ab col dd k0 k1 k2 k3 k5 nid)/\h.Ns N mN/\mN "__init__"=some (.ref fI)/\OwnTail h A84 bm/\PySem.W.clsIn K C=some cd/\cd.hasDict=true/\T8 cd.mro=true:=by
 unfold A7i at q;split at q
 ·rename_i dd cd sl ho;split at q
  ·rename_i C1 bm k0 k1 k2 k3 n k5 e1 e2;simp only [Bool.and_eq_true,beq_iff_eq,Bool.not_eq_true'] at q;obtain ⟨⟨⟨⟨⟨q1,q2⟩,q3⟩,⟨q4,q5⟩,q7⟩,q8⟩,q6⟩:=q;subst q1 q2;have hcl:PySem.W.clsIn K C1=some cd:=by unfold PySem.W.clsIn; rw [ho]
   have ns:=PySem.Heap.Ns.of_isNs (PySem.W.isNs_of_in X q5);have mi:h.nsMap cd.ns "__init__"=some (.ref fI):=C6g X ns q6;have e3:sl=#[k0,k1,k2,k3,some (.builtin n),k5]:=by cases sl; simp only at e2; rw [e2]
   obtain ⟨nm,bs,mro,nsA,qn,hd,sn,sub,ab,col,del⟩:=cd;simp only at e1 q3 ns mi;subst e3 e1 q3;exact ⟨bm,nsA,nm,qn,bs,hd,sn,sub,ab,col,dd,k0,k1,k2,k3,k5,_,_,X _ _ ho,ns,mi,PySem.W.tail_of_in X q4,hcl,q7,q8⟩
  ·cases q
 ·cases q
end L2
namespace L2
open PySem PySem.Spec PyProof.Rows
def rS1 (g:Str->Str->V):V->List V->Hp->VK->Prop:=fun x vs H Q=>∃ a b,x=.str a/\vs=[.str b]/\Q (g a b) H
def B7z:V->List V->Hp->VK->Prop:=fun x vs H Q=>∃ a n,x=.str a/\vs=[.int n]/\PadOk n=true/\Q (.str (Txt.zfill a n)) H
def C33:V->List V->Hp->VK->Prop:=fun x vs H Q=>∃ a b,x=.str a/\vs=[.str b]/\(b.length == 0)=false/\a.length<=100000/\∀ p,H p=none->Q (.ref p) (upd H p (.tup [.str (Txt.partition a b).1,.str (Txt.partition a b).2.1,.str (Txt.partition a b).2.2]))
def rSlS:V->Option Int->Option Int->Hp->VK->Prop:=fun x lo hi H Q=>∃ a,x=.str a/\a.length<=100000/\Q (.str (Txt.slice a lo hi)) H
def C35:List V->Hp->VK->Prop:=fun xs H Q=>∃ z n,xs=[.str z]/\PySem.intText? z=some n/\z.length<=640/\Q (.int n) H
theorem M7:100000<=sizeLine:=by rw [sizeLine_eq]; decide
section
variable {X:Cx}
theorem A8j:MtR X "str.startswith" (rS1 fun a b=>.bl (Txt.startswith a b)):=by
 intro pins s σ H x vs v us Q I rx rv h;obtain ⟨a,b,rfl,rfl,q⟩:=h;obtain ⟨t,rfl⟩:=rx;obtain ⟨u,rfl,ru⟩:=rv.one;obtain ⟨t2,rfl⟩:=ru;exact SC.startswith ⟨.bl _,H,I,rfl,q⟩
theorem B2x:MtR X "str.zfill" B7z:=by
 intro pins s σ H x vs v us Q I rx rv h;obtain ⟨a,n,rfl,rfl,hp,q⟩:=h;obtain ⟨t,rfl⟩:=rx;obtain ⟨u,rfl,ru⟩:=rv.one;obtain ⟨t2,rfl⟩:=ru;exact SC.zfill hp fun t' k=>⟨.str _,H,I.tok k,⟨t',rfl⟩,q⟩
theorem A1k:MtR X "str.partition" C33:=by
 intro pins s σ H x vs v us Q I rx rv h;obtain ⟨a,b,rfl,rfl,hb,hl,q⟩:=h;obtain ⟨t,rfl⟩:=rx;obtain ⟨u,rfl,ru⟩:=rv.one;obtain ⟨t2,rfl⟩:=ru;refine call_meets F.slot_str_partition (typeIs_str _ _ _) F.entry_str_partition (F.args_str_partition_2 _ _) (meets_str_partition a b t t2 hb (Zx hl M7)) ?_;have q':=q _ (I.hok.fresh (Zv _));have go:∀ (x1 x2 x3:Str) (ta tb tc:Tok) (k:Nat),Q (.ref s.heap.objs.size) (upd H s.heap.objs.size (.tup [.str x1,.str x2,.str x3])) ->
   EP X pins σ Q (.ref s.heap.objs.size) { s with heap:=s.heap.push { cls:=.type "tuple",data:=.seq [.str x1 ta,.str x2 tb,.str x3 tc].toArray },toks:=k }:=fun x1 x2 x3 ta tb tc k q =>
  ⟨.ref s.heap.objs.size,_,I.laid (t':=k) (o:=.tup [.str x1,.str x2,.str x3]) (fun _ _ q=>Heap.get?_push_of_some _ q) (Zv _) ⟨by show 3<=sizeLine; rw [sizeLine_eq]; decide,[.str x1 ta,.str x2 tb,.str x3 tc],.cons ⟨_,rfl⟩ (.cons ⟨_,rfl⟩ (.cons ⟨_,rfl⟩ .nil)),IsTup.new _ _⟩,rfl,q⟩
 unfold Txt.partition at q';revert q';cases Builtin.Str.occurrences a b 0 a.length 1 with
 | nil=>intro q'; exact go _ _ _ _ _ _ _ q'
 | cons i r=>intro q'; exact go _ _ _ _ _ _ _ q'
theorem B0j {vl:Value} {lo:Option Int} (p:IsPart vl lo):∃ l:Option (Int × Tok),vl=partValue l/\l.map (·.1)=lo:=by
 cases p with
 | none=>exact ⟨none,rfl,rfl⟩
 | int i t=>exact ⟨some (i,t),rfl,rfl⟩
theorem S2:SlR X rSlS:=by
 intro pins s σ H x v vl vu lo hi sl Q I rx hs pl pu h;obtain ⟨a,rfl,hl,q⟩:=h;obtain ⟨t,rfl⟩:=rx;obtain ⟨l,rfl,el⟩:=B0j pl;obtain ⟨u,rfl,eu⟩:=B0j pu;subst el eu;refine ⟨"str",_,F.slot_str_getitem.lookup,typeIs_str _ _ _,wpAny_getItem_str_slice (l:=l) (u:=u) (st:=none) hs rfl (post_val_or_str ⟨Zx (Txt.slice_le a _ _) (Zx hl M7),fun t' k=>?_⟩)⟩;exact ⟨.str _,H,I.tok k,⟨t',rfl⟩,q⟩
theorem A3x:CallR X (.type "int") C35:=by
 intro pins s σ H xs us Q I r h;obtain ⟨z,n,rfl,hn,hl,q⟩:=h;obtain ⟨u,rfl,rx⟩:=A0q r;obtain ⟨t,rfl⟩:=rx;exact PySem.W.KIN.call_text hn hl ⟨.int n,H,I.tok _,⟨_,rfl⟩,q⟩
def tFmt (te:TE):TE:=fun σ H Q=>te σ H fun x H1=>(∃ z,x=.str z/\z.length<=100000/\Q (.str z) H1)\/∃ i,x=.int i/\i.natAbs.log2 < 1920/\Q (.str (toString i)) H1
theorem N8 {e:Expr} {te:TE} {pos:Pos} (h:QE X e te):QE X (.FormattedValue e (-1) none pos) (tFmt te):=⟨by
 intro pins s σ H Q I q;refine wpAny_FormattedValue_plain (thn (h.out pins s σ H _ I q) fun v s1 ⟨x,H1,I1,r1,q1⟩=>?_);rcases q1 with ⟨z,rfl,hl,q1⟩ | ⟨i,rfl,hl,q1⟩
 ·obtain ⟨t,rfl⟩:=r1;exact wpAny_formatField_str ⟨.str z,H1,I1,⟨_,rfl⟩,q1⟩ ⟨.str z,H1,I1.tok _,⟨_,rfl⟩,q1⟩ (Zx hl M7)
 ·obtain ⟨t,rfl⟩:=r1;exact wpAny_formatField_int hl ⟨.str _,H1,I1.tok _,⟨_,rfl⟩,q1⟩⟩
inductive FP (X:Cx):List Expr->List TE->Prop
 | nil:FP X [] []
 | cons {e:Expr} {es:List Expr} {te:TE} {ts:List TE}:QE X e te->FP X es ts->FP X (e :: es) (te :: ts)
def tJs:List TE->Str->TE
 | [],acc,_,H,Q=>Q (.str acc) H
 | te :: r,acc,σ,H,Q=>te σ H fun x H1=>∃ y,x=.str y/\acc.length + y.length<=100000/\tJs r (acc++y) σ H1 Q
theorem A4h (a b:Str):(a++b).length=a.length + b.length:=Str.length_append a b
theorem A69 {pins:List (Addr × Obj)} {σ:St} {Q:VK}:∀ {es:List Expr} {ts:List TE},FP X es ts->∀ {acc:Str} {H:Hp} {s:Shared},Inv X pins σ H s->acc.length<=100000->tJs ts acc σ H Q ->
  Joins (model X.prog X.w) X.A X.xe (evalEach es X.env) acc (fun out s₁=>out.length<=sizeLine/\EP X pins σ Q (.str out s₁.toks) { s₁ with toks:=s₁.toks + 1 }) s
 | _,_,.nil,acc,H,s,I,hl,q=>⟨Zx hl M7,.str acc,H,I.tok _,⟨_,rfl⟩,q⟩
 | _,_,.cons h r,acc,H,s,I,hl,q=>by
  show wpAny _ _ _ _ _ _;refine thn (h.out pins s σ H _ I q) fun v s1 ⟨x,H1,I1,r1,y,ex,hy,q1⟩=>?_;subst ex;obtain ⟨t,rfl⟩:=r1;have e:=A4h acc y;exact ⟨y,t,rfl,by rw [e]; exact Zx hy M7,A69 r I1 (by rw [e]; exact hy) q1⟩
theorem V3 {e1 e2:Expr} {es:List Expr} {ts:List TE} {pos:Pos} (h:FP X (e1 :: e2 :: es) ts):QE X (.JoinedStr (e1 :: e2 :: es) pos) (tJs ts Str.empty) :=
 ⟨fun _ _ _ _ _ I q=>wpAny_JoinedStr (A69 h I (Nat.zero_le _) q)⟩
theorem C5u:OpR X (compareOp .In) (rS fun i j=>.bl (!(Builtin.Str.occurrences j i 0 j.length 1).isEmpty)):=B1u
end
def A53:List V->Hp->VK->Prop:=fun xs H Q=>∃ i j,xs=[.int i,.int j]/\0 < j/\My.Sm 8000 j/\∀ p,H p=none->Q (.ref p) (upd H p (.tup [.int (i / j),.int (i % j)]))
def C31:List V->Hp->VK->Prop:=fun xs H Q=>∃ i,xs=[.int i]/\i.natAbs.log2 < 1920/\Q (.str (toString i)) H
section
variable {X:Cx}
theorem L8:CallR X (.type "str") C31:=A3t
theorem A30:CallR X (.builtin "divmod") A53:=by
 intro pins s σ H xs us Q I r h;obtain ⟨i,j,rfl,h1,h2,q⟩:=h;obtain ⟨u,w',rfl,⟨t,rfl⟩,⟨t',rfl⟩⟩:=C3i r;refine divmod_int (by omega) ?_ (.inl (PyProof.noPylong_of_log2 (Nat.lt_of_lt_of_le (h2.log (by decide)) (by decide))));rw [Int.fdiv_eq_ediv_of_nonneg i (by omega),Int.fmod_eq_emod_of_nonneg i (by omega)];have hn:H s.heap.objs.size=none:=I.hok.fresh (Zv _);refine ⟨.ref s.heap.objs.size,_,?_,rfl,q _ hn⟩;refine I.laid (fun b o e=>Heap.get?_push_of_some _ e) (Zv _) ⟨by simp only [List.length_cons,List.length_nil]; rw [sizeLine_eq]; decide,[.int (i / j) s.toks,.int (i % j) (s.toks + 1)],.cons ⟨_,rfl⟩ (.cons ⟨_,rfl⟩ .nil),?_⟩;exact ⟨_,Heap.get?_push_size s.heap rfl,rfl,0,rfl⟩
end
end L2
namespace Pu
open PySem L2 My Prf
def pS1 (gd:Str->Str->PyData) (po pa:PDt) (env:PEnv) (Q:SV->PEnv->Prop):Prop:=po env fun x e=>asS x fun a=>pa e fun y e2=>asS y fun b=>Q (.d (gd a b)) e2
instance re_s1 {K:Frag} {to ta:TE} {po pa:PDt} {g:Str->Str->V} {gd:Str->Str->PyData} [sg:SGS g gd] [ho:RW K to po] [ha:RW K ta pa]:RE K (tBM K "str" (rS1 g) to (G4 ta tNil)) (pS1 gd po pa) where
 ok:=by
  rintro c w env σ Qp Q rfl E p k;refine ho.ok c w env σ _ _ rfl E p fun v x e1 w1 E1 l1 d1 q1=>?_;unfold asS at q1;split at q1
  ·have ev:=d1.strE;subst ev;refine ⟨rfl,ha.ok c w1 e1 σ _ _ rfl E1 q1 fun u y e2 w2 E2 l2 d2 q2=>?_⟩;split at q2
   ·exact ⟨_,_,rfl,by rw [d2.strE],k _ _ e2 w2 ((Res.data E2 (sg.ok _ _ _ _)).pre (l1.trans l2)) q2⟩
   ·exact q2.elim
  ·exact q1.elim
def B0o (po pa:PDt) (env:PEnv) (Q:SV->PEnv->Prop):Prop:=po env fun x e=>asS x fun a=>pa e fun y e2=>asI y fun n=>PadOk n=true/\Q (.d (.str (Txt.zfill a n))) e2
instance re_zfill {K:Frag} {to ta:TE} {po pa:PDt} [ho:RW K to po] [ha:RW K ta pa]:RE K (tBM K "str" B7z to (G4 ta tNil)) (B0o po pa) where
 ok:=by
  rintro c w env σ Qp Q rfl E p k;refine ho.ok c w env σ _ _ rfl E p fun v x e1 w1 E1 l1 d1 q1=>?_;unfold asS at q1;split at q1
  ·have ev:=d1.strE;subst ev;refine ⟨rfl,ha.ok c w1 e1 σ _ _ rfl E1 q1 fun u y e2 w2 E2 l2 d2 q2=>?_⟩;unfold asI at q2;split at q2
   ·exact ⟨_,_,rfl,by rw [d2.intE],q2.1,k _ _ e2 w2 ((Res.data E2 (.str _)).pre (l1.trans l2)) q2.2⟩
   ·exact q2.elim
  ·exact q1.elim
def B0x (po pa:PDt) (env:PEnv) (Q:SV->PEnv->Prop):Prop:=po env fun x e=>asS x fun a=>pa e fun y e2=>asS y fun b=>(b.length == 0)=false/\a.length<=100000/\Q (.d (.tuple [.str (Txt.partition a b).1,.str (Txt.partition a b).2.1,.str (Txt.partition a b).2.2])) e2
instance re_partT {K:Frag} {to ta:TE} {po pa:PDt} [ho:RW K to po] [ha:RW K ta pa]:RE K (tBM K "str" C33 to (G4 ta tNil)) (B0x po pa) where
 ok:=by
  rintro c w env σ Qp Q rfl E p k;refine ho.ok c w env σ _ _ rfl E p fun v x e1 w1 E1 l1 d1 q1=>?_;unfold asS at q1;split at q1
  ·have ev:=d1.strE;subst ev;refine ⟨rfl,ha.ok c w1 e1 σ _ _ rfl E1 q1 fun u y e2 w2 E2 l2 d2 q2=>?_⟩;split at q2
   ·exact ⟨_,_,rfl,by rw [d2.strE],q2.1,q2.2.1,fun p hp=>k _ _ e2 _ ((Res.tup E2 hp (.cons (.str _) (.cons (.str _) (.cons (.str _) .nil)))).pre (l1.trans l2)) q2.2.2⟩
   ·exact q2.elim
  ·exact q1.elim
def pSlS (pa:PDt) (pl ph:PEnv->(Option Int->PEnv->Prop)->Prop) (env:PEnv) (Q:SV->PEnv->Prop):Prop:=pa env fun x e=>asS x fun a=>pl e fun lo e1=>ph e1 fun hi e2=>a.length<=100000/\Q (.d (.str (Txt.slice a lo hi))) e2
instance re_slS {K:Frag} {te:TE} {tl th:TO} {pa:PDt} {pl ph:PEnv->(Option Int->PEnv->Prop)->Prop} [ha:RW K te pa] [hl:RP K tl pl] [hh:RP K th ph]:RE K (tSl rSlS te tl th) (pSlS pa pl ph) where
 ok:=by
  rintro c w env σ Qp Q rfl E p k;refine ha.ok c w env σ _ _ rfl E p fun x dx e1 w1 E1 l1 v1 q1=>?_;unfold asS at q1;split at q1
  ·refine hl.ok c w1 e1 σ _ _ rfl E1 q1 fun lo e2 w2 E2 l2 q2=>?_;refine hh.ok c w2 e2 σ _ _ rfl E2 q2 fun hi e3 w3 E3 l3 q3=>?_;exact ⟨_,v1.strE,q3.1,k _ _ e3 w3 ((Res.data E3 (.str _)).pre (l1.trans (l2.trans l3))) q3.2⟩
  ·exact q1.elim
def C2f (pa:PDt) (env:PEnv) (Q:SV->PEnv->Prop):Prop:=pa env fun x e=>asS x fun z=>∃ n,PySem.intText? z=some n/\z.length<=640/\Q (.d (.int n)) e
instance re_intT {K:Frag} {te:TE} {pa:PDt} [ha:RW K te pa]:RE K (tCB C35 (G4 te tNil)) (C2f pa) where
 ok:=by
  rintro c w env σ Qp Q rfl E p k;refine ha.ok c w env σ _ _ rfl E p fun v x e1 w1 E1 l1 d1 q1=>?_;unfold asS at q1;split at q1
  ·obtain ⟨n,hn,hl,q⟩:=q1;exact ⟨_,n,by rw [d1.strE],hn,hl,k _ _ e1 w1 ((Res.data E1 (.int _)).pre l1) q⟩
  ·exact q1.elim
def C14 (pa:PDt) (env:PEnv) (Q:SV->PEnv->Prop):Prop:=pa env fun x e=>asI x fun i=>i.natAbs.log2 < 1920/\Q (.d (.str (toString i))) e
instance re_strI {K:Frag} {te:TE} {pa:PDt} [ha:RW K te pa]:RE K (tCB C31 (G4 te tNil)) (C14 pa) where
 ok:=by
  rintro c w env σ Qp Q rfl E p k;refine ha.ok c w env σ _ _ rfl E p fun v x e1 w1 E1 l1 d1 q1=>?_;unfold asI at q1;split at q1
  ·exact ⟨_,by rw [d1.intE],q1.1,k _ _ e1 w1 ((Res.data E1 (.str _)).pre l1) q1.2⟩
  ·exact q1.elim
def A4y (pa pb:PDt) (env:PEnv) (Q:SV->PEnv->Prop):Prop:=pa env fun x e=>asI x fun i=>pb e fun y e2=>asI y fun j=>0 < j/\My.Sm 8000 j/\Q (.d (.tuple [.int (i / j),.int (i % j)])) e2
instance re_divmod {K:Frag} {ta tb:TE} {pa pb:PDt} [ha:RW K ta pa] [hb:RW K tb pb]:RE K (tCB A53 (G4 ta (G4 tb tNil))) (A4y pa pb) where
 ok:=by
  rintro c w env σ Qp Q rfl E p k;refine ha.ok c w env σ _ _ rfl E p fun v x e1 w1 E1 l1 d1 q1=>?_;unfold asI at q1;split at q1
  ·refine hb.ok c w1 e1 σ _ _ rfl E1 q1 fun u y e2 w2 E2 l2 d2 q2=>?_;split at q2
   ·exact ⟨_,_,by rw [d1.intE,d2.intE],q2.1,q2.2.1,fun p hp=>k _ _ e2 _ ((Res.tup E2 hp (.cons (.int _) (.cons (.int _) .nil))).pre (l1.trans l2)) q2.2.2⟩
   ·exact q2.elim
  ·exact q1.elim
def asF (x:PyData) (k:Str->Prop):Prop:=match x with
 | .str z=>z.length<=100000/\k z
 | .int i=>i.natAbs.log2 < 1920/\k (toString i)
 | _=>False
theorem C7o {z:Str} {k:Str->Prop}:asF (.str z) k=(z.length<=100000/\k z):=rfl
theorem C7p {i:Int} {k:Str->Prop}:asF (.int i) k=(i.natAbs.log2 < 1920/\k (toString i)):=rfl
def pFmt (pa:PDt) (env:PEnv) (Q:PyData->PEnv->Prop):Prop:=pa env fun x e=>asF x fun z=>Q (.str z) e
instance (priority:=high) rw_fmt {K:Frag} {te:TE} {pa:PDt} [ha:RW K te pa]:RW K (tFmt te) (pFmt pa) where
 ok:=by
  rintro c w env σ Qp Q rfl E p k;refine ha.ok c w env σ _ _ rfl E p fun v x e1 w1 E1 l1 d1 q1=>?_;unfold asF at q1;split at q1
  ·exact .inl ⟨_,d1.strE,q1.1,k _ _ e1 w1 E1 l1 (.inl (.str _)) q1.2⟩
  ·exact .inr ⟨_,d1.intE,q1.1,k _ _ e1 w1 E1 l1 (.inl (.str _)) q1.2⟩
  ·exact q1.elim
class RJs (K:Frag) (ts:List TE) (pj:outParam (Str->PEnv->(Str->PEnv->Prop)->Prop)):Prop where
 ok:∀ (acc:Str) (c:Ct) (w:Wd) (env:PEnv) (σ:St) (Qp:Str->PEnv->Prop) (Q:V->Hpp->Prop),c.K=K->EnvOk c w env σ->pj acc env Qp->(∀ z env' w',EnvOk c w' env' σ->Lw w w'->Qp z env'->Q (.str z) w'.H)->tJs ts acc σ w.H Q
def C2d (acc:Str) (env:PEnv) (Q:Str->PEnv->Prop):Prop:=Q acc env
def B09 (pa:PDt) (pr:Str->PEnv->(Str->PEnv->Prop)->Prop) (acc:Str) (env:PEnv) (Q:Str->PEnv->Prop):Prop:=pa env fun x e=>asS x fun y=>acc.length + y.length<=100000/\pr (acc++y) e Q
instance rjs_nil {K:Frag}:RJs K [] C2d:=⟨fun acc c w env σ Qp Q _ E p k=>k acc env w E (Lw.refl w) p⟩
instance rjs_cons {K:Frag} {te:TE} {ts:List TE} {pa:PDt} {pr:Str->PEnv->(Str->PEnv->Prop)->Prop} [ha:RW K te pa] [hr:RJs K ts pr]:RJs K (te :: ts) (B09 pa pr) where
 ok:=by
  rintro acc c w env σ Qp Q rfl E p k;refine ha.ok c w env σ _ _ rfl E p fun v x e1 w1 E1 l1 d1 q1=>?_;unfold asS at q1;split at q1
  ·rename_i y;exact ⟨y,d1.strE,q1.1,hr.ok (acc++y) c w1 e1 σ _ _ rfl E1 q1.2 fun z e2 w2 E2 l2 q2=>k z e2 w2 E2 (l1.trans l2) q2⟩
  ·exact q1.elim
def pFs (pj:Str->PEnv->(Str->PEnv->Prop)->Prop) (env:PEnv) (Q:SV->PEnv->Prop):Prop:=pj Str.empty env fun z e=>Q (.d (.str z)) e
instance re_fs {K:Frag} {ts:List TE} {pj:Str->PEnv->(Str->PEnv->Prop)->Prop} [h:RJs K ts pj]:RE K (tJs ts Str.empty) (pFs pj) where
 ok:=by
  rintro c w env σ Qp Q rfl E p k;exact h.ok _ c w env σ _ _ rfl E p fun z e1 w1 E1 l1 q=>k _ _ e1 w1 ((Res.data E1 (.str _)).pre l1) q
end Pu
namespace L2
open PySem PySem.Spec PyProof.Rows
def C0u (te:TE) (R:V->Hp->Prop):TS:=fun _ σ H=>G4 te tNil σ H fun vs H1=>∃ v,vs=[v]/\R v H1
structure InitX (K:PySem.W.Frag) (C fI:Addr) (fld y qual:Str) (st:Stmt) (fd:FuncData) (N:List Str):Prop where
 F:Fun K "__init__" qual st fI fd
 fc:(K.lookup fI).map (·.cls)=some (.type "function")
 ex:A7i K C "ValueError.__new__" fI=true
 sa:PySem.W.findIn K (.ref C) "__setattr__"=some (some (.builtin "object.__setattr__"))
 nf:PySem.W.findIn K (.ref C) fld=some none
 sc:FnScope N ["self",y] (A6 st)
 b:Binds K fd ["self",y] []
 n0:N[0]?=some ("self":Str)
 n1:N[1]?=some y
 v0:Vis (A6 st) "self"
 v1:Vis (A6 st) y
 d1:(y == ("__debug__":Str))=false
 d2:(y == ("__classdict__":Str))=false
 body:∃ p1 p2 p3 p4,G0 st=[.Assign [.Attribute (.Name "self" p1) fld p2] (.Name y p3) p4]/\∀ env:Env,swapsWith (.Name y p3) (some (.Attribute (.Name "self" p1) fld p2)) p4.line env=pure false
section
variable {X:Cx} {E:XK} {x fld y qual:Str} {st:Stmt} {C fI:Addr} {fd:FuncData} {N:List Str} {pos np cpos:Pos} {e:Expr} {te:TE}
theorem A97 {R:V->Hp->Prop} (hR:∀ v H1,R v H1->∀ d,H1 d=none->E (.ref C) (some d) (upd H1 d (.xd [(fld,v)]))) (J:InitX X.K C fI fld y qual st fd N) (hT:B45 X E) (hc:X.calm=true) (hr:Room 2 X.A) (hg:Gl X x) (hm:X.mg x=some (.ref C)) (he:PE X e te)
  (hd:(x == ("__debug__":Str))=false:=by decide) (hpl:(backTo cpos (starEach [e] X.env)).any (·.1)=false:=by rfl) (hse:starEach [e] X.env=(false,eval e X.env) :: starEach [] X.env:=by rfl) :
  PS X (.Raise (some (.Call (.Name x np) [e] [] cpos)) none pos) (C0u te R):=by
 intro pins s σ H D I h;obtain ⟨bm,Nc,nm,qn,bs,hd',sn,sub,ab,col,dd,k0,k1,k2,k3,k5,mN,cd,h1,h2,h3,h4,h5,h6,h7⟩:=exoI I.ok.mod.kin J.ex;obtain ⟨oc,od,kV,doc,pm,an,cdv,ct,osl,hfd,lk,hcd⟩:=J.F.ex;obtain ⟨p1,p2,p3,p4,hbody,hsw⟩:=J.body;rw [hbody] at hfd;have hB:Binds X.K fd ["self",y] []:=J.b;subst hfd;have hbase:bm.contains (.type "BaseException")=true:=h4.hasType (by rfl);refine A4l (nm:=nm) (q:=qn) (N:=Nc) (bs:=bs) (hdct:=hd') (sn:=sn) (sub:=sub) (ab:=ab) (col:=col) (dd:=dd) (k0:=k0) (k1:=k1) (k2:=k2) (k3:=k3) (k5:=k5) (oI:=⟨oc,od,.func (PySem.W.fnOf "__init__" qual (J2 st) [.Assign [.Attribute (.Name "self" p1) fld p2] (.Name y p3) p4] (A6 st) .none kV doc pm an cdv ct),osl⟩) F.excBase_ValueError hbase (I.ok.hd hc) hpl h3 (Q9 I hg hm ⟨rfl,?_⟩ hd);have P0:=(pa_cons he pa_nil hse:PA X [e] _) cpos pins s σ H (fun vs H1=>∃ v,vs=[v]/\R v H1) I h;obtain ⟨tt,rr,hbk⟩:∃ t r,backTo cpos (starEach [e] X.env)=(false,t) :: r:=by rw [hse]; exact ⟨_,_,rfl⟩
 rw [hbk] at P0 ⊢;refine Calls.evalArgs_plain (thn P0 fun us s2 hA=>?_);obtain ⟨vs,H1,I1,r,v,rfl,q⟩:=hA;obtain ⟨u,rfl,ru⟩:=A0q r;have fcl:oc=.type "function":=by
  have:=J.fc;rw [lk] at this;exact Zj this
 refine ⟨rfl,by show 1<=sizeLine; rw [sizeLine_eq]; decide,I1.bk _ _ h1,h2.keeps I1.bk,h4.keeps I1.bk,I1.kIn _ _ lk,fcl,fun h' e made=>?_⟩;obtain ⟨kp,en,t,he',_,_⟩:=made;have I2:Inv X pins σ H1 { s2 with heap:=h' }:=I1.kept (t':=s2.toks) kp;have e2n:H1 e=none:=by
  cases z:H1 e with
  | none=>rfl
  | some o =>
   obtain ⟨ob,zz⟩:=B11 (I1.hok e o z);rw [en] at zz; cases zz
 have enf:e ∉ frs X.stack:=fun z=>by
  obtain ⟨_,o',ho,_⟩:=I1.stack.mem z;rw [en] at ho; cases ho
 refine wpAny_call (C8l (v:=v) (x:=y) (H:=H1) (outer:=X.stack) lk hcd J.sc J.n0 J.n1 J.v0 J.v1 (hr.make C [u] []) (I2.env0.make C [u] []) J.d1 J.d2 (hB _ [.ref e,u] I2.kIn rfl) ru he' e2n enf h5 h6 h7 J.sa J.nf hsw fun h2' d tk g' dr u2 ru2 dn dne he2 ns un hok bare=>?_);have dn1:s2.heap.get? d=none:=by
  cases z:s2.heap.get? d with
  | none=>rfl
  | some o=>have:=kp d o z; rw [show h'.get? d=none from dn] at this; cases this
 have Hd:H1 d=none:=by
  cases z:H1 d with
  | none=>rfl
  | some o =>
   obtain ⟨ob,zz⟩:=B11 (I1.hok d o z);rw [dn1] at zz; cases zz
 have ub:∀ b,b≠d->upd H1 d (.xd [(fld,v)]) b=H1 b:=fun b z=>B7 z;have nd:∀ b o,s2.heap.get? b=some o->b≠d:=fun b o z y=>by rw [y,dn1] at z; cases z
 have ne:∀ b o,s2.heap.get? b=some o->b ∉ [e]:=fun b o z y=>by
  rw [Zn y,en] at z; cases z
 have un2:Un (frs X.stack) [] H1 (upd H1 d (.xd [(fld,v)])) s2.heap h2':={
  keep:=fun b o z n hb _=>un.keep b o (kp b o z) n hb (ne b o z)
  slot:=fun b o z n hb _=>un.slot b o (kp b o z) n hb (ne b o z)
  free:=fun b o z n _=>(ub b (nd b o z)).trans n
  there:=fun b o z _=>un.there b o (kp b o z) (ne b o z)
  tups:=fun b xs z=>(ub b fun y=>by rw [y,Hd] at z; cases z).trans z
  frzs:=fun b o u z=>(ub b fun y=>by rw [y,Hd] at z; cases z).trans z
  tbls:=fun b ps z=>⟨#[],by rw [Array.append_empty]; exact (ub b fun y=>by rw [y,Hd] at z; cases z).trans z⟩ }
 have hok2:HOk X.prog X.w (upd H1 d (.xd [(fld,v)])) h2':=fun b ob z=>by
  by_cases y:b=d
  ·subst y;rw [B9] at z; cases z;refine ⟨_,ns,fun f=>?_⟩;by_cases ef:f=fld
   ·subst ef;rw [if_pos rfl];have:List.lookup f [(f,v)]=some v:=by simp [List.lookup]
    rw [this]; exact ru2
   ·rw [if_neg ef];have:List.lookup f [(fld,v)]=none:=by
     have z:(f == fld)=false:=beq_eq_false_iff_ne.mpr ef;simp [List.lookup,z]
    rw [this]; exact True.intro
  ·rw [ub b y] at z;exact (hok b ob z).stay (fun _ _ _ z=>z) (fun c z=>(ub c fun y=>by rw [y,Hd] at z; cases z).trans z) fun c xs z=>(ub c fun y=>by rw [y,Hd] at z; cases z).trans z
 have I3:Inv X pins σ (upd H1 d (.xd [(fld,v)])) ⟨h2',g',dr,tk,s2.os⟩:=I1.call' (ch:=[]) rfl un2 hok2 bare fun b z=>absurd z List.not_mem_nil;refine ⟨rfl,I3.bk _ _ h1,⟨t,some d,he2⟩,?_⟩;exact hT pins σ H1 _ s2 ⟨h2',g',dr,tk,s2.os⟩ e _ _ I1 rfl bare en ((ub e fun z=>dne z.symm).trans e2n) he2 rfl un2 I3.stack I3.stkFree hok2 (hR v H1 q d Hd)
end
abbrev TH:=Value->Option Addr->Ends->St->Hp->Prop
structure QH (X:Cx) (hs:List ExceptHandler) (hx:TH):Prop where
 out:∀ (pins:List (Addr × Obj)) (s0 s:Shared) (σ:St) (H H':Hp) (D:Ends) (a:Addr) (cls a0:Value) (dx:Option Addr) (B:Heap),Inv X pins σ H s0->Fly X.prog X.w X.stack H s0 s a cls a0 H' B->DictAt s.heap a dx->hx cls dx D σ H' ->
  wpAny (model X.prog X.w) X.A (handleBy (.ref a) X.env hs) (SP X pins D) X.xe s
def C62 (C:Addr) (i:Nat) (tsu:Addr->Option Addr->TS):TH:=fun cls dx D σ H=>cls=.ref C/\∀ a,i < σ.length->tsu a dx { nx:=fun σ' H'=>D.nx (σ'.set i none) H',rt:=D.rt } (σ.set i (some (.ref a))) H
def C0t (sp:Sp) (t:TA) (hx:TH):TS:=fun D σ H=>t σ H fun vs H1=>sp (vs++[]) H1 (fun _ H2=>D.nx σ H2) fun cls dx H2=>hx cls dx D σ H2
section
variable {X:Cx} {hs:List ExceptHandler}
variable {C CH:Addr} {xh n:Str} {pos pos2:Pos} {b0:Stmt} {suite:List Stmt} {rest:List ExceptHandler} {nm:Option Str} {bd:List Stmt}
theorem C1b {i:Nat} {tsu:Addr->Option Addr->TS} (hgh:Gl X xh) (hmh:X.mg xh=some (.ref CH)) (hx:PySem.W.exmOne X.K (.ref C) (.ref CH)=some true) (hN:X.N.Nodup) (hi:X.N[i]?=some n) (hl:X.env.scope.names.lookup n=some .local)
  (hsu:∀ a oe,oe.cls=.ref C->PySem.W.notCls oe=true->QSs (X.held a oe) (b0 :: suite) (tsu a oe.dict)) (hdb2:(xh == ("__debug__":Str))=false:=by decide) :
  QH X (.ExceptHandler (some (.Name xh pos)) (some n) (b0 :: suite) pos2 :: rest) (C62 C i tsu):=⟨by
 intro pins s0 s σ H H' D a cls a0 dx B I F d ⟨ec,q⟩;subst ec;obtain ⟨oe,e1,e2,IH⟩:=F.hold I;refine wpAny_handleBy_cons (codeAny_handlers_test ?_) (fun z=>by cases z);refine Q9 (X:=X.held a oe) IH hgh hmh ?_ hdb2;refine (PySem.W.exm_one IH.kIn (ExAt.ty ⟨oe,e1,e2⟩) hx).at ?_;show codeAny _ _ _ _ _;refine codeAny_handlers_suite_as ?_;have z:=fun E=>(still_setFlight.any (M:=model X.prog X.w) (A:=X.A.mark (some (.ref a))) (Q:=fun _ s'=>∃ h',s'={ s with heap:=h' }/\Heap.FlyingW B X.stack a (.ref C) a0 h'/\∀ b o,s.heap.get? b=some o->(∀ vs,o.data≠.fields vs)->h'.get? b=some o) (E:=E)
  (wpAny_setFlight_noneW F.fly.1 F.fly.2.2.1 F.fly.2.2.2.at fun h3 k1 k2 k3 k4=>⟨h3,rfl,⟨k1,F.fly.2.1,k2,k3⟩,k4⟩))
 refine wpAny_mono (z _) (fun _ s' qq=>?_) fun _ _ z=>z.1;obtain ⟨⟨h3,rfl,kf,k4⟩,kd⟩:=qq;have F3:Fly X.prog X.w X.stack H s0 { s with heap:=h3 } a (.ref C) a0 H' B:=by
  have F0:Fly X.prog X.w X.stack H s0 s a (.ref C) a0 H' B:=F;exact F0.step (h':=h3) kf fun b o e n=>⟨o.slots,k4 b o e n⟩
 have D3:DictAt h3 a dx:=d.kept kd;obtain ⟨oe3,e31,e32,IH3⟩:=F3.hold I;obtain ⟨oe4,vs4,f1,_,f3,_⟩:=F3.fly.first;have:oe4=oe3:=by rw [e31] at f1; exact (Zj f1).symm
 subst this;have nc:PySem.W.notCls oe4=true:=by unfold PySem.W.notCls; rw [f3]
 obtain ⟨oe5,g1,g2⟩:=D3;have:oe5=oe4:=by rw [show h3.get? a=some oe4 from e31] at g1; exact (Zj g1).symm
 subst this;subst g2;refine P2 (X:=X.held a oe5) IH3 hN hi (.inl hl) (show RelV (.ref a) (.ref a) from rfl) (fun s4 I4=>?_) (.inr hl);refine wpAny_mono ((hsu a oe5 e32 nc).out pins s4 _ _ { nx:=fun σ' H'=>D.nx (σ'.set i none) H',rt:=D.rt } I4 (q a (by rw [I.len]; exact (Zs hi).1))) (fun fl s5 hs=>?_) fun _ _ z=>False.elim z;cases fl with
 | next =>
  obtain ⟨σ5,H5,I5,q5⟩:=hs;exact A5a (I5.loose I.ok) hN hi hl fun s6 I6=>⟨_,_,I6,q5⟩
 | brk=>obtain ⟨_,_,_,q⟩:=hs; exact q.elim
 | cont=>obtain ⟨_,_,_,q⟩:=hs; exact q.elim
 | ret u =>
  obtain ⟨v,σ5,H5,I5,r5,q5⟩:=hs;exact A5a (I5.loose I.ok) hN hi hl fun s6 I6=>⟨v,_,_,I6,r5,q5⟩⟩
variable {k:Nat} {f:Addr} {fd:FuncData} {ps:List Str} {sp:Sp} {x:Str} {p pos5:Pos} {e:Expr} {es:List Expr} {t:TA} {h0:ExceptHandler}
theorem C1i {hx:TH} (F:FnOk X.prog X.w X.K X.mg X.base (CX2 X.prog X.w) k f fd ps sp) (hr:Room k X.A) (hg:Gl X x) (hm:X.mg x=some (.ref f)) (hk:PySem.W.keepIn X.K (.ref f)=true) (hb:Binds X.K fd ps [])
  (ha:PA X.nox (e :: es) t) (hh:QH X (h0 :: hs) hx)
  (hst:X.stack=X.env :: X.outer:=by rfl) (hfr:X.env.frame=some X.env.locals:=by rfl)
  (hdb:(x == ("__debug__":Str))=false:=by decide) (he:starEach (e :: es) X.env=(false,eval e X.env) :: starEach es X.env:=by rfl) (hpl:(backTo pos (starEach es X.env)).any (·.1)=false:=by rfl)
  (hsw:swapsWith (.Call (.Name x p) (e :: es) [] pos) none pos2.line X.env=pure false:=by rfl) :
  PS X (.Try [.Expr (.Call (.Name x p) (e :: es) [] pos) pos2] (h0 :: hs) [] [] pos5) (C0t sp t hx):=by
 intro pins s σ H D I h;refine wpAny_Try_except (wpAny_execs_cons (wpAny_Expr_any ?_ I.quiet hsw));refine wpAny_Call_Name_kw (Q9 I hg hm ?_ hdb);refine PySem.W.callWith_K (h₀:=X.base) I.ok.mod.kin hk (wpAny_mono (ha pos pins s σ H _ (I.wish _) h) (fun us s1 ⟨vs,H1,I1,r,q⟩=>⟨I1.unwish.kIn,?_⟩) fun _ _ z=>z.elim) he hpl;have I1:=I1.unwish;have r2:Vals (vs++[]) (us++[]):=r.append .nil;have hl2:(us++[]).length=ps.length:=by rw [<- r2.length]; exact F.len _ _ _ _ q
 refine wpAny_call (codeAny_mono (F.run X.A X.stack s1 H1 ⟨us,[]⟩ (us++[]) (vs++[]) _ _ hr I1.env0 (hb s1 us I1.kIn hl2) r2 q) fun r s' hq=>?_);cases r with
 | ok fl =>
  cases fl with
  | ret u =>
   obtain ⟨v,H2,I2,r2,q2⟩:=I1.after hq;exact wpAny_execs_nil (wpAny_execs_nil ⟨σ,H2,I2,q2⟩)
  | next=>exact False.elim hq
  | brk=>exact False.elim hq
  | cont=>exact False.elim hq
 | error ev =>
  obtain ⟨a,cls,a0,dx,H2,B,rfl,Fl,D2,qd⟩:=hq;have hfrm:X.A.frames=some (X.env :: X.outer):=by rw [<- hst]; exact I.ok.frames
  refine A29 (outer:=X.outer) hfrm hfr (by rw [<- hst]; exact Fl.fly) D2 fun h1 hd1 u1 D3=>?_;refine B9z hd1 D3 fun h2 hd2 u2 D4=>?_;exact hh.out pins s1 _ σ H1 H2 D a cls a0 dx B I1 (Fl.step (h':=h2) (by rw [hst]; exact hd2) (u1.trans u2)) D4 qd
end
def plainV:V->Prop
 | .int _=>True
 | .str _=>True
 | .non=>True
 | .bl _=>True
 | .ref _=>True
 | _=>False
theorem plainV.hand {v:V} {u:Value} (h:plainV v) (r:RelV v u):PySem.W.handedIn u=true:=by
 cases v with
 | int i=>obtain ⟨t,rfl⟩:=r; rfl
 | str i=>obtain ⟨t,rfl⟩:=r; rfl
 | non=>cases (show u=Value.none from r); rfl
 | bl b=>cases (show u=Value.bool b from r); rfl
 | ref a=>cases (show u=Value.ref a from r); rfl
 | _=>exact h.elim
def tHF (i:Nat) (a:Addr) (dx:Option Addr) (fld:Str):TE:=fun σ H Q=>σ[i]?=some (some (.ref a))/\∃ d v,dx=some d/\H d=some (.xd [(fld,v)])/\plainV v/\Q v H
section
variable {X:Cx} {C fI a:Addr} {fld y qual n:Str} {st:Stmt} {fd:FuncData} {N:List Str} {oe:Obj} {i:Nat} {pos p1:Pos}
theorem C70 (J:InitX X.K C fI fld y qual st fd N) (xc:ExC X.K C) (e:oe.cls=.ref C) (nc:PySem.W.notCls oe=true) (hi:X.N[i]?=some n) (hl:Vis X.env.scope n)
  (hd:(n == ("__debug__":Str))=false:=by decide) (hcd:(n == ("__classdict__":Str))=false:=by decide) (hb:attributeBase (.Name n p1) fld X.env (eval (.Name n p1) X.env)=eval (.Name n p1) X.env:=by rfl) :
  QE (X.held a oe) (.Attribute (.Name n p1) fld pos) (tHF i a oe.dict fld):=⟨by
 intro pins s σ H Q I ⟨g,d,v,ed,hH,pl,q⟩;refine B4y hb (thn (A0b (X:=X.held a oe) hi hl hd hcd pins s σ H (fun z H'=>z=.ref a/\H'=H) I ⟨_,g,rfl,rfl⟩) fun u s1 ⟨x,H1,I1,rx,ex,eH⟩=>?_);subst ex eH;obtain rfl:u=Value.ref a:=rx;obtain ⟨bm,Nc,nm,qn,bs,hd',sn,sub,ab,col,dd,k0,k1,k2,k3,k5,mN,cd,_,_,_,_,h5,h6,h7⟩:=exoI I1.ok.mod.kin J.ex;obtain ⟨mA,ns,rel⟩:=(show ∃ mA,s1.heap.Ns1 d mA/\∀ f,RelO (List.lookup f [(fld,v)]) (mA f) from I1.hok d _ hH);obtain ⟨od,hod,look⟩:=A3a ns;have hlk:List.lookup fld [(fld,v)]=some v:=by simp [List.lookup]
 have rf:=rel fld;rw [hlk] at rf;cases em:mA fld with
 | none=>rw [em] at rf; exact rf.elim
 | some u =>
  rw [em] at rf;have ru:RelV v u:=rf;have hx:=(I1.pin (a,oe) (Zt _ Zy)).1;have IA:PySem.W.InstAt s1.heap a oe C (some od):=⟨hx,e,nc,by rw [ed]; exact hod⟩;refine getx (name:=fld) (v:=u) I1.kIn IA h5 h7 xc.k.ga xc.k.gn (PySem.W.findObj_own xc.hd J.nf rfl (by rw [look,em])) (pl.hand ru) ?_;exact ⟨v,H1,I1.tok _,ru,q⟩⟩
end
section
variable {X:Cx} {hs:List ExceptHandler} {pos pos2:Pos} {k:Nat} {f:Addr} {fd:FuncData} {ps:List Str} {sp:Sp} {x:Str} {p pos5:Pos} {e:Expr} {es:List Expr} {t:TA} {h0:ExceptHandler}
theorem B5q {hx:TH} (F:FnOk X.prog X.w X.K X.mg X.base (CX2 X.prog X.w) k f fd ps sp) (hr:Room k X.A) (hg:Gl X x) (hm:X.mg x=some (.ref f)) (hk:PySem.W.keepIn X.K (.ref f)=true) (hb:Binds X.K fd ps [])
  (ha:QA X.nox (e :: es) t) (hh:QH X (h0 :: hs) hx)
  (hst:X.stack=X.env :: X.outer:=by rfl) (hfr:X.env.frame=some X.env.locals:=by rfl)
  (hdb:(x == ("__debug__":Str))=false:=by decide) (he:starEach (e :: es) X.env=(false,eval e X.env) :: starEach es X.env:=by rfl) (hpl:(backTo pos (starEach es X.env)).any (·.1)=false:=by rfl)
  (hsw:swapsWith (.Call (.Name x p) (e :: es) [] pos) none pos2.line X.env=pure false:=by rfl) :
  QS X (.Try [.Expr (.Call (.Name x p) (e :: es) [] pos) pos2] (h0 :: hs) [] [] pos5) (C0t sp t hx):=⟨C1i F hr hg hm hk hb ha.out hh hst hfr hdb he hpl hsw⟩
end
section
variable {X:Cx} {i:Nat} {a:Addr} {b:Bool}
end
def tsF (i j:Nat) (fld:Str) (a:Addr) (dx:Option Addr):TS:=tAsg (tHF i a dx fld) (R0 j)
section
variable {X:Cx} {C fI a:Addr} {fld y qual n x:Str} {st:Stmt} {fd:FuncData} {N:List Str} {oe:Obj} {i j:Nat} {pos p1 p2 p3:Pos}
theorem C09 (J:InitX X.K C fI fld y qual st fd N) (xc:ExC X.K C) (hi:X.N[i]?=some n) (hl:X.env.scope.names.lookup n=some .local) (hN:X.N.Nodup) (hj:X.N[j]?=some x) (hx:X.env.scope.names.lookup x=some .local)
  (hd:(n == ("__debug__":Str))=false:=by decide) (hcd:(n == ("__classdict__":Str))=false:=by decide) (hb:attributeBase (.Name n p1) fld X.env (eval (.Name n p1) X.env)=eval (.Name n p1) X.env:=by rfl)
  (hs:swapsWith (.Attribute (.Name n p1) fld pos) (some (.Name x p2)) p3.line X.env=pure false:=by rfl):∀ a oe,oe.cls=.ref C->PySem.W.notCls oe=true->QSs (X.held a oe) [.Assign [.Name x p2] (.Attribute (.Name n p1) fld pos) p3] (tsF i j fld a oe.dict):=fun a oe e nc =>
 A4 (A9w (X:=X.held a oe) hN hj (.inl hx) (C70 J xc e nc hi (.inl hl) hd hcd hb) hs (.inr hx))
end
end L2
namespace Pu
open PySem PySem.Spec PyProof.Rows L2 My Prf
def spE2 (K:Frag) (md:List Md) (C:Addr) (fld:Str) (psp:List SV->PyData->Prop):Sp:=fun vs H _ E=>∃ (w:Wd) (as:List SV) (x:PyData),w.H=H/\w.Ok/\Args K w md vs as/\psp as x/\∀ w' d v,w'.Ok->Le w w'->w'.H d=some (.xd [(fld,v)])->Den K w'.F v x->E (.ref C) (some d) w'.H
theorem spE2.len {K:Frag} {md:List Md} {C:Addr} {fld:Str} {psp:List SV->PyData->Prop} {n:Nat} (h:md.length=n):∀ vs H Q E,spE2 K md C fld psp vs H Q E->vs.length=n:=by
 rintro vs H Q E ⟨w,as,_,_,_,a,_⟩;exact a.len.trans h
def A5u (K:Frag) (w0:Wd) (te:TE) (fld:Str) (x:PyData):TS:=fun _ σ H=>G4 te tNil σ H fun vs H1=>∃ v,vs=[v]/\∀ d,H1 d=none->∃ w',w'.H=upd H1 d (.xd [(fld,v)])/\w'.Ok/\Le w0 w'/\Den K w'.F v x
def A4w (pd:PDt) (x:PyData):PSt:=fun _ env=>pd env fun y _=>y=x
instance rsx_raiseI {K:Frag} {w0:Wd} {te:TE} {fld:Str} {x:PyData} {pd:PDt} [hd:RD K te pd]:RSX K w0 (A5u K w0 te fld x) (A4w pd x) where
 ok:=by
  rintro c w env σ Dp D rfl rfl E h p;refine hd.ok c w env σ _ _ rfl E p fun v y e1 w1 E1 l1 v1 q1=>?_;subst q1;exact ⟨v,rfl,fun d hn=>⟨w1.lay d (.xd [(fld,v)]),rfl,Wd.lay_ok E1.wok hn,E1.le0.trans (Wd.lay_le hn),v1⟩⟩
theorem okx2 {P:Program} {w:World} {K:PySem.W.Frag} {mg:Str->Option Value} {base:Heap} {x qual:Str} {st:Stmt} {f:Addr} {fd:FuncData} {N ps:List Str} {k:Nat} {md:List Md} {C:Addr} {fld:Str} {psp:List SV->PyData->Prop} {ts:Wd->PyData->TS} {pst:PyData->PSt} (F:L2.Fun K x qual st f fd) (S:FnScope N ps (A6 st)) (hm:md.length=ps.length)
  (hbody:∀ (cdv:Value) (A:Around) (outer:List Env) (s:Shared) (H:Hpp) (E:XK) (w0:Wd) (y:PyData),Room k (A.deeper (envOfC qual (A6 st) s.heap.objs.size f cdv))->(∀ w' d v,w'.Ok->Le w0 w'->w'.H d=some (.xd [(fld,v)])->Den K w'.F v y->E (.ref C) (some d) w'.H) ->
   PSs (cxOf (CX2 P w) P w K mg base N qual (A6 st) f cdv A outer s H E) (G0 st) (ts w0 y))
  (hs:∀ w0 y,RSX K w0 (ts w0 y) (pst y)) (hb:∀ as y,psp as y->pst y ⟨fun _=>False,fun _ _=>False,fun _=>False,fun _=>False⟩ (as.map some++List.replicate (N.length - md.length) none)):FnOk P w K mg base (CX2 P w) (k + 1) f fd ps (spE2 K md C fld psp):=by
 obtain ⟨oc,od,kV,doc,pm,an,cdv,ct,osl,rfl,lk,hcd⟩:=F.ex;refine C64 lk hcd S (spE2.len hm) fun A outer s H vs Q E hr ⟨w0,as,y,e,ok,a,p,kk⟩=>?_;refine ⟨_,hbody cdv A outer s H E w0 y hr kk,?_⟩;subst e
 haveI:=hs w0 y
 exact C67 ok a (hb as y p)
theorem Z7 {P:Program} {w:World} {K:PySem.W.Frag} {mg:Str->Option Value} {base:Heap} {N:List Str} {qual:Str} {scope:Scope} {f:Addr} {cd:Value} {A:Around} {outer:List Env} {s0:Shared} {H0:Hpp} {E:XK} {w0:Wd} {x fld y qualI:Str} {C fI:Addr} {stI:Stmt} {fdI:FuncData} {NI:List Str} {pos np cpos:Pos} {e:Expr} {te:TE} {z:PyData}
  (hk:∀ w' d v,w'.Ok->Le w0 w'->w'.H d=some (.xd [(fld,v)])->Den K w'.F v z->E (.ref C) (some d) w'.H) (J:InitX K C fI fld y qualI stI fdI NI)
  (hr:Room 2 (cxOf (CX2 P w) P w K mg base N qual scope f cd A outer s0 H0 E).A) (hg:Gl (cxOf (CX2 P w) P w K mg base N qual scope f cd A outer s0 H0 E) x) (hm:mg x=some (.ref C)) (he:QE (cxOf (CX2 P w) P w K mg base N qual scope f cd A outer s0 H0 E) e te)
  (hd:(x == ("__debug__":Str))=false:=by decide) (hpl:(backTo cpos (starEach [e] (cxOf (CX2 P w) P w K mg base N qual scope f cd A outer s0 H0 E).env)).any (·.1)=false:=by rfl) (hse:starEach [e] (cxOf (CX2 P w) P w K mg base N qual scope f cd A outer s0 H0 E).env=(false,eval e (cxOf (CX2 P w) P w K mg base N qual scope f cd A outer s0 H0 E).env) :: starEach [] (cxOf (CX2 P w) P w K mg base N qual scope f cd A outer s0 H0 E).env:=by rfl) :
  QS (cxOf (CX2 P w) P w K mg base N qual scope f cd A outer s0 H0 E) (.Raise (some (.Call (.Name x np) [e] [] cpos)) none pos) (A5u K w0 te fld z) :=
 ⟨fun pins s σ H D I h=>by
  refine A97 (R:=fun v H1=>∀ d,H1 d=none->∃ w':Wd,w'.H=upd H1 d (.xd [(fld,v)])/\w'.Ok/\Le w0 w'/\Den K w'.F v z) (fun v H1 q d hn=>?_) J C0r rfl hr hg hm he.out hd hpl hse pins s σ H D I h;obtain ⟨w',eH,ok,l,dn⟩:=q d hn;rw [<- eH];exact hk w' d v ok l (by rw [eH,B9]) dn⟩
theorem EnvOk.unset {c:Ct} {w:Wd} {env:PEnv} {σ:L2.St} {i:Nat} {o:Option V} (E:EnvOk c w env σ):EnvOk c w (env.set i none) (σ.set i o):=by
 have hd:∀ {j:Nat} {t:SV},(env.set i none)[j]?=some (some t)->i≠j/\env[j]?=some (some t):=fun {j t} q=>by
  rw [List.getElem?_set] at q;split at q
  ·split at q
   ·cases q
   ·cases q
  ·rename_i z; exact ⟨z,q⟩
 have hs:∀ {j:Nat},i≠j->(σ.set i o)[j]?=σ[j]?:=fun {j} z=>by rw [List.getElem?_set,if_neg z]
 refine ⟨E.wok,E.le0,by simpa using E.len,fun j t q=>?_,fun j k s1 t1 v1 u1 a q1 q2 q3 q4 f1 f2=>?_,E.zf,fun a j t u za q q'=>?_⟩
 ·obtain ⟨z,q⟩:=hd q;rw [hs z]; exact E.at' j t q
 ·obtain ⟨z1,q1⟩:=hd q1;obtain ⟨z2,q2⟩:=hd q2;rw [hs z1] at q3;rw [hs z2] at q4;exact E.own j k _ _ _ _ a q1 q2 q3 q4 f1 f2
 ·obtain ⟨z,q⟩:=hd q;rw [hs z] at q';exact E.zo a j t u za q q'
class RHS (K:Frag) (fld:Str) (i:Nat) (tsu:Addr->Option Addr->TS) (ps:outParam (PyData->PSt)):Prop where
 ok:∀ (c:Ct) (w:Wd) (env:PEnv) (σ:L2.St) (Dp:PEnds) (D:Ends) (a d:Addr) (v:V) (x:PyData),c.K=K->EnvOk c w env σ->EndsOk c w Dp D->σ[i]?=some (some (.ref a))->w.H d=some (.xd [(fld,v)])->Den K w.F v x->ps x Dp env->tsu a (some d) D σ w.H
theorem Den.plain {K:Frag} {F:Hpp} {v:V} {x:PyData} (h:Den K F v x):plainV v:=by cases h <;> exact True.intro
def pHF (j:Nat) (x:PyData) (D:PEnds) (env:PEnv):Prop:=D.nx (env.set j (some (.d x)))
instance rhs_fld {K:Frag} {i j:Nat} {fld:Str}:RHS K fld i (tsF i j fld) (pHF j) where
 ok:=by
  rintro c w env σ Dp D a d v x rfl E h g hd dn p;exact ⟨g,d,v,rfl,hd,Den.plain dn,h.nx _ _ w (E.set (s:=.d x) dn (fun _ z=>nomatch z)) (Same.refl _) p⟩
def pHB (j:Nat) (b:Bool) (_:PyData) (D:PEnds) (env:PEnv):Prop:=D.nx (env.set j (some (.d (.bool b))))
def C12 (psp:List SV->PyData->Prop) (pa:PAs) (i:Nat) (ps:PyData->PSt) (D:PEnds) (env:PEnv):Prop:=pa env fun as e=>∃ x,psp as x/\ps x ⟨fun e2=>D.nx (e2.set i none),D.rt,fun _=>False,fun _=>False⟩ (e.set i none)
instance rs_tryX {K:Frag} {md:List Md} {psp:List SV->PyData->Prop} {C:Addr} {fld:Str} {i:Nat} {ta:TA} {pa:PAs} {tsu:Addr->Option Addr->TS} {ps:PyData->PSt} [ha:RAm K md ta pa] [hs:RHS K fld i tsu ps]:RS K (C0t (spE2 K md C fld psp) ta (C62 C i tsu)) (C12 psp pa i ps) where
 ok:=by
  rintro c w env σ Dp D rfl E h p;refine ha.ok c w env σ _ _ rfl E p fun vs as e1 w1 E1 l1 a1 ⟨x,q1,q2⟩=>?_;rw [List.append_nil];refine ⟨w1,as,x,rfl,E1.wok,a1,q1,fun w' d v ok l hd dn=>⟨rfl,fun a hi=>?_⟩⟩;refine hs.ok c w' (e1.set i none) (σ.set i (some (.ref a))) ⟨fun e2=>Dp.nx (e2.set i none),Dp.rt,fun _=>False,fun _=>False⟩ _ a d v x rfl (E1.mono ok l).unset ⟨fun e2 σ2 w2 E2 s2 n2=>?_,h.rt,fun _ _ _ _ _ z=>z,fun _ _ _ _ _ z=>z⟩ (List.getElem?_set_self hi) hd dn q2;exact h.nx _ _ w2 E2.unset (l1.f.trans (l.f.trans s2)) n2
def C4u (psp:PSp) (pa:PAs) (D:PEnds) (env:PEnv):Prop:=pa env fun as e=>psp as fun _=>D.nx e
end Pu
namespace L2
open PySem PySem.Spec PyProof.Rows
theorem B6z {K:PySem.W.Frag} {C fI:Addr} {fld y qual:Str} {st:Stmt} {fd:FuncData} {N:List Str} (F:Fun K "__init__" qual st fI fd) (S:FnScope N ["self",y] (A6 st)) (fc:(K.lookup fI).map (·.cls)=some (.type "function")) (ex:A7i K C "ValueError.__new__" fI=true)
  (sa:PySem.W.findIn K (.ref C) "__setattr__"=some (some (.builtin "object.__setattr__"))) (nf:PySem.W.findIn K (.ref C) fld=some none) (body:∃ p1 p2 p3 p4,G0 st=[.Assign [.Attribute (.Name "self" p1) fld p2] (.Name y p3) p4]/\∀ env:Env,swapsWith (.Name y p3) (some (.Attribute (.Name "self" p1) fld p2)) p4.line env=pure false)
  (bd:∀ (kV doc pm:Value) (an:Option Addr) (cdv ct:Value) (us:List Value),us.length=2->bindArgs (PySem.W.fnOf "__init__" qual (J2 st) (G0 st) (A6 st) .none kV doc pm an cdv ct) ⟨us,[]⟩=pure (List.zip [("self":Str),y] us):=by exact fun _ _ _ _ _ _ us hl=>by obtain ⟨_,_,rfl⟩:=us2 hl; rfl)
  (n0:N[0]?=some ("self":Str):=by rfl) (n1:N[1]?=some y:=by rfl) (v0:Vis (A6 st) "self":=by exact Or.inl rfl) (v1:Vis (A6 st) y:=by exact Or.inl rfl) (d1:(y == ("__debug__":Str))=false:=by decide) (d2:(y == ("__classdict__":Str))=false:=by decide):InitX K C fI fld y qual st fd N :=
 ⟨F,fc,ex,sa,nf,S,F.binds bd,n0,n1,v0,v1,d1,d2,body⟩
end L2
namespace Pu
open PySem PySem.Spec PyProof.Rows L2 My Prf
def C5i (i:Nat) (pe:PX) (D:PEnds) (env:PEnv):Prop:=isKs env[i]? fun _ _=>pe env fun s e=>∃ b us,s=.tr (.nd true b (kids us))/\isKs e[i]? fun _ ks=>ks.length + us.length < 1000000/\∀ p,D.nx (e.set i (some (.tr (.nd true p (kids (ks++us))))))
def C5m (i j:Nat) (D:PEnds) (env:PEnv):Prop:=oInt env[j]? fun n=>C8b i (mIx C8h n) D env
end Pu
namespace L2
open PySem PySem.Spec PyProof.Rows
variable {X:Cx} {e:Expr}
theorem nsi3 {a b c:V} {r:List V}:NSI (a :: b :: c :: r):=fun _ _ z=>nomatch z
end L2
namespace L2
open PySem PySem.Spec PyProof.Rows
section
variable {X:Cx} {scope:Scope} {cl:List (Str × Addr)} {N':List Str} {cap:List (Option Nat)} {elt t1 i1 t2 i2:Expr} {f1 f2:List Expr} {wi wi2:TI} {g g2:TG} {tt tt2:TT} {te:TE} {pos spos py:Pos} {y:Str} {i:Nat}
end
end L2
namespace Pu
open PySem L2 My Prf
def B6c (us:LP) (pg:PyData->PEnv->(PEnv->Prop)->Prop) (pt:PTt) (pd:PDt) (e0:PEnv) (ys0:LP) (Done:PEnv->LP->Prop):Prop :=
 ∃ Iv:Nat->PEnv->LP->Prop,Iv 0 e0 ys0/\(∀ j u e ws,us[j]?=some u->Iv j e ws->ws.length + 1 < 1000000/\pg u e fun e2=>pt e2 fun b e3=>if b=true then pd e3 fun y e4=>Iv (j + 1) e4 (ws++[y]) else Iv (j + 1) e3 ws)/\∀ e ws,Iv us.length e ws->Done e ws
def B6d (xs:LP) (pg:PyData->PEnv->(PEnv->Prop)->Prop) (pt:PTt) (pi2:PAr) (pg2:PyData->PEnv->(PEnv->Prop)->Prop) (pt2:PTt) (pd:PDt) (e0:PEnv) (Fin:LP->Prop):Prop :=
 ∃ Pv:Nat->PEnv->LP->Prop,Pv 0 e0 []/\(∀ i x e ys,xs[i]?=some x->Pv i e ys->ys.length < 1000000/\pg x e fun e2=>pt e2 fun b e3=>if b=true then pi2 e3 fun us e4=>B6c us pg2 pt2 pd e4 ys (Pv (i + 1)) else Pv (i + 1) e3 ys)/\∀ e ys,Pv xs.length e ys->ys.length < 1000000/\Fin ys
def A2v (pi:PAr) (pg:PyData->PEnv->(PEnv->Prop)->Prop) (pt:PTt) (pi2:PAr) (pg2:PyData->PEnv->(PEnv->Prop)->Prop) (pt2:PTt) (pd:PDt) (cap:List (Option Nat)) (i:Nat) (D:PEnds) (env:PEnv):Prop:=pi env fun xs e=>B6d xs pg pt pi2 pg2 pt2 pd (F6 cap e) (@hold LP ⟨fun ys=>D.nx (e.set i (some (.own ys)))⟩)
section
variable {X:Cx} {scope:Scope} {cl:List (Str × Addr)} {N':List Str} {cap:List (Option Nat)} {elt t1 i1 t2 i2:Expr} {f1 f2:List Expr} {wi wi2:TI} {g g2:TG} {tt tt2:TT} {te:TE} {pos spos py:Pos} {y:Str} {i:Nat}
end
end Pu
namespace L2
open PySem PySem.Spec PyProof.Rows
def chD (x:Str):LP:=x.cps.toList.map fun c=>PyData.str ⟨#[c]⟩
section
variable {X:Cx}
end
end L2
namespace Pu
open PySem L2 My Prf
def B02 (pa:PDt) (env:PEnv) (Q:SV->PEnv->Prop):Prop:=pa env fun d e=>∃ x:Str,d=.str x/\x.length<=1000/\Q (.own (chD x)) e
end Pu
namespace Pu
open PySem L2 My Prf
def OT.ls:OT->Option (List OT)
 | .nil=>some []
 | .cons h t=>t.ls.map (h :: ·)
 | _=>none
def OT.tl:OT->Option (List OT)
 | .nd false _ k=>k.ls
 | .leaf (.tuple xs)=>some (xs.map .leaf)
 | _=>none
class RGO (K:Frag) (g:TG) (pg:outParam (OT->PEnv->(PEnv->Prop)->Prop)):Prop where
 ok:∀ (c:Ct) (w:Wd) (env:PEnv) (σ:St) (v:V) (x:OT) (Qp:PEnv->Prop) (Q:St->Hpp->Prop),c.K=K->EnvOk c w env σ->VR c w v (.bt x)->pg x env Qp->(∀ env' σ',EnvOk c w env' σ'->Qp env'->Q σ' w.H)->g v σ w.H Q
def C58 (i:Nat) (x:OT) (env:PEnv) (Q:PEnv->Prop):Prop:=Q (env.set i (some x.sv))
def oNil (xs:List OT) (env:PEnv) (Q:PEnv->Prop):Prop:=match xs with
 | []=>Q env
 | _=>False
def C8g (pg:OT->PEnv->(PEnv->Prop)->Prop) (pr:List OT->PEnv->(PEnv->Prop)->Prop) (xs:List OT) (env:PEnv) (Q:PEnv->Prop):Prop:=match xs with
 | x :: r=>pg x env fun e=>pr r e Q
 | []=>False
theorem B9u {env:PEnv} {Q:PEnv->Prop}:oNil [] env Q=Q env:=rfl
theorem B2s {pg:OT->PEnv->(PEnv->Prop)->Prop} {pr:List OT->PEnv->(PEnv->Prop)->Prop} {x:OT} {r:List OT} {env:PEnv} {Q:PEnv->Prop}:C8g pg pr (x :: r) env Q=pg x env fun e=>pr r e Q:=rfl
def WalkO (c:Ct) (w1:Wd) (J:It) (xs:List OT):Prop :=
 ∀ w',w'.Ok->Le c.w0 w'->Same w1.F w'.F->(∀ i,i < xs.length->J.go i w'.H)/\J.stop xs.length w'.H/\∀ i v H',J.yld i w'.H v H'->i < xs.length->∃ w2 x,w2.H=H'/\w2.Ok/\Le w' w2/\xs[i]?=some x/\VR c w2 v (.bt x)
def A6m (xs:List OT) (pg:OT->PEnv->(PEnv->Prop)->Prop) (pt:PTt) (pd:PDt) (e0:PEnv) (Fin:LP->Prop):Prop :=
 ∃ Pv:Nat->PEnv->LP->Prop,Pv 0 e0 []/\(∀ i x e ys,xs[i]?=some x->Pv i e ys->pg x e fun e2=>pt e2 fun b e3=>if b=true then pd e3 fun y e4=>Pv (i + 1) e4 (ys++[y]) else Pv (i + 1) e3 ys)/\∀ e ys,Pv xs.length e ys->Fin ys
def W7 (xs:List OT) (pg:OT->PEnv->(PEnv->Prop)->Prop) (pt:PTt) (pe:PX) (e0:PEnv) (Fin:List OT->Prop):Prop :=
 ∃ Pv:Nat->PEnv->List OT->Prop,Pv 0 e0 []/\(∀ i x e ys,xs[i]?=some x->Pv i e ys->pg x e fun e2=>pt e2 fun b e3=>if b=true then pe e3 fun s e4=>s.ot fun t=>Pv (i + 1) e4 (ys++[t]) else Pv (i + 1) e3 ys)/\∀ e ys,Pv xs.length e ys->Fin ys
theorem B4l {K:Frag} {g:TG} {tt:TT} {te:TE} {pg:OT->PEnv->(PEnv->Prop)->Prop} {pt:PTt} {pe:PX} [hg:RGO K g pg] [ht:RT K tt pt] [he:RE K te pe] {c:Ct} {w:Wd} {env:PEnv} {σ:St} {J:It} {xs:List OT} {cap:List (Option Nat)} {D:Addr} {Fp:List OT->Prop} {Fin:Hpp->Prop}
  (hK:c.K=K) (E:EnvOk c w env σ) (wk:WalkO ⟨c.K,w,c.Z⟩ w J xs) (hn:xs.length < 1000000) (p:W7 xs pg pt pe (F6 cap env) Fp) (hD:w.H D=none) (k:∀ w' ts,Res c w env σ w' (.ref D) (.tr (.nd true D (kids ts)))->Fp ts->Fin w'.H):A3p J g tt te D Fin (capσ cap σ) w.H:=by
 subst hK;obtain ⟨Pv,p0,step,fin⟩:=p;refine ⟨fun i m σ' H' vs=>m=xs.length - i/\i<=xs.length/\∃ e w' ts,w'.H=H'/\EnvOk ⟨c.K,w,fun a=>a=D\/a ∈ (kids ts).fp⟩ w' e σ'/\w'.H D=some (.lst vs)/\vs.length<=i/\Tre c.K w' (kids ts) vs/\(∀ a ∈ (kids ts).fp,w.H a=none/\a≠D)/\(kids ts).fp.Nodup/\Pv i e ts,
  ⟨xs.length,rfl,Nat.zero_le _,F6 cap env,w.lay D (.lst []),[],rfl,?_,B9,Zv _,rfl,(fun a z=>nomatch z),List.nodup_nil,p0⟩,?_⟩
 ·have E0:=E.cap cap hD;exact ⟨E0.wok,E0.le0,E0.len,fun i s q=>let ⟨v,h1,h2⟩:=E0.at' i s q; ⟨v,h1,h2.reZ⟩,E0.own,fun a z=>z.elim (E0.zf a) fun z=>(nomatch z),fun a j t u z=>z.elim (E0.zo a j t u) fun z=>(nomatch z)⟩
 rintro i m σ1 _ vs ⟨rfl,hle,e1,w1,ts,rfl,E1,h1,hvl,d1,fr,nd,q1⟩;refine ⟨h1,A14 (by omega),?_⟩;obtain ⟨go,stop,yld⟩:=wk w1 E1.wok E1.le0 E1.le0.f;by_cases hlt:i < xs.length
 ·refine .inr ⟨go i hlt,fun v H' y=>?_⟩;obtain ⟨w1',x,rfl,ok1',le1,hx,dx⟩:=yld i v H' y hlt;have nm1:∀ a ∈ (kids ts).fp,¬ w1.M a:=fun a ha=>(E1.zf a (.inr ha)).2.2;replace h1:=le1.h _ _ h1 (E1.zf D (.inl rfl)).2.2;replace E1:=E1.mono ok1' le1;replace d1:=d1.mono le1.toLw nm1;clear yld go stop y le1 ok1' nm1;generalize w1'=w1 at E1 h1 d1 dx;have cc:Ct:=⟨c.K,w,fun a=>a=D\/a ∈ (kids ts).fp⟩;refine hg.ok ⟨c.K,w,fun a=>a=D\/a ∈ (kids ts).fp⟩ w1 e1 σ1 v x _ _ rfl E1 dx (step i x e1 ts hx q1) fun e2 σ2 E2 q2=>?_;refine ht.ok ⟨c.K,w,fun a=>a=D\/a ∈ (kids ts).fp⟩ w1 e2 σ2 _ _ rfl E2 q2 fun b e3 w3 E3 l3 q3=>?_;have nmD:∀ a,a=D\/a ∈ (kids ts).fp->¬ w1.M a:=fun a z=>(E2.zf a z).2.2;have h3:=l3.h _ _ h1 (nmD D (.inl rfl));have d3:=d1.mono l3 fun a ha=>nmD a (.inr ha);cases b with
  | true =>
   refine he.ok ⟨c.K,w,fun a=>a=D\/a ∈ (kids ts).fp⟩ w3 e3 σ2 _ _ rfl E3 q3 fun y' s e4 w4 R q4=>?_;have nm3:∀ a,a=D\/a ∈ (kids ts).fp->¬ w3.M a:=fun a z=>(E3.zf a z).2.2;have h4:=R.lw.h _ _ h3 (nm3 D (.inl rfl));have d4:=d3.mono R.lw fun a ha=>nm3 a (.inr ha);obtain ⟨t,tt',ho,hn',q5⟩:=R.ot q4;have E4:=R.ev;have nD:D ∉ (kids ts).fp:=fun z=>(fr D z).2 rfl;have ntD:D ∉ t.fp:=fun z=>(hn' D z).2 (.inl rfl);refine ⟨vs,h4,A14 (by omega),xs.length - (i + 1),by omega,rfl,hlt,e4,⟨w4.M,upd w4.H D (.lst (vs++[y'])),w4.F⟩,ts++[t],rfl,?_,B9,by rw [Ze]; simp; exact hvl,?_,fun a ha=>?_,?_,q5⟩
   ·have E5:=E4.writeZ (us:=vs++[y']) (.inl rfl) hD;refine ⟨E5.wok,E5.le0,E5.len,fun i s q=>let ⟨v,h1,h2⟩:=E5.at' i s q; ⟨v,h1,h2.reZ⟩,E5.own,fun a z=>?_,fun a j s u z q q'=>?_⟩
    ·rcases z with z | z
     ·exact E5.zf a (.inl z)
     ·rw [J4,List.mem_append] at z;rcases z with z | z
      ·exact E5.zf a (.inr z)
      ·obtain ⟨o1,o2,o3,_⟩:=ho.1 a z;exact ⟨o2,fun y=>o1 (Q1 y),o3⟩
    ·rcases z with z | z
     ·exact E5.zo a j s u (.inl z) q q'
     ·rw [J4,List.mem_append] at z;rcases z with z | z
      ·exact E5.zo a j s u (.inr z) q q'
      ·exact (hn' a z).1 j s u q q'
   ·exact Tre.snoc (tt'.writ ntD) (d4.writ nD)
   ·rw [J4,List.mem_append] at ha;rcases ha with z | z
    ·exact fr a z
    ·exact ⟨(ho.1 a z).2.2.2,fun y=>ntD (y ▸ z)⟩
   ·rw [J4];exact List.nodup_append.mpr ⟨nd,ho.2,fun a ha b hb e=>(hn' b hb).2 (.inr (e ▸ ha))⟩
  | false =>
   exact ⟨xs.length - (i + 1),by omega,rfl,hlt,e3,w3,ts,rfl,E3,h3,by omega,d3,fr,nd,q3⟩
 ·have e:i=xs.length:=by omega
  subst e;obtain ⟨z1,z2,z3⟩:=E1.zf D (.inl rfl);have one:∀ a,a ∈ (OT.nd true D (kids ts)).fp->(a=D\/a ∈ (kids ts).fp)/\w.H a=none:=fun a ha=>by
   rcases List.mem_cons.mp (show a ∈ D :: (kids ts).fp from ha) with rfl | z
   ·exact ⟨.inl rfl,hD⟩
   ·exact ⟨.inr z,(fr a z).1⟩
  refine .inl ⟨stop,k w1 ts ⟨E.mono E1.wok E1.le0,E1.le0.toLw,⟨⟨rfl,vs,h1,d1⟩,fun a ha=>?_,List.nodup_cons.mpr ⟨fun z=>(fr D z).2 rfl,nd⟩⟩,fun a f=>E.fresh (one a f).2,rfl⟩ (fin e1 ts q1)⟩;obtain ⟨g1,g2⟩:=one a ha;obtain ⟨y1,y2,y3⟩:=E1.zf a g1;exact ⟨y2,y1,y3,E.le0.dom a g2⟩
def OT.el:OT->Option (List OT)
 | .nd _ _ k=>k.ls
 | .leaf (.list xs)=>some (xs.map .leaf)
 | .leaf (.tuple xs)=>some (xs.map .leaf)
 | _=>none
def tBt (te:TE):TE:=te
def B8y (pb:PEnv->(OT->PEnv->Prop)->Prop) (env:PEnv) (Q:List OT->PEnv->Prop):Prop:=pb env fun t e=>∃ ts,t.el=some ts/\Q ts e
class RIO (K:Frag) (wi:TI) (pi:outParam (PEnv->(List OT->PEnv->Prop)->Prop)):Prop where
 ok:∀ (c:Ct) (w:Wd) (env:PEnv) (σ:St) (Qp:List OT->PEnv->Prop) (R:It->Hpp->Prop),c.K=K->EnvOk c w env σ->pi env Qp->(∀ J xs env' w',EnvOk c w' env' σ->Lw w w'->WalkO ⟨c.K,w',c.Z⟩ w' J xs->Qp xs env'->R J w'.H)->wi σ w.H R
def B87 (pi:PEnv->(List OT->PEnv->Prop)->Prop) (pg:OT->PEnv->(PEnv->Prop)->Prop) (pt:PTt) (pd:PDt) (cap:List (Option Nat)) (env:PEnv) (Q:SV->PEnv->Prop):Prop:=pi env fun xs e=>xs.length < 1000000/\A6m xs pg pt pd (F6 cap e) (@hold LP ⟨fun ys=>Q (.own ys) e⟩)
def A2t (pi:PEnv->(List OT->PEnv->Prop)->Prop) (pg:OT->PEnv->(PEnv->Prop)->Prop) (pt:PTt) (pd:PDt) (cap:List (Option Nat)) (i:Nat) (D:PEnds) (env:PEnv):Prop:=pi env fun xs e=>xs.length < 1000000/\A6m xs pg pt pd (F6 cap e) (@hold LP ⟨fun ys=>D.nx (e.set i (some (.own ys)))⟩)
def C5l (pi:PEnv->(List OT->PEnv->Prop)->Prop) (pg:OT->PEnv->(PEnv->Prop)->Prop) (pt:PTt) (pe:PX) (cap:List (Option Nat)) (env:PEnv) (Q:SV->PEnv->Prop):Prop:=pi env fun xs e=>xs.length < 1000000/\W7 xs pg pt pe (F6 cap e) (@hold (List OT) ⟨fun ts=>∀ a,Q (.tr (.nd true a (kids ts))) e⟩)
def B7v (e:PEnv):List Nat->List OT->PEnv
 | a :: L,u :: us=>B7v (e.set a (some u.slot)) L us
 | _,_=>e
def unN (s:SV) (n:Nat) (L:List Nat) (e:PEnv) (k:PEnv->Prop):Prop:=∃ p us,s=.tr (.nd false p (kids us))/\us.length=n/\L.length=n/\k (B7v e L us)
def pUnN (pe:PX) (n:Nat) (L:List Nat) (D:PEnds) (env:PEnv):Prop:=pe env fun s e=>unN s n L e D.nx
def isNd (u:OT) (k:Addr->Prop):Prop:=∃ a ks,u=.nd true a ks/\k a
theorem C0f {a:Addr} {ks:OT} {k:Addr->Prop}:isNd (.nd true a ks) k=k a:=propext ⟨fun ⟨_,_,e,h⟩=>by rw [(OT.nd.inj e).2.1]; exact h,fun h=>⟨a,ks,rfl,h⟩⟩
def C5n (i:Nat) (pm:OT->(OT->(OT->OT)->Prop)->Prop) (D:PEnds) (env:PEnv):Prop:=asTr env[i]? fun T=>pm T fun u r=>isNd u fun a=>D.nx (env.set i (some (.tr (r (.nd true a .nil)))))
def C5q (i:Nat) (pm:OT->(OT->(OT->OT)->Prop)->Prop) (x:PyData) (D:PEnds) (env:PEnv):Prop:=asTr env[i]? fun T=>pm T fun u r=>isLs u fun a xs=>xs.length < 1000000/\D.nx (env.set i (some (.tr (r (.nd true a (C0 (xs++[x])))))))
end Pu
namespace L2
open PySem PySem.Spec PyProof.Rows
variable {X:Cx} {e:Expr} {st:Stmt}
end L2
namespace Pu
open PySem L2 My Prf
def tSt (t:TS):TS:=t
def A2s (pi:PAr) (pg:PyData->PEnv->(PEnv->Prop)->Prop) (pt:PTt) (pe:PX) (cap:List (Option Nat)) (i:Nat) (D:PEnds) (env:PEnv):Prop:=pi env fun xs e=>xs.length < 1000000/\B6b xs pg pt pe (F6 cap e) (@hold (List OT) ⟨fun ts=>∀ a,D.nx (e.set i (some (.tr (.nd true a (kids ts)))))⟩)
def T7 (pi:PEnv->(List OT->PEnv->Prop)->Prop) (pg:OT->PEnv->(PEnv->Prop)->Prop) (pt:PTt) (pe:PX) (cap:List (Option Nat)) (i:Nat) (D:PEnds) (env:PEnv):Prop:=pi env fun xs e=>xs.length < 1000000/\W7 xs pg pt pe (F6 cap e) (@hold (List OT) ⟨fun ts=>∀ a,D.nx (e.set i (some (.tr (.nd true a (kids ts)))))⟩)
instance (priority:=high + 1) rs_setCompTO {K:Frag} {te':TE} {g:TG} {tt:TT} {te:TE} {cap:List (Option Nat)} {i:Nat} {pi:PEnv->(List OT->PEnv->Prop)->Prop} {pg:OT->PEnv->(PEnv->Prop)->Prop} {pt:PTt} {pe:PX} [hi:RIO K (iSq K (tBt te')) pi] [hg:RGO K g pg] [ht:RT K tt pt] [he:RE K te pe]:RS K (tSt (R8 (iSq K (tBt te')) g tt te cap i)) (T7 pi pg pt pe cap i) where
 ok:=by
  rintro c w env σ Dp D rfl E h p;show R8 (iSq c.K (tBt te')) g tt te cap i D σ w.H;refine hi.ok c w env σ _ _ rfl E p fun J xs e1 w1 E1 l1 wk ⟨hn,q⟩ l hl=>?_;exact B4l (pg:=pg) (pt:=pt) (pe:=pe) rfl E1 wk hn q hl fun w' ts R q'=>h.nx _ _ w' (R.ev.set R.val R.new) (l1.f.trans R.lw.f) (q' l)
def C49 (pb:PEnv->(OT->PEnv->Prop)->Prop) (env:PEnv) (Q:SV->PEnv->Prop):Prop:=pb env fun t e=>∃ ts,t.el=some ts/\Q (.d (.int (ts.length:Int))) e
theorem B7o {a:Addr} {k:OT}:OT.sv (.nd false a k)=.bt (.nd false a k):=rfl
theorem B7q {z:Str}:OT.sv (.leaf (.str z))=.d (.str z):=rfl
theorem B7p {xs:LP}:OT.sv (.leaf (.tuple xs))=.d (.tuple xs):=rfl
theorem B7s {i:Int}:OT.sv (.leaf (.int i))=.d (.int i):=rfl
theorem B7r {xs:LP}:OT.sv (.leaf (.list xs))=.bor xs:=rfl
end Pu
namespace L2
open PySem PySem.Spec PyProof.Rows
variable {X:Cx} {st:Stmt}
end L2
namespace Pu
open PySem L2 My Prf
def pSlF (pa:PDt) (pl ph:PEnv->(Option Int->PEnv->Prop)->Prop) (env:PEnv) (Q:SV->PEnv->Prop):Prop:=pa env fun x e=>pl e fun lo e1=>ph e1 fun hi e2=>∃ (xs:LP) (b:Nat),x=.tuple xs/\lo=some (b:Int)/\hi=none/\(0 < b/\b<=xs.length)/\Q (.d (.tuple (xs.drop b))) e2
end Pu
namespace L2
open PySem PySem.Spec PyProof.Rows
variable {X:Cx} {e:Expr}
end L2
namespace L2
open PySem PySem.Spec PyProof.Rows
open PySem.Builtin PySem.Builtin.Str
def B70:V->List V->Hp->VK->Prop:=fun x vs H Q=>∃ a b,x=.str a/\vs=[.str b]/\(b.length == 0)=false/\a.length<=90000/\∀ p,H p=none->Q (.ref p) (upd H p (.lst ((Txt.split a b).map V.str)))
theorem A1w:∀ l:List (Str × Tok),Vals ((l.map (·.1)).map V.str) (strValues l)
 | []=>.nil
 | p :: r=>.cons ⟨p.2,rfl⟩ (A1w r)
theorem A9k (a b:Str):(Txt.split a b).length<=a.length + 3:=by
 unfold Txt.split;split
 ·simp
 ·split
  ·simp
  ·rw [length_partsBetween];have:=StrLaws.occ_length_le a b 0 a.length (a.length + 1);omega
theorem K0 {X:Cx}:MtR X "str.split" B70:=by
 intro pins s σ H x vs v us Q I rx rv h;obtain ⟨a,b,rfl,rfl,hb,hl,q⟩:=h;obtain ⟨t,rfl⟩:=rx;obtain ⟨u,rfl,ru⟩:=rv.one;obtain ⟨t2,rfl⟩:=ru;have q':=q _ (I.hok.fresh (Zv _));have hz:(Txt.split a b).length<=sizeLine:=Zx (A9k a b) (Zx (by omega) M7);have ha:a.length<=sizeLine:=Zx (by omega) M7;have hn:(partsBetween a (occurrences a b 0 a.length (a.length + 1)) b.length).length<=sizeLine:=by
  rw [length_partsBetween];have:=StrLaws.occ_length_le a b 0 a.length (a.length + 1);exact Zx (by omega) M7
 have go:∀ (l:List (Str × Tok)) (k:Nat),l.map (·.1)=Txt.split a b->EP X pins σ Q (.ref s.heap.objs.size) { s with toks:=k,heap:=s.heap.push { cls:=.type "list",data:=.seq (strValues l).toArray } }:=fun l k e =>
  ⟨.ref s.heap.objs.size,_,I.laid (t':=k) (o:=.lst ((Txt.split a b).map V.str)) (fun _ _ q=>Heap.get?_push_of_some _ q) (Zv _) ⟨by rw [Zl]; exact hz,strValues l,0,by rw [<- e]; exact A1w l,Heap.get?_push_size _ rfl⟩,rfl,q'⟩
 cases h1:(decide (a.length < b.length) || decide (strKind a < strKind b)) with
 | true =>
  refine call_meets F.slot_str_split (typeIs_str _ _ _) F.entry_str_split (F.args_str_split_2 _ _) (meets_str_split_cannot_occur a b t t2 h1) ?_;exact go [(a,t)] s.toks (if_pos h1).symm
 | false =>
  cases hf:(occurrences a b 0 a.length (a.length + 1)).isEmpty with
  | true =>
   refine call_meets F.slot_str_split (typeIs_str _ _ _) F.entry_str_split (F.args_str_split_2 _ _) (meets_str_split_not_found a b t t2 h1 hb hf) ?_;exact go [(a,t)] s.toks ((if_neg (ne_true_of_eq_false h1)).trans (if_pos hf)).symm
  | false =>
   refine call_meets F.slot_str_split (typeIs_str _ _ _) F.entry_str_split (F.args_str_split_2 _ _) (meets_str_split_sep a b t t2 h1 hb hf ha hn) ?_;show EP X pins σ Q _ { s with toks:=_,heap:=s.heap.push { cls:=.type "list",data:=.seq (strsFrom s.toks (partsBetween a (occurrences a b 0 a.length (a.length + 1)) b.length)).toArray } };rw [strsFrom_eq];exact go (numbered s.toks _) _ ((numbered_texts _ _).trans ((if_neg (ne_true_of_eq_false h1)).trans (if_neg (ne_true_of_eq_false hf))).symm)
end L2
namespace Pu
open PySem L2 My Prf
theorem A7o {K:Frag} {F:Hpp}:∀ zs:List Str,DenAll K F (zs.map V.str) (zs.map .str)
 | []=>.nil
 | z :: r=>.cons (.str z) (A7o r)
def B0r (po pa:PDt) (env:PEnv) (Q:SV->PEnv->Prop):Prop:=po env fun x e1=>asS x fun a=>pa e1 fun y e2=>asS y fun b=>(b.length == 0)=false/\a.length<=90000/\Q (.own ((Txt.split a b).map .str)) e2
instance re_splitT {K:Frag} {to ta:TE} {po pa:PDt} [ho:RW K to po] [ha:RW K ta pa]:RE K (tBM K "str" B70 to (G4 ta tNil)) (B0r po pa) where
 ok:=by
  rintro c w env σ Qp Q rfl E p k;refine ho.ok c w env σ _ _ rfl E p fun v x e1 w1 E1 l1 d1 q1=>?_;unfold asS at q1;split at q1
  ·have ev:=d1.strE;subst ev;refine ⟨rfl,ha.ok c w1 e1 σ _ _ rfl E1 q1 fun u y e2 w2 E2 l2 d2 q2=>?_⟩;unfold asS at q2;split at q2
   ·exact ⟨_,_,rfl,by rw [d2.strE],q2.1,q2.2.1,fun p hp=>k _ _ e2 _ ((Res.lst E2 hp (A7o _)).pre (l1.trans l2)) q2.2.2⟩
   ·exact q2.elim
  ·exact q1.elim
end Pu
namespace L2
open PySem PySem.Spec PyProof.Rows
def B72 (K:PySem.W.Frag):V->List V->Hp->VK->Prop:=fun x vs H Q=>∃ sep p zs,x=.str sep/\vs=[.ref p]/\SqL K H p (zs.map V.str)/\(zs.map fun z=>z.length + sep.length).sum<=90000/\Q (.str (sep.join zs)) H
theorem T0 {X:Cx} {K:PySem.W.Frag} (hK:X.K=K):MtR X "str.join" (B72 K):=by
 subst hK;intro pins s σ H x vs v us Q I rx rv h;obtain ⟨sep,p,zs,rfl,rfl,hq,hl,q⟩:=h;obtain ⟨t,rfl⟩:=rx;obtain ⟨u,rfl,ru⟩:=rv.one;cases ru;obtain ⟨its,r,pl,hz⟩:=I.list hq;obtain ⟨l,rfl,e⟩:=A10 r;have h10:=M7;have long:Builtin.Str.tooLong (Array.foldl (fun x1 x2=>x1 + x2.length + sep.length) 0 (List.map (fun x=>x.fst) l).toArray)=false:=by
  rw [List.foldl_toArray,A7g,e];unfold Builtin.Str.tooLong;simp;omega
 have hj:=B6y (sep:=sep) (zs:=zs);refine call_meets F.slot_str_join (typeIs_str s sep t) F.entry_str_join (F.args_str_join_2 _ _) (meets_str_join_list sep t p l long) ⟨pl.isList,?_⟩;subst e;rw [<- StrLaws.glued_eq_join] at q hj;rcases l with _ | ⟨a,_ | ⟨b,r⟩⟩
 ·exact ⟨by omega,.str _,H,I.tok _,⟨_,rfl⟩,q⟩
 ·exact ⟨.str _,H,I,⟨_,rfl⟩,q⟩
 ·exact ⟨by omega,.str _,H,I.tok _,⟨_,rfl⟩,q⟩
end L2
namespace Pu
open PySem L2 My Prf
def B08 (po pa:PDt) (env:PEnv) (Q:SV->PEnv->Prop):Prop:=po env fun x e=>asS x fun sep=>pa e fun y e2=>asL y fun ys=>∃ zs,A12 ys=some zs/\(zs.map fun z=>z.length + sep.length).sum<=90000/\Q (.d (.str (sep.join zs))) e2
instance re_joinB {K:Frag} {to ta:TE} {po pa:PDt} [ho:RW K to po] [ha:RW K ta pa]:RE K (tBM K "str" (B72 K) to (G4 ta tNil)) (B08 po pa) where
 ok:=by
  rintro c w env σ Qp Q rfl E p k;refine ho.ok c w env σ _ _ rfl E p fun v x e1 w1 E1 l1 d1 q1=>?_;unfold asS at q1;split at q1
  ·rename_i sep;have ev:=d1.strE;subst ev;refine ⟨rfl,ha.ok c w1 e1 σ _ _ rfl E1 q1 fun u y e2 w2 E2 l2 d2 q2=>?_⟩;unfold asL at q2;split at q2
   ·obtain ⟨zs,hz,hl,q⟩:=q2;obtain ⟨a,us,e,h1,h2⟩:=d2.lst E2.wok;exact ⟨sep,a,zs,rfl,by rw [e],by rw [<- A11 h2 hz]; exact h1,hl,k _ _ e2 w2 ((Res.data E2 (.str _)).pre (l1.trans l2)) q⟩
   ·exact q2.elim
  ·exact q1.elim
end Pu
namespace L2
open PySem PySem.Spec PyProof.Rows
theorem A2b {X:Cx} {c a b:Expr} {pos pos2:Pos} {tc:TT} {ta tb:TE} (hc:QT X c tc) (ha:QE X a ta) (hb:QE X b tb):QS X (.Return (some (.IfExp c a b pos)) pos2) (tIfS tc (tRet ta) (tRet tb)):=⟨A0a (A59 hc.out ha.out hb.out)⟩
end L2
namespace L2
open PySem PySem.Spec PyProof.Rows
def C32:R2:=rRep
theorem C2k {X:Cx}:OpR X (binaryOp .Mult) C32:=C5r
end L2
namespace Pu
open PySem L2 My Prf
def B59 (i:Nat) (pb:PDt) (env:PEnv) (Q:SV->PEnv->Prop):Prop:=N1 env[i]? fun xs=>pb env fun y e2=>∃ n:Int,y=.int n/\0<=n/\n<=1000/\xs.length<=1000/\Q (.own (List.replicate n.toNat xs).flatten) e2
instance re_repV {K:Frag} {i:Nat} {tb:TE} {pb:PDt} [hb:RW K tb pb]:RE K (tOp C32 (tVar i) tb) (B59 i pb) where
 ok:=by
  rintro c w env σ Qp Q rfl E p k;unfold B59 N1 at p;split at p
  ·rename_i xs e0;obtain ⟨v,g0,l,vs,ev,h1,h2,h3,h4,h5⟩:=E.at' i _ e0;subst ev;refine ⟨_,g0,?_⟩;refine hb.ok c w env σ _ _ rfl E p fun u y e2 w2 E2 l2 v2 q2=>?_;obtain ⟨n,rfl,n0,n1,hx,q2⟩:=q2;have hl:=h5.len;have hn:n.toNat<=1000:=by omega
   refine ⟨l,n,vs,rfl,v2.intE,l2.h _ _ h1 h3,by omega,by omega,?_,fun p hp=>k _ _ e2 _ ((Res.lst E2 hp (B4j (DenAll.same l2.f h5) _)).pre l2) q2⟩;have:vs.length * n.toNat<=1000 * 1000:=Nat.mul_le_mul (by omega) hn;exact Zx this (by decide)
  ·exact p.elim
end Pu
namespace L2
open PySem PySem.Spec PyProof.Rows
abbrev Cx.kept (X:Cx) (a:Addr) (oe:Obj):Cx:={ X with pn:=(a,oe) :: X.pn }
theorem Cx.Ok.kept {X:Cx} {a:Addr} {oe:Obj} (ok:X.Ok):(X.kept a oe).Ok :=
 ⟨ok.mod,ok.kind,ok.glob,ok.blt,ok.above,ok.inj,ok.has,ok.cab,ok.hd,ok.frames,ok.stk,ok.exf,ok.bs,ok.bsz,ok.noex,ok.exfs,ok.funs,ok.frf⟩
theorem Inv.tokept {X:Cx} {pins:List (Addr × Obj)} {σ:St} {H:Hp} {s:Shared} {a:Addr} {oe:Obj} (I:Inv (X.held a oe) pins σ H s) (ok:X.Ok):Inv (X.kept a oe) pins σ H s :=
 ⟨ok.kept,I.os,I.bare,I.base,I.loc,I.cell,I.free,I.freeC,I.pin,I.hok,I.len⟩
theorem Inv.unkept {X:Cx} {pins:List (Addr × Obj)} {σ:St} {H:Hp} {s:Shared} {a:Addr} {oe:Obj} (I:Inv (X.kept a oe) pins σ H s) (ok:X.Ok):Inv X pins σ H s :=
 ⟨ok,I.os,I.bare,I.base,I.loc,I.cell,I.free,I.freeC,fun p hp=>I.pin p (Zr _ hp),I.hok,I.len⟩
def C3m (sp:Sp) (t:TA) (C:Addr) (i:Nat) (tsu trest:Addr->Option Addr->TS):TS:=fun D σ H=>t σ H fun vs H1=>sp (vs++[]) H1 (fun _ _=>False) fun cls dx H2=>cls=.ref C/\∀ a,i < σ.length->tsu a dx { nx:=fun σ' H'=>trest a dx D (σ'.set i none) H',rt:=fun _ _=>False } (σ.set i (some (.ref a))) H2
section
variable {X:Cx}
variable {C CH:Addr} {xh n:Str} {pos pos2:Pos} {b0:Stmt} {suite:List Stmt} {rest:List Stmt}
variable {k:Nat} {f:Addr} {fd:FuncData} {ps:List Str} {sp:Sp} {x:Str} {p pos5 pos6 pos7:Pos} {e:Expr} {es:List Expr} {t:TA}
theorem B5u {i:Nat} {tsu trest:Addr->Option Addr->TS} (F:FnOk X.prog X.w X.K X.mg X.base (CX2 X.prog X.w) k f fd ps sp) (hr:Room k X.A) (hg:Gl X x) (hm:X.mg x=some (.ref f)) (hk:PySem.W.keepIn X.K (.ref f)=true) (hb:Binds X.K fd ps [])
  (ha:PA X.nox (e :: es) t)
  (hgh:Gl X xh) (hmh:X.mg xh=some (.ref CH)) (hx:PySem.W.exmOne X.K (.ref C) (.ref CH)=some true) (hN:X.N.Nodup) (hi:X.N[i]?=some n) (hl:X.env.scope.names.lookup n=some .local)
  (hsu:∀ a oe,oe.cls=.ref C->PySem.W.notCls oe=true->QSs (X.held a oe) (b0 :: suite) (tsu a oe.dict))
  (hrest:∀ a oe,oe.cls=.ref C->PySem.W.notCls oe=true->QSs (X.kept a oe) rest (trest a oe.dict))
  (hst:X.stack=X.env :: X.outer:=by rfl) (hfr:X.env.frame=some X.env.locals:=by rfl) (hdb2:(xh == ("__debug__":Str))=false:=by decide)
  (hdb:(x == ("__debug__":Str))=false:=by decide) (he:starEach (e :: es) X.env=(false,eval e X.env) :: starEach es X.env:=by rfl) (hpl:(backTo pos (starEach es X.env)).any (·.1)=false:=by rfl)
  (hsw:swapsWith (.Call (.Name x p) (e :: es) [] pos) none pos2.line X.env=pure false:=by rfl) :
  PSs X (.Try [.Expr (.Call (.Name x p) (e :: es) [] pos) pos2] [.ExceptHandler (some (.Name xh pos6)) (some n) (b0 :: suite) pos7] [] [] pos5 :: rest) (C3m sp t C i tsu trest):=by
 intro pins s σ H D I h;refine wpAny_execs_cons (thn (Q:=fun fl s6=>fl=.next/\∃ a oe σ6 H6,oe.cls=.ref C/\PySem.W.notCls oe=true/\Inv (X.kept a oe) pins σ6 H6 s6/\trest a oe.dict D σ6 H6) ?_ fun fl s6 q=>?_)
 ·refine wpAny_Try_except (wpAny_execs_cons (wpAny_Expr_any ?_ I.quiet hsw));refine wpAny_Call_Name_kw (Q9 I hg hm ?_ hdb);refine PySem.W.callWith_K (h₀:=X.base) I.ok.mod.kin hk (wpAny_mono (ha pos pins s σ H _ (I.wish _) h) (fun us s1 ⟨vs,H1,I1,r,q⟩=>⟨I1.unwish.kIn,?_⟩) fun _ _ z=>z.elim) he hpl;have I1:=I1.unwish;have r2:Vals (vs++[]) (us++[]):=r.append .nil;have hl2:(us++[]).length=ps.length:=by rw [<- r2.length]; exact F.len _ _ _ _ q
  refine wpAny_call (codeAny_mono (F.run X.A X.stack s1 H1 ⟨us,[]⟩ (us++[]) (vs++[]) _ _ hr I1.env0 (hb s1 us I1.kIn hl2) r2 q) fun r s' hq=>?_);cases r with
  | ok fl =>
   cases fl with
   | ret u =>
    obtain ⟨v,H2,I2,r2,q2⟩:=I1.after hq;exact q2.elim
   | next=>exact False.elim hq
   | brk=>exact False.elim hq
   | cont=>exact False.elim hq
  | error ev =>
   obtain ⟨a,cls,a0,dx,H2,B,rfl,Fl,D2,qd⟩:=hq;have hfrm:X.A.frames=some (X.env :: X.outer):=by rw [<- hst]; exact I.ok.frames
   refine A29 (outer:=X.outer) hfrm hfr (by rw [<- hst]; exact Fl.fly) D2 fun h1 hd1 u1 D3=>?_;refine B9z hd1 D3 fun h2 hd2 u2 D4=>?_;obtain ⟨ec,q⟩:=qd;subst ec;have F9:=Fl.step (h':=h2) (by rw [hst]; exact hd2) (u1.trans u2);obtain ⟨oe,e1,e2,IH⟩:=F9.hold I1;refine wpAny_handleBy_cons (codeAny_handlers_test ?_) (fun z=>by cases z);refine Q9 (X:=X.held a oe) IH hgh hmh ?_ hdb2;refine (PySem.W.exm_one IH.kIn (ExAt.ty ⟨oe,e1,e2⟩) hx).at ?_;show codeAny _ _ _ _ _;refine codeAny_handlers_suite_as ?_;have F8:Fly X.prog X.w X.stack H1 s1 { s' with heap:=h2 } a (.ref C) a0 H2 B:=F9;have d9:DictAt h2 a dx:=D4;have z:=fun E=>(still_setFlight.any (M:=model X.prog X.w) (A:=X.A.mark (some (.ref a))) (Q:=fun _ s9=>∃ h',s9={ s' with heap:=h' }/\Heap.FlyingW B X.stack a (.ref C) a0 h'/\∀ b o,h2.get? b=some o->(∀ vs,o.data≠.fields vs)->h'.get? b=some o) (E:=E)
    (wpAny_setFlight_noneW F8.fly.1 F8.fly.2.2.1 F8.fly.2.2.2.at fun h3 k1 k2 k3 k4=>⟨h3,rfl,⟨k1,F8.fly.2.1,k2,k3⟩,k4⟩))
   refine wpAny_mono (z _) (fun _ s9 qq=>?_) fun _ _ z=>z.1;obtain ⟨⟨h3,rfl,kf,k4⟩,kd⟩:=qq;have F3:Fly X.prog X.w X.stack H1 s1 { s' with heap:=h3 } a (.ref C) a0 H2 B:=F8.step (h':=h3) kf fun b o e n=>⟨o.slots,k4 b o e n⟩;have D3:DictAt h3 a dx:=d9.kept kd;obtain ⟨oe3,e31,e32,IH3⟩:=F3.hold I1;obtain ⟨oe4,vs4,f1,_,f3,_⟩:=F3.fly.first;have:oe4=oe3:=by rw [e31] at f1; exact (Zj f1).symm
   subst this;have nc:PySem.W.notCls oe4=true:=by unfold PySem.W.notCls; rw [f3]
   obtain ⟨oe5,g1,g2⟩:=D3;have:oe5=oe4:=by rw [show h3.get? a=some oe4 from e31] at g1; exact (Zj g1).symm
   subst this;subst g2;refine P2 (X:=X.held a oe5) IH3 hN hi (.inl hl) (show RelV (.ref a) (.ref a) from rfl) (fun s4 I4=>?_) (.inr hl);refine wpAny_mono ((hsu a oe5 e32 nc).out pins s4 _ _ _ I4 (q a (by rw [I.len]; exact (Zs hi).1))) (fun fl s5 hs=>?_) fun _ _ z=>False.elim z;cases fl with
   | next =>
    obtain ⟨σ5,H5,I5,q5⟩:=hs;exact A5a (X:=X.kept a oe5) (I5.tokept I.ok) hN hi hl fun s6 I6=>⟨rfl,a,oe5,_,H5,e32,nc,I6,q5⟩
   | brk=>obtain ⟨_,_,_,q⟩:=hs; exact q.elim
   | cont=>obtain ⟨_,_,_,q⟩:=hs; exact q.elim
   | ret u =>
    obtain ⟨v,σ5,H5,I5,r5,q5⟩:=hs;exact q5.elim
 ·obtain ⟨rfl,a,oe,σ6,H6,ec,nc,I6,q⟩:=q;refine thn ((hrest a oe ec nc).out pins s6 σ6 H6 D I6 q) fun fl s7 hs=>?_;cases fl with
  | next =>
   obtain ⟨σ5,H5,I5,q5⟩:=hs;exact ⟨σ5,H5,I5.unkept I.ok,q5⟩
  | brk =>
   obtain ⟨σ5,H5,I5,q5⟩:=hs;exact ⟨σ5,H5,I5.unkept I.ok,q5⟩
  | cont =>
   obtain ⟨σ5,H5,I5,q5⟩:=hs;exact ⟨σ5,H5,I5.unkept I.ok,q5⟩
  | ret u =>
   obtain ⟨v,σ5,H5,I5,r5,q5⟩:=hs;exact ⟨v,σ5,H5,I5.unkept I.ok,r5,q5⟩
end
end L2
namespace L2
open PySem PySem.Spec PyProof.Rows
section
variable {X:Cx} {a C:Addr} {oe:Obj} {i:Nat} {b:Bool}
theorem Inv.kept_at {pins:List (Addr × Obj)} {σ:St} {H:Hp} {s:Shared} (I:Inv (X.kept a oe) pins σ H s) (e:oe.cls=.ref C):ExAt a C s.heap :=
 ⟨oe,(I.pin (a,oe) (Zt _ Zy)).1,e⟩
theorem B4q (e:oe.cls=.ref C) (xc:ExC X.K C):CallR (X.kept a oe) (.builtin "isinstance") (fun xs H Q=>∃ c cv b,xs=[.ref a,c]/\ClV c cv/\PySem.W.kitOne X.K (.ref C) cv=some b/\Q (.bl b) H):=by
 rintro pins s σ H xs us Q I r ⟨c,cv,b,rfl,hc,hk,q⟩;obtain ⟨u,v,rfl,ru,rv⟩:=Vals.two r;cases (show u=Value.ref a from ru);cases hc.get rv;exact PySem.W.kia_one xc.kit I.kIn (I.kept_at e) hk (fun z=>nomatch z) fun tk=>⟨.bl b,H,I.tok tk,rfl,q⟩
theorem A68 {n:Str} {ec:Expr} {cv:Value} {p p1 pos:Pos} (he:oe.cls=.ref C) (xc:ExC X.K C) (hg:Gl X "isinstance") (hm:X.mg "isinstance"=none) (hi:X.N[i]?=some n) (hl:Vis X.env.scope n) (hc:KC (X.kept a oe) ec cv) (hk:PySem.W.kitOne X.K (.ref C) cv=some b)
  (hd:(n == ("__debug__":Str))=false:=by decide) (hcd:(n == ("__classdict__":Str))=false:=by decide) (hs1:starEach [.Name n p1,ec] X.env=(false,eval (.Name n p1) X.env) :: starEach [ec] X.env:=by rfl) (hs2:starEach [ec] X.env=(false,eval ec X.env) :: starEach [] X.env:=by rfl) (hpl:(backTo pos (starEach [ec] X.env)).any (·.1)=false:=by rfl) :
  KE (X.kept a oe) i a (.Call (.Name "isinstance" p) [.Name n p1,ec] [] pos) b:=by
 obtain ⟨c,h1,h2⟩:=hc.out;refine ⟨C4q (A1d (X:=X.kept a oe) (B4q he xc) hg hm (by rfl) (pa_cons (A0b hi hl hd hcd) (pa_cons h2 pa_nil hs2) hs1) (by decide) (by decide) hs1 hpl) fun σ H Q q=>?_⟩;exact ⟨_,q.1,c,cv,b,rfl,h1,hk,q.2 _ fun _ _ z=>z⟩
end
section
variable {X:Cx} {C fI a:Addr} {fld y qual n:Str} {st:Stmt} {fd:FuncData} {N:List Str} {oe:Obj} {i:Nat} {pos p1:Pos}
theorem C4a (J:InitX X.K C fI fld y qual st fd N) (xc:ExC X.K C) (e:oe.cls=.ref C) (nc:PySem.W.notCls oe=true) (hi:X.N[i]?=some n) (hl:Vis X.env.scope n)
  (hd:(n == ("__debug__":Str))=false:=by decide) (hcd:(n == ("__classdict__":Str))=false:=by decide) (hb:attributeBase (.Name n p1) fld X.env (eval (.Name n p1) X.env)=eval (.Name n p1) X.env:=by rfl) :
  QE (X.kept a oe) (.Attribute (.Name n p1) fld pos) (tHF i a oe.dict fld):=⟨by
 intro pins s σ H Q I ⟨g,d,v,ed,hH,pl,q⟩;refine B4y hb (thn (A0b (X:=X.kept a oe) hi hl hd hcd pins s σ H (fun z H'=>z=.ref a/\H'=H) I ⟨_,g,rfl,rfl⟩) fun u s1 ⟨x,H1,I1,rx,ex,eH⟩=>?_);subst ex eH;obtain rfl:u=Value.ref a:=rx;obtain ⟨bm,Nc,nm,qn,bs,hd',sn,sub,ab,col,dd,k0,k1,k2,k3,k5,mN,cd,_,_,_,_,h5,h6,h7⟩:=exoI I1.ok.mod.kin J.ex;obtain ⟨mA,ns,rel⟩:=(show ∃ mA,s1.heap.Ns1 d mA/\∀ f,RelO (List.lookup f [(fld,v)]) (mA f) from I1.hok d _ hH);obtain ⟨od,hod,look⟩:=A3a ns;have hlk:List.lookup fld [(fld,v)]=some v:=by simp [List.lookup]
 have rf:=rel fld;rw [hlk] at rf;cases em:mA fld with
 | none=>rw [em] at rf; exact rf.elim
 | some u =>
  rw [em] at rf;have ru:RelV v u:=rf;have hx:=(I1.pin (a,oe) (Zt _ Zy)).1;have IA:PySem.W.InstAt s1.heap a oe C (some od):=⟨hx,e,nc,by rw [ed]; exact hod⟩;refine getx (name:=fld) (v:=u) I1.kIn IA h5 h7 xc.k.ga xc.k.gn (PySem.W.findObj_own xc.hd J.nf rfl (by rw [look,em])) (pl.hand ru) ?_;exact ⟨v,H1,I1.tok _,ru,q⟩⟩
end
end L2
namespace Pu
open PySem PySem.Spec PyProof.Rows L2 My Prf
def tsK (i j:Nat) (_:Addr) (_:Option Addr):TS:=tAsg (tVar i) (R0 j)
def C13 (psp:List SV->PyData->Prop) (pa:PAs) (i j:Nat) (ps:PyData->PSt) (D:PEnds) (env:PEnv):Prop:=i≠j/\j < env.length/\pa env fun as e=>e.length=env.length/\∃ x,psp as x/\ps x D (((e.set i none).set j none).set i none)
instance rs_tryK {K:Frag} {md:List Md} {psp:List SV->PyData->Prop} {C:Addr} {fld:Str} {i j:Nat} {ta:TA} {pa:PAs} {trest:Addr->Option Addr->TS} {ps:PyData->PSt} [ha:RAm K md ta pa] [hs:RHS K fld j trest ps]:RS K (C3m (spE2 K md C fld psp) ta C i (tsK i j) trest) (C13 psp pa i j ps) where
 ok:=by
  rintro c w env σ Dp D rfl E h ⟨hij,hj,p⟩;refine ha.ok c w env σ _ _ rfl E p fun vs as e1 w1 E1 l1 a1 ⟨el,x,q1,q2⟩=>?_;rw [List.append_nil];refine ⟨w1,as,x,rfl,E1.wok,a1,q1,fun w' d v ok l hd dn=>⟨rfl,fun a hi=>?_⟩⟩;have E3:=(((E1.mono ok l).unset (i:=i) (o:=some (.ref a))).unset (i:=j) (o:=some (.ref a))).unset (i:=i) (o:=none);have hjs:j < σ.length:=by have:=E1.len; omega
  have g3:(((σ.set i (some (.ref a))).set j (some (.ref a))).set i none)[j]?=some (some (.ref a)):=by
   rw [List.getElem?_set_ne hij];exact List.getElem?_set_self (by rw [List.length_set]; exact hjs)
  refine ⟨.ref a,List.getElem?_set_self hi,?_⟩;exact hs.ok c w' _ _ Dp D a d v x rfl E3 (h.on (l1.f.trans l.f)) g3 hd dn q2
end Pu
namespace L2
open PySem PySem.Spec PyProof.Rows
def tRK (j:Nat) (a:Addr) (te:TE):TS:=fun D σ H=>σ[j]?=some (some (.ref a))/\∀ H3,Same H H3->te σ H3 D.rt
theorem B5p {X:Cx} {j:Nat} {a:Addr} {c k e:Expr} {s:List Stmt} {te:TE} {p1 p2 p3:Pos} (hc:KT X j a c false) (hk:KE X j a k true) (he:QE X e te):QSs X [.If c s [] p1,.Return (some (.BoolOp .And [k,e] p2)) p3] (tRK j a te) :=
 ⟨C1h (J0 (B5x hc.out (fun _ _ _ _ _ _ q=>False.elim q:PSs X s fun _ _ _=>False) A03) (Q6 (A0a (B8g hk.out (B8e he.out))))) fun D σ H q=>⟨q.1,fun H3 z=>⟨q.1,fun H4 z4=>⟨true,rfl,q.2 H4 (z.trans z4)⟩⟩⟩⟩
end L2
namespace Pu
open PySem PySem.Spec PyProof.Rows L2 My Prf
def pRK (psp:PSp) (n:Int) (x:PyData) (D:PEnds) (env:PEnv):Prop:=psp [.d x,.d (.int n)] fun s=>∃ b:Bool,s=.d (.bool b)/\D.rt (.d (.bool b)) env
instance rhs_rk {K:Frag} {j:Nat} {fld:Str} {psp:PSp} {n:Int} {E0:XK}:RHS K fld j (fun a dx=>tRK j a (A1y (spOf K [.dat,.dat] psp) [] E0 (G4 (tHF j a dx fld) (G4 (tC (.int n)) tNil)))) (pRK psp n) where
 ok:=by
  rintro c w env σ Dp D a d v x rfl E h g hd dn p;refine ⟨g,fun H3 s3=>?_⟩;have l3:Le w ⟨w.M,H3,w.F⟩:=⟨⟨Same.refl _,fun b o e _=>s3 b o e,fun _ z=>z,fun _ z=>.inl z,fun b z=>by
   cases q:w.H b with
   | none=>rfl
   | some o=>have:=s3 b o q; rw [show H3 b=none from z] at this; cases this⟩,fun _ _ z=>.inl z⟩
  have E3:EnvOk c ⟨w.M,H3,w.F⟩ env σ:=E.mono ⟨E.wok.sub.trans s3,fun p hp=>(E.wok.st p hp).same s3,E.wok.nf⟩ l3;refine ⟨g,d,v,rfl,s3 d _ hd,Den.plain dn,?_⟩;refine ⟨⟨w.M,H3,w.F⟩,[.d x,.d (.int n)],_,rfl,E3.wok,?_,p,fun u s w' ok l r ru q=>?_⟩
  ·exact .dat dn (.dat (.int n) .nil)
  ·obtain ⟨b,rfl,q⟩:=q;exact h.rt u (.d (.bool b)) env σ w' (E3.mono ok l) (show Den _ _ _ _ from r) rfl q
end Pu
set_option synthInstance.maxHeartbeats 0
set_option synthInstance.maxSize 100000
set_option maxHeartbeats 4000000
namespace Prf
open PySem L2 My Pu
local macro_rules | `(tactic| trivial) => `(tactic| try simp only [pSeq, C2b, B9c, C5j, B0y, C5g, pRet, B0v, B2h, B2g, B2f, B2e, C41, pIf, pAsg, C2i, B8o, B9t, pApp, B41, B89, C43, B58, C7s, pYes, pNot, pAnd, pOr, C18, C2j, pOrV, pIfE, pOp, pI_i, C5c, pEqD, pNeD, pIsN, C19, A3c, A7c, A3e, A7b, A3d, A7a, B8s, B8r, pU_i, pUn, pNil, B6a, pTup, pLst, pCB, B03, A2w, A6g, B9g, B8q, B8p, B81, B82, A6e, A6d, B80, B9v, A87, A5t, A86, A5q, A5r, A85, A88, B8i, B9n, B9m, B9l, B0p, B13, B12, B14, pC, pdat, C7r, C7q, B1o, C2a, B1j, B1i, A6l, C7k, C0e, C1c, B77, A90, A0z, A56, A6b, C2e, A6j, A6s, A6r, A6t, A7x, A0o, A4b, A4c, B0u, B2d, B0t, B2c, pFor, B1k, A0d, F6, SV.lent, A4x, C17, B7h, pSlL, pRev, B0s, B2b, B9a, B9f, B9e, B1e, List.map_cons, List.map_nil, List.replicate_succ, List.replicate_zero, List.cons_append, List.nil_append, List.getElem?_cons_zero, List.getElem?_cons_succ, List.set_cons_zero, List.set_cons_succ, List.length_cons, List.length_nil, C2h, C2g, C5f, C5e, Option.bind_some, Option.bind_none, Option.map_some, Option.map_none, Option.join_some, B1b, B1a, B22, A61, A6z, B4h, A7n, B4e, A7m, B9y, C0j, A1p, C0h, A3j, A3i, B3y, B7l, decide_eq_true_eq, Bool.not_eq_true', decide_eq_false_iff_not, ite_not, true_and, and_true, reduceIte, Nat.zero_le, Nat.reduceAdd, Nat.reduceLeDiff, Nat.reduceSub, Int.zero_add, A6i, A6h, List.length_map, A8z, B9i, A89, B32, B38, B21, B4f, B90, C0a, C0d, B99, C0c, B93, B97, B96, B91, B92, B94, Bool.true_eq_false, Bool.false_eq_true, reduceCtorEq, Bool.not_true, Bool.not_false, decide_true, decide_false, B8h, B9k, B1g, B2r, pLsN, pLsC, C47, B01, B2n, B2m, B2o, A49, B4i, B39, A7d, eq_self, C1z, A0n, A4a, A7j, B37, A67, A64, A66, A63, A65, A62, B98, C0b, B95, C4y, B84, C46, ot_d, ot_o, ot_t, A6n, B0q, B17, B16, B18, B15, pKid, B1l, C0m, C1v, C7n, C7m, C7l, pTr, B8l, B9r, B9q, B9s, B86, B8j, B9p, B9o, B1p, B2t, A1z, A9y, A7e, B8z, A6v, B85, B2l, B2k, B2j, C5a, pIn, B3l, B3m, B3j, B3k, B3t, B3u, B3r, B3s, B3d, B3e, B3b, B3c, B29, B3a, B27, B28, B3h, B3i, B3f, B3g, B25, B26, B23, B24, B3p, B3q, B3n, B3o, A5s, B7g, B1d, pS, B6e, B8w, B8t, B8v, B8x, B8u, B07, B04, B06, B05, C5b, C4x, C5h, B1m, pRep, B00, B83, pIdx, C42, C4w, B8k, pStr, C4v, B1n, C5p, B78, B0z, pSlT, C48, B2q, B2p, pPth, pVw, A82, pLf, B20, pBr, pMuV, C59, B8m, pA2, C60, pC2, pMu, B9h, B9d, B1h, B7y, B88, A2u, C15, B2a, C44, B0w, C45, B1f, B8n, B1q, A4z, pDN, pDk, pS1, B7g, B0o, B0x, pSlS, C2f, C14, A4y, B7h, pFmt, C7o, C7p, pFs, B09, C2d, C12, C4u, pHF, pHB, A4w, C5i, C5m, B9x, A2v, B02, B87, A2t, C5l, B8y, pUnN, C5n, C0f, C5q, A2s, T7, C49, C58, B2s, B9u, B7o, B7q, B7p, B7s, B7r, pSlF, B0r, B08, B59, C13, pRK])
local macro_rules | `(tactic| nofun) => `(tactic| try simp -implicitDefEqProofs only [pSeq, C2b, B9c, C5j, B0y, C5g, pRet, B0v, B2h, B2g, B2f, B2e, C41, pIf, pAsg, C2i, B8o, B9t, pApp, B41, B89, C43, B58, C7s, pYes, pNot, pAnd, pOr, C18, C2j, pOrV, pIfE, pOp, pI_i, C5c, pEqD, pNeD, pIsN, C19, A3c, A7c, A3e, A7b, A3d, A7a, B8s, B8r, pU_i, pUn, pNil, B6a, pTup, pLst, pCB, B03, A2w, A6g, B9g, B8q, B8p, B81, B82, A6e, A6d, B80, B9v, A87, A5t, A86, A5q, A5r, A85, A88, B8i, B9n, B9m, B9l, B0p, B13, B12, B14, pC, pdat, C7r, C7q, B1o, C2a, B1j, B1i, A6l, C7k, C0e, C1c, B77, A90, A0z, A56, A6b, C2e, A6j, A6s, A6r, A6t, A7x, A0o, A4b, A4c, B0u, B2d, B0t, B2c, pFor, B1k, A0d, F6, SV.lent, A4x, C17, B7h, pSlL, pRev, B0s, B2b, B9a, B9f, B9e, B1e, List.map_cons, List.map_nil, List.replicate_succ, List.replicate_zero, List.cons_append, List.nil_append, List.getElem?_cons_zero, List.getElem?_cons_succ, List.set_cons_zero, List.set_cons_succ, List.length_cons, List.length_nil, C2h, C2g, C5f, C5e, Option.bind_some, Option.bind_none, Option.map_some, Option.map_none, Option.join_some, B1b, B1a, B22, A61, A6z, B4h, A7n, B4e, A7m, B9y, C0j, A1p, C0h, A3j, A3i, B3y, B7l, decide_eq_true_eq, Bool.not_eq_true', decide_eq_false_iff_not, ite_not, true_and, and_true, reduceIte, Nat.zero_le, Nat.reduceAdd, Nat.reduceLeDiff, Nat.reduceSub, Int.zero_add, A6i, A6h, List.length_map, A8z, B9i, A89, B32, B38, B21, B4f, B90, C0a, C0d, B99, C0c, B93, B97, B96, B91, B92, B94, Bool.true_eq_false, Bool.false_eq_true, reduceCtorEq, Bool.not_true, Bool.not_false, decide_true, decide_false, B8h, B9k, B1g, B2r, pLsN, pLsC, C47, B01, B2n, B2m, B2o, A49, B4i, B39, A7d, eq_self, C1z, A0n, A4a, A7j, B37, A67, A64, A66, A63, A65, A62, B98, C0b, B95, C4y, B84, C46, ot_d, ot_o, ot_t, A6n, B0q, B17, B16, B18, B15, pKid, B1l, C0m, C1v, C7n, C7m, C7l, pTr, B8l, B9r, B9q, B9s, B86, B8j, B9p, B9o, B1p, B2t, A1z, A9y, A7e, B8z, A6v, B85, B2l, B2k, B2j, C5a, pIn, B3l, B3m, B3j, B3k, B3t, B3u, B3r, B3s, B3d, B3e, B3b, B3c, B29, B3a, B27, B28, B3h, B3i, B3f, B3g, B25, B26, B23, B24, B3p, B3q, B3n, B3o, A5s, B7g, B1d, pS, B6e, B8w, B8t, B8v, B8x, B8u, B07, B04, B06, B05, C5b, C4x, C5h, B1m, pRep, B00, B83, pIdx, C42, C4w, B8k, pStr, C4v, B1n, C5p, B78, B0z, pSlT, C48, B2q, B2p, pPth, pVw, A82, pLf, B20, pBr, pMuV, C59, B8m, pA2, C60, pC2, pMu, B9h, B9d, B1h, B7y, B88, A2u, C15, B2a, C44, B0w, C45, B1f, B8n, B1q, A4z, pDN, pDk, pS1, B7g, B0o, B0x, pSlS, C2f, C14, A4y, B7h, pFmt, C7o, C7p, pFs, B09, C2d, C12, C4u, pHF, pHB, A4w, C5i, C5m, B9x, A2v, B02, B87, A2t, C5l, B8y, pUnN, C5n, C0f, C5q, A2s, T7, C49, C58, B2s, B9u, B7o, B7q, B7p, B7s, B7r, pSlF, B0r, B08, B59, C13, pRK])
set_option genInjectivity false
set_option genSizeOfSpec false
structure Adr where
 a_a6:Addr
 d_a6:FuncData
 a_c0:Addr
 d_c0:FuncData
 a_a9:Addr
 d_a9:FuncData
 a_a8:Addr
 d_a8:FuncData
 a_bc:Addr
 d_bc:FuncData
 a_bb:Addr
 d_bb:FuncData
 a_b6:Addr
 d_b6:FuncData
 a_b1:Addr
 d_b1:FuncData
 a_a7:Addr
 d_a7:FuncData
 a_c2:Addr
 d_c2:FuncData
 a_af:Addr
 d_af:FuncData
 a_c1:Addr
 d_c1:FuncData
 a_ba:Addr
 d_ba:FuncData
 a_b7:Addr
 d_b7:FuncData
 a_b0:Addr
 d_b0:FuncData
 a_bd:Addr
 d_bd:FuncData
 a_c6:Addr
 d_c6:FuncData
 a_c7:Addr
 d_c7:FuncData
 a_c5:Addr
 d_c5:FuncData
 a_b8:Addr
 d_b8:FuncData
 a_aa:Addr
 d_aa:FuncData
 a_c4:Addr
 d_c4:FuncData
 a_be:Addr
 d_be:FuncData
 a_ae:Addr
 d_ae:FuncData
 a_a4:Addr
 d_a4:FuncData
 a_b2:Addr
 d_b2:FuncData
 a_ad:Addr
 d_ad:FuncData
 a_ac:Addr
 d_ac:FuncData
 a_b4:Addr
 d_b4:FuncData
 a_b9:Addr
 d_b9:FuncData
 a_b3:Addr
 d_b3:FuncData
 a_bf:Addr
 d_bf:FuncData
 a_ab:Addr
 d_ab:FuncData
 a_a3:Addr
 d_a3:FuncData
 a_a5:Addr
 d_a5:FuncData
 a_a2:Addr
 d_a2:FuncData
 a_b5:Addr
 d_b5:FuncData
 a_a1:Addr
 d_a1:FuncData
 a_a0:Addr
 d_a0:FuncData
 a_c3:Addr
 d_c3:FuncData
 a_c8:Addr
 d_c8:FuncData
 k_NOUGHT:Addr
 k_ARC_WORDS:Addr
 k_NoText:Addr
 k_HurryError:Addr
 k_NoRow:Addr
 k_NoPaper:Addr
structure TxB (K:PySem.W.Frag) (a_a6 a_c0 a_a9 a_a8 a_bc a_bb a_b6 a_b1 a_a7 a_c2 a_af a_c1 a_ba a_b7 a_b0 a_bd a_c6 a_c7 a_c5 a_b8 a_aa a_c4 a_be a_ae a_a4 a_b2 a_ad a_ac a_b4 a_b9 a_b3 a_bf a_ab a_a3 a_a5 a_a2 a_b5 a_a1 a_a0 a_c3 k_NOUGHT k_ARC_WORDS k_NoText k_HurryError k_NoRow k_NoPaper:Addr) (d_a6 d_c0 d_a9 d_a8 d_bc d_bb d_b6 d_b1 d_a7 d_c2 d_af d_c1 d_ba d_b7 d_b0 d_bd d_c6 d_c7 d_c5 d_b8 d_aa d_c4 d_be d_ae d_a4 d_b2 d_ad d_ac d_b4 d_b9 d_b3 d_bf d_ab d_a3 d_a5 d_a2 d_b5 d_a1 d_a0 d_c3:FuncData):Prop where
 g_a6:PySem.W.nsIn K mainGlobals "common_part"=some (some (.ref a_a6))
 F_a6:Fun K "common_part" "common_part" s_a6 a_a6 d_a6
 g_c0:PySem.W.nsIn K mainGlobals "is_less"=some (some (.ref a_c0))
 F_c0:Fun K "is_less" "is_less" s_c0 a_c0 d_c0
 g_a9:PySem.W.nsIn K mainGlobals "shown_whole"=some (some (.ref a_a9))
 F_a9:Fun K "shown_whole" "shown_whole" s_a9 a_a9 d_a9
 g_a8:PySem.W.nsIn K mainGlobals "shown_ratio"=some (some (.ref a_a8))
 F_a8:Fun K "shown_ratio" "shown_ratio" s_a8 a_a8 d_a8
 g_bc:PySem.W.nsIn K mainGlobals "whole_in"=some (some (.ref a_bc))
 F_bc:Fun K "whole_in" "whole_in" s_bc a_bc d_bc
 g_bb:PySem.W.nsIn K mainGlobals "ratio_in"=some (some (.ref a_bb))
 F_bb:Fun K "ratio_in" "ratio_in" s_bb a_bb d_bb
 g_b6:PySem.W.nsIn K mainGlobals "number_in"=some (some (.ref a_b6))
 F_b6:Fun K "number_in" "number_in" s_b6 a_b6 d_b6
 g_b1:PySem.W.nsIn K mainGlobals "shown_plan"=some (some (.ref a_b1))
 F_b1:Fun K "shown_plan" "shown_plan" s_b1 a_b1 d_b1
 g_a7:PySem.W.nsIn K mainGlobals "shown_paper"=some (some (.ref a_a7))
 F_a7:Fun K "shown_paper" "shown_paper" s_a7 a_a7 d_a7
 g_c2:PySem.W.nsIn K mainGlobals "step_in"=some (some (.ref a_c2))
 F_c2:Fun K "step_in" "step_in" s_c2 a_c2 d_c2
 g_af:PySem.W.nsIn K mainGlobals "carried_in"=some (some (.ref a_af))
 F_af:Fun K "carried_in" "carried_in" s_af a_af d_af
 g_c1:PySem.W.nsIn K mainGlobals "plan_in"=some (some (.ref a_c1))
 F_c1:Fun K "plan_in" "plan_in" s_c1 a_c1 d_c1
 g_ba:PySem.W.nsIn K mainGlobals "paper_in"=some (some (.ref a_ba))
 F_ba:Fun K "paper_in" "paper_in" s_ba a_ba d_ba
 g_b7:PySem.W.nsIn K mainGlobals "read_plan"=some (some (.ref a_b7))
 F_b7:Fun K "read_plan" "read_plan" s_b7 a_b7 d_b7
 g_b0:PySem.W.nsIn K mainGlobals "read_paper"=some (some (.ref a_b0))
 F_b0:Fun K "read_paper" "read_paper" s_b0 a_b0 d_b0
 g_bd:PySem.W.nsIn K mainGlobals "_law_begun"=some (some (.ref a_bd))
 F_bd:Fun K "_law_begun" "_law_begun" s_bd a_bd d_bd
 g_c6:PySem.W.nsIn K mainGlobals "_law_take"=some (some (.ref a_c6))
 F_c6:Fun K "_law_take" "_law_take" s_c6 a_c6 d_c6
 g_c7:PySem.W.nsIn K mainGlobals "_law_low"=some (some (.ref a_c7))
 F_c7:Fun K "_law_low" "_law_low" s_c7 a_c7 d_c7
 g_c5:PySem.W.nsIn K mainGlobals "_law_same"=some (some (.ref a_c5))
 F_c5:Fun K "_law_same" "_law_same" s_c5 a_c5 d_c5
 g_b8:PySem.W.nsIn K mainGlobals "_law_number"=some (some (.ref a_b8))
 F_b8:Fun K "_law_number" "_law_number" s_b8 a_b8 d_b8
 g_aa:PySem.W.nsIn K mainGlobals "_law_fraction"=some (some (.ref a_aa))
 F_aa:Fun K "_law_fraction" "_law_fraction" s_aa a_aa d_aa
 g_c4:PySem.W.nsIn K mainGlobals "_law_plan"=some (some (.ref a_c4))
 F_c4:Fun K "_law_plan" "_law_plan" s_c4 a_c4 d_c4
 g_be:PySem.W.nsIn K mainGlobals "_law_paper"=some (some (.ref a_be))
 F_be:Fun K "_law_paper" "_law_paper" s_be a_be d_be
 g_ae:PySem.W.nsIn K mainGlobals "_law_plan_text"=some (some (.ref a_ae))
 F_ae:Fun K "_law_plan_text" "_law_plan_text" s_ae a_ae d_ae
 g_a4:PySem.W.nsIn K mainGlobals "_law_paper_text"=some (some (.ref a_a4))
 F_a4:Fun K "_law_paper_text" "_law_paper_text" s_a4 a_a4 d_a4
 g_b2:PySem.W.nsIn K mainGlobals "_law_odd_plan"=some (some (.ref a_b2))
 F_b2:Fun K "_law_odd_plan" "_law_odd_plan" s_b2 a_b2 d_b2
 g_ad:PySem.W.nsIn K mainGlobals "_law_odd_paper"=some (some (.ref a_ad))
 F_ad:Fun K "_law_odd_paper" "_law_odd_paper" s_ad a_ad d_ad
 g_ac:PySem.W.nsIn K mainGlobals "_law_number_in"=some (some (.ref a_ac))
 F_ac:Fun K "_law_number_in" "_law_number_in" s_ac a_ac d_ac
 g_b4:PySem.W.nsIn K mainGlobals "_law_ratio_in"=some (some (.ref a_b4))
 F_b4:Fun K "_law_ratio_in" "_law_ratio_in" s_b4 a_b4 d_b4
 g_b9:PySem.W.nsIn K mainGlobals "_law_plan_in"=some (some (.ref a_b9))
 F_b9:Fun K "_law_plan_in" "_law_plan_in" s_b9 a_b9 d_b9
 g_b3:PySem.W.nsIn K mainGlobals "_law_paper_in"=some (some (.ref a_b3))
 F_b3:Fun K "_law_paper_in" "_law_paper_in" s_b3 a_b3 d_b3
 g_bf:PySem.W.nsIn K mainGlobals "_law_put_in"=some (some (.ref a_bf))
 F_bf:Fun K "_law_put_in" "_law_put_in" s_bf a_bf d_bf
 g_ab:PySem.W.nsIn K mainGlobals "_law_is_no_plan"=some (some (.ref a_ab))
 F_ab:Fun K "_law_is_no_plan" "_law_is_no_plan" s_ab a_ab d_ab
 g_a3:PySem.W.nsIn K mainGlobals "_law_is_no_paper"=some (some (.ref a_a3))
 F_a3:Fun K "_law_is_no_paper" "_law_is_no_paper" s_a3 a_a3 d_a3
 g_a5:PySem.W.nsIn K mainGlobals "_law_plan_holds"=some (some (.ref a_a5))
 F_a5:Fun K "_law_plan_holds" "_law_plan_holds" s_a5 a_a5 d_a5
 g_a2:PySem.W.nsIn K mainGlobals "_law_paper_holds"=some (some (.ref a_a2))
 F_a2:Fun K "_law_paper_holds" "_law_paper_holds" s_a2 a_a2 d_a2
 g_b5:PySem.W.nsIn K mainGlobals "_law_strange"=some (some (.ref a_b5))
 F_b5:Fun K "_law_strange" "_law_strange" s_b5 a_b5 d_b5
 g_a1:PySem.W.nsIn K mainGlobals "_law_is_plan_read"=some (some (.ref a_a1))
 F_a1:Fun K "_law_is_plan_read" "_law_is_plan_read" s_a1 a_a1 d_a1
 g_a0:PySem.W.nsIn K mainGlobals "_law_is_paper_read"=some (some (.ref a_a0))
 F_a0:Fun K "_law_is_paper_read" "_law_is_paper_read" s_a0 a_a0 d_a0
 g_c3:PySem.W.nsIn K mainGlobals "_law_bent"=some (some (.ref a_c3))
 F_c3:Fun K "_law_bent" "_law_bent" s_c3 a_c3 d_c3
 gc_NOUGHT:PySem.W.nsIn K mainGlobals "NOUGHT"=some (some (.ref k_NOUGHT))
 gc_ARC_WORDS:PySem.W.nsIn K mainGlobals "ARC_WORDS"=some (some (.ref k_ARC_WORDS))
 gc_NoText:PySem.W.nsIn K mainGlobals "NoText"=some (some (.ref k_NoText))
 gc_HurryError:PySem.W.nsIn K mainGlobals "HurryError"=some (some (.ref k_HurryError))
 gc_NoRow:PySem.W.nsIn K mainGlobals "NoRow"=some (some (.ref k_NoRow))
 gc_NoPaper:PySem.W.nsIn K mainGlobals "NoPaper"=some (some (.ref k_NoPaper))
 z_ValueError:PySem.W.nsIn K mainGlobals "ValueError"=some none
 z_abs:PySem.W.nsIn K mainGlobals "abs"=some none
 z_all:PySem.W.nsIn K mainGlobals "all"=some none
 z_bool:PySem.W.nsIn K mainGlobals "bool"=some none
 z_divmod:PySem.W.nsIn K mainGlobals "divmod"=some none
 z_int:PySem.W.nsIn K mainGlobals "int"=some none
 z_isinstance:PySem.W.nsIn K mainGlobals "isinstance"=some none
 z_len:PySem.W.nsIn K mainGlobals "len"=some none
 z_list:PySem.W.nsIn K mainGlobals "list"=some none
 z_min:PySem.W.nsIn K mainGlobals "min"=some none
 z_range:PySem.W.nsIn K mainGlobals "range"=some none
 z_str:PySem.W.nsIn K mainGlobals "str"=some none
 z_tuple:PySem.W.nsIn K mainGlobals "tuple"=some none
 z_zip:PySem.W.nsIn K mainGlobals "zip"=some none
structure Txt (K:PySem.W.Frag) (mg:Str->Option Value) (D:Adr):Prop where
 B:TxB K D.a_a6 D.a_c0 D.a_a9 D.a_a8 D.a_bc D.a_bb D.a_b6 D.a_b1 D.a_a7 D.a_c2 D.a_af D.a_c1 D.a_ba D.a_b7 D.a_b0 D.a_bd D.a_c6 D.a_c7 D.a_c5 D.a_b8 D.a_aa D.a_c4 D.a_be D.a_ae D.a_a4 D.a_b2 D.a_ad D.a_ac D.a_b4 D.a_b9 D.a_b3 D.a_bf D.a_ab D.a_a3 D.a_a5 D.a_a2 D.a_b5 D.a_a1 D.a_a0 D.a_c3 D.k_NOUGHT D.k_ARC_WORDS D.k_NoText D.k_HurryError D.k_NoRow D.k_NoPaper D.d_a6 D.d_c0 D.d_a9 D.d_a8 D.d_bc D.d_bb D.d_b6 D.d_b1 D.d_a7 D.d_c2 D.d_af D.d_c1 D.d_ba D.d_b7 D.d_b0 D.d_bd D.d_c6 D.d_c7 D.d_c5 D.d_b8 D.d_aa D.d_c4 D.d_be D.d_ae D.d_a4 D.d_b2 D.d_ad D.d_ac D.d_b4 D.d_b9 D.d_b3 D.d_bf D.d_ab D.d_a3 D.d_a5 D.d_a2 D.d_b5 D.d_a1 D.d_a0 D.d_c3
 m_a6:mg "common_part"=some (.ref D.a_a6)
 m_c0:mg "is_less"=some (.ref D.a_c0)
 m_a9:mg "shown_whole"=some (.ref D.a_a9)
 m_a8:mg "shown_ratio"=some (.ref D.a_a8)
 m_bc:mg "whole_in"=some (.ref D.a_bc)
 m_bb:mg "ratio_in"=some (.ref D.a_bb)
 m_b6:mg "number_in"=some (.ref D.a_b6)
 m_b1:mg "shown_plan"=some (.ref D.a_b1)
 m_a7:mg "shown_paper"=some (.ref D.a_a7)
 m_c2:mg "step_in"=some (.ref D.a_c2)
 m_af:mg "carried_in"=some (.ref D.a_af)
 m_c1:mg "plan_in"=some (.ref D.a_c1)
 m_ba:mg "paper_in"=some (.ref D.a_ba)
 m_b7:mg "read_plan"=some (.ref D.a_b7)
 m_b0:mg "read_paper"=some (.ref D.a_b0)
 m_bd:mg "_law_begun"=some (.ref D.a_bd)
 m_c6:mg "_law_take"=some (.ref D.a_c6)
 m_c7:mg "_law_low"=some (.ref D.a_c7)
 m_c5:mg "_law_same"=some (.ref D.a_c5)
 m_b8:mg "_law_number"=some (.ref D.a_b8)
 m_aa:mg "_law_fraction"=some (.ref D.a_aa)
 m_c4:mg "_law_plan"=some (.ref D.a_c4)
 m_be:mg "_law_paper"=some (.ref D.a_be)
 m_ae:mg "_law_plan_text"=some (.ref D.a_ae)
 m_a4:mg "_law_paper_text"=some (.ref D.a_a4)
 m_b2:mg "_law_odd_plan"=some (.ref D.a_b2)
 m_ad:mg "_law_odd_paper"=some (.ref D.a_ad)
 m_ac:mg "_law_number_in"=some (.ref D.a_ac)
 m_b4:mg "_law_ratio_in"=some (.ref D.a_b4)
 m_b9:mg "_law_plan_in"=some (.ref D.a_b9)
 m_b3:mg "_law_paper_in"=some (.ref D.a_b3)
 m_bf:mg "_law_put_in"=some (.ref D.a_bf)
 m_ab:mg "_law_is_no_plan"=some (.ref D.a_ab)
 m_a3:mg "_law_is_no_paper"=some (.ref D.a_a3)
 m_a5:mg "_law_plan_holds"=some (.ref D.a_a5)
 m_a2:mg "_law_paper_holds"=some (.ref D.a_a2)
 m_b5:mg "_law_strange"=some (.ref D.a_b5)
 m_a1:mg "_law_is_plan_read"=some (.ref D.a_a1)
 m_a0:mg "_law_is_paper_read"=some (.ref D.a_a0)
 m_c3:mg "_law_bent"=some (.ref D.a_c3)
 F_c8:Fun K "law" "law" s_c8 D.a_c8 D.d_c8
 m_c8:mg "law"=some (.ref D.a_c8)
 c_NOUGHT:mg "NOUGHT"=some (.ref D.k_NOUGHT)
 c_ARC_WORDS:mg "ARC_WORDS"=some (.ref D.k_ARC_WORDS)
 c_NoText:mg "NoText"=some (.ref D.k_NoText)
 c_HurryError:mg "HurryError"=some (.ref D.k_HurryError)
 c_NoRow:mg "NoRow"=some (.ref D.k_NoRow)
 c_NoPaper:mg "NoPaper"=some (.ref D.k_NoPaper)
 z_ValueError:mg "ValueError"=none
 z_abs:mg "abs"=none
 z_all:mg "all"=none
 z_bool:mg "bool"=none
 z_divmod:mg "divmod"=none
 z_int:mg "int"=none
 z_isinstance:mg "isinstance"=none
 z_len:mg "len"=none
 z_list:mg "list"=none
 z_min:mg "min"=none
 z_range:mg "range"=none
 z_str:mg "str"=none
 z_tuple:mg "tuple"=none
 z_zip:mg "zip"=none
 c2_NOUGHT:Pu.GD K D.k_NOUGHT (dq 0)
 c2_ARC_WORDS:Pu.GD K D.k_ARC_WORDS (.tuple [.str "start",.str "end",.str "wait",.str "hold"])
 ci_MOST_FIGURES:∃ t,mg "MOST_FIGURES"=some (.int 60 t)
 ci_CHUNK:∃ t,mg "CHUNK"=some (.int 1000000000000000000 t)
 ci_CHUNK_FIGURES:∃ t,mg "CHUNK_FIGURES"=some (.int 18 t)
 ci_MOST_STEPS:∃ t,mg "MOST_STEPS"=some (.int 10 t)
 ci_MOST_ARCS:∃ t,mg "MOST_ARCS"=some (.int 100 t)
 ci_MOST_NUMBER:∃ t,mg "MOST_NUMBER"=some (.int 99 t)
 cs_FIGURES:∃ t,mg "FIGURES"=some (.str "0123456789" t)
 J_NoText:∃ fI fd,InitX K D.k_NoText fI "row" "row" "NoText.__init__" s_NoTextinit fd ["self","row"]
 xm_NoText_NoText:PySem.W.exmOne K (.ref D.k_NoText) (.ref D.k_NoText)=some true
 xga_NoText:PySem.W.findIn K (.ref D.k_NoText) "__getattribute__"=some (some (.builtin "BaseException.__getattribute__"))
 xgn_NoText:PySem.W.findIn K (.ref D.k_NoText) "__getattr__"=some none
 xgc_NoText:PySem.W.findIn K (.ref D.k_NoText) "__class__"=some (some (.builtin "object.__class__"))
 xsb_NoText:PySem.W.subIn K (.ref D.k_NoText) (.type "BaseException")=some true
 xso_NoText:PySem.W.subIn K (.ref D.k_NoText) (.type "object")=some true
 xhd_NoText:PySem.W.hasDictIn K D.k_NoText=true
 xty_NoText:(K.lookup D.k_NoText).map (·.cls)=some (.type "type")
 xm_NoText_HurryError:PySem.W.exmOne K (.ref D.k_NoText) (.ref D.k_HurryError)=some true
 xi_NoText_NoRow:PySem.W.kitOne K (.ref D.k_NoText) (.ref D.k_NoRow)=some false
 xi_NoText_NoPaper:PySem.W.kitOne K (.ref D.k_NoText) (.ref D.k_NoPaper)=some false
 xi_NoText_NoText:PySem.W.kitOne K (.ref D.k_NoText) (.ref D.k_NoText)=some true
 xi_NoText_ValueError:PySem.W.kitOne K (.ref D.k_NoText) (.type "ValueError")=some true
 sysm:∃ o,K.lookup sysModules=some o/\o.cls≠.type "list"
abbrev sp_law:=C02
theorem scI {N P:List Str} {sc:Scope} (a:sc.kind=.function:=by rfl) (b:sc.isCoroutine=false:=by rfl) (c:sc.isGenerator=false:=by rfl) (d:N.Nodup:=by decide +kernel) (e:N.take P.length=P:=by rfl) (f:∀ x ∈ P,sc.names.lookup x=some .local\/sc.names.lookup x=some .cell:=by decide +kernel) (g:∀ y ∈ sc.names,y.2≠.free:=by decide +kernel):FnScope N P sc:=⟨a,b,c,d,e,f,g⟩
structure KCl (K:PySem.W.Frag) (mg:Str->Option Value) (x:Str) (f:Addr) (fd:FuncData) (ps:List Str):Prop where
 m:mg x=some (.ref f)
 k:PySem.W.keepIn K (.ref f)=true
 b:Binds K fd ps []
theorem qcK {X:Cx} {k:Nat} {f:Addr} {fd:FuncData} {ps:List Str} {sp:Sp} {x:Str} {p pos:Pos} {e:Expr} {es:List Expr} {t:TA} (F:FnOk X.prog X.w X.K X.mg X.base CX0 k f fd ps sp) (hr:Room k X.A) (c:KCl X.K X.mg x f fd ps) (ha:QA X (e :: es) t) (hg:Gl X x:=by rfl) (hdb:(x == ("__debug__":Str))=false:=by decide) (he:starEach (e :: es) X.env=(false,eval e X.env) :: starEach es X.env:=by rfl) (hpl:(backTo pos (starEach es X.env)).any (·.1)=false:=by rfl):QE X (.Call (.Name x p) (e :: es) [] pos) (A1y sp [] E0 t):=B5r F hr hg c.m c.k c.b .nil C76 ha hdb he hpl
theorem qgn {X:Cx} (i:Nat) {P:List Str} {sc:Scope} {x:Str} {pos:Pos} (S:FnScope X.N P sc) (hi:X.N[i]?=some x:=by rfl) (hx:Loc X.env.scope x:=by exact Or.inl rfl) (hf:X.fn x=true\/X.env.scope.names.lookup x=some .local:=by first | exact .inl rfl | exact .inr rfl | assumption):QG X (.Name x pos) (R0 i):=A54 S.nd hi hx hf
theorem qgc {X:Cx} (i:Nat) (N:List Str) {x:Str} {pos:Pos} (hN:X.N=N:=by exact rfl) (hd:N.Nodup:=by decide +kernel) (hi:X.N[i]?=some x:=by exact rfl) (hx:Loc X.env.scope x:=by exact Or.inl rfl) (hf:X.fn x=true\/X.env.scope.names.lookup x=some .local:=by exact Or.inr rfl):QG X (.Name x pos) (R0 i):=A54 (hN ▸ hd) hi hx hf
theorem qst {X:Cx} (i:Nat) {P:List Str} {sc:Scope} {x:Str} {e:Expr} {te:TE} {pos pos':Pos} (S:FnScope X.N P sc) (he:QE X e te) (hi:X.N[i]?=some x:=by rfl) (hx:Loc X.env.scope x:=by exact Or.inl rfl) (hs:swapsWith e (some (.Name x pos')) pos.line X.env=pure false:=by rfl) (hf:X.fn x=true\/X.env.scope.names.lookup x=some .local:=by first | exact .inl rfl | exact .inr rfl | assumption):QS X (.Assign [.Name x pos'] e pos) (tAsg te (R0 i)):=A9w S.nd hi hx he hs hf
theorem qln (K:PySem.W.Frag) {X:Cx} {p pos:Pos} {e:Expr} {te:TE} (hm:X.mg "len"=none) (he:QE X e te) (h:X.K=K:=by rfl) (hg:Gl X "len":=by rfl) (hs:starEach [e] X.env=(false,eval e X.env) :: starEach [] X.env:=by rfl) (hpl:(backTo pos (starEach [] X.env)).any (·.1)=false:=by rfl):QE X (.Call (.Name "len" p) [e] [] pos) (tCB (C08 K) (G4 te tNil)):=B6 (A8s h) hg hm PySem.boot_len (A0 he A1 hs) (by decide) (by decide) hs hpl
theorem qix (K:PySem.W.Frag) {X:Cx} {a b:Expr} {ta tb:TE} {pos:Pos} (ha:QE X a ta) (hb:QE X b tb) (h:X.K=K:=by rfl) (hs:A5l b:=by exact fun _ _=>rfl):QE X (.Subscript a b pos) (tOp (rIx K) ta tb):=C39 (C2w h) ha hb hs
theorem _root_.L2.Fun.b1 {K:PySem.W.Frag} {x q:Str} {st:Stmt} {f:Addr} {fd:FuncData} {a:Str} (F:L2.Fun K x q st f fd) (h:∀ (kV doc pm:Value) (an:Option Addr) (cdv ct u:Value),bindArgs (PySem.W.fnOf x q (J2 st) (G0 st) (A6 st) .none kV doc pm an cdv ct) ⟨[u],[]⟩=pure [(a,u)]:=by intros; rfl):Binds K fd [a] []:=F.binds (ps:=[a]) fun _ _ _ _ _ _ us hl=>by obtain ⟨_,rfl⟩:=us1 hl; exact h ..
theorem _root_.L2.Fun.b2 {K:PySem.W.Frag} {x q:Str} {st:Stmt} {f:Addr} {fd:FuncData} {a b:Str} (F:L2.Fun K x q st f fd) (h:∀ (kV doc pm:Value) (an:Option Addr) (cdv ct u v:Value),bindArgs (PySem.W.fnOf x q (J2 st) (G0 st) (A6 st) .none kV doc pm an cdv ct) ⟨[u,v],[]⟩=pure [(a,u),(b,v)]:=by intros; rfl):Binds K fd [a,b] []:=F.binds (ps:=[a,b]) fun _ _ _ _ _ _ us hl=>by obtain ⟨_,_,rfl⟩:=us2 hl; exact h ..
def Zz:=@Pu.spOf.len
def Zf:=@PassesOwn.never
section
variable {K:PySem.W.Frag} {mg:Str->Option Value} {D:Adr}
theorem sc_a6:FnScope ["one","other"] ["one","other"] (A6 s_a6):=scI
theorem A38 (T:Txt K mg D):KCl K mg "common_part" D.a_a6 D.d_a6 ["one","other"]:=⟨T.m_a6,T.B.F_a6.kp,T.B.F_a6.b2⟩
theorem sc_c0:FnScope ["one","other"] ["one","other"] (A6 s_c0):=scI
theorem A7v (T:Txt K mg D):KCl K mg "is_less" D.a_c0 D.d_c0 ["one","other"]:=⟨T.m_c0,T.B.F_c0.kp,T.B.F_c0.b2⟩
theorem sc_a9:FnScope ["number","chunks","left","chunk","figures"] ["number"] (A6 s_a9):=scI
theorem K7 (T:Txt K mg D):KCl K mg "shown_whole" D.a_a9 D.d_a9 ["number"]:=⟨T.m_a9,T.B.F_a9.kp,T.B.F_a9.b1⟩
theorem sc_a8:FnScope ["one","top","bottom"] ["one"] (A6 s_a8):=scI
theorem O7 (T:Txt K mg D):KCl K mg "shown_ratio" D.a_a8 D.d_a8 ["one"]:=⟨T.m_a8,T.B.F_a8.kp,T.B.F_a8.b1⟩
theorem sc_bc:FnScope ["text","figures","number"] ["text"] (A6 s_bc):=scI
theorem Y1 (T:Txt K mg D):KCl K mg "whole_in" D.a_bc D.d_bc ["text"]:=⟨T.m_bc,T.B.F_bc.kp,T.B.F_bc.b1⟩
theorem sc_bb:FnScope ["text","left","slash","right","top","bottom"] ["text"] (A6 s_bb):=scI
theorem Y2 (T:Txt K mg D):KCl K mg "ratio_in" D.a_bb D.d_bb ["text"]:=⟨T.m_bb,T.B.F_bb.kp,T.B.F_bb.b1⟩
theorem sc_b6:FnScope ["text","number"] ["text"] (A6 s_b6):=scI
theorem A8u (T:Txt K mg D):KCl K mg "number_in" D.a_b6 D.d_b6 ["text"]:=⟨T.m_b6,T.B.F_b6.kp,T.B.F_b6.b1⟩
theorem sc_b1:FnScope ["plan"] ["plan"] (A6 s_b1):=scI
theorem A5h (T:Txt K mg D):KCl K mg "shown_plan" D.a_b1 D.d_b1 ["plan"]:=⟨T.m_b1,T.B.F_b1.kp,T.B.F_b1.b1⟩
theorem sc_a7:FnScope ["paper"] ["paper"] (A6 s_a7):=scI
theorem A36 (T:Txt K mg D):KCl K mg "shown_paper" D.a_a7 D.d_a7 ["paper"]:=⟨T.m_a7,T.B.F_a7.kp,T.B.F_a7.b1⟩
theorem sc_c2:FnScope ["text","left","blank","right","start","time"] ["text"] (A6 s_c2):=scI
theorem B7d (T:Txt K mg D):KCl K mg "step_in" D.a_c2 D.d_c2 ["text"]:=⟨T.m_c2,T.B.F_c2.kp,T.B.F_c2.b1⟩
theorem sc_af:FnScope ["text","words","number","amount"] ["text"] (A6 s_af):=scI
theorem A5i (T:Txt K mg D):KCl K mg "carried_in" D.a_af D.d_af ["text"]:=⟨T.m_af,T.B.F_af.kp,T.B.F_af.b1⟩
theorem sc_c1:FnScope ["text","plan"] ["text"] (A6 s_c1):=scI
theorem A7u (T:Txt K mg D):KCl K mg "plan_in" D.a_c1 D.d_c1 ["text"]:=⟨T.m_c1,T.B.F_c1.kp,T.B.F_c1.b1⟩
theorem sc_ba:FnScope ["text","paper"] ["text"] (A6 s_ba):=scI
theorem A37 (T:Txt K mg D):KCl K mg "paper_in" D.a_ba D.d_ba ["text"]:=⟨T.m_ba,T.B.F_ba.kp,T.B.F_ba.b1⟩
theorem sc_b7:FnScope ["text","plan"] ["text"] (A6 s_b7):=scI
theorem P6 (T:Txt K mg D):KCl K mg "read_plan" D.a_b7 D.d_b7 ["text"]:=⟨T.m_b7,T.B.F_b7.kp,T.B.F_b7.b1⟩
theorem sc_b0:FnScope ["text","paper"] ["text"] (A6 s_b0):=scI
theorem M9 (T:Txt K mg D):KCl K mg "read_paper" D.a_b0 D.d_b0 ["text"]:=⟨T.m_b0,T.B.F_b0.kp,T.B.F_b0.b1⟩
theorem sc_bd:FnScope ["_law_script","_law_k","_law_cell"] ["_law_script","_law_k"] (A6 s_bd):=scI
theorem V6 (T:Txt K mg D):KCl K mg "_law_begun" D.a_bd D.d_bd ["_law_script","_law_k"]:=⟨T.m_bd,T.B.F_bd.kp,T.B.F_bd.b2⟩
theorem sc_c6:FnScope ["_law_state","_law_many","_law_digit","_law_made","_law_turn"] ["_law_state","_law_many"] (A6 s_c6):=scI
theorem G1 (T:Txt K mg D):KCl K mg "_law_take" D.a_c6 D.d_c6 ["_law_state","_law_many"]:=⟨T.m_c6,T.B.F_c6.kp,T.B.F_c6.b2⟩
theorem sc_c7:FnScope ["_law_top","_law_bottom","_law_one","_law_other"] ["_law_top","_law_bottom"] (A6 s_c7):=scI
theorem B4w (T:Txt K mg D):KCl K mg "_law_low" D.a_c7 D.d_c7 ["_law_top","_law_bottom"]:=⟨T.m_c7,T.B.F_c7.kp,T.B.F_c7.b2⟩
theorem sc_c5:FnScope ["_law_found","_law_due","_law_one","_law_other"] ["_law_found","_law_due"] (A6 s_c5):=scI
theorem J3 (T:Txt K mg D):KCl K mg "_law_same" D.a_c5 D.d_c5 ["_law_found","_law_due"]:=⟨T.m_c5,T.B.F_c5.kp,T.B.F_c5.b2⟩
theorem sc_b8:FnScope ["_law_one"] ["_law_one"] (A6 s_b8):=scI
theorem Y3 (T:Txt K mg D):KCl K mg "_law_number" D.a_b8 D.d_b8 ["_law_one"]:=⟨T.m_b8,T.B.F_b8.kp,T.B.F_b8.b1⟩
theorem sc_aa:FnScope ["_law_state","_law_far","_law_way","_law_top"] ["_law_state","_law_far"] (A6 s_aa):=scI
theorem R5 (T:Txt K mg D):KCl K mg "_law_fraction" D.a_aa D.d_aa ["_law_state","_law_far"]:=⟨T.m_aa,T.B.F_aa.kp,T.B.F_aa.b2⟩
theorem sc_c4:FnScope ["_law_cells","_law_at","_law_plan_here","_law_k","_law_state","_law_start"] ["_law_cells","_law_at"] (A6 s_c4):=scI
theorem C3c (T:Txt K mg D):KCl K mg "_law_plan" D.a_c4 D.d_c4 ["_law_cells","_law_at"]:=⟨T.m_c4,T.B.F_c4.kp,T.B.F_c4.b2⟩
theorem sc_be:FnScope ["_law_cells","_law_paper_here","_law_k","_law_state","_law_amount","_law_word"] ["_law_cells"] (A6 s_be):=scI
theorem B7e (T:Txt K mg D):KCl K mg "_law_paper" D.a_be D.d_be ["_law_cells"]:=⟨T.m_be,T.B.F_be.kp,T.B.F_be.b1⟩
theorem sc_ae:FnScope ["_law_plan_here"] ["_law_plan_here"] (A6 s_ae):=scI
theorem R1 (T:Txt K mg D):KCl K mg "_law_plan_text" D.a_ae D.d_ae ["_law_plan_here"]:=⟨T.m_ae,T.B.F_ae.kp,T.B.F_ae.b1⟩
theorem sc_a4:FnScope ["_law_paper_here"] ["_law_paper_here"] (A6 s_a4):=scI
theorem O8 (T:Txt K mg D):KCl K mg "_law_paper_text" D.a_a4 D.d_a4 ["_law_paper_here"]:=⟨T.m_a4,T.B.F_a4.kp,T.B.F_a4.b1⟩
theorem sc_b2:FnScope ["_law_turn","_law_some"] ["_law_turn"] (A6 s_b2):=scI
theorem A8x (T:Txt K mg D):KCl K mg "_law_odd_plan" D.a_b2 D.d_b2 ["_law_turn"]:=⟨T.m_b2,T.B.F_b2.kp,T.B.F_b2.b1⟩
theorem sc_ad:FnScope ["_law_turn","_law_some"] ["_law_turn"] (A6 s_ad):=scI
theorem A5j (T:Txt K mg D):KCl K mg "_law_odd_paper" D.a_ad D.d_ad ["_law_turn"]:=⟨T.m_ad,T.B.F_ad.kp,T.B.F_ad.b1⟩
theorem sc_ac:FnScope ["_law_word","_law_sign"] ["_law_word"] (A6 s_ac):=scI
theorem R3 (T:Txt K mg D):KCl K mg "_law_number_in" D.a_ac D.d_ac ["_law_word"]:=⟨T.m_ac,T.B.F_ac.kp,T.B.F_ac.b1⟩
theorem sc_b4:FnScope ["_law_word","_law_figures","_law_top","_law_stroke","_law_bottom","_law_one"] ["_law_word"] (A6 s_b4):=scI
theorem A0m (T:Txt K mg D):KCl K mg "_law_ratio_in" D.a_b4 D.d_b4 ["_law_word"]:=⟨T.m_b4,T.B.F_b4.kp,T.B.F_b4.b1⟩
theorem sc_b9:FnScope ["_law_text","_law_plan_here","_law_part","_law_ones"] ["_law_text"] (A6 s_b9):=scI
theorem B4v (T:Txt K mg D):KCl K mg "_law_plan_in" D.a_b9 D.d_b9 ["_law_text"]:=⟨T.m_b9,T.B.F_b9.kp,T.B.F_b9.b1⟩
theorem sc_b3:FnScope ["_law_text","_law_paper_here","_law_part","_law_words","_law_number_here","_law_amount"] ["_law_text"] (A6 s_b3):=scI
theorem A8w (T:Txt K mg D):KCl K mg "_law_paper_in" D.a_b3 D.d_b3 ["_law_text"]:=⟨T.m_b3,T.B.F_b3.kp,T.B.F_b3.b1⟩
theorem sc_bf:FnScope ["_law_text","_law_state","_law_at"] ["_law_text","_law_state"] (A6 s_bf):=scI
theorem A7w (T:Txt K mg D):KCl K mg "_law_put_in" D.a_bf D.d_bf ["_law_text","_law_state"]:=⟨T.m_bf,T.B.F_bf.kp,T.B.F_bf.b2⟩
theorem sc_ab:FnScope ["_law_thing","_law_row","e"] ["_law_thing"] (A6 s_ab):=scI
theorem R4 (T:Txt K mg D):KCl K mg "_law_is_no_plan" D.a_ab D.d_ab ["_law_thing"]:=⟨T.m_ab,T.B.F_ab.kp,T.B.F_ab.b1⟩
theorem sc_a3:FnScope ["_law_thing","_law_refused","e"] ["_law_thing"] (A6 s_a3):=scI
theorem O9 (T:Txt K mg D):KCl K mg "_law_is_no_paper" D.a_a3 D.d_a3 ["_law_thing"]:=⟨T.m_a3,T.B.F_a3.kp,T.B.F_a3.b1⟩
theorem sc_a5:FnScope ["_law_plan_here","_law_handed","_law_text","_law_told"] ["_law_plan_here"] (A6 s_a5):=scI
theorem A39 (T:Txt K mg D):KCl K mg "_law_plan_holds" D.a_a5 D.d_a5 ["_law_plan_here"]:=⟨T.m_a5,T.B.F_a5.kp,T.B.F_a5.b1⟩
theorem sc_a2:FnScope ["_law_paper_here","_law_handed","_law_text","_law_told"] ["_law_paper_here"] (A6 s_a2):=scI
theorem N0 (T:Txt K mg D):KCl K mg "_law_paper_holds" D.a_a2 D.d_a2 ["_law_paper_here"]:=⟨T.m_a2,T.B.F_a2.kp,T.B.F_a2.b1⟩
theorem sc_b5:FnScope ["_law_text","_law_turn","_law_signs","_law_at"] ["_law_text","_law_turn"] (A6 s_b5):=scI
theorem A8v (T:Txt K mg D):KCl K mg "_law_strange" D.a_b5 D.d_b5 ["_law_text","_law_turn"]:=⟨T.m_b5,T.B.F_b5.kp,T.B.F_b5.b2⟩
theorem sc_a1:FnScope ["_law_text","_law_due"] ["_law_text"] (A6 s_a1):=scI
theorem A1s (T:Txt K mg D):KCl K mg "_law_is_plan_read" D.a_a1 D.d_a1 ["_law_text"]:=⟨T.m_a1,T.B.F_a1.kp,T.B.F_a1.b1⟩
theorem sc_a0:FnScope ["_law_text","_law_due"] ["_law_text"] (A6 s_a0):=scI
theorem Y9 (T:Txt K mg D):KCl K mg "_law_is_paper_read" D.a_a0 D.d_a0 ["_law_text"]:=⟨T.m_a0,T.B.F_a0.kp,T.B.F_a0.b1⟩
theorem sc_c3:FnScope ["_law_text","_law_state","_law_at"] ["_law_text","_law_state"] (A6 s_c3):=scI
theorem B4x (T:Txt K mg D):KCl K mg "_law_bent" D.a_c3 D.d_c3 ["_law_text","_law_state"]:=⟨T.m_c3,T.B.F_c3.kp,T.B.F_c3.b2⟩
theorem sc_c8:FnScope ["_law_script","_law_cells","_law_paper_here","_law_at","_law_plan_here","_law_k","_law_state"] ["_law_script"] (A6 s_c8):=scI
end
theorem sc_NoTextinit:FnScope ["self","row"] ["self","row"] (A6 s_NoTextinit):=scI
theorem hd {a b:PSt} {D:PEnds} {e:PEnv} (h:∀ R,R=b->pSeq a R D e):pSeq a b D e:=h b rfl
theorem B5c {pt:PTt} {pb R:PSt} {D:PEnds} {env:PEnv} (Iv:Nat->PEnv->Prop) (h0:∃ m,Iv m env) (h:∀ m e,Iv m e->pt e fun b e2=>if b=true then pb ⟨fun e3=>∃ m',m' < m/\Iv m' e3,D.rt,R D,fun e3=>∃ m',m' < m/\Iv m' e3⟩ e2 else R D e2):pSeq (A6b pt pb) R D env:=⟨Iv,h0,h⟩
theorem Q4 {a b:PSt} {D:PEnds} {e:PEnv} (P:PEnv->Prop) (h1:∀ R:PSt,(∀ e',P e'->R D e')->pSeq a R D e) (h2:∀ e',P e'->b D e'):pSeq a b D e:=h1 b h2
abbrev sO (l:List Nat):Str:=⟨l.toArray⟩
theorem C8 (a b:List Nat):sO a++sO b=sO (a++b):=by
 show Str.mk (a.toArray++b.toArray)=Str.mk _;rw [List.append_toArray]
theorem A9 (a:List Nat):(sO a).length=a.length:=by show a.toArray.size=_; simp
theorem B7x {a b:List Nat} (h:sO a=sO b):a=b:=by
 have:=congrArg (fun z:Str=>z.cps.toList) h;simpa using this
theorem B7w (s:String):Str.ofString s=sO (s.toList.map Char.toNat):=Str.ofString_eq_toList s
def cutS (c:Nat):List Nat->Option (List Nat × List Nat)
 | []=>none
 | x :: r=>if x=c then some ([],r) else match cutS c r with
  | none=>none
  | some p=>some (x :: p.1,p.2)
theorem T3 {c:Nat}:∀ {l:List Nat},c ∉ l->cutS c l=none
 | [],_=>rfl
 | x :: r,h=>by
  unfold cutS;rw [if_neg (fun e:x=c=>h (by rw [e]; exact Zy)),T3 fun m=>h (Zr _ m)]
theorem V5 {c:Nat}:∀ {a b:List Nat},c ∉ a->cutS c (a++c :: b)=some (a,b)
 | [],b,_=>by show cutS c (c :: b)=_; unfold cutS; rw [if_pos rfl]
 | x :: r,b,h=>by
  show cutS c (x :: (r++c :: b))=_;unfold cutS;rw [if_neg (fun e:x=c=>h (by rw [e]; exact Zy)),V5 fun m=>h (Zr _ m)]
theorem A3n {c:Nat}:∀ {l:List Nat} {p:List Nat × List Nat},cutS c l=some p->l=p.1++c :: p.2/\c ∉ p.1
 | [],_,h=>by cases h
 | x :: r,p,h=>by
  unfold cutS at h;split at h
  ·rename_i e; cases h; exact ⟨by rw [e]; rfl,List.not_mem_nil⟩
  ·rename_i e;split at h
   ·cases h
   ·rename_i q hq;cases h;obtain ⟨h1,h2⟩:=A3n hq;exact ⟨by show x :: r=x :: (q.1++c :: q.2); rw [<- h1],fun m=>by
     rcases List.mem_cons.mp m with m | m
     ·exact e m.symm
     ·exact h2 m⟩
def parS (c:Nat) (l:List Nat):List Nat × List Nat × List Nat:=match cutS c l with
 | none=>(l,[],[])
 | some (a,b)=>(a,[c],b)
theorem A4u (c:Nat) (l:List Nat):Txt.partition (sO l) (sO [c])=(sO (parS c l).1,sO (parS c l).2.1,sO (parS c l).2.2):=by
 unfold Txt.partition parS;rcases PySem.StrLaws.occ_head (sO l) (sO [c]) 1 (Zv 1) with ⟨h0,hn⟩ | ⟨i,r,h0,hi,hn⟩
 ·rw [h0];have:c ∉ l:=fun hm=>by
   obtain ⟨j,hj⟩:=List.getElem?_of_mem hm;exact hn j ((PySem.StrLaws.subAt_one (sO l) c j).mpr (by simpa using hj))
  rw [T3 this]; rfl
 ·rw [h0];have hi':l[i]?=some c:=by simpa using (PySem.StrLaws.subAt_one (sO l) c i).mp hi
  have hn':∀ k,k < i->l[k]?≠some c:=fun k hk e=>hn k hk ((PySem.StrLaws.subAt_one (sO l) c k).mpr (by simpa using e));obtain ⟨hil,hic⟩:=Zs hi';have el:l=l.take i++c :: l.drop (i + 1):=by rw [<- hic,List.getElem_cons_drop,List.take_append_drop]
  have nm:c ∉ l.take i:=fun m=>by
   obtain ⟨j,hj⟩:=List.getElem?_of_mem m;rw [List.getElem?_take] at hj;split at hj
   ·rename_i q; exact hn' j q hj
   ·cases hj
  have ec:cutS c l=some (l.take i,l.drop (i + 1)):=by
   conv=>lhs; rw [el]
   exact V5 nm
  rw [ec];show (Builtin.Str.strSub _ _ _,_,Builtin.Str.strSub _ _ _)=_;rw [PyProof.Rows.strSub_mk,PyProof.Rows.strSub_mk];have e1:((sO l).cps.toList.drop 0).take (i - 0)=l.take i:=by simp
  have e2:((sO l).cps.toList.drop (i + (sO [c]).length)).take ((sO l).length - (i + (sO [c]).length))=l.drop (i + 1):=by
   show (l.drop (i + 1)).take ((sO l).length - (i + 1))=_;rw [A9];exact List.take_of_length_le (by rw [List.length_drop]; exact Zv _)
  rw [e1,e2]
theorem A72 (c:Nat) (l:List Nat):Txt.startswith (sO l) (sO [c])=(l.head? == some c):=by
 unfold Txt.startswith;rw [PySem.StrLaws.subAt_eq];cases l with
 | nil=>rfl
 | cons x r =>
  have e1:(sO [c]).length=1:=rfl;have e2:(sO (x :: r)).length=r.length + 1:=by rw [A9]; rfl
  rw [e1,e2];show (decide (0 + 1<=r.length + 1) && ([x] == [c]))=(some x == some c);rw [Zk (by omega),Bool.true_and];by_cases h:x=c
  ·subst h; simp
  ·have h1:([x] == [c])=false:=by simp [h]
   have h2:(some x == some c)=false:=by simp [h]
   rw [h1,h2]
theorem Z6 (x:Nat) (r:List Nat):Txt.slice (sO (x :: r)) (some 1) none=sO r:=by
 rw [PyProof.Rows.slice_from_eq (b:=((x :: r).length:Int)) (by decide) (by rw [A9]; simp; omega) (by rw [A9])];have:(((x :: r).length:Int) - 1).toNat=r.length:=by simp
 rw [this];show (⟨((((x :: r).drop 1)).take r.length).toArray⟩:Str)=_;simp
def dgs (n:Nat):List Nat:=(Nat.toDigits 10 n).map Char.toNat
theorem Q0 {n:Nat} (h:n < 10):dgs n=[48 + n]:=by
 unfold dgs;rw [Nat.toDigits_of_lt_base h];have:∀ d:Nat,d < 10->(Nat.digitChar d).toNat=48 + d:=by decide
 show [(Nat.digitChar n).toNat]=_;rw [this n h]
theorem A1q {q d:Nat} (hq:0 < q) (hd:d < 10):dgs (10 * q + d)=dgs q++[48 + d]:=by
 have e:=Nat.toDigits_append_toDigits (b:=10) (n:=q) (d:=d) (by decide) hq hd;unfold dgs;rw [<- e,Zc];have:=Q0 hd;unfold dgs at this;rw [this]
theorem U4 {n:Nat} (h:10<=n):dgs n=dgs (n / 10)++[48 + n % 10]:=by
 rw [<- A1q (by omega) (Nat.mod_lt n (by decide)),Nat.div_add_mod]
theorem A0k (n:Nat):dgs n≠[]:=by
 by_cases h:n < 10
 ·rw [Q0 h]; simp
 ·rw [U4 (by omega)]; simp
theorem O6 (n:Nat):∀ c ∈ dgs n,48<=c/\c<=57:=by
 induction n using Nat.strongRecOn with
 | _ n ih =>
  intro c hc;by_cases h:n < 10
  ·rw [Q0 h] at hc;have:=Zn hc;omega
  ·rw [U4 (by omega)] at hc;rcases Za hc with hc | hc
   ·exact ih (n / 10) (by omega) c hc
   ·have:=Zn hc;have:=Nat.mod_lt n (show 0 < 10 by decide);omega
theorem C26 (n:Nat):PySem.NumText.digitsVal (dgs n)=n:=PySem.W.KIN.val_back n
theorem dgs_len {k n:Nat}:n < 10 ^ (k + 1) ↔ (dgs n).length<=k + 1:=by
 induction k generalizing n with
 | zero =>
  by_cases h:n < 10
  ·rw [Q0 h]; simp; omega
  ·rw [U4 (by omega),Ze];have:=List.length_pos_iff.mpr (A0k (n / 10));simp only [List.length_cons,List.length_nil];constructor
   ·intro z; omega
   ·intro z; omega
 | succ k ih =>
  by_cases h:n < 10
  ·rw [Q0 h];have:10 ^ (k + 1 + 1) ≥ 10:=by rw [Nat.pow_succ]; exact Nat.le_mul_of_pos_left 10 (Nat.pow_pos (by decide))
   simp only [List.length_cons,List.length_nil];constructor
   ·intro; omega
   ·intro; omega
  ·rw [U4 (by omega),Ze];simp only [List.length_cons,List.length_nil];have:=ih (n:=n / 10);rw [show 10 ^ (k + 1 + 1)=10 * 10 ^ (k + 1) by rw [Nat.pow_succ,Nat.mul_comm]];constructor
   ·intro z;have:=this.mp (by omega);omega
   ·intro z;have:=this.mpr (by omega);omega
def padN:Nat->Nat->List Nat
 | 0,_=>[]
 | k + 1,m=>padN k (m / 10)++[48 + m % 10]
theorem B4c:∀ {k q r:Nat},0 < q->r < 10 ^ k->dgs (10 ^ k * q + r)=dgs q++padN k r
 | 0,q,r,_,hr=>by
  have:r=0:=by simpa using hr
  subst this;simp [padN]
 | k + 1,q,r,hq,hr=>by
  have e1:10 ^ (k + 1) * q + r=10 * (10 ^ k * q + r / 10) + r % 10:=by
   have:=Nat.div_add_mod r 10;rw [Nat.pow_succ,Nat.mul_comm (10 ^ k) 10,Nat.mul_assoc];omega
  have hr':r / 10 < 10 ^ k:=by rw [Nat.pow_succ] at hr; omega
  have hp:0 < 10 ^ k * q:=Nat.mul_pos (Nat.pow_pos (by decide)) hq;rw [e1,A1q (by omega) (Nat.mod_lt r (by decide)),B4c hq hr'];show _=dgs q++(padN k (r / 10)++[48 + r % 10]);rw [List.append_assoc]
theorem A2r:∀ k:Nat,padN k 0=List.replicate k 48
 | 0=>rfl
 | k + 1=>by show padN k (0 / 10)++[48 + 0 % 10]=_; rw [Nat.zero_div,A2r k,List.replicate_succ']
theorem B0n:∀ {k m:Nat},m < 10 ^ (k + 1)->padN (k + 1) m=List.replicate (k + 1 - (dgs m).length) 48++dgs m
 | 0,m,h=>by
  rw [Q0 (by omega)];show padN 0 (m / 10)++[48 + m % 10]=_;have:m % 10=m:=by omega
  rw [this]; rfl
 | k + 1,m,h=>by
  show padN (k + 1) (m / 10)++[48 + m % 10]=_;by_cases hm:m < 10
  ·have e0:m / 10=0:=by omega
   have e1:m % 10=m:=by omega
   rw [e0,e1,A2r,Q0 hm]; rfl
  ·have h':m / 10 < 10 ^ (k + 1):=by
    rw [show 10 ^ (k + 1 + 1)=10 * 10 ^ (k + 1) by rw [Nat.pow_succ,Nat.mul_comm]] at h;omega
   rw [B0n h',U4 (by omega:10<=m),Ze,List.append_assoc];simp only [List.length_cons,List.length_nil];congr 2
   omega
theorem B49 {m:Nat} (h:m < 10 ^ 18):Txt.zfill (sO (dgs m)) 18=sO (padN 18 m):=by
 have hl:(dgs m).length<=18:=dgs_len.mp h;rw [B0n h];unfold Txt.zfill;rw [A9];split
 ·rename_i z;have:(dgs m).length=18:=by omega
  rw [this]; rfl
 ·have hd:=O6 m;cases e:dgs m with
  | nil=>exact absurd e (A0k m)
  | cons c r =>
   have hc:=hd c (by rw [e]; exact Zy);have:PySem.zfilled (sO (c :: r)) ((18:Int).toNat - (c :: r).length)=Builtin.Str.padded (sO (c :: r)) ((18:Int).toNat - (c :: r).length) 0 48:=by
    unfold PySem.zfilled;split
    ·rename_i q; have:c=43:=by simpa using q
     omega
    ·rename_i q; have:c=45:=by simpa using q
     omega
    ·rfl
   rw [this];unfold Builtin.Str.padded;show Str.mk _=Str.mk _;congr 1
   apply Array.toList_inj.mp;simp
def whL (n:Int):List Nat:=if n < 0 then 45 :: dgs n.natAbs else dgs n.natAbs
theorem K3 {n:Int} (h:0<=n):Str.ofString (toString n)=sO (dgs n.natAbs):=by
 obtain ⟨m,rfl⟩:=Zi h;rw [B7w];have:(toString ((m:Nat):Int)).toList=Nat.toDigits 10 m:=by
  show (Int.repr _).toList=_;unfold Int.repr;show (Nat.repr m).toList=_;unfold Nat.repr;simp
 rw [this]; rfl
def C6:List Nat->List Nat
 | []=>[]
 | c :: r=>if c=45 then r else c :: r
def digB (c:Nat):Bool:=decide (48<=c) && decide (c<=57)
def valL (l:List Nat):Int:=if l.head?=some 45 then -((PySem.NumText.digitsVal (C6 l):Nat):Int) else ((PySem.NumText.digitsVal (C6 l):Nat):Int)
def wIn (l:List Nat):Option Int:=if 1<=(C6 l).length/\(C6 l).length<=60/\(C6 l).all digB=true then (if whL (valL l)=l then some (valL l) else none) else none
theorem A5g (n:Int):C6 (whL n)=dgs n.natAbs:=by
 unfold whL;split
 ·show (if 45=45 then dgs n.natAbs else 45 :: dgs n.natAbs)=_; rw [if_pos rfl]
 ·cases e:dgs n.natAbs with
  | nil=>exact absurd e (A0k _)
  | cons c r =>
   have:=O6 n.natAbs c (by rw [e]; exact Zy);show (if c=45 then _ else _)=_;rw [if_neg (by omega)]
theorem C3j (n:Int):valL (whL n)=n:=by
 unfold valL;rw [A5g,C26];unfold whL;split
 ·rename_i h;rw [if_pos (by rfl)]; omega
 ·rename_i h;rw [if_neg]
  ·omega
  ·cases e:dgs n.natAbs with
   | nil=>exact absurd e (A0k _)
   | cons c r =>
    have:=O6 n.natAbs c (by rw [e]; exact Zy);intro z;have:c=45:=by simpa using z
    omega
theorem C25 (n:Nat):(dgs n).all digB=true:=List.all_eq_true.mpr fun c hc=>by
 have:=O6 n c hc;unfold digB;rw [Zk this.1,Zk this.2]; rfl
theorem A5p {n:Int} (h:(dgs n.natAbs).length<=60):wIn (whL n)=some n:=by
 unfold wIn;rw [A5g,C3j,if_pos ⟨List.length_pos_iff.mpr (A0k _),h,C25 _⟩,if_pos rfl]
theorem A81 {l:List Nat} {n:Int} (h:wIn l=some n):l=whL n/\(dgs n.natAbs).length<=60:=by
 unfold wIn at h;split at h
 ·rename_i c;split at h
  ·rename_i e;have en:valL l=n:=Zj h;rw [en] at e;have:=c.2.1;rw [<- e,A5g] at this;exact ⟨e.symm,this⟩
  ·cases h
 ·cases h
theorem A4f {c:Nat} {l:List Nat} (hc:c ∈ l) (h1:digB c=false) (h2:c≠45):wIn l=none:=by
 have hb:c ∈ C6 l:=by
  cases l with
  | nil=>cases hc
  | cons x r =>
   show c ∈ (if x=45 then r else x :: r);by_cases e:x=45
   ·rw [if_pos e];rcases List.mem_cons.mp hc with m | m
    ·exact absurd (m.trans e) h2
    ·exact m
   ·rw [if_neg e]; exact hc
 unfold wIn;rw [if_neg];intro z;have:=List.all_eq_true.mp z.2.2 c hb;rw [h1] at this;cases this
def rIn (l:List Nat):Option (Int × Int) :=
 match wIn (parS 47 l).1,(if (parS 47 l).2.1=[47] then wIn (parS 47 l).2.2 else some 1) with
 | some t,some b=>if (parS 47 l).2.1=[47]/\(b < 2\/((Int.gcd t b:Nat):Int)≠1) then none else some (t,b)
 | _,_=>none
def rtL (q:Rat):List Nat:=whL q.num++(if 1 < q.den then 47 :: dgs q.den else [])
theorem L9 (n:Int):∀ c ∈ whL n,c=45\/(48<=c/\c<=57):=fun c hc=>by
 unfold whL at hc;split at hc
 ·rcases List.mem_cons.mp hc with m | m
  ·exact .inl m
  ·exact .inr (O6 _ c m)
 ·exact .inr (O6 _ c hc)
theorem C3h (n:Int):47 ∉ whL n:=fun m=>by
 rcases L9 n 47 m with h | h <;> omega
theorem C4r (q:Rat):parS 47 (rtL q)=if 1 < q.den then (whL q.num,[47],dgs q.den) else (whL q.num,[],[]):=by
 unfold rtL;by_cases h:1 < q.den
 ·rw [if_pos h,if_pos h];unfold parS;rw [V5 (C3h _)]
 ·rw [if_neg h,if_neg h,List.append_nil];unfold parS;rw [T3 (C3h _)]
theorem A1v (n:Nat):whL (n:Int)=dgs n:=by
 unfold whL;rw [if_neg (by omega)]; rfl
theorem C27 {q:Rat} (h:¬ 1 < q.den):q.den=1:=by have:=q.den_pos; omega
theorem C36 {q:Rat} (h1:(dgs q.num.natAbs).length<=60) (h2:(dgs q.den).length<=60):rIn (rtL q)=some (q.num,(q.den:Int)):=by
 unfold rIn;rw [C4r];by_cases h:1 < q.den
 ·simp only [if_pos h];have e2:wIn (dgs q.den)=some (q.den:Int):=by rw [<- A1v]; exact A5p (by simpa using h2)
  rw [A5p h1,if_pos True.intro,e2];show (if _ then _ else _)=_;rw [if_neg];rintro ⟨_,z | z⟩
  ·omega
  ·apply z;have:=q.reduced;have:Int.gcd q.num (q.den:Int)=1:=this;rw [this]; rfl
 ·simp only [if_neg h];rw [A5p h1,if_neg (by simp)];show (if _ then _ else _)=_;rw [if_neg (by simp),C27 h]; rfl
theorem T6 (c:Nat) (l:List Nat):(parS c l).1++(parS c l).2.1++(parS c l).2.2=l/\(((parS c l).2.1=[]/\(parS c l).2.2=[])\/(parS c l).2.1=[c]):=by
 unfold parS;cases h:cutS c l with
 | none=>exact ⟨by simp,.inl ⟨rfl,rfl⟩⟩
 | some p =>
  obtain ⟨h1,_⟩:=A3n h;exact ⟨by rw [h1]; simp,.inr rfl⟩
theorem A9t {c:Nat} {l:List Nat} (hc:c ∈ l) (h1:digB c=false) (h2:c≠45) (h3:c≠47):rIn l=none:=by
 obtain ⟨e,k⟩:=T6 47 l;unfold rIn;rw [<- e,List.append_assoc] at hc;rcases Za hc with m | m
 ·rw [A4f m h1 h2]
 ·rcases k with ⟨k1,k2⟩ | k
  ·rw [k1,k2] at m; cases m
  ·rw [k] at m ⊢;rcases Za m with m | m
   ·exact absurd (Zn m) h3
   ·simp only [if_true];rw [A4f m h1 h2];cases wIn (parS 47 l).1 <;> rfl
def oI:Option Int->PyData
 | none=>.none
 | some n=>.int n
def oR:Option (Int × Int)->PyData
 | none=>.none
 | some p=>.tuple [.int p.1,.int p.2]
theorem C30 {q:Rat} {a b:Nat} (h1:q.num.natAbs < 10 ^ (a + 1)) (h2:q.den < 10 ^ (b + 1)):(rtL q).length<=a + b + 4:=by
 have e1:=dgs_len.mp h1;have e2:=dgs_len.mp h2;unfold rtL whL;rw [Ze];split <;> split <;> simp only [List.length_cons,List.length_nil] <;> omega
theorem m45:Str.ofString "-"=sO [45]:=by decide +kernel
theorem m47:Str.ofString "/"=sO [47]:=by decide +kernel
theorem mE:Str.ofString ""=sO []:=by decide +kernel
theorem mFig:Str.ofString "0123456789"=sO [48,49,50,51,52,53,54,55,56,57]:=by decide +kernel
theorem A0u (l:List Nat):A9p (sO l)=l.map sgn:=rfl
theorem C0i (c:Nat):(!(Builtin.Str.occurrences (sO [48,49,50,51,52,53,54,55,56,57]) ⟨#[c]⟩ 0 (sO [48,49,50,51,52,53,54,55,56,57]).length 1).isEmpty)=digB c:=by
 rw [PySem.StrLaws.found_one];unfold digB;rw [<- Bool.decide_and];refine decide_eq_decide.mpr ?_;show c ∈ [48,49,50,51,52,53,54,55,56,57] ↔ _;simp only [List.mem_cons,List.not_mem_nil,or_false];omega
theorem E8 {l:List Nat} (h:∀ c ∈ l,c < 128):(PyData.str (sO l)).canLay0=true:=by
 show PyData.strOk (sO l)=true;unfold PyData.strOk;show l.toArray.all (fun x=>decide (x < 1114112))=true;rw [List.all_toArray];exact List.all_eq_true.mpr fun c hc=>Zk (Nat.lt_trans (h c hc) (by decide))
theorem N3 (a b:List Nat):(PyData.str (sO a)).eqv (.str (sO b))=decide (a=b):=by
 show (sO a == sO b)=_;by_cases h:a=b
 ·rw [h,Zk rfl]; simp
 ·rw [Zd h];exact beq_eq_false_iff_ne.mpr fun z=>h (B7x z)
theorem B7j:∀ (n:Nat) {l:List Nat},l.length=n->(∀ c ∈ l,48<=c/\c<=57)->PySem.NumText.digitsVal l < 10 ^ l.length
 | 0,l,hn,_=>by rw [List.length_eq_zero_iff.mp hn]; decide
 | n + 1,l,hn,h=>by
  have ne:l≠[]:=fun z=>by rw [z] at hn; cases hn
  have e:=List.dropLast_concat_getLast ne;have hl:l.dropLast.length=n:=by rw [List.length_dropLast,hn]; rfl
  have h1:=B7j n hl fun d hd=>h d (List.dropLast_subset l hd);have h2:=h (l.getLast ne) (List.getLast_mem ne);rw [<- e,PySem.NumText.digitsVal_snoc,Ze,List.length_singleton,Nat.pow_succ];omega
theorem M8 {l:List Nat} (h:l.all digB=true):∀ c ∈ l,48<=c/\c<=57:=fun c hc=>by
 have:=List.all_eq_true.mp h c hc;unfold digB at this;simp only [Bool.and_eq_true,decide_eq_true_eq] at this;exact this
theorem C0g {l:List Nat} (h:(C6 l).all digB=true) (h1:1<=(C6 l).length) (h2:l.length<=1000):PySem.intText? (sO l)=some (valL l):=by
 have hd:=M8 h;have hl:(sO l).length<=4300:=by rw [A9]; omega
 cases l with
 | nil=>exact absurd h1 (by decide)
 | cons c r =>
  by_cases e:c=45
  ·subst e;have eb:C6 (45 :: r)=r:=by
    show (if 45=45 then r else 45 :: r)=r;exact if_pos rfl
   rw [eb] at hd h1;have:=PySem.intText_neg (x:=sO (45 :: r)) (cs:=r) rfl hd (List.length_pos_iff.mp h1) hl;rw [this];unfold valL;rw [if_pos (show (45 :: r).head?=some 45 from rfl),eb]
  ·have eb:C6 (c :: r)=c :: r:=if_neg e;rw [eb] at hd;have:=PySem.intText_digits (x:=sO (c :: r)) hd (by simp) hl;rw [this];unfold valL;rw [if_neg (by simpa using e),eb]
theorem A83 {l:List Nat} (h:(C6 l).all digB=true) (h2:(C6 l).length<=60):(valL l).natAbs < 10 ^ 60:=by
 have:=B7j _ rfl (M8 h);have h3:10 ^ (C6 l).length<=10 ^ 60:=Zp (by decide) h2;unfold valL;split <;> omega
theorem b300 {n:Nat} (h:n < 10 ^ 300):n < 2 ^ 1000:=Nat.lt_of_lt_of_le h (by decide +kernel)
theorem A47 {i:Int} (h:i.natAbs < 10 ^ 300):i.natAbs.log2 < 1920:=Nat.lt_of_lt_of_le (Sm.log (k:=1000) (b300 h) (by decide)) (by decide)
theorem B5i {i:Int} (h:i.natAbs < 10 ^ 300):Sm 8000 i:=Sm.mono (k:=1000) (b300 h) (by decide)
theorem R7 {n:Nat} (h:n < 10 ^ 60):n < 10 ^ 300:=Nat.lt_of_lt_of_le h (by decide +kernel)
theorem P1:∀ ls:List (List Nat),A12 (ls.map fun l=>PyData.str (sO l))=some (ls.map sO)
 | []=>rfl
 | l :: r=>by
  show (A12 (r.map fun l=>PyData.str (sO l))).map (sO l :: ·)=_;rw [P1 r]; rfl
theorem B3w:∀ ls:List (List Nat),(sO []).join (ls.map sO)=sO ls.flatten
 | []=>rfl
 | [a]=>by show sO a=_; simp
 | a :: b :: r=>by
  show sO a++sO []++Str.join (sO []) ((b :: r).map sO)=_;rw [B3w (b :: r),C8,C8]; simp
theorem B7t:∀ ls:List (List Nat),((ls.map sO).map fun z=>z.length + (sO []).length).sum=ls.flatten.length
 | []=>rfl
 | a :: r=>by
  show ((sO a).length + 0) + ((r.map sO).map fun z=>z.length + (sO []).length).sum=_;rw [B7t r,A9]; simp
theorem A6a:∀ (k m:Nat),(padN k m).length=k
 | 0,_=>rfl
 | k + 1,m=>by show (padN k (m / 10)++[48 + m % 10]).length=_; rw [Ze,A6a k]; rfl
theorem A7h {k:Nat}:∀ {ls:List (List Nat)},(∀ l ∈ ls,l.length=k)->ls.flatten.length=k * ls.length
 | [],_=>rfl
 | a :: r,h=>by
  rw [List.flatten_cons,Ze,h a Zy,A7h fun l hl=>h l (Zr _ hl),List.length_cons,Nat.mul_succ,Nat.add_comm]
theorem B4d {n:Nat} (h:n < 10 ^ 300):(dgs n).length<=300:=dgs_len.mp h
theorem B2w (n:Int):(if n < 0 then -n else n)=((n.natAbs:Nat):Int):=by split <;> omega
def strB (c:Nat):Bool:=!digB c && !(c == 45) && !(c == 47) && decide (c < 128)
def OddX:PyData->Prop
 | .str z=>z.length<=1000/\rIn z.cps.toList=none
 | .dict _=>False
 | _=>True
theorem C8t {c:Nat} {l:List Nat} (hc:c ∈ l) (hs:strB c=true) (hl:l.length<=1000):OddX (.str (sO l)):=by
 unfold strB at hs;simp only [Bool.and_eq_true,Bool.not_eq_true',beq_eq_false_iff_ne,decide_eq_true_eq] at hs;exact ⟨by rw [A9]; exact hl,A9t hc hs.1.1.1 hs.1.1.2 hs.1.2⟩
theorem B5l (q:Rat):∀ c ∈ rtL q,c < 128:=fun c hc=>by
 unfold rtL at hc;rcases Za hc with m | m
 ·have:=L9 _ c m;omega
 ·split at m
  ·rcases List.mem_cons.mp m with m | m
   ·omega
   ·have:=O6 _ c m;omega
  ·cases m
theorem Y5 {q:Rat} (h1:q.num.natAbs < 10 ^ 60) (h2:q.den < 10 ^ 60):(rtL q).length<=130:=by
 have:=C30 (a:=59) (b:=59) h1 h2;omega
theorem B4z {P:PyData->Prop} {xs:LP} {d:Int} (h:∀ x ∈ xs,P x) (d0:0<=d) (d1:d < xs.length):∃ x,P x/\L2.atI xs d=some x:=by
 obtain ⟨m,rfl⟩:=Zi d0;have hm:m < xs.length:=by omega
 exact ⟨xs[m],h _ (List.getElem_mem hm),K1 (Zg hm)⟩
def strL:List Nat:=[33,34,35,36,38,39,40,41,42,43,46,59,60,61,62,63,64,65,66,67,68,69,70,71,72,73,74,75,76,77,78,79,80,81,82,83,84,85,86,87,88,89,90,92,94,95,96,123,125,126,9]
theorem mStr:Str.ofString "!\"#$&'()*+.;<=>?@ABCDEFGHIJKLMNOPQRSTUVWXYZ\\^_`{}~\t"=sO strL:=by decide +kernel
theorem U9 {l:List Nat} {i:Nat} (h:i<=l.length):Txt.slice (sO l) none (some (i:Int))=sO (l.take i):=by
 have:=PyProof.Rows.slice_closes_to (x:=sO l) (j:=(i:Int)) ⟨Int.natCast_nonneg _,by show (i:Int)<=(l.length:Int); omega⟩;rw [eq_of_beq this];show (⟨((l.drop (0:Int).toNat).take ((i:Int) - 0).toNat).toArray⟩:Str)=_;have e:((i:Int) - 0).toNat=i:=by omega
 rw [e]; rfl
theorem V0 {l:List Nat} {i:Nat} (h:i<=l.length):Txt.slice (sO l) (some (i:Int)) none=sO (l.drop i):=by
 rw [PyProof.Rows.slice_from_eq (b:=(l.length:Int)) (Int.natCast_nonneg _) (by rw [A9]; omega) (by rw [A9])];show (⟨((l.drop (i:Int).toNat).take ((l.length:Int) - (i:Int)).toNat).toArray⟩:Str)=_;have e:((l.length:Int) - (i:Int)).toNat=l.length - i:=by omega
 rw [e,Int.toNat_natCast,List.take_of_length_le (by rw [List.length_drop]; exact Zv _)]
theorem C6n:(PyData.str (sO [47])).canLay0=true:=E8 fun c hc=>by have:=Zn hc; omega
theorem C6o:(PyData.str (sO [])).canLay0=true:=E8 fun _ z=>nomatch z
theorem C8m (ns:List Int):cutD (ns.map PyData.int) none (some 63)=(ns.take 63).map .int:=by
 unfold cutD;have e1:HT.sIx (ns.map PyData.int).length 0 none=0:=rfl;have e2:HT.sIx (ns.map PyData.int).length (ns.map PyData.int).length (some 63)=min 63 ns.length:=by unfold HT.sIx; simp
 rw [e1,e2,List.drop_zero,Nat.sub_zero,<- List.map_take];congr 1
 rw [List.take_eq_take_iff]; omega
theorem C8i {p q:Rat} (h1:p.num.natAbs < 10 ^ 60) (h2:p.den < 10 ^ 60) (h3:q.num.natAbs < 10 ^ 60) (h4:q.den < 10 ^ 60):SmQ 3900 p/\SmQ 3900 q/\(p * q).num.natAbs < 10 ^ 120/\(p * q).den < 10 ^ 120:=by
 have b1:10 ^ 60<=2 ^ 200:=by decide +kernel
 have hp:SmR 200 200 p:=⟨Nat.lt_of_lt_of_le h1 b1,Nat.lt_of_lt_of_le h2 b1⟩;have hq:SmR 200 200 q:=⟨Nat.lt_of_lt_of_le h3 b1,Nat.lt_of_lt_of_le h4 b1⟩;refine ⟨hp.q (by decide) (by decide),hq.q (by decide) (by decide),?_,?_⟩
 ·have e:(p * q).num=(p.num * q.num) / ((Nat.gcd (p.num * q.num).natAbs (p.den * q.den):Nat):Int):=Rat.num_mul p q;rw [e];have l1:((p.num * q.num) / ((Nat.gcd (p.num * q.num).natAbs (p.den * q.den):Nat):Int)).natAbs<=(p.num * q.num).natAbs:=by
   rw [Int.natAbs_ediv_of_dvd (Int.ofNat_dvd_left.mpr (Nat.gcd_dvd_left _ _))];exact Nat.div_le_self _ _
  have l2:(p.num * q.num).natAbs < 10 ^ 120:=by
   rw [Int.natAbs_mul];exact Nat.lt_of_lt_of_le (Nat.mul_lt_mul'' h1 h3) (by decide)
  exact Nat.lt_of_le_of_lt l1 l2
 ·have e:(p * q).den=(p.den * q.den) / (Nat.gcd (p.num * q.num).natAbs (p.den * q.den)):=Rat.den_mul p q;rw [e];exact Nat.lt_of_le_of_lt (Nat.div_le_self _ _) (Nat.lt_of_lt_of_le (Nat.mul_lt_mul'' h2 h4) (by decide))
theorem A3k {t b:Int} (hb:0 < b):(Rat.divInt t b).num.natAbs<=t.natAbs/\(Rat.divInt t b).den<=b.natAbs:=by
 rw [Rat.num_divInt,Rat.den_divInt,Int.sign_eq_one_of_pos hb,Int.one_mul,if_neg (by omega)];refine ⟨?_,Nat.div_le_self _ _⟩;rw [Int.natAbs_ediv_of_dvd (Int.gcd_dvd_right ..)];exact Nat.div_le_self _ _
def Pz (x:PyData):Prop:=∃ n:Int,x=.int n/\0 < n/\n<=10 ^ 60
def Pw (x:PyData):Prop:=∃ n:Int,x=.int n/\0 < n/\n < 10 ^ 60
theorem sz {n:Int} (h0:0<=n) (h:n<=10 ^ 60):n.natAbs<=10 ^ 60:=by
 have e:(10:Int) ^ 60=((10 ^ 60:Nat):Int):=by decide +kernel
 rw [e] at h;generalize 10 ^ 60=N at *;omega
theorem smz {n:Int} (h0:0<=n) (h:n<=10 ^ 60):Sm 3000 n:=Nat.lt_of_le_of_lt (sz h0 h) (by decide +kernel)
theorem C7v:∀ x ∈ [PyData.int 3,PyData.int 40,PyData.int (10 ^ Int.toNat 6),PyData.int (10 ^ Int.toNat 30),PyData.int (10 ^ Int.toNat 60)],Pz x:=by
 intro x hx;simp only [List.mem_cons,List.not_mem_nil,or_false] at hx;rcases hx with rfl | rfl | rfl | rfl | rfl
 ·exact ⟨_,rfl,by decide +kernel,by decide +kernel⟩
 ·exact ⟨_,rfl,by decide +kernel,by decide +kernel⟩
 ·exact ⟨_,rfl,by decide +kernel,by decide +kernel⟩
 ·exact ⟨_,rfl,by decide +kernel,by decide +kernel⟩
 ·exact ⟨_,rfl,by decide +kernel,by decide +kernel⟩
theorem C8o:∀ x ∈ [PyData.int 1,PyData.int 12,PyData.int (10 ^ Int.toNat 60 - 1)],Pw x:=by
 intro x hx;simp only [List.mem_cons,List.not_mem_nil,or_false] at hx;rcases hx with rfl | rfl | rfl
 ·exact ⟨_,rfl,by decide +kernel,by decide +kernel⟩
 ·exact ⟨_,rfl,by decide +kernel,by decide +kernel⟩
 ·exact ⟨_,rfl,by decide +kernel,by decide +kernel⟩
theorem A60:∀ ns:List Int,(PyData.list (ns.map .int)).canLay0=true
 | []=>rfl
 | a :: r=>by show (true && (PyData.list (r.map .int)).canLay0)=true; rw [A60 r]; rfl
theorem B62 (ns:List Int):(PyData.list (ns.map .int)).depth<=60:=by
 have:∀ ns:List Int,PyData.depthAll (ns.map .int)<=0:=fun ns=>by
  induction ns with
  | nil=>exact Zv _
  | cons a r ih=>show max 0 (PyData.depthAll (r.map .int))<=0; omega
 exact Nat.succ_le_succ (Zx (this ns) (by decide))
theorem smN {n:Nat} (h:n<=1000):Sm 4000 ((n:Nat):Int):=Nat.lt_of_le_of_lt h (Nat.lt_of_lt_of_le (show 1000 < 2 ^ 10 by decide) (Zp (by decide) (by decide)))
theorem B40 {P:Nat->Prop} {xs:List Nat} {d:Int} (h:∀ x ∈ xs,P x) (d0:0<=d) (d1:d < xs.length):∃ x,P x/\L2.atI xs d=some x:=by
 obtain ⟨m,rfl⟩:=Zi d0;have hm:m < xs.length:=by omega
 exact ⟨xs[m],h _ (List.getElem_mem hm),K1 (Zg hm)⟩
open PySem.Builtin PySem.Builtin.Str PySem.StrLaws in
theorem B7u (s sub:Str) (i:Nat):subAt s sub i=((s.cps.toList.drop i).take sub.length == sub.cps.toList):=subAt_eq s sub i
def occL (P:Nat->Bool) (w:Nat):List Nat->Nat->List Nat
 | [],_=>[]
 | i :: l,free=>if (decide (free<=i) && P i)=true then i :: occL P w l (i + w) else occL P w l free
open PySem.Builtin PySem.Builtin.Str PySem.StrLaws in
theorem V4 (s sub:Str) (hi limit:Nat):∀ (l:List Nat) (st:Array Nat × Nat),st.fst.size + l.length<=limit->(forIn l st (occBody s sub hi limit)).run.fst.toList=st.fst.toList++occL (fun i=>decide (i + sub.length<=hi) && subAt s sub i) sub.length l st.snd
 | [],st,_=>by show st.fst.toList=st.fst.toList++[]; simp
 | i :: l,st,h=>by
  rw [List.length_cons] at h;rw [List.forIn_cons];unfold occBody;by_cases hc:((st.fst.size < limit/\st.snd<=i)/\i + sub.length<=hi)/\subAt s sub i=true
  ·rw [if_pos hc];refine (V4 s sub hi limit l (st.fst.push i,i + sub.length) (by rw [Array.size_push]; omega)).trans ?_;rw [Array.toList_push,List.append_assoc];show _=_++(if (decide (st.snd<=i) && (decide (i + sub.length<=hi) && subAt s sub i))=true then _ else _);rw [if_pos (by rw [Zk hc.1.1.2,Zk hc.1.2,hc.2]; rfl)]; rfl
  ·rw [if_neg hc];refine (V4 s sub hi limit l st (by omega)).trans ?_;show _=_++(if (decide (st.snd<=i) && (decide (i + sub.length<=hi) && subAt s sub i))=true then _ else _);rw [if_neg (fun z=>hc (by
    rw [Bool.and_eq_true,Bool.and_eq_true,decide_eq_true_eq,decide_eq_true_eq] at z;exact ⟨⟨⟨by omega,z.1⟩,z.2.1⟩,z.2.2⟩))]
theorem S9 (P:Nat->Bool) (w:Nat):∀ (k a m free:Nat),k<=m->(∀ i,a<=i->i < a + k->free<=i->P i=false)->occL P w (List.range' a m) free=occL P w (List.range' (a + k) (m - k)) free
 | 0,a,m,free,_,_=>by rw [Nat.add_zero,Nat.sub_zero]
 | k + 1,a,m + 1,free,h,hp=>by
  rw [List.range'_succ];show (if (decide (free<=a) && P a)=true then _ else _)=_;rw [if_neg (fun z=>by
   rw [Bool.and_eq_true,decide_eq_true_eq] at z;rw [hp a (Zv _) (by omega) z.1] at z;exact absurd z.2 (by decide))]
  rw [S9 P w k (a + 1) m free (by omega) fun i h1 h2 h3=>hp i (by omega) (by omega) h3];congr 2 <;> omega
def F7 (y:List Nat):List (List Nat)->List Nat
 | []=>[]
 | [p]=>p
 | p :: q :: r=>p++y++F7 y (q :: r)
theorem J6 {y p q:List Nat} {r:List (List Nat)}:F7 y (p :: q :: r)=p++y++F7 y (q :: r):=rfl
theorem P5 (y:List Nat):∀ ls:List (List Nat),(sO y).join (ls.map sO)=sO (F7 y ls)
 | []=>rfl
 | [p]=>rfl
 | p :: q :: r=>by
  show sO p++sO y++(sO y).join ((q :: r).map sO)=_;rw [P5 y (q :: r),C8,C8]; rfl
def A3l (w:Nat):Nat->List (List Nat)->List Nat
 | a,p :: q :: r=>(a + p.length) :: A3l w (a + p.length + w) (q :: r)
 | _,_=>[]
open PySem.Builtin PySem.Builtin.Str PySem.StrLaws in
theorem A6q {xs y':List Nat} {c:Nat}:∀ (ps:List (List Nat)) (pre:List Nat),ps≠[]->xs=pre++F7 (c :: y') ps->(∀ p ∈ ps,c ∉ p) ->
  occL (fun i=>decide (i + (y'.length + 1)<=xs.length) && ((xs.drop i).take (y'.length + 1) == c :: y')) (y'.length + 1) (List.range' pre.length (xs.length + 1 - pre.length)) pre.length=A3l (y'.length + 1) pre.length ps
 | [],_,h,_,_=>absurd rfl h
 | [p],pre,_,hx,hp=>by
  have hx:xs=pre++p:=hx;have hn:xs.length=pre.length + p.length:=by rw [hx,Ze]
  rw [S9 _ _ (xs.length + 1 - pre.length) _ _ _ (Zv _),Nat.sub_self]
  ·rfl
  ·intro i h1 h2 _;by_cases hi:i < xs.length
   ·have hm:xs[i]?≠some c:=fun e=>by
     rw [hx,List.getElem?_append_right h1] at e;exact hp p Zy (Zm e)
    rw [Bool.and_eq_false_iff]; right;refine Bool.eq_false_iff.mpr fun e=>hm ?_;have e:=eq_of_beq e;have e0:=congrArg (fun l:List Nat=>l[0]?) e;simp only [List.getElem?_cons_zero] at e0;rw [List.getElem?_take,if_pos (by omega),List.getElem?_drop] at e0;simpa using e0
   ·rw [Zd (by omega)]; rfl
 | p :: q :: r,pre,_,hx,hp=>by
  rw [J6] at hx;have hn:xs.length=pre.length + p.length + (y'.length + 1) + (F7 (c :: y') (q :: r)).length:=by
   rw [hx]; simp only [List.length_append,List.length_cons]; omega
  rw [S9 _ _ p.length _ _ _ (by omega) fun i h1 h2 _=>?_]
  ·have e1:xs.length + 1 - pre.length - p.length=(xs.length - pre.length - p.length) + 1:=by omega
   rw [e1,List.range'_succ];have ht:(xs.drop (pre.length + p.length)).take (y'.length + 1)=c :: y':=by
    rw [hx,<- List.append_assoc,<- List.append_assoc,List.append_assoc (pre++p),<- Ze,List.drop_left];exact List.take_left (l₁:=c :: y')
   show (if (decide (pre.length<=pre.length + p.length) && (decide (pre.length + p.length + (y'.length + 1)<=xs.length) && _))=true then _ else _)=_;rw [if_pos (by rw [Zk (by omega),Zk (by omega),ht]; simp)];have ih:=A6q (xs:=xs) (y':=y') (c:=c) (q :: r) (pre++p++c :: y') (by simp) (by rw [hx]; simp) fun z hz=>hp z (Zr _ hz);have el:(pre++p++c :: y').length=pre.length + p.length + (y'.length + 1):=by simp only [List.length_append,List.length_cons]
   rw [el] at ih;show _ :: _=(pre.length + p.length) :: A3l (y'.length + 1) (pre.length + p.length + (y'.length + 1)) (q :: r);rw [<- ih,S9 _ _ y'.length _ _ _ (by omega) fun i h1 h2 h3=>by omega];congr 3 <;> omega
  ·have hm:xs[i]?≠some c:=fun e=>by
    rw [hx,List.getElem?_append_right h1,List.append_assoc,List.getElem?_append_left (by omega)] at e;exact hp p Zy (Zm e)
   rw [Bool.and_eq_false_iff]; right;refine Bool.eq_false_iff.mpr fun e=>hm ?_;have e:=eq_of_beq e;have e0:=congrArg (fun l:List Nat=>l[0]?) e;simp only [List.getElem?_cons_zero] at e0;rw [List.getElem?_take,if_pos (by omega),List.getElem?_drop] at e0;simpa using e0
open PySem.Builtin PySem.Builtin.Str PySem.StrLaws in
theorem A0c {xs y:List Nat}:∀ (ps:List (List Nat)) (pre:List Nat),ps≠[]->xs=pre++F7 y ps->partsFrom (sO xs) y.length pre.length (A3l y.length pre.length ps)=ps.map sO
 | [],_,h,_=>absurd rfl h
 | [p],pre,_,hx=>by
  have hx:xs=pre++p:=hx;show [strSub (sO xs) pre.length (sO xs).length]=[sO p];refine congrArg (· :: []) (Str.ext' (Array.toList_inj.mp ?_));rw [strSub_toList,A9];show (xs.drop pre.length).take _=p;rw [hx,List.drop_left,Ze,Nat.add_sub_cancel_left,List.take_length]
 | p :: q :: r,pre,_,hx=>by
  rw [J6] at hx;show strSub (sO xs) pre.length (pre.length + p.length) :: partsFrom (sO xs) y.length (pre.length + p.length + y.length) (A3l y.length (pre.length + p.length + y.length) (q :: r))=sO p :: (q :: r).map sO;have e1:strSub (sO xs) pre.length (pre.length + p.length)=sO p:=by
   refine Str.ext' (Array.toList_inj.mp ?_);rw [strSub_toList];show (xs.drop pre.length).take _=p;rw [hx,List.drop_left,Nat.add_sub_cancel_left,List.append_assoc,List.take_left]
  have ih:=A0c (xs:=xs) (y:=y) (q :: r) (pre++p++y) (by simp) (by rw [hx]; simp);have el:(pre++p++y).length=pre.length + p.length + y.length:=by simp only [List.length_append]
  rw [el] at ih;rw [e1,ih]
theorem B6x (a y b:List Nat):¬ PySem.Builtin.Str.strKind (sO (a++y++b)) < PySem.Builtin.Str.strKind (sO y):=by
 unfold PySem.Builtin.Str.strKind;have h:∀ n:Nat,(sO (a++y++b)).cps.all (· < n)=true->(sO y).cps.all (· < n)=true:=fun n e=>by
  simp only [List.all_toArray,List.all_eq_true] at e ⊢;exact fun z hz=>e z (by simp [hz])
 by_cases h1:(sO (a++y++b)).cps.all (· < 256)=true
 ·rw [if_pos h1,if_pos (h _ h1)]; decide
 ·rw [if_neg h1];by_cases h2:(sO (a++y++b)).cps.all (· < 65536)=true
  ·rw [if_pos h2];by_cases h3:(sO y).cps.all (· < 256)=true
   ·rw [if_pos h3]; decide
   ·rw [if_neg h3,if_pos (h _ h2)]; decide
  ·rw [if_neg h2]; split
   ·decide
   ·split <;> decide
open PySem.Builtin PySem.Builtin.Str PySem.StrLaws in
theorem B6l {y':List Nat} {c:Nat} (ps:List (List Nat)) (h:ps≠[]) (hp:∀ p ∈ ps,c ∉ p) {n m:Nat} (hn:n=(F7 (c :: y') ps).length) (hm:n + 1<=m) :
  occurrences (sO (F7 (c :: y') ps)) (sO (c :: y')) 0 n m=A3l (y'.length + 1) 0 ps:=by
 rw [occ_eq];refine (V4 _ _ _ _ _ _ (by rw [List.length_range']; show 0 + (n + 1 - 0)<=m; omega)).trans ?_;show []++_=_;rw [List.nil_append];have w:=A6q (xs:=F7 (c :: y') ps) ps [] h rfl hp;rw [<- hn] at w;refine Eq.trans ?_ w;have e:(fun i=>decide (i + (sO (c :: y')).length<=n) && subAt (sO (F7 (c :: y') ps)) (sO (c :: y')) i)=fun i=>decide (i + (y'.length + 1)<=n) && (((F7 (c :: y') ps).drop i).take (y'.length + 1) == c :: y'):=by
  funext i
  rw [B7u,A9]; rfl
 rw [e,A9]; rfl
open PySem.Builtin PySem.Builtin.Str PySem.StrLaws in
theorem A4j {y':List Nat} {c:Nat} (ps:List (List Nat)) (h:ps≠[]) (hp:∀ p ∈ ps,c ∉ p):Txt.split (sO (F7 (c :: y') ps)) (sO (c :: y'))=ps.map sO:=by
 unfold Txt.split;rw [B6l ps h hp (A9 _) (by rw [A9]; exact Zv _)];rcases ps with _ | ⟨p,_ | ⟨q,r⟩⟩
 ·exact absurd rfl h
 ·rw [if_pos (show (A3l (y'.length + 1) 0 [p]).isEmpty=true from rfl)];split <;> rfl
 ·rw [if_neg,if_neg (show ¬ (A3l (y'.length + 1) 0 (p :: q :: r)).isEmpty=true from nofun),partsBetween_eq]
  ·have:=A0c (xs:=F7 (c :: y') (p :: q :: r)) (y:=c :: y') (p :: q :: r) [] h rfl;rw [A9]; exact this
  ·rw [Bool.or_eq_true,decide_eq_true_eq,decide_eq_true_eq,J6];rintro (z | z)
   ·rw [A9,A9] at z; simp only [List.length_append] at z; omega
   ·exact B6x _ _ _ z
theorem X5 (c:Nat) (y':List Nat):∀ ps:List (List Nat),ps.length<=(F7 (c :: y') ps).count c + 1
 | []=>Nat.zero_le _
 | [_]=>Nat.le_add_left _ _
 | p :: q :: r=>by
  have:=X5 c y' (q :: r);rw [J6,List.count_append,List.count_append,List.count_cons_self];show (q :: r).length + 1<=_;omega
theorem X3 {y:List Nat} {z:Nat}:∀ {ps:List (List Nat)},z ∈ F7 y ps->z ∈ y\/∃ p ∈ ps,z ∈ p
 | [],h=>nomatch h
 | [p],h=>.inr ⟨p,Zy,h⟩
 | p :: q :: r,h=>by
  rw [J6] at h;rcases Za h with h | h
  ·rcases Za h with h | h
   ·exact .inr ⟨p,Zy,h⟩
   ·exact .inl h
  ·rcases X3 h with h | ⟨w,hw,k⟩
   ·exact .inl h
   ·exact .inr ⟨w,Zr _ hw,k⟩
theorem X4 {y:List Nat}:∀ {ps:List (List Nat)} {p:List Nat},p ∈ ps->p.length<=(F7 y ps).length
 | [q],p,h=>by rw [Zn h]; exact Zv _
 | a :: q :: r,p,h=>by
  rw [J6,Ze,Ze];rcases List.mem_cons.mp h with rfl | h
  ·omega
  ·have:=X4 (y:=y) h;omega
def splL (y l:List Nat):List (List Nat):=(Txt.split (sO l) (sO y)).map fun z=>z.cps.toList
theorem N5 (y l:List Nat):Txt.split (sO l) (sO y)=(splL y l).map sO:=by
 unfold splL;rw [List.map_map];exact (List.map_id _).symm
theorem S1 (y l:List Nat):F7 y (splL y l)=l:=by
 have h:=StrLaws.join_split (sO l) (sO y);rw [N5,P5] at h;exact B7x h
theorem W0 {c:Nat} {y':List Nat} {ps:List (List Nat)} (h:ps≠[]) (hp:∀ p ∈ ps,c ∉ p):splL (c :: y') (F7 (c :: y') ps)=ps:=by
 have e:=A4j (y':=y') (c:=c) ps h hp;unfold splL;rw [e,List.map_map];exact List.map_id _
theorem J8 (c:Nat) (y' l:List Nat):(splL (c :: y') l).length<=l.count c + 1:=by
 have:=X5 c y' (splL (c :: y') l)
 rwa [S1] at this
theorem A0s {y l:List Nat} {z:Nat} (h:z ∈ l) (hy:z ∉ y):∃ p ∈ splL y l,z ∈ p:=by
 rw [<- S1 y l] at h;exact (X3 h).resolve_left hy
theorem P3 {y l p:List Nat} (h:p ∈ splL y l):p.length<=l.length:=by
 have:=X4 (y:=y) h
 rwa [S1] at this
theorem A9l (c:Nat):∀ l:List Nat,∃ ps:List (List Nat),ps≠[]/\(∀ p ∈ ps,c ∉ p)/\F7 [c] ps=l
 | []=>⟨[[]],List.cons_ne_nil _ _,fun p h=>by rw [Zn h]; exact List.not_mem_nil,rfl⟩
 | x :: r=>by
  obtain ⟨ps,h1,h2,h3⟩:=A9l c r;cases ps with
  | nil=>exact absurd rfl h1
  | cons p q =>
   by_cases e:x=c
   ·refine ⟨[] :: p :: q,List.cons_ne_nil _ _,fun z hz=>?_,?_⟩
    ·rcases List.mem_cons.mp hz with rfl | hz
     ·exact List.not_mem_nil
     ·exact h2 z hz
    ·rw [J6,h3,e]; rfl
   ·refine ⟨(x :: p) :: q,List.cons_ne_nil _ _,fun z hz=>?_,?_⟩
    ·rcases List.mem_cons.mp hz with rfl | hz
     ·intro m;rcases List.mem_cons.mp m with m | m
      ·exact e m.symm
      ·exact h2 p Zy m
     ·exact h2 z (Zr _ hz)
    ·rw [<- h3];cases q <;> rfl
theorem wds (l:List Nat):splL [32] l≠[]/\(∀ p ∈ splL [32] l,32 ∉ p)/\F7 [32] (splL [32] l)=l:=by
 obtain ⟨ps,h1,h2,h3⟩:=A9l 32 l;have e:splL [32] l=ps:=by rw [<- h3]; exact W0 h1 h2
 rw [e]; exact ⟨h1,h2,h3⟩
theorem B0k (l:List Nat):parS 32 l=(match splL [32] l with | []=>([],[],[]) | [p]=>(p,[],[]) | p :: q :: r=>(p,[32],F7 [32] (q :: r))):=by
 obtain ⟨h1,h2,h3⟩:=wds l;rcases hs:splL [32] l with _ | ⟨p,_ | ⟨q,r⟩⟩
 ·exact absurd hs h1
 ·rw [hs] at h2 h3;have h3:p=l:=h3;subst h3;unfold parS;rw [T3 (h2 p Zy)]
 ·rw [hs] at h2 h3;have e:l=p++32 :: F7 [32] (q :: r):=by rw [<- h3,J6,List.append_assoc]; rfl
  unfold parS;rw [e,V5 (h2 p Zy)]
def qIn (l:List Nat):Option Rat:=(rIn l).map fun p=>Rat.divInt p.1 p.2
def oQ:Option Rat->PyData
 | none=>.none
 | some q=>dq q
theorem B73 {l:List Nat} {p:Int × Int} (h:rIn l=some p):0 < p.2/\Int.gcd p.1 p.2=1/\p.1.natAbs < 10 ^ 60/\p.2.natAbs < 10 ^ 60:=by
 unfold rIn at h;cases h1:wIn (parS 47 l).1 with
 | none=>rw [h1] at h; cases h
 | some t =>
  have ht:=(dgs_len (k:=59)).mpr (A81 h1).2;cases h2:(if (parS 47 l).2.1=[47] then wIn (parS 47 l).2.2 else some 1) with
  | none=>rw [h1,h2] at h; cases h
  | some b =>
   rw [h1,h2] at h;have h:(if (parS 47 l).2.1=[47]/\(b < 2\/((Int.gcd t b:Nat):Int)≠1) then none else some (t,b))=some p:=h;by_cases z:(parS 47 l).2.1=[47]
   ·rw [if_pos z] at h2;have hb:=(dgs_len (k:=59)).mpr (A81 h2).2;by_cases y:b < 2\/((Int.gcd t b:Nat):Int)≠1
    ·rw [if_pos ⟨z,y⟩] at h; cases h
    ·rw [if_neg fun w=>y w.2] at h;cases h;have y1:((Int.gcd t b:Nat):Int)=1:=Decidable.not_not.mp fun w=>y (.inr w);exact ⟨by omega,Int.ofNat.inj y1,ht,hb⟩
   ·rw [if_neg z] at h2;cases h2;rw [if_neg fun w=>z w.1] at h;cases h;exact ⟨Int.one_pos,Int.gcd_one,ht,(by decide:(1:Int).natAbs < 10 ^ 60)⟩
theorem B4b {t b:Int} (h0:0 < b) (h1:Int.gcd t b=1):(Rat.divInt t b).num=t/\((Rat.divInt t b).den:Int)=b:=by
 rw [Rat.num_divInt,Rat.den_divInt,Int.sign_eq_one_of_pos h0,Int.one_mul,if_neg (by omega),Int.gcd_comm,h1];refine ⟨by simp,?_⟩;rw [Nat.div_one]; omega
theorem B5s (l:List Nat):oR (rIn l)=oQ (qIn l):=by
 unfold qIn;cases h:rIn l with
 | none=>rfl
 | some p =>
  obtain ⟨h0,h1,_,_⟩:=B73 h;obtain ⟨e1,e2⟩:=B4b h0 h1;show PyData.tuple [.int p.1,.int p.2]=PyData.tuple [.int (Rat.divInt p.1 p.2).num,.int ((Rat.divInt p.1 p.2).den:Int)];rw [e1,e2]
theorem C4b {l:List Nat} {q:Rat} (h:qIn l=some q):q.num.natAbs < 10 ^ 60/\q.den < 10 ^ 60:=by
 unfold qIn at h;cases e:rIn l with
 | none=>rw [e] at h; cases h
 | some p =>
  rw [e] at h;cases h;obtain ⟨h0,h1,h2,h3⟩:=B73 e;obtain ⟨e1,e2⟩:=B4b h0 h1;have e3:(Rat.divInt p.1 p.2).den=p.2.natAbs:=by omega
  show (Rat.divInt p.1 p.2).num.natAbs < _/\(Rat.divInt p.1 p.2).den < _;rw [e1,e3]; exact ⟨h2,h3⟩
theorem A9z {q:Rat} (h1:q.num.natAbs < 10 ^ 60) (h2:q.den < 10 ^ 60):qIn (rtL q)=some q:=by
 unfold qIn;rw [C36 ((dgs_len (k:=59)).mp h1) ((dgs_len (k:=59)).mp h2)];show some (Rat.divInt q.num q.den)=some q;rw [Rat.num_divInt_den]
theorem A00 {c:Nat} {l:List Nat} (hc:c ∈ l) (h1:digB c=false) (h2:c≠45) (h3:c≠47):qIn l=none:=by
 unfold qIn;rw [A9t hc h1 h2 h3]; rfl
theorem C1d:qIn []=none:=by decide +kernel
def lnB (l:List Nat):Bool:=decide (1<=l.length) && decide (l.length<=60) && !(l.head? == some 48 && !decide (l=[48])) && l.all digB
def lnI (l:List Nat):Option Int:=if lnB l=true then some ((PySem.NumText.digitsVal l:Nat):Int) else none
theorem C7d:∀ (n:Nat) {l:List Nat},l.length=n + 1->(∀ c ∈ l,48<=c/\c<=57)->l.head?≠some 48->0 < PySem.NumText.digitsVal l/\dgs (PySem.NumText.digitsVal l)=l
 | 0,l,hn,h,h0=>by
  obtain ⟨c,rfl⟩:=List.length_eq_one_iff.mp hn;have hc:=h c Zy;have e:PySem.NumText.digitsVal [c]=c - 48:=by
   have:=PySem.NumText.digitsVal_snoc [] c;rw [List.nil_append] at this;rw [this];show 10 * 0 + _=_;omega
  have hne:c≠48:=fun z=>h0 (by rw [z]; rfl);rw [e];refine ⟨by omega,?_⟩;rw [Q0 (by omega)];congr 1
  omega
 | n + 1,l,hn,h,h0=>by
  have ne:l≠[]:=fun z=>by rw [z] at hn; cases hn
  have e:=List.dropLast_concat_getLast ne;have hl:l.dropLast.length=n + 1:=by rw [List.length_dropLast,hn]; rfl
  have hh:l.dropLast.head?=l.head?:=by
   cases l with
   | nil=>exact absurd rfl ne
   | cons a r=>cases r with
    | nil=>cases hn
    | cons b q=>rfl
  obtain ⟨h1,h2⟩:=C7d n hl (fun d hd=>h d (List.dropLast_subset l hd)) (by rw [hh]; exact h0);have h3:=h (l.getLast ne) (List.getLast_mem ne);have ed:PySem.NumText.digitsVal l=10 * PySem.NumText.digitsVal l.dropLast + (l.getLast ne - 48):=by
   have:=PySem.NumText.digitsVal_snoc l.dropLast (l.getLast ne);rw [e] at this;rw [this]; omega
  rw [ed];refine ⟨by omega,?_⟩;rw [A1q h1 (by omega),h2];have:48 + (l.getLast ne - 48)=l.getLast ne:=by omega
  rw [this]; exact e
theorem A7k:dgs 0=[48]:=Q0 (by decide)
theorem A7l:∀ n:Nat,0 < n->(dgs n).head?≠some 48
 | n,h=>by
  by_cases hn:n < 10
  ·rw [Q0 hn];intro z;have:48 + n=48:=by simpa using z
   omega
  ·have ih:=A7l (n / 10) (by omega);rw [U4 (by omega)];cases e:dgs (n / 10) with
   | nil=>exact absurd e (A0k _)
   | cons a r=>rw [e] at ih; exact ih
theorem A3s {l:List Nat} (h1:1<=l.length) (h:∀ c ∈ l,48<=c/\c<=57):dgs (PySem.NumText.digitsVal l)=l ↔ ¬ (l.head?=some 48/\l≠[48]):=by
 constructor
 ·rintro e ⟨z1,z2⟩;by_cases z:0 < PySem.NumText.digitsVal l
  ·apply A7l _ z;rw [e]; exact z1
  ·have z:PySem.NumText.digitsVal l=0:=by omega
   rw [z,A7k] at e;exact z2 e.symm
 ·intro z;by_cases y:l.head?=some 48
  ·have:l=[48]:=Decidable.not_not.mp fun w=>z ⟨y,w⟩;rw [this]; decide +kernel
  ·exact (C7d (l.length - 1) (by omega) h y).2
theorem lnB_iff {l:List Nat}:lnB l=true ↔ (1<=l.length/\l.length<=60/\l.all digB=true)/\¬ (l.head?=some 48/\l≠[48]):=by
 unfold lnB;simp only [Bool.and_eq_true,decide_eq_true_eq,Bool.not_eq_true',Bool.and_eq_false_iff,beq_eq_false_iff_ne,Bool.not_eq_false',ne_eq,not_and,Decidable.not_not,decide_eq_false_iff_not];constructor
 ·rintro ⟨⟨⟨a,b⟩,c⟩,d⟩;exact ⟨⟨a,b,d⟩,fun z=>c.resolve_left fun w=>w z⟩
 ·rintro ⟨⟨a,b,d⟩,c⟩;refine ⟨⟨⟨a,b⟩,?_⟩,d⟩;by_cases z:l.head?=some 48
  ·exact .inr (c z)
  ·exact .inl z
theorem A0p {l:List Nat} (h:l.head?≠some 45):wIn l=lnI l:=by
 have hb:C6 l=l:=by
  cases l with
  | nil=>rfl
  | cons a r =>
   show (if a=45 then r else a :: r)=_;rw [if_neg fun z=>h (by rw [z]; rfl)]
 have hv:valL l=((PySem.NumText.digitsVal l:Nat):Int):=by
  unfold valL;rw [if_neg h,hb]
 unfold wIn lnI;rw [hb,hv,A1v];by_cases z:1<=l.length/\l.length<=60/\l.all digB=true
 ·rw [if_pos z];have k:=A3s z.1 (M8 z.2.2);by_cases y:dgs (PySem.NumText.digitsVal l)=l
  ·rw [if_pos y,if_pos (lnB_iff.mpr ⟨z,k.mp y⟩)]
  ·rw [if_neg y,if_neg fun w=>y (k.mpr (lnB_iff.mp w).2)]
 ·rw [if_neg z,if_neg fun w=>z (lnB_iff.mp w).1]
theorem A4e (r:List Nat):wIn (45 :: r)=(match lnI r with | none=>none | some n=>if n=0 then none else some (-n)):=by
 have hb:C6 (45 :: r)=r:=by
  show (if 45=45 then r else 45 :: r)=r;exact if_pos rfl
 have hv:valL (45 :: r)=-((PySem.NumText.digitsVal r:Nat):Int):=by
  unfold valL;rw [if_pos (show (45 :: r).head?=some 45 from rfl),hb]
 unfold wIn lnI;rw [hb,hv];by_cases z:1<=r.length/\r.length<=60/\r.all digB=true
 ·rw [if_pos z];have k:=A3s z.1 (M8 z.2.2);by_cases v:PySem.NumText.digitsVal r=0
  ·rw [v];rw [if_neg (show ¬ whL (-((0:Nat):Int))=45 :: r from fun y=>by
    have y:dgs 0=45 :: r:=y;rw [A7k] at y; cases y)]
   split
   ·rfl
   ·rename_i n e;split at e
    ·cases e; rfl
    ·cases e
  ·have ew:whL (-((PySem.NumText.digitsVal r:Nat):Int))=45 :: dgs (PySem.NumText.digitsVal r):=by
    unfold whL;rw [if_pos (by omega)];congr 2
    omega
   rw [ew];by_cases y:dgs (PySem.NumText.digitsVal r)=r
   ·rw [if_pos (by rw [y]),if_pos (lnB_iff.mpr ⟨z,k.mp y⟩)];show _=if _ then _ else _;rw [if_neg (by omega)]
   ·rw [if_neg (fun w=>y (List.cons.inj w).2),if_neg fun w=>y (k.mpr (lnB_iff.mp w).2)]
 ·rw [if_neg z,if_neg fun w=>z (lnB_iff.mp w).1]
theorem A46 (r:List Nat):lnI (45 :: r)=none:=by
 unfold lnI;rw [if_neg fun w=>by
  have:=List.all_eq_true.mp (lnB_iff.mp w).1.2.2 45 Zy;exact absurd this (by decide)]
theorem A6x {l:List Nat} {n:Int} (h:lnI l=some n):0<=n:=by
 unfold lnI at h;split at h
 ·cases h; omega
 ·cases h
theorem head45 {l:List Nat}:l.head?=some 45 ↔ ∃ r,l=45 :: r:=by
 cases l with
 | nil=>exact ⟨nofun,fun ⟨_,e⟩=>nomatch e⟩
 | cons a r =>
  constructor
  ·intro h;have:a=45:=by simpa using h
   exact ⟨r,by rw [this]⟩
  ·rintro ⟨q,e⟩;cases e; rfl
def nIn (l:List Nat):Option Int:=match wIn l with | some n=>if 0<=n/\n<=99 then some n else none | none=>none
theorem C6i (l:List Nat):nIn l=(match lnI l with | some n=>if n<=99 then some n else none | none=>none):=by
 unfold nIn;by_cases h:l.head?=some 45
 ·obtain ⟨r,rfl⟩:=head45.mp h;rw [A4e,A46];cases e:lnI r with
  | none=>rfl
  | some n =>
   have:=A6x e;show (match (if n=0 then none else some (-n)) with | some n=>if 0<=n/\n<=99 then some n else none | none=>none)=none;split
   ·rename_i m hm;split at hm
    ·cases hm
    ·cases hm;exact if_neg (by omega)
   ·rfl
 ·rw [A0p h];cases e:lnI l with
  | none=>rfl
  | some n =>
   have:=A6x e;show (if 0<=n/\n<=99 then some n else none)=if n<=99 then some n else none;by_cases z:n<=99
   ·rw [if_pos ⟨this,z⟩,if_pos z]
   ·rw [if_neg fun w=>z w.2,if_neg z]
theorem C1w (r:List Nat):parS 47 (45 :: r)=(45 :: (parS 47 r).1,(parS 47 r).2.1,(parS 47 r).2.2):=by
 unfold parS;have e:cutS 47 (45 :: r)=(cutS 47 r).map fun p=>(45 :: p.1,p.2):=by
  show (if 45=47 then _ else _)=_;rw [if_neg (by decide)];cases cutS 47 r <;> rfl
 rw [e];cases cutS 47 r <;> rfl
def lrI (l:List Nat):Option (Int × Int) :=
 match lnI (parS 47 (C6 l)).1,(if (parS 47 (C6 l)).2.1=[47] then lnI (parS 47 (C6 l)).2.2 else some 1) with
 | some t,some b=>if (parS 47 (C6 l)).2.1=[47]/\(b < 2\/((Int.gcd t b:Nat):Int)≠1)\/(C6 l≠l/\t=0) then none else some (if C6 l≠l then -t else t,b)
 | _,_=>none
theorem A52 {t:Int} (p2 p3:List Nat):(match some t,(if p2=[47] then wIn p3 else some 1) with
 | some t,some b=>if p2=[47]/\(b < 2\/((Int.gcd t b:Nat):Int)≠1) then none else some (t,b)
 | _,_=>none)=(match some t,(if p2=[47] then lnI p3 else some 1) with
 | some t,some b=>if p2=[47]/\(b < 2\/((Int.gcd t b:Nat):Int)≠1) then none else some (t,b)
 | _,_=>none):=by
 by_cases z:p2=[47]
 ·rw [if_pos z,if_pos z];by_cases h:p3.head?=some 45
  ·obtain ⟨r,rfl⟩:=head45.mp h;rw [A4e,A46];cases e:lnI r with
   | none=>rfl
   | some n =>
    have:=A6x e;by_cases y:n=0
    ·simp only [if_pos y]
    ·simp only [if_neg y];rw [if_pos ⟨z,.inl (by omega)⟩]
  ·rw [A0p h]
 ·rw [if_neg z,if_neg z]
theorem C37 (l:List Nat):rIn l=lrI l:=by
 unfold rIn lrI;by_cases h:l.head?=some 45
 ·obtain ⟨r,rfl⟩:=head45.mp h;have hb:C6 (45 :: r)=r:=by
   show (if 45=45 then r else 45 :: r)=r;exact if_pos rfl
  have hne:r≠45 :: r:=fun z=>by
   have:=congrArg List.length z;rw [List.length_cons] at this; omega
  rw [C1w,hb,A4e];generalize (parS 47 r).1=p1;generalize (parS 47 r).2.1=p2;generalize (parS 47 r).2.2=p3;cases e:lnI p1 with
  | none=>rfl
  | some n =>
   by_cases y:n=0
   ·simp only [if_pos y];cases (if p2=[47] then lnI p3 else some 1) with
    | none=>rfl
    | some b=>exact (if_pos (.inr ⟨hne,y⟩)).symm
   ·simp only [if_neg y];refine (A52 p2 p3).trans ?_;cases (if p2=[47] then lnI p3 else some 1) with
    | none=>rfl
    | some b =>
     show (if p2=[47]/\(b < 2\/((Int.gcd (-n) b:Nat):Int)≠1) then none else some (-n,b))=if p2=[47]/\(b < 2\/((Int.gcd n b:Nat):Int)≠1)\/(r≠45 :: r/\n=0) then none else some (if r≠45 :: r then -n else n,b);rw [Int.neg_gcd,if_pos hne];by_cases z:p2=[47]/\(b < 2\/((Int.gcd n b:Nat):Int)≠1)
     ·rw [if_pos z,if_pos (.inl z)]
     ·rw [if_neg z,if_neg fun w=>w.elim z fun w=>y w.2]
 ·have hb:C6 l=l:=by
   cases l with
   | nil=>rfl
   | cons a r =>
    show (if a=45 then r else a :: r)=_;rw [if_neg fun z=>h (by rw [z]; rfl)]
  rw [hb];obtain ⟨es,_⟩:=T6 47 l;have h1:(parS 47 l).1.head?≠some 45:=fun z=>h (by
   obtain ⟨q,e⟩:=head45.mp z;rw [<- es,e]; rfl)
  rw [A0p h1];generalize (parS 47 l).1=p1;generalize (parS 47 l).2.1=p2;generalize (parS 47 l).2.2=p3;cases e:lnI p1 with
  | none=>rfl
  | some n =>
   refine (A52 p2 p3).trans ?_;cases (if p2=[47] then lnI p3 else some 1) with
   | none=>rfl
   | some b =>
    show (if p2=[47]/\(b < 2\/((Int.gcd n b:Nat):Int)≠1) then none else some (n,b))=if p2=[47]/\(b < 2\/((Int.gcd n b:Nat):Int)≠1)\/(l≠l/\n=0) then none else some (if l≠l then -n else n,b);rw [if_neg (show ¬ l≠l from fun z=>z rfl)];by_cases z:p2=[47]/\(b < 2\/((Int.gcd n b:Nat):Int)≠1)
    ·rw [if_pos z,if_pos (.inl z)]
    ·rw [if_neg z,if_neg fun w=>w.elim z fun w=>w.1 rfl]
def stP (a b:Option Rat):Option (Rat × Rat):=match a,b with
 | some p,some q=>if q < 0 then none else some (p,q)
 | _,_=>none
def stL (l:List Nat):Option (Rat × Rat):=stP (qIn (parS 32 l).1) (qIn (parS 32 l).2.2)
theorem U8 (a:Option Rat):stP a none=none:=by cases a <;> rfl
def oS:Option (Rat × Rat)->PyData
 | none=>.none
 | some p=>.tuple [dq p.1,dq p.2]
def stW:List (List Nat)->Option (Rat × Rat)
 | [a,b]=>stP (qIn a) (qIn b)
 | _=>none
theorem C3q (l:List Nat):stL l=stW (splL [32] l):=by
 unfold stL;rw [B0k];obtain ⟨_,h2,_⟩:=wds l;rcases splL [32] l with _ | ⟨p,_ | ⟨q,_ | ⟨r,s⟩⟩⟩
 ·rfl
 ·show stP _ (qIn [])=none;rw [C1d]; exact U8 _
 ·rfl
 ·have e:qIn (F7 [32] (q :: r :: s))=none:=A00 (c:=32) (by rw [J6]; simp) (by decide) (by decide) (by decide);show stP _ (qIn (F7 [32] (q :: r :: s)))=none;rw [e]; exact U8 _
def arcs:List (List Nat):=[[115,116,97,114,116],[101,110,100],[119,97,105,116],[104,111,108,100]]
def caP (w:List Nat) (n:Option Int) (a:Option Rat):Option (List Nat × Int × Rat):=if w ∈ arcs then (match n,a with
 | some n,some q=>if 0 < q then some (w,n,q) else none
 | _,_=>none) else none
def caW:List (List Nat)->Option (List Nat × Int × Rat)
 | [w,n,a]=>caP w (nIn n) (qIn a)
 | _=>none
def oC:Option (List Nat × Int × Rat)->PyData
 | none=>.none
 | some p=>.tuple [.tuple [.str (sO p.1),.int p.2.1],dq p.2.2]
def okP (l:List Nat):Bool:=(splL [44,32] l).all fun p=>(stL p).isSome
def vaP (l:List Nat):LP:=(splL [44,32] l).map fun p=>oS (stL p)
def okC (l:List Nat):Bool:=(splL [44,32] l).all fun p=>(caW (splL [32] p)).isSome
def vaC (l:List Nat):LP:=(splL [44,32] l).map fun p=>oC (caW (splL [32] p))
def stT (p:Rat × Rat):List Nat:=rtL p.1++32 :: rtL p.2
def plT (ps:List (Rat × Rat)):List Nat:=F7 [44,32] (ps.map stT)
def caT (p:List Nat × Int × Rat):List Nat:=p.1++32 :: (whL p.2.1++32 :: rtL p.2.2)
def paT (ps:List (List Nat × Int × Rat)):List Nat:=if ps=[] then [45] else F7 [44,32] (ps.map caT)
structure StOk (p:Rat × Rat):Prop where
 n1:p.1.num.natAbs < 10 ^ 60
 d1:p.1.den < 10 ^ 60
 n2:p.2.num.natAbs < 10 ^ 60
 d2:p.2.den < 10 ^ 60
 nn:0<=p.2
structure CaOk (p:List Nat × Int × Rat):Prop where
 w:p.1 ∈ arcs
 n0:0<=p.2.1
 n1:p.2.1<=99
 n2:p.2.2.num.natAbs < 10 ^ 60
 d2:p.2.2.den < 10 ^ 60
 ps:0 < p.2.2
theorem B5m (q:Rat):∀ c ∈ rtL q,c=45\/c=47\/(48<=c/\c<=57):=fun c hc=>by
 unfold rtL at hc;rcases Za hc with m | m
 ·rcases L9 _ c m with h | h
  ·exact .inl h
  ·exact .inr (.inr h)
 ·split at m
  ·rcases List.mem_cons.mp m with m | m
   ·exact .inr (.inl m)
   ·exact .inr (.inr (O6 _ c m))
  ·cases m
theorem N2:∀ w ∈ arcs,∀ c ∈ w,97<=c/\c<=122:=by decide
theorem A80 {a b:List Nat} (ha:32 ∉ a) (hb:32 ∉ b):splL [32] (a++32 :: b)=[a,b]:=by
 have:=W0 (c:=32) (y':=[]) (ps:=[a,b]) (List.cons_ne_nil _ _) (fun p hp=>by
  rcases List.mem_cons.mp hp with rfl | hp
  ·exact ha
  ·rw [Zn hp]; exact hb)
 have e:F7 [32] [a,b]=a++32 :: b:=by show a++[32]++b=_; simp
 rw [e] at this; exact this
theorem A4d {a b d:List Nat} (ha:32 ∉ a) (hb:32 ∉ b) (hd:32 ∉ d):splL [32] (a++32 :: (b++32 :: d))=[a,b,d]:=by
 have:=W0 (c:=32) (y':=[]) (ps:=[a,b,d]) (List.cons_ne_nil _ _) (fun p hp=>by
  rcases List.mem_cons.mp hp with rfl | hp
  ·exact ha
  ·rcases List.mem_cons.mp hp with rfl | hp
   ·exact hb
   ·rw [Zn hp]; exact hd)
 have e:F7 [32] [a,b,d]=a++32 :: (b++32 :: d):=by show a++[32]++(b++[32]++d)=_; simp
 rw [e] at this; exact this
theorem A4k (q:Rat):32 ∉ rtL q:=fun m=>by rcases B5m q 32 m with h | h | h <;> omega
theorem C0o (n:Int):32 ∉ whL n:=fun m=>by rcases L9 n 32 m with h | h <;> omega
theorem C3r {p:Rat × Rat} (h:StOk p):stL (stT p)=some p:=by
 rw [C3q];unfold stT;rw [A80 (A4k _) (A4k _)];show stP (qIn _) (qIn _)=_;rw [A9z h.n1 h.d1,A9z h.n2 h.d2];exact if_neg (Rat.not_lt.mpr h.nn)
theorem C6h {n:Int} (h0:0<=n) (h1:n<=99):nIn (whL n)=some n:=by
 unfold nIn;have hl:(dgs n.natAbs).length<=60:=(dgs_len (k:=59)).mp (Nat.lt_of_le_of_lt (show n.natAbs<=99 by omega) (by decide +kernel));rw [A5p hl];exact if_pos ⟨h0,h1⟩
theorem C7h {p:List Nat × Int × Rat} (h:CaOk p):caW (splL [32] (caT p))=some p:=by
 unfold caT;rw [A4d (fun m=>by have:=N2 _ h.w 32 m; omega) (C0o _) (A4k _)];show caP p.1 (nIn (whL p.2.1)) (qIn (rtL p.2.2))=_;rw [C6h h.n0 h.n1,A9z h.n2 h.d2];unfold caP;rw [if_pos h.w];exact if_pos h.ps
theorem A9j (p:Rat × Rat):44 ∉ stT p:=fun m=>by
 unfold stT at m;rcases Za m with m | m
 ·rcases B5m _ 44 m with h | h | h <;> omega
 ·rcases List.mem_cons.mp m with m | m
  ·omega
  ·rcases B5m _ 44 m with h | h | h <;> omega
theorem B4s {p:List Nat × Int × Rat} (h:CaOk p):44 ∉ caT p:=fun m=>by
 unfold caT at m;rcases Za m with m | m
 ·have:=N2 _ h.w 44 m; omega
 ·rcases List.mem_cons.mp m with m | m
  ·omega
  ·rcases Za m with m | m
   ·rcases L9 _ 44 m with h | h <;> omega
   ·rcases List.mem_cons.mp m with m | m
    ·omega
    ·rcases B5m _ 44 m with h | h | h <;> omega
theorem A4t {ps:List (Rat × Rat)} (h:ps≠[]):splL [44,32] (plT ps)=ps.map stT:=by
 unfold plT;refine W0 (by simpa using h) fun p hp=>?_;obtain ⟨q,_,rfl⟩:=List.mem_map.mp hp;exact A9j q
theorem C4h {ps:List (Rat × Rat)} (h:ps≠[]) (hs:∀ p ∈ ps,StOk p):okP (plT ps)=true/\vaP (plT ps)=ps.map fun p=>oS (some p):=by
 unfold okP vaP;rw [A4t h];constructor
 ·rw [List.all_map];refine List.all_eq_true.mpr fun p hp=>?_;show (stL (stT p)).isSome=true;rw [C3r (hs p hp)]; rfl
 ·rw [List.map_map];refine List.map_congr_left fun p hp=>?_;show oS (stL (stT p))=_;rw [C3r (hs p hp)]
theorem A4v {ps:List (List Nat × Int × Rat)} (h:ps≠[]) (hs:∀ p ∈ ps,CaOk p):splL [44,32] (paT ps)=ps.map caT:=by
 unfold paT;rw [if_neg h];refine W0 (by simpa using h) fun p hp=>?_;obtain ⟨q,hq,rfl⟩:=List.mem_map.mp hp;exact B4s (hs q hq)
theorem C4s {ps:List (List Nat × Int × Rat)} (h:ps≠[]) (hs:∀ p ∈ ps,CaOk p):okC (paT ps)=true/\vaC (paT ps)=ps.map fun p=>oC (some p):=by
 unfold okC vaC;rw [A4v h hs];constructor
 ·rw [List.all_map];refine List.all_eq_true.mpr fun p hp=>?_;show (caW (splL [32] (caT p))).isSome=true;rw [C7h (hs p hp)]; rfl
 ·rw [List.map_map];refine List.map_congr_left fun p hp=>?_;show oC (caW (splL [32] (caT p)))=_;rw [C7h (hs p hp)]
def strC (c:Nat):Bool:=!digB c && !(c == 45) && !(c == 47) && !(c == 44) && !(c == 32) && !(decide (97<=c) && decide (c<=122)) && decide (c < 128)
theorem R9 {c:Nat} (h:strC c=true):digB c=false/\c≠45/\c≠47/\c≠44/\c≠32/\¬ (97<=c/\c<=122):=by
 unfold strC at h;simp only [Bool.and_eq_true,Bool.not_eq_true',beq_eq_false_iff_ne,decide_eq_true_eq,Bool.and_eq_false_iff,decide_eq_false_iff_not] at h;obtain ⟨⟨⟨⟨⟨⟨a,b⟩,c1⟩,d⟩,e⟩,f⟩,_⟩:=h;exact ⟨a,b,c1,d,e,fun w=>f.elim (fun z=>z w.1) fun z=>z w.2⟩
theorem C3o {c:Nat} {l:List Nat} (h:strC c=true) (hc:c ∈ l):stL l=none:=by
 obtain ⟨a,b,d,e,f,g⟩:=R9 h;unfold stL;obtain ⟨es,k⟩:=T6 32 l;rw [<- es,List.append_assoc] at hc;rcases Za hc with m | m
 ·rw [A00 m a b d]; rfl
 ·rcases k with ⟨k1,k2⟩ | k
  ·rw [k1,k2] at m; cases m
  ·rw [k] at m;rcases Za m with m | m
   ·exact absurd (Zn m) f
   ·rw [A00 m a b d]; exact U8 _
theorem C7g {c:Nat} {l:List Nat} (h:strC c=true) (hc:c ∈ l):caW (splL [32] l)=none:=by
 obtain ⟨a,b,d,e,f,g⟩:=R9 h;obtain ⟨w,hw,hm⟩:=A0s (y:=[32]) hc (fun z=>f (Zn z));rcases hs:splL [32] l with _ | ⟨p,_ | ⟨q,_ | ⟨r,_ | ⟨s,t⟩⟩⟩⟩
 ·rfl
 ·rfl
 ·rfl
 ·rw [hs] at hw;show caP p (nIn q) (qIn r)=none;unfold caP;rcases List.mem_cons.mp hw with rfl | hw
  ·exact if_neg fun z=>g (N2 _ z c hm)
  ·split
   ·rcases List.mem_cons.mp hw with rfl | hw
    ·unfold nIn;rw [A4f hm a b]
    ·rw [Zn hw] at hm;rw [A00 hm a b d];cases nIn q <;> rfl
   ·rfl
 ·rfl
theorem B50 {c:Nat} {l:List Nat} (h:strC c=true) (hc:c ∈ l):okP l=false:=by
 obtain ⟨a,b,d,e,f,g⟩:=R9 h;obtain ⟨p,hp,hm⟩:=A0s (y:=[44,32]) hc (fun z=>by
  rcases List.mem_cons.mp z with z | z
  ·exact e z
  ·exact f (Zn z))
 refine Bool.eq_false_iff.mpr fun z=>?_;have:=List.all_eq_true.mp z p hp;rw [C3o h hm] at this;cases this
theorem B0l {c:Nat} {l:List Nat} (h:strC c=true) (hc:c ∈ l):okC l=false:=by
 obtain ⟨a,b,d,e,f,g⟩:=R9 h;obtain ⟨p,hp,hm⟩:=A0s (y:=[44,32]) hc (fun z=>by
  rcases List.mem_cons.mp z with z | z
  ·exact e z
  ·exact f (Zn z))
 refine Bool.eq_false_iff.mpr fun z=>?_;have:=List.all_eq_true.mp z p hp;rw [C7g h hm] at this;cases this
theorem A1o:∀ {ps:List (List Nat)},(∀ p ∈ ps,44 ∉ p)->(F7 [44,32] ps).count 44 + 1<=ps.length + 1
 | [],_=>Zv _
 | [p],h=>by
  show p.count 44 + 1<=2;rw [List.count_eq_zero.mpr (h p Zy)]; decide
 | p :: q :: r,h=>by
  have ih:=A1o (ps:=q :: r) fun z hz=>h z (Zr _ hz);rw [J6,List.count_append,List.count_append,List.count_eq_zero.mpr (h p Zy)];have:([44,32]:List Nat).count 44=1:=by decide
  rw [this];show 0 + 1 + _ + 1<=(q :: r).length + 1 + 1;omega
theorem A91 {l a b:List Nat} {c m:Nat} (h:l.count 44 + 1<=m) (e:l=a++b) (hc:c≠44):(splL [44,32] (a++c :: b)).length<=m:=by
 have:=J8 44 [32] (a++c :: b);rw [List.count_append,List.count_cons_of_ne hc,<- List.count_append,<- e] at this;omega
theorem B69 (l:List Nat):l.length<=(C6 l).length + 1:=by
 cases l with
 | nil=>exact Nat.zero_le _
 | cons c r =>
  show r.length + 1<=(if c=45 then r else c :: r).length + 1;split
  ·exact Zv _
  ·exact Nat.le_succ _
theorem m32:Str.ofString " "=sO [32]:=by decide +kernel
theorem mSep:Str.ofString ", "=sO [44,32]:=by decide +kernel
theorem V8 {y:List Nat} {m:Nat}:∀ {ls:List (List Nat)},(∀ l ∈ ls,l.length<=m)->((ls.map sO).map fun z=>z.length + (sO y).length).sum<=ls.length * (m + (sO y).length)
 | [],_=>Nat.zero_le _
 | l :: r,h=>by
  have ih:=V8 (y:=y) (ls:=r) fun z hz=>h z (Zr _ hz);have h1:=h l Zy;rw [List.map_cons,List.map_cons,List.sum_cons,List.length_cons,Nat.succ_mul];have h2:(sO l).length=l.length:=A9 l;omega
theorem A5w {p:Rat × Rat} (h:StOk p):(stT p).length<=261:=by
 unfold stT;have a:=Y5 h.n1 h.d1;have b:=Y5 h.n2 h.d2;rw [Ze,List.length_cons]; omega
theorem wh99 {n:Int} (h0:0<=n) (h1:n<=99):(whL n).length<=2:=by
 have:(dgs n.natAbs).length<=2:=(dgs_len (k:=1)).mp (by omega);unfold whL;rw [if_neg (by omega)]; exact this
theorem A1t:∀ w ∈ arcs,w.length<=5:=by decide
theorem A7q {p:List Nat × Int × Rat} (h:CaOk p):(caT p).length<=139:=by
 unfold caT;have a:=Y5 h.n2 h.d2;have b:=wh99 h.n0 h.n1;have c:=A1t _ h.w;rw [Ze,List.length_cons,Ze,List.length_cons]; omega
theorem B4a (l:List Nat):Str.empty++sO l=sO l:=by
 show sO []++sO l=_;rw [C8]; rfl
theorem mArc:Str.ofString "start"=sO [115,116,97,114,116]/\Str.ofString "end"=sO [101,110,100]/\Str.ofString "wait"=sO [119,97,105,116]/\Str.ofString "hold"=sO [104,111,108,100]:=by decide +kernel
theorem B43 (a:List Nat):([PyData.str (Str.ofString "start"),.str (Str.ofString "end"),.str (Str.ofString "wait"),.str (Str.ofString "hold")].any fun z=>z.eqv (.str (sO a)))=decide (a ∈ arcs):=by
 obtain ⟨e1,e2,e3,e4⟩:=mArc;rw [e1,e2,e3,e4];simp only [List.any_cons,List.any_nil,N3,Bool.or_false];rw [Bool.eq_iff_iff];simp only [Bool.or_eq_true,decide_eq_true_eq,arcs,List.mem_cons,List.not_mem_nil,or_false];simp only [eq_comm]
theorem A1m {α:Type} {f:α->PyData}:∀ {l:List α},(∀ x ∈ l,(f x).canLay0=true)->PyData.canLayAll0 (l.map f)=true
 | [],_=>rfl
 | a :: r,h=>by
  show ((f a).canLay0 && PyData.canLayAll0 (r.map f))=true;rw [h a Zy,A1m fun x hx=>h x (Zr _ hx)]; rfl
theorem B44 {α β:Type} {f:α->Option β} {g:Option β->PyData} (h0:(g none).eqv .none=true) (h1:∀ x,(g (some x)).eqv .none=false):∀ l:List α,((l.map fun p=>g (f p)).any fun z=>z.eqv .none)=!(l.all fun p=>(f p).isSome)
 | []=>rfl
 | a :: r=>by
  rw [List.map_cons,List.any_cons,B44 h0 h1 r,List.all_cons];cases f a with
  | none=>rw [h0]; rfl
  | some x=>rw [h1]; rfl
theorem C54 (x:Option (Rat × Rat)):(oS x).canLay0=true:=by cases x <;> rfl
theorem A7r {ws:List (List Nat)} {p:List Nat × Int × Rat} (h:caW ws=some p):p.1 ∈ arcs:=by
 rcases ws with _ | ⟨a,_ | ⟨b,_ | ⟨c,_ | ⟨d,r⟩⟩⟩⟩
 ·cases h
 ·cases h
 ·cases h
 ·have h:caP a (nIn b) (qIn c)=some p:=h;unfold caP at h;split at h
  ·rename_i m;split at h
   ·split at h
    ·cases h; exact m
    ·cases h
   ·cases h
  ·cases h
 ·cases h
theorem C6b (ws:List (List Nat)):(oC (caW ws)).canLay0=true:=by
 cases h:caW ws with
 | none=>rfl
 | some p =>
  have hl:(PyData.str (sO p.1)).canLay0=true:=E8 fun c hc=>by have:=N2 _ (A7r h) c hc; omega
  show (((PyData.str (sO p.1)).canLay0 && (true && true)) && ((true && (true && true)) && true))=true;rw [hl]; rfl
theorem B51 (l:List Nat):(((splL [44,32] l).map fun p=>oS (stL p)).any fun z=>z.eqv .none)=!okP l:=B44 rfl (fun _=>rfl) _
theorem B0m (l:List Nat):(((splL [44,32] l).map fun p=>oC (caW (splL [32] p))).any fun z=>z.eqv .none)=!okC l:=B44 (f:=fun p=>caW (splL [32] p)) rfl (fun _=>rfl) _
theorem L7 {l p:List Nat} {y:List Nat} (h:p ∈ splL y l) (ha:∀ c ∈ l,c < 128):∀ c ∈ p,c < 128:=by
 have:∀ (ps:List (List Nat)) (p:List Nat),p ∈ ps->∀ c ∈ p,c ∈ F7 y ps:=by
  intro ps;induction ps with
  | nil=>intro p h; cases h
  | cons a r ih =>
   intro p hp c hc;cases r with
   | nil=>rw [Zn hp] at hc; exact hc
   | cons b s =>
    rw [J6];rcases List.mem_cons.mp hp with rfl | hp
    ·exact Zt _ (Zt _ hc)
    ·exact Zw _ (ih p hp c hc)
 intro c hc;have:=this _ p h c hc;rw [S1] at this;exact ha c this
theorem sq60 {q:Rat} (h1:q.num.natAbs < 10 ^ 60) (h2:q.den < 10 ^ 60):SmQ 3900 q :=
 SmR.q (show SmR 200 200 q from ⟨Nat.lt_of_lt_of_le h1 (by decide +kernel),Nat.lt_of_lt_of_le h2 (by decide +kernel)⟩) (by decide) (by decide)
theorem sq0:SmQ 3900 0:=sq60 (by decide +kernel) (by decide +kernel)
theorem C3p (p:Rat × Rat):rtL p.1++[32]++rtL p.2=stT p:=by unfold stT; simp
theorem C7i (p:List Nat × Int × Rat):p.1++[32]++whL p.2.1++[32]++rtL p.2.2=caT p:=by unfold caT; simp
def parC (w:Nat) (l:List Nat):Nat->List Nat->List (List Nat)
 | a,[]=>[l.drop a]
 | a,c :: r=>(l.drop a).take (c - a) :: parC w l (c + w) r
def cutC (y l:List Nat):List (List Nat):=parC y.length l 0 (occL (fun i=>decide (i + y.length<=l.length) && ((l.drop i).take y.length == y)) y.length (List.range' 0 (l.length + 1)) 0)
open PySem.Builtin PySem.Builtin.Str PySem.StrLaws in
theorem P8 {w:Nat} {l:List Nat}:∀ (cs:List Nat) (a:Nat),partsFrom (sO l) w a cs=(parC w l a cs).map sO
 | [],a=>by
  show [strSub (sO l) a (sO l).length]=[sO (l.drop a)];refine congrArg (· :: []) (Str.ext' (Array.toList_inj.mp ?_));rw [strSub_toList,A9];show (l.drop a).take _=l.drop a;rw [List.take_of_length_le (by rw [List.length_drop]; exact Zv _)]
 | c :: r,a=>by
  show strSub (sO l) a c :: partsFrom (sO l) w (c + w) r=sO ((l.drop a).take (c - a)) :: (parC w l (c + w) r).map sO;rw [P8 r (c + w)];refine congrArg (· :: _) (Str.ext' (Array.toList_inj.mp ?_));rw [strSub_toList]
theorem B10 {P:Nat->Bool} {w:Nat}:∀ {ls:List Nat} {f:Nat},(∀ i ∈ ls,P i=false)->occL P w ls f=[]
 | [],_,_=>rfl
 | i :: r,f,h=>by
  show (if (decide (f<=i) && P i)=true then _ else _)=_;rw [h i Zy,Bool.and_false,if_neg (by decide)];exact B10 fun j hj=>h j (Zr _ hj)
open PySem.Builtin PySem.Builtin.Str PySem.StrLaws in
theorem C8e (y l:List Nat):occurrences (sO l) (sO y) 0 (sO l).length ((sO l).length + 1)=occL (fun i=>decide (i + y.length<=l.length) && ((l.drop i).take y.length == y)) y.length (List.range' 0 (l.length + 1)) 0:=by
 rw [occ_eq];refine (V4 _ _ _ _ _ _ (by rw [List.length_range']; show 0 + ((sO l).length + 1 - 0)<=_; omega)).trans ?_;show []++_=_;rw [List.nil_append];have e:(fun i=>decide (i + (sO y).length<=(sO l).length) && subAt (sO l) (sO y) i)=fun i=>decide (i + y.length<=l.length) && ((l.drop i).take y.length == y):=by
  funext i
  rw [B7u,A9,A9]
 rw [e,A9,A9]; rfl
open PySem.Builtin PySem.Builtin.Str PySem.StrLaws in
theorem B6w {y l:List Nat} (h:∀ c ∈ y,c < 256):¬ PySem.Builtin.Str.strKind (sO l) < PySem.Builtin.Str.strKind (sO y):=by
 have e:PySem.Builtin.Str.strKind (sO y)=1:=by
  unfold PySem.Builtin.Str.strKind;rw [if_pos (by simp only [List.all_toArray,List.all_eq_true,decide_eq_true_eq]; exact h)]
 rw [e];unfold PySem.Builtin.Str.strKind;split
 ·decide
 ·split <;> decide
open PySem.Builtin PySem.Builtin.Str PySem.StrLaws in
theorem A5x {y l:List Nat} (h:∀ c ∈ y,c < 256):splL y l=cutC y l:=by
 have one:∀ cs:List Nat,cs=[]->parC y.length l 0 cs=[l]:=fun cs e=>by rw [e]; rfl
 have key:Txt.split (sO l) (sO y)=(cutC y l).map sO:=by
  unfold Txt.split cutC;rw [C8e];by_cases z:(decide ((sO l).length < (sO y).length) || decide (PySem.Builtin.Str.strKind (sO l) < PySem.Builtin.Str.strKind (sO y)))=true
  ·rw [if_pos z];rw [Bool.or_eq_true,decide_eq_true_eq,decide_eq_true_eq] at z;have z:=z.resolve_right (B6w h);rw [A9,A9] at z;rw [one _ (B10 fun i _=>by rw [Zd (by omega)]; rfl)]; rfl
  ·rw [if_neg z];generalize occL _ _ _ _=cs;cases cs with
   | nil=>rfl
   | cons c r =>
    rw [if_neg (show ¬ (c :: r).isEmpty=true from fun z=>Bool.noConfusion z),partsBetween_eq,A9,P8]
 unfold splL;rw [key,List.map_map];exact List.map_id _
theorem C3s (l:List Nat):splL [44,32] l=cutC [44,32] l:=A5x (by decide)
theorem C7x (l:List Nat):splL [32] l=cutC [32] l:=A5x (by decide)
def odP:PyData->Bool
 | .str z=>decide (z.cps.size<=1000) && !((cutC [44,32] z.cps.toList).all (fun p=>(stL p).isSome) && decide ((cutC [44,32] z.cps.toList).length<=10))
 | .dict _=>false
 | _=>true
def odC:PyData->Bool
 | .str z=>decide (z.cps.size<=1000) && z.cps.toList.all (fun c=>decide (c < 128)) && !decide (z.cps.toList=[45]) && !((cutC [44,32] z.cps.toList).all (fun p=>(caW (cutC [32] p)).isSome) && decide ((cutC [44,32] z.cps.toList).length<=100))
 | .dict _=>false
 | _=>true
theorem S3 {l:List Nat} (h:l.length<=1000):l.length<=90000/\∀ p ∈ splL [44,32] l,p.length<=1000:=⟨by omega,fun p hp=>Zx (P3 hp) h⟩
def stD (p:Rat × Rat):PyData:=.tuple [dq p.1,dq p.2]
def caD (p:List Nat × Int × Rat):PyData:=.tuple [.tuple [.str (sO p.1),.int p.2.1],dq p.2.2]
def ShP (l:List Nat):Prop:=l.length<=90000/\∀ p ∈ splL [44,32] l,p.length<=1000
def NoP:PyData->Prop
 | .str z=>ShP z.cps.toList/\¬ (okP z.cps.toList=true/\(splL [44,32] z.cps.toList).length<=10)
 | .dict _=>False
 | _=>True
def NoC:PyData->Prop
 | .str z=>ShP z.cps.toList/\(∀ c ∈ z.cps.toList,c < 128)/\z.cps.toList≠[45]/\¬ (okC z.cps.toList=true/\(splL [44,32] z.cps.toList).length<=100)
 | .dict _=>False
 | _=>True
theorem C52 {x:PyData} (h:odP x=true):NoP x:=by
 cases x with
 | str z =>
  unfold odP at h;rw [Bool.and_eq_true,decide_eq_true_eq,Bool.not_eq_true'] at h;refine ⟨S3 h.1,fun w=>?_⟩;have w1:=w.1;have w2:=w.2;unfold okP at w1;rw [C3s] at w1 w2;have:=h.2;rw [w1,Zk w2] at this;cases this
 | dict kvs=>cases h
 | _=>exact True.intro
theorem C53 {x:PyData} (h:odC x=true):NoC x:=by
 cases x with
 | str z =>
  unfold odC at h;rw [Bool.and_eq_true,Bool.and_eq_true,Bool.and_eq_true,decide_eq_true_eq,Bool.not_eq_true',Bool.not_eq_true',decide_eq_false_iff_not] at h;refine ⟨S3 h.1.1.1,fun c hc=>of_decide_eq_true (List.all_eq_true.mp h.1.1.2 c hc),h.1.2,fun w=>?_⟩;have w1:=w.1;have w2:=w.2;unfold okC at w1;simp only [C3s,C7x] at w1 w2;have:=h.2;rw [w1,Zk w2] at this;cases this
 | dict kvs=>cases h
 | _=>exact True.intro
def oddPl:LP:=((([.str (Str.ofString ""),.str (Str.ofString " "),.str (Str.ofString ","),.str (Str.ofString "-"),.str (Str.ofString "1"),.str (Str.ofString "1 2 3"),.str (Str.ofString "1 -1"),.str (Str.ofString "1  2"),.str (Str.ofString "1,2"),.str (Str.ofString "1 2,3 4"),.str (Str.ofString "1 2, "),.str (Str.ofString ", 1 2"),.str (Str.ofString "1 2 , 3 4")]++[.str (Str.ofString "1 2,  3 4"),.str (Str.ofString "1 2, 3"),.str (Str.ofString "1 1/1"),.str (Str.ofString "01 2"),.str (Str.ofString "-0 1"),.str (Str.ofString "1 2/4"),.str (Str.ofString "1 2, -")])++[.str ((Str.ofString "1 ")++(Txt.mul (Str.ofString "9") 61)),.str (Str.ofString "None 1"),.str (Str.ofString "1 2, 3 4,")])++[.str ((Txt.mul (Str.ofString "0 1, ") 10)++(Str.ofString "0 1")),.none,.int 5,.list [.tuple [.tuple [.int 0,.int 1],.tuple [.int 1,.int 1]]],.bool true])
theorem B6j:∀ x ∈ oddPl,NoP x:=fun x hx=>C52 (List.all_eq_true.mp (show oddPl.all odP=true by decide +kernel) x hx)
def oddCl:LP:=(((([.str (Str.ofString ""),.str (Str.ofString " "),.str (Str.ofString "--"),.str (Str.ofString "- "),.str (Str.ofString "start"),.str (Str.ofString "start 1"),.str (Str.ofString "start 1 0"),.str (Str.ofString "start 1 -1"),.str (Str.ofString "start -1 1"),.str (Str.ofString "start 01 1")]++[.str (Str.ofString "start 100 1"),.str (Str.ofString "start 1 1/1"),.str (Str.ofString "Start 1 1"),.str (Str.ofString "begin 1 1"),.str (Str.ofString "start 1 1,"),.str (Str.ofString "start 1 1,end 1 1")])++[.str (Str.ofString "start 1 1, "),.str (Str.ofString "start 1 1, -"),.str (Str.ofString "-, end 1 1"),.str (Str.ofString "start  1 1"),.str (Str.ofString "start 1 1 1"),.str (Str.ofString "end 1 2/4")])++[.str (Str.ofString "arc start 1 1"),.str ((Str.ofString "end 1 ")++(Txt.mul (Str.ofString "9") 61))])++[.str ((Txt.mul (Str.ofString "end 1 1, ") 100)++(Str.ofString "end 1 1")),.none,.int 0,.list [],.bool true,.str (Str.ofString "hold x 1"),.str (Str.ofString "wait 1/2 1")])
theorem B6k:∀ x ∈ oddCl,NoC x:=fun x hx=>C53 (List.all_eq_true.mp (show oddCl.all odC=true by decide +kernel) x hx)
theorem B5f:strL.all strC=true:=by decide
def bentM:List Nat:=[43,46,95,65,9,10,58,59,91,124]
theorem B7b:bentM.all strC=true:=by decide
theorem C6k:Str.ofString "+._A\t\n:;[|"=sO bentM:=by decide +kernel
def alnB (c:Nat):Bool:=(decide (48<=c) && decide (c<=57)) || (decide (97<=c) && decide (c<=122))
def alnL:List Nat:=[48,49,50,51,52,53,54,55,56,57,97,98,99,100,101,102,103,104,105,106,107,108,109,110,111,112,113,114,115,116,117,118,119,120,121,122]
theorem C3d:alnL.all alnB=true:=by decide
theorem mAln:Str.ofString "0123456789abcdefghijklmnopqrstuvwxyz"=sO alnL:=by decide +kernel
theorem Q2 (n:Int):Str.ofString (toString n)=sO (whL n):=by
 by_cases h:0<=n
 ·rw [K3 h];unfold whL;rw [if_neg (by omega)]
 ·obtain ⟨m,rfl⟩:∃ m:Nat,n=Int.negSucc m:=by
   cases n with
   | ofNat a=>exact absurd (Int.natCast_nonneg a) h
   | negSucc m=>exact ⟨m,rfl⟩
  have e:(toString (Int.negSucc m)).toList='-' :: Nat.toDigits 10 (m + 1):=by
   show (Int.repr _).toList=_;unfold Int.repr;show (("-":String)++Nat.repr (m + 1)).toList=_;unfold Nat.repr;simp
  rw [B7w,e];unfold whL;rw [if_pos (by omega)];rfl
theorem B7i {n:Int} (h:n.natAbs < 10 ^ 60):(whL n).length<=61:=by
 have:=(dgs_len (k:=59)).mp h;unfold whL;split
 ·rw [List.length_cons]; omega
 ·omega
theorem C7t:∀ x ∈ [PyData.int 1,PyData.int 12,PyData.int 60,PyData.int (10 ^ Int.toNat 59),PyData.int 1],Pw x:=by
 intro x hx;simp only [List.mem_cons,List.not_mem_nil,or_false] at hx;rcases hx with rfl | rfl | rfl | rfl | rfl
 ·exact ⟨_,rfl,by decide +kernel,by decide +kernel⟩
 ·exact ⟨_,rfl,by decide +kernel,by decide +kernel⟩
 ·exact ⟨_,rfl,by decide +kernel,by decide +kernel⟩
 ·exact ⟨_,rfl,by decide +kernel,by decide +kernel⟩
 ·exact ⟨_,rfl,by decide +kernel,by decide +kernel⟩
theorem rt_e {q:Rat} (z:¬ (q.den:Int)=1):sO (whL q.num)++sO [47]++sO (whL (q.den:Int))=sO (rtL q):=by
 rw [C8,C8,A1v];unfold rtL;rw [if_pos (by have:=q.den_pos; omega)]; simp
theorem C7e {ps:List (List Nat × Int × Rat)} (h:∀ p ∈ ps,CaOk p):(PyData.list (ps.map caD)).canLay0=true:=by
 show PyData.canLayAll0 (ps.map caD)=true;refine A1m fun p hp=>?_;have hl:(PyData.str (sO p.1)).canLay0=true:=E8 fun c hc=>by have:=N2 _ (h p hp).w c hc; omega
 show (((PyData.str (sO p.1)).canLay0 && (true && true)) && ((true && (true && true)) && true))=true;rw [hl]; rfl
theorem B4g {α:Type} {f:α->PyData} {m:Nat}:∀ {l:List α},(∀ x ∈ l,(f x).depth<=m)->PyData.depthAll (l.map f)<=m
 | [],_=>Nat.zero_le _
 | a :: r,h=>by
  have h1:=h a Zy;have h2:=B4g (f:=f) (l:=r) fun x hx=>h x (Zr _ hx);show max (f a).depth (PyData.depthAll (r.map f))<=m;omega
theorem C7f (ps:List (List Nat × Int × Rat)):(PyData.list (ps.map caD)).depth<=60:=by
 have h:PyData.depthAll (ps.map caD)<=2:=B4g fun p _=>by
  show (PyData.tuple [.tuple [.str (sO p.1),.int p.2.1],.tuple [.int p.2.2.num,.int p.2.2.den]]).depth<=2;exact Zv _
 exact Nat.succ_le_succ (Zx h (by decide))
theorem m48:Str.ofString "0"=sO [48]:=by decide +kernel
theorem C3a (l:List Nat):(C6 l).length<=l.length:=by
 cases l with
 | nil=>exact Zv _
 | cons c r =>
  show (if c=45 then r else c :: r).length<=_;split
  ·exact Nat.le_succ _
  ·exact Zv _
theorem B68 {l:List Nat} {z:Nat} (h:z ∈ C6 l):z ∈ l:=by
 cases l with
 | nil=>exact h
 | cons c r =>
  have h:z ∈ (if c=45 then r else c :: r):=h;split at h
  ·exact Zr _ h
  ·exact h
theorem A9n (l:List Nat):Txt.slice (sO l) none (some 1)=sO (l.take 1):=by
 cases l with
 | nil=>rfl
 | cons c r=>exact U9 (l:=c :: r) (i:=1) (by rw [List.length_cons]; omega)
theorem A9o (l:List Nat):Txt.slice (sO l) (some (if decide (l.take 1=[45])=true then 1 else 0)) none=sO (C6 l):=by
 cases l with
 | nil=>rfl
 | cons c r =>
  by_cases h:c=45
  ·subst h;rw [if_pos (by rfl)];exact Z6 45 r
  ·rw [if_neg (by show ¬ decide ([c]=[45])=true; simpa using h)];have e:C6 (c :: r)=c :: r:=by
    show (if c=45 then r else c :: r)=_;exact if_neg h
   rw [e];exact V0 (l:=c :: r) (i:=0) (Nat.zero_le _)
theorem A1l (ws:List (List Nat)):(ws.map sO).map PyData.str=ws.map fun w=>PyData.str (sO w):=by rw [List.map_map]; rfl
theorem A6w {l:List Nat} {n:Int} (h:lnI l=some n):n.natAbs < 10 ^ 60:=by
 by_cases z:l.head?=some 45
 ·obtain ⟨r,rfl⟩:=head45.mp z;rw [A46] at h; cases h
 ·rw [<- A0p z] at h;exact (dgs_len (k:=59)).mpr (A81 h).2
theorem C7a (t b:Int) (q:Rat):(dq q).eqv (.tuple [.int t,.int b])=(decide (q.num=t) && decide ((q.den:Int)=b)):=by
 show ((q.num == t) && (((q.den:Int) == b) && true))=_;rw [Bool.and_true]; rfl
theorem C69 {t b:Int} (hb:0 < b):(dq (Rat.divInt t b)).eqv (.tuple [.int t,.int b])=decide (Int.gcd t b=1):=by
 rw [C7a];by_cases h:Int.gcd t b=1
 ·obtain ⟨e1,e2⟩:=B4b hb h;rw [e1,e2,Zk h,Zk rfl,Zk rfl]; rfl
 ·rw [Zd h];have hd:((Rat.divInt t b).den:Int)≠b:=by
   rw [Rat.den_divInt,if_neg (by omega)];have g0:0 < b.gcd t:=Int.gcd_pos_of_ne_zero_left _ (by omega);have g1:b.gcd t≠1:=by rw [Int.gcd_comm]; exact h
   have:=Nat.div_lt_self (n:=b.natAbs) (k:=b.gcd t) (by omega) (by omega);omega
  rw [Zd hd,Bool.and_false]
theorem num_neg {q:Rat}:q.num < 0 ↔ q < 0:=by
 constructor
 ·intro h;refine Rat.not_le.mp fun w=>?_;have:=Rat.num_nonneg.mpr w;omega
 ·intro h;refine Int.not_le.mp fun w=>?_;exact Rat.not_le.mpr h (Rat.num_nonneg.mp w)
theorem C0l {a:List Nat} {x:Option Rat}:caP a none x=none:=by
 unfold caP;split <;> rfl
theorem C7j {a:List Nat} {n:Option Int}:caP a n none=none:=by
 unfold caP;split
 ·cases n <;> rfl
 ·rfl
theorem B65 {a:List Nat} {n:Int} {q:Rat} (h:a ∈ arcs):caP a (some n) (some q)=if 0 < q then some (a,n,q) else none:=by
 unfold caP;rw [if_pos h]
theorem num_pos1 {q:Rat}:q.num < 1 ↔ ¬ 0 < q:=by
 constructor
 ·intro h w;have w1:=Rat.num_nonneg.mpr (Rat.le_of_lt w);have w2:q.num=0:=by omega
  have w3:q=0:=Rat.num_eq_zero.mp w2;rw [w3] at w;exact absurd w (by decide)
 ·intro h;refine Int.not_le.mp fun w=>h ?_;have w1:0<=q:=Rat.num_nonneg.mp (by omega);refine Rat.not_le.mp fun w2=>?_;rw [Rat.le_antisymm w2 w1] at w;exact absurd w (by decide)
theorem A0w (q:Rat):∀ c ∈ rtL q,c < 128:=B5l q
theorem A0j {y:List Nat} (hy:∀ c ∈ y,c < 128):∀ {ps:List (List Nat)},(∀ p ∈ ps,∀ c ∈ p,c < 128)->∀ c ∈ F7 y ps,c < 128:=fun h c hc=>by
 rcases X3 hc with m | ⟨p,hp,m⟩
 ·exact hy c m
 ·exact h p hp c m
theorem B5h (p:Rat × Rat):∀ c ∈ stT p,c < 128:=fun c hc=>by
 unfold stT at hc;rcases Za hc with m | m
 ·exact A0w _ c m
 ·rcases List.mem_cons.mp m with m | m
  ·omega
  ·exact A0w _ c m
theorem A2n (ps:List (Rat × Rat)):∀ c ∈ plT ps,c < 128:=A0j (by decide) fun p hp=>by
 obtain ⟨q,_,rfl⟩:=List.mem_map.mp hp;exact B5h q
theorem C1o (ps:List (Rat × Rat)):(PyData.str (sO (plT ps))).canLay0=true:=E8 (A2n ps)
theorem B64 {p:List Nat × Int × Rat} (h:CaOk p):∀ c ∈ caT p,c < 128:=fun c hc=>by
 unfold caT at hc;rcases Za hc with m | m
 ·have:=N2 _ h.w c m;omega
 ·rcases List.mem_cons.mp m with m | m
  ·omega
  ·rcases Za m with m | m
   ·rcases L9 _ c m with z | z <;> omega
   ·rcases List.mem_cons.mp m with m | m
    ·omega
    ·exact A0w _ c m
theorem S6 {ps:List (List Nat × Int × Rat)} (h:∀ p ∈ ps,CaOk p):∀ c ∈ paT ps,c < 128:=by
 unfold paT;split
 ·decide
 ·exact A0j (by decide) fun p hp=>by
   obtain ⟨q,hq,rfl⟩:=List.mem_map.mp hp;exact B64 (h q hq)
theorem T1 {y:List Nat} {m:Nat}:∀ {ps:List (List Nat)},(∀ p ∈ ps,p.length<=m)->(F7 y ps).length<=ps.length * (m + y.length)
 | [],_=>Nat.zero_le _
 | [p],h=>by
  have:=h p Zy;show p.length<=1 * (m + y.length);omega
 | p :: q :: r,h=>by
  have h1:=h p Zy;have ih:=T1 (y:=y) (ps:=q :: r) fun z hz=>h z (Zr _ hz);rw [J6,Ze,Ze,List.length_cons,Nat.succ_mul];omega
theorem B0c {ps:List (Rat × Rat)} (hne:ps≠[]) (hl:ps.length<=10) (hs:∀ p ∈ ps,StOk p):ShP (plT ps):=by
 have h:∀ w ∈ ps.map stT,w.length<=261:=fun w hw=>by
  obtain ⟨p,hp,rfl⟩:=List.mem_map.mp hw;exact A5w (hs p hp)
 refine ⟨?_,fun w hw=>?_⟩
 ·have:=T1 (y:=[44,32]) h;rw [Zl] at this;exact Zx this (Zx (Zu _ hl) (by decide))
 ·rw [A4t hne] at hw;exact Zx (h w hw) (by decide)
theorem C1x {ps:List (List Nat × Int × Rat)} (hne:ps≠[]) (hl:ps.length<=100) (hs:∀ p ∈ ps,CaOk p):ShP (paT ps):=by
 have h:∀ w ∈ ps.map caT,w.length<=139:=fun w hw=>by
  obtain ⟨p,hp,rfl⟩:=List.mem_map.mp hw;exact A7q (hs p hp)
 refine ⟨?_,fun w hw=>?_⟩
 ·have:=T1 (y:=[44,32]) h;rw [Zl] at this;unfold paT;rw [if_neg hne];exact Zx this (Zx (Zu _ hl) (by decide))
 ·rw [A4v hne hs] at hw;exact Zx (h w hw) (by decide)
theorem C51 {ps:List (Rat × Rat)} (hs:∀ p ∈ ps,StOk p) (hl:ps.length<=10):okA 8 (.list (ps.map stD)):=by
 show (ps.map stD).length < 1000/\∀ x ∈ ps.map stD,okA 7 x;refine ⟨by rw [Zl]; omega,fun x hx=>?_⟩;obtain ⟨p,_,rfl⟩:=List.mem_map.mp hx;show 2 < 1000/\∀ x ∈ [dq p.1,dq p.2],okA 6 x;refine ⟨by decide,fun x hx=>?_⟩;rcases List.mem_cons.mp hx with rfl | hx
 ·exact A27 _ 5
 ·rw [Zn hx]; exact A27 _ 5
theorem C50 {l:List Nat} (h:okP l=true) (hl:(splL [44,32] l).length<=10):okA 8 (.list (vaP l)):=by
 show (vaP l).length < 1000/\∀ x ∈ vaP l,okA 7 x;unfold vaP;refine ⟨by rw [Zl]; omega,fun x hx=>?_⟩;obtain ⟨p,hp,rfl⟩:=List.mem_map.mp hx;have hs:=List.all_eq_true.mp h p hp;cases e:stL p with
 | none=>rw [e] at hs; cases hs
 | some q =>
  show 2 < 1000/\∀ x ∈ [dq q.1,dq q.2],okA 6 x;refine ⟨by decide,fun x hx=>?_⟩;rcases List.mem_cons.mp hx with rfl | hx
  ·exact A27 _ 5
  ·rw [Zn hx]; exact A27 _ 5
theorem B9j {p:List Nat × Int × Rat} (h:p.1 ∈ arcs):okA 7 (caD p):=by
 have hl:(PyData.str (sO p.1)).canLay0=true:=E8 fun c hc=>by have:=N2 _ h c hc; omega
 show 2 < 1000/\∀ x ∈ [PyData.tuple [.str (sO p.1),.int p.2.1],dq p.2.2],okA 6 x;refine ⟨by decide,fun x hx=>?_⟩;rcases List.mem_cons.mp hx with rfl | hx
 ·show 2 < 1000/\∀ x ∈ [PyData.str (sO p.1),.int p.2.1],okA 5 x;refine ⟨by decide,fun x hx=>?_⟩;rcases List.mem_cons.mp hx with rfl | hx
  ·exact hl
  ·rw [Zn hx]; exact True.intro
 ·rw [Zn hx]; exact A27 _ 5
theorem C2m {ps:List (List Nat × Int × Rat)} (hs:∀ p ∈ ps,CaOk p) (hl:ps.length<=100):okA 8 (.list (ps.map caD)):=by
 show (ps.map caD).length < 1000/\∀ x ∈ ps.map caD,okA 7 x;refine ⟨by rw [Zl]; omega,fun x hx=>?_⟩;obtain ⟨p,hp,rfl⟩:=List.mem_map.mp hx;exact B9j (hs p hp).w
theorem C5z {l:List Nat} (h:okC l=true) (hl:(splL [44,32] l).length<=100):okA 8 (.list (vaC l)):=by
 show (vaC l).length < 1000/\∀ x ∈ vaC l,okA 7 x;unfold vaC;refine ⟨by rw [Zl]; omega,fun x hx=>?_⟩;obtain ⟨p,hp,rfl⟩:=List.mem_map.mp hx;have hs:=List.all_eq_true.mp h p hp;cases e:caW (splL [32] p) with
 | none=>rw [e] at hs; cases hs
 | some q=>exact B9j (A7r e)
theorem C4t {ps:List (List Nat × Int × Rat)} (hne:ps≠[]):paT ps≠[45]:=fun e=>by
 cases ps with
 | nil=>exact hne rfl
 | cons p r =>
  unfold paT at e;rw [if_neg (List.cons_ne_nil _ _)] at e;have:=X4 (y:=[44,32]) (ps:=(p :: r).map caT) (p:=caT p) (Zy);rw [e] at this;unfold caT at this;rw [Ze,List.length_cons,Ze,List.length_cons] at this;have:2<=([45]:List Nat).length:=by omega
  exact absurd this (by decide)
theorem C1y {ps:List (List Nat × Int × Rat)} (h:∀ p ∈ ps,CaOk p):(PyData.str (sO (paT ps))).canLay0=true:=E8 (S6 h)
theorem B42:∀ x ∈ [PyData.str (Str.ofString "start"),.str (Str.ofString "end"),.str (Str.ofString "wait"),.str (Str.ofString "hold")],∃ w,x=PyData.str (sO w)/\w ∈ arcs:=by
 obtain ⟨e1,e2,e3,e4⟩:=mArc;rw [e1,e2,e3,e4];intro x hx;simp only [List.mem_cons,List.not_mem_nil,or_false] at hx;rcases hx with rfl | rfl | rfl | rfl
 ·exact ⟨_,rfl,by decide⟩
 ·exact ⟨_,rfl,by decide⟩
 ·exact ⟨_,rfl,by decide⟩
 ·exact ⟨_,rfl,by decide⟩
theorem A8r {a b:Int} (hb:0 < b) (ha:0 < a):0 < Rat.divInt a b:=by
 refine Rat.not_le.mp fun w=>?_;have e:=Rat.le_antisymm w ((Rat.divInt_nonneg_iff_of_pos_right hb).mpr (Int.le_of_lt ha));have n0:(Rat.divInt a b).num=0:=by rw [e]; rfl
 rw [Rat.num_divInt,Int.sign_eq_one_of_pos hb,Int.one_mul] at n0;have hd:((b.gcd a:Nat):Int) ∣ a:=Int.gcd_dvd_right ..;have:=Int.ediv_mul_cancel hd;rw [n0] at this;omega
theorem C28:∀ d:Nat,d < 5->∃ n m:Int,([PyData.int 3,PyData.int 40,PyData.int (10 ^ Int.toNat 6),PyData.int (10 ^ Int.toNat 30),PyData.int (10 ^ Int.toNat 60 - 1)])[d]?=some (.int n)/\([PyData.int 1,PyData.int 12,PyData.int 60,PyData.int (10 ^ Int.toNat 59),PyData.int 1])[d]?=some (.int m)/\0 < n/\0 < m/\n + m<=10 ^ 60
 | 0,_=>⟨_,_,rfl,rfl,by decide +kernel,by decide +kernel,by decide +kernel⟩
 | 1,_=>⟨_,_,rfl,rfl,by decide +kernel,by decide +kernel,by decide +kernel⟩
 | 2,_=>⟨_,_,rfl,rfl,by decide +kernel,by decide +kernel,by decide +kernel⟩
 | 3,_=>⟨_,_,rfl,rfl,by decide +kernel,by decide +kernel,by decide +kernel⟩
 | 4,_=>⟨_,_,rfl,rfl,by decide +kernel,by decide +kernel,by decide +kernel⟩
 | n + 5,h=>absurd h (by omega)
theorem C63 {t b n m:Int} (h0:0<=t) (h1:t < n) (h3:0 < b) (h4:b<=m) (h5:n + m<=10 ^ 60):(Rat.divInt t b).num.natAbs + (Rat.divInt t b).den < 10 ^ 60:=by
 obtain ⟨e1,e2⟩:=A3k (t:=t) h3;have e:(10:Int) ^ 60=((10 ^ 60:Nat):Int):=by decide +kernel
 rw [e] at h5;generalize 10 ^ 60=N at *;omega
theorem sumL {a b c:Nat} (h:a + b < c):a < c:=Nat.lt_of_le_of_lt (Nat.le_add_right _ _) h
theorem sumR {a b c:Nat} (h:a + b < c):b < c:=Nat.lt_of_le_of_lt (Nat.le_add_left _ _) h
theorem C2r {q:Rat} (q0:0<=q) (h:q.num.natAbs + q.den < 10 ^ 60):0 < Rat.divInt (q.num + (q.den:Int)) (q.den:Int)/\(Rat.divInt (q.num + (q.den:Int)) (q.den:Int)).num.natAbs < 10 ^ 60/\(Rat.divInt (q.num + (q.den:Int)) (q.den:Int)).den < 10 ^ 60/\(q.num + (q.den:Int)).natAbs < 10 ^ 60:=by
 have n0:=Rat.num_nonneg.mpr q0;have d0:=q.den_pos;have hd:(0:Int) < (q.den:Int):=by omega
 obtain ⟨e1,e2⟩:=A3k (t:=q.num + (q.den:Int)) hd;have e3:(q.num + (q.den:Int)).natAbs=q.num.natAbs + q.den:=by omega
 refine ⟨A8r hd (by omega),Nat.lt_of_le_of_lt e1 (by rw [e3]; exact h),Nat.lt_of_le_of_lt e2 (sumR h),by rw [e3]; exact h⟩
theorem C01 {i n:Nat} (h:i < stepN 0 (n:Int) 10):i * 10 < n:=by
 unfold stepN at h;split at h
 ·omega
 ·omega
theorem C06 {α:Type} (f:α->PyData) (ps:List α) (n:Nat):(List.replicate n (ps.map f)).flatten=((List.replicate n ps).flatten).map f:=by
 rw [List.map_flatten,List.map_replicate]
theorem C05 {α:Type} {ps:List α} {n:Nat} {x:α} (h:x ∈ (List.replicate n ps).flatten):x ∈ ps:=by
 obtain ⟨l,hl,hx⟩:=List.mem_flatten.mp h;rw [List.eq_of_mem_replicate hl] at hx;exact hx
theorem A3m {α:Type} (f:α->PyData) (ps:List α):cutD (ps.map f) (some 1) none=(ps.drop 1).map f:=by
 unfold cutD;have e2:HT.sIx (ps.map f).length (ps.map f).length none=(ps.map f).length:=rfl;rw [e2];cases ps with
 | nil=>rfl
 | cons a r =>
  have e1:HT.sIx ((a :: r).map f).length 0 (some 1)=1:=by
   unfold HT.sIx;simp
  rw [e1,Zl,List.map_drop];refine List.take_of_length_le ?_;rw [List.length_drop,Zl];exact Zv _
theorem C0k {α:Type} (f:α->PyData) (ps:List α) (n:Nat):cutD (ps.map f) none (some (n:Int))=(ps.take n).map f:=by
 unfold cutD;have e1:HT.sIx (ps.map f).length 0 none=0:=rfl;have e2:HT.sIx (ps.map f).length (ps.map f).length (some (n:Int))=min n ps.length:=by
  unfold HT.sIx;simp;intro h;omega
 rw [e1,e2,List.drop_zero,Nat.sub_zero,<- List.map_take];congr 1
 rw [List.take_eq_take_iff]; omega
theorem cut3 {α:Type} (f:α->PyData) (ps:List α):cutD (ps.map f) none (some 3)=(ps.take 3).map f:=C0k f ps 3
theorem B52 {ps:List (Rat × Rat)} (hn:ps.length<=3) (hs:∀ p ∈ ps,StOk p):(plT ps).length<=789:=by
 have:=T1 (y:=[44,32]) (m:=261) (ps:=ps.map stT) fun w hw=>by
  obtain ⟨p,hp,rfl⟩:=List.mem_map.mp hw;exact A5w (hs p hp)
 rw [Zl] at this;exact Zx this (Zu _ hn)
theorem B56 {ps:List (List Nat × Int × Rat)} (hne:ps≠[]) (hn:ps.length<=3) (hs:∀ p ∈ ps,CaOk p):(paT ps).length<=423:=by
 have:=T1 (y:=[44,32]) (m:=139) (ps:=ps.map caT) fun w hw=>by
  obtain ⟨p,hp,rfl⟩:=List.mem_map.mp hw;exact A7q (hs p hp)
 rw [Zl] at this;unfold paT;rw [if_neg hne];exact Zx this (Zu _ hn)
theorem B53 {ps:List (Rat × Rat)} (hn:ps.length<=3):(plT ps).count 44 + 1<=4:=by
 have:=A1o (ps:=ps.map stT) fun w hw=>by
  obtain ⟨p,_,rfl⟩:=List.mem_map.mp hw;exact A9j p
 rw [Zl] at this;exact Zx this (by omega)
theorem B57 {ps:List (List Nat × Int × Rat)} (hne:ps≠[]) (hn:ps.length<=3) (hs:∀ p ∈ ps,CaOk p):(paT ps).count 44 + 1<=4:=by
 have:=A1o (ps:=ps.map caT) fun w hw=>by
  obtain ⟨p,hp,rfl⟩:=List.mem_map.mp hw;exact B4s (hs p hp)
 rw [Zl] at this;unfold paT;rw [if_neg hne];exact Zx this (by omega)
theorem A01 {l a b:List Nat} {c:Nat} (h:l=a++b):(a++c :: b).length=l.length + 1:=by
 rw [h,Ze,Ze,List.length_cons]; omega
theorem A7y {c:Nat} (h:alnB c=true):c≠44/\c≠45/\c < 128:=by
 unfold alnB at h;simp only [Bool.or_eq_true,Bool.and_eq_true,decide_eq_true_eq] at h;omega
theorem A92 {l a b:List Nat} {c:Nat} (hc:c < 128) (h:l=a++b) (ha:∀ z ∈ l,z < 128):∀ z ∈ a++c :: b,z < 128:=fun z hz=>by
 rcases Za hz with m | m
 ·exact ha z (by rw [h]; exact Zt _ m)
 ·rcases List.mem_cons.mp m with m | m
  ·omega
  ·exact ha z (by rw [h]; exact Zw _ m)
theorem A2d {l a b:List Nat} {c:Nat} (hc:alnB c=true) (h:l=a++b) (ha:∀ z ∈ l,z < 128):∀ z ∈ a++c :: b,z < 128:=A92 (A7y hc).2.2 h ha
theorem B8a {a b:List Nat} {c:Nat} (hc:c≠45/\c < 128):a++c :: b≠[45]:=fun e=>by
 have:c ∈ a++c :: b:=by simp
 rw [e] at this;exact hc.1 (Zn this)
theorem A9i {c:Nat} (h:strC c=true):c < 128:=by
 unfold strC at h;simp only [Bool.and_eq_true,decide_eq_true_eq] at h;exact h.2
theorem C2q {a b:List Nat} {c:Nat} (hc:strC c=true) (hl:(a++b).length<=900):NoP (.str (sO (a++c :: b))):=by
 refine ⟨S3 ?_,fun w=>?_⟩
 ·show (a++c :: b).length<=1000;rw [A01 rfl]; omega
 have h:okP (a++c :: b)=false:=B50 hc (by simp);have w1:okP (a++c :: b)=true:=w.1;rw [h] at w1; cases w1
theorem B6r {a b:List Nat} {c:Nat} (hc:strC c=true) (hl:(a++b).length<=900) (ha:∀ z ∈ a++b,z < 128):NoC (.str (sO (a++c :: b))):=by
 refine ⟨S3 ?_,A92 (A9i hc) rfl ha,B8a ⟨(R9 hc).2.1,A9i hc⟩,fun w=>?_⟩
 ·show (a++c :: b).length<=1000;rw [A01 rfl]; omega
 have h:okC (a++c :: b)=false:=B0l hc (by simp);have w1:okC (a++c :: b)=true:=w.1;rw [h] at w1; cases w1
section
variable {P:Program} {w:World} {K:PySem.W.Frag} {mg:Str->Option Value} {base:Heap} {D:Adr}
theorem A1h (T:Txt K mg D):FnOk P w K mg base CX0 1 D.a_a6 D.d_a6 ["one","other"] (Pu.spOf K [.dat,.dat] C4g):=by
 refine T.B.F_a6.ok sc_a6 (Zz rfl) (fun cdv A outer s H vs Q E hr h=>?_);refine ⟨_,(QSs.out (A2 (W3 (i:=0) (j:=1) rfl sc_a6.nd rfl rfl (by decide) rfl rfl (A0 (B6 Y0 (by rfl) T.z_abs (by rfl) (A0 (qpv 0) A1)) (A0 (B6 Y0 (by rfl) T.z_abs (by rfl) (A0 (qpv 1) A1)) A1)) rfl)
   (A2 (W2 Zf (A7 (G5 (K:=K) rfl hr.units) (qpv 1) A3 (B1 _))
    (A4 (W3 (i:=0) (j:=1) rfl sc_a6.nd rfl rfl (by decide) rfl rfl (A0 (qpv 1) (A0 (B3 P9 (qpv 0) (qpv 1)) A1)) rfl)))
   (A4 (A8 (qpv 0)))))),?_⟩
 haveI:=T.c2_ARC_WORDS
 refine Pu.F2 h ?_;rintro as Qp ⟨a,b,rfl,k⟩;trivial;refine ⟨fun m e=>∃ x y:Int,e=[some (.d (.int x)),some (.d (.int y))]/\0<=x/\0<=y/\m=y.toNat/\Int.gcd x y=Int.gcd a b,⟨_,_,_,rfl,by split <;> omega,by split <;> omega,rfl,C21 a b⟩,?_⟩
 rintro m e ⟨x,y,rfl,hx,hy,rfl,hg⟩;trivial;refine ite2 (fun e=>?_) (fun hn=>?_)
 ·subst e;have:=A7f x hx;rw [hg] at this;rw [<- this]; exact k
 ·have h1:=Int.emod_lt_of_pos x (show 0 < y by omega);have h2:=Int.emod_nonneg x hn;exact ⟨by omega,(x % y).toNat,by omega,y,x % y,rfl,hy,h2,rfl,by rw [B33,hg]⟩
theorem A23 (T:Txt K mg D):FnOk P w K mg base CX0 1 D.a_c0 D.d_c0 ["one","other"] (Pu.spOf K [.dat,.dat] C1k):=by
 refine T.B.F_c0.ok sc_c0 (Zz rfl) (fun cdv A outer s H vs Q E hr h=>?_);refine ⟨_,(QSs.out (A4 (A8 (G9 A2z (B3 O0 (qix K (qpv 0) A3) (qix K (qpv 1) A3)) (B3 O0 (qix K (qpv 1) A3) (qix K (qpv 0) A3)) (B1 _))))),?_⟩
 haveI:=T.c2_ARC_WORDS
 refine Pu.F2 h ?_;rintro as Qp ⟨p,q,rfl,sp,sq,k⟩;trivial;have p1:=sp.1.mono (l:=8000) (by decide);have p2:=sp.2.mono (l:=8000) (by decide);have q1:=sq.1.mono (l:=8000) (by decide);have q2:=sq.2.mono (l:=8000) (by decide);refine ⟨⟨p1,q2⟩,⟨q1,p2⟩,?_⟩;rw [B6s]; exact k
def A04:Pu.PSp:=fun as Q=>∃ n:Int,as=[.d (.int n)]/\n.natAbs < 10 ^ 300/\Q (.d (.str (sO (whL n))))
theorem J7 (T:Txt K mg D):FnOk P w K mg base CX0 1 D.a_a9 D.d_a9 ["number"] (Pu.spOf K [.dat] A04):=by
 refine T.B.F_a9.ok sc_a9 (Zz rfl) (fun cdv A outer s H vs Q E hr h=>?_);refine ⟨_,(QSs.out (A2 (qst 1 sc_a9 (C2 A1))
   (A2 (qst 2 sc_a9 (B6 Y0 (by rfl) T.z_abs (by rfl) (A0 (qpv 0) A1)))
   (A2 (W2 Zf (A7 C5w (qpv 2) (G8 (v:=.int 1000000000000000000) rfl T.ci_CHUNK.choose_spec ⟨_,rfl⟩) (B1 _))
    (A2 (W4 (B6 A30 (by rfl) T.z_divmod (by rfl) (A0 (qpv 2) (A0 (G8 (v:=.int 1000000000000000000) rfl T.ci_CHUNK.choose_spec ⟨_,rfl⟩) A1))) (G7 (K:=K) (n:=2) rfl rfl (B4 (qgn 2 sc_a9) (B4 (qgn 3 sc_a9) G6)) rfl rfl))
    (A4 (K5 (C3 (K:=K) rfl Z1 Z2 Z3 J1 (qpv 1) (A0 (C3 (K:=K) rfl PySem.F.plainAttrs_str PySem.F.slot_str_zfill PySem.F.type_str_zfill B2x (D1 L8 (by rfl) T.z_str (by rfl) (A0 (qpv 3) A1)) (A0 (G8 (v:=.int 18) rfl T.ci_CHUNK_FIGURES.choose_spec ⟨_,rfl⟩) A1)) A1))))))
   (A2 (K5 (C3 (K:=K) rfl Z1 Z2 Z3 J1 (qpv 1) (A0 (D1 L8 (by rfl) T.z_str (by rfl) (A0 (qpv 2) A1)) A1)))
   (A2 (qst 4 sc_a9 (C3 (K:=K) rfl PySem.F.plainAttrs_str PySem.F.slot_str_join PySem.F.type_str_join (T0 (K:=K) rfl) A5 (A0 (A55 (K:=K) rfl (qpv 1) (B76 B7k A3)) A1)))
   (A4 (A8 (G2 (A7 A2z (qpv 0) A3 (B1 _)) (V3 (FP.cons A5 (FP.cons (N8 (qpv 4)) FP.nil))) (qpv 4)))))))))),?_⟩
 haveI:=T.c2_ARC_WORDS
 refine Pu.F2 h ?_;rintro as Qp ⟨n,rfl,hn,k⟩;refine hd fun R hR=>?_;trivial;subst hR;refine hd fun R hR=>?_;trivial;rw [B2w];subst hR;have hl:=B4d hn;refine hd fun R hR=>?_;refine B5c (fun m e=>∃ (a:Nat) (cs:List (List Nat)) (o:Option SV),e=[some (.d (.int n)),some (.own (cs.map fun c=>.str (sO c))),some (.d (.int (a:Int))),o,none]/\m=a/\dgs n.natAbs=dgs a++cs.reverse.flatten/\∀ c ∈ cs,c.length=18) ⟨_,n.natAbs,[],_,rfl,rfl,by simp,fun _ z=>nomatch z⟩ ?_;rintro a e ⟨_,cs,o,rfl,rfl,ed,hc⟩;have hfl:=A7h (ls:=cs.reverse) (k:=18) fun l z=>hc l (List.mem_reverse.mp z);have hll:(dgs a).length + cs.reverse.flatten.length<=300:=by rw [<- Ze,<- ed]; exact hl
 rw [List.length_reverse] at hfl;have a300:a < 10 ^ 300:=(dgs_len (k:=299)).mpr (by omega);trivial;refine ite2 (fun z=>?_) (fun z=>?_)
 ·have z':10 ^ 18<=a:=by omega
  have hC:(10:Nat) ^ 18=1000000000000000000:=by decide
  have e1:((a:Nat):Int) / 1000000000000000000=((a / 10 ^ 18:Nat):Int):=by rw [hC]; omega
  have e2:((a:Nat):Int) % 1000000000000000000=((a % 10 ^ 18:Nat):Int):=by rw [hC]; omega
  have hr:a % 10 ^ 18 < 10 ^ 18:=Nat.mod_lt a (by decide);refine ⟨by decide,by unfold Sm; decide,?_⟩;rw [e1,e2];trivial;refine ⟨A47 (i:=((a % 10 ^ 18:Nat):Int)) (Nat.lt_of_lt_of_le hr (by decide +kernel)),by decide,?_⟩;rw [K3 (Int.natCast_nonneg _),show (((a % 10 ^ 18:Nat):Int)).natAbs=a % 10 ^ 18 from rfl,B49 hr];trivial;refine ⟨by omega,a / 10 ^ 18,by omega,a / 10 ^ 18,cs++[padN 18 (a % 10 ^ 18)],_,by rw [Zc]; rfl,rfl,?_,fun c h=>?_⟩
  ·have:=B4c (k:=18) (q:=a / 10 ^ 18) (r:=a % 10 ^ 18) (Nat.div_pos z' (by decide)) hr;rw [Nat.div_add_mod] at this;rw [ed,this,List.reverse_append,List.append_assoc]; rfl
  ·rcases Za h with h | h
   ·exact hc c h
   ·rw [Zn h]; exact A6a _ _
 subst hR;refine hd fun R hR=>?_;trivial;refine ⟨A47 (i:=((a:Nat):Int)) a300,by omega,?_⟩;rw [K3 (Int.natCast_nonneg _),show ((a:Nat):Int).natAbs=a from rfl];subst hR;refine hd fun R hR=>?_;trivial;have em:(cs.map fun c=>PyData.str (sO c))++[.str (sO (dgs a))]=(cs++[dgs a]).map fun c=>PyData.str (sO c):=by rw [Zc]; rfl
 rw [em,<- List.map_reverse];have ef:((cs++[dgs a]).reverse).flatten=dgs n.natAbs:=by rw [ed,List.reverse_append]; rfl
 rw [mE];refine ⟨_,P1 _,by rw [B7t,ef]; omega,?_⟩;rw [B3w,ef];subst hR;trivial;refine ite2 (fun h=>?_) (fun h=>?_)
 ·have ew:sO (whL n)=Str.empty++sO [45]++sO (dgs n.natAbs):=by
   show _=sO []++sO [45]++sO (dgs n.natAbs);rw [C8,C8];unfold whL;rw [if_pos h]; rfl
  rw [m45];rw [ew] at k;have h1:(Str.empty++sO [45]).length=1:=rfl;exact ⟨by decide,by rw [A9]; omega,by rw [h1,A9]; omega,k⟩
 ·have ew:whL n=dgs n.natAbs:=by unfold whL; rw [if_neg h]
  rw [ew] at k;exact k
def A05:Pu.PSp:=fun as Q=>∃ q:Rat,as=[.d (dq q)]/\q.num.natAbs < 10 ^ 300/\q.den < 10 ^ 300/\Q (.d (.str (sO (rtL q))))
theorem M3 (T:Txt K mg D):FnOk P w K mg base CX0 2 D.a_a8 D.d_a8 ["one"] (Pu.spOf K [.dat] A05):=by
 refine T.B.F_a8.ok sc_a8 (Zz rfl) (fun cdv A outer s H vs Q E hr h=>?_);refine ⟨_,(QSs.out (A2 (W4 (qpv 0) (G7 (K:=K) (n:=2) rfl rfl (B4 (qgn 1 sc_a8) (B4 (qgn 2 sc_a8) G6)) rfl rfl))
   (A4 (A8 (G2 (A7 (D5 (K:=K) rfl hr.units) (qpv 2) A3 (B1 _)) (qcK (J7 (K:=K) T) hr.mo (K7 T) (A0 (qpv 1) A1)) (V3 (FP.cons (N8 (qcK (J7 (K:=K) T) hr.mo (K7 T) (A0 (qpv 1) A1))) (FP.cons A5 (FP.cons (N8 (qcK (J7 (K:=K) T) hr.mo (K7 T) (A0 (qpv 2) A1))) FP.nil))))))))),?_⟩
 haveI:=T.c2_ARC_WORDS
 refine Pu.F2 h ?_;rintro as Qp ⟨q,rfl,h1,h2,k⟩;trivial;have hw:(whL q.num).length<=301:=by
  have:=B4d h1;unfold whL;split
  ·rw [List.length_cons]; omega
  ·omega
 refine ite2 (fun h=>?_) (fun h=>?_)
 ·refine ⟨_,rfl,h1,?_⟩;have:rtL q=whL q.num:=by unfold rtL; rw [if_neg (by omega),List.append_nil]
  rw [this] at k;trivial;exact k
 ·refine ⟨_,rfl,h1,?_⟩;have hd':=B4d h2;have e:Str.empty++sO (whL q.num)++Str.ofString "/"++sO (whL (q.den:Int))=sO (rtL q):=by
   show sO []++sO (whL q.num)++_++_=_;rw [m47,C8,C8,C8,A1v];unfold rtL;rw [if_pos (by have:=q.den_pos; omega)]; simp
  have e2:Str.empty++sO (whL q.num)++Str.ofString "/"=sO (whL q.num++[47]):=by
   show sO []++sO (whL q.num)++_=_;rw [m47,C8,C8]; rfl
  have e1:Str.empty++sO (whL q.num)=sO (whL q.num):=by
   show sO []++sO (whL q.num)=_;rw [C8]; rfl
  trivial;have L0:Str.empty.length=0:=rfl;have L1:(sO (whL q.num)).length<=301:=by rw [A9]; exact hw
  have L2:(Str.ofString "/").length=1:=by rw [m47,A9]; rfl
  have L3:(sO (whL (q.den:Int))).length<=300:=by rw [A9,A1v]; exact hd'
  have L4:(sO (whL q.num++[47])).length<=302:=by rw [A9,Ze]; show _ + 1<=_; omega
  refine ⟨by omega,by omega,by rw [e1]; omega,_,rfl,h2,?_⟩;trivial;rw [e];exact ⟨by omega,by rw [e2]; omega,k⟩
def A77:Pu.PSp:=fun as Q=>∃ l:List Nat,as=[.d (.str (sO l))]/\l.length<=1000/\Q (.d (oI (wIn l)))
theorem T9 (T:Txt K mg D):FnOk P w K mg base CX0 2 D.a_bc D.d_bc ["text"] (Pu.spOf K [.dat] A77):=by
 refine T.B.F_bc.ok sc_bc (Zz rfl) (fun cdv A outer s H vs Q E hr h=>?_);refine ⟨_,(QSs.out (A2 (qst 1 sc_bc (G2 (B8 (C3 (K:=K) rfl PySem.F.plainAttrs_str PySem.F.slot_str_startswith PySem.F.type_str_startswith A8j (qpv 0) (A0 A5 A1))) (C4 S2 (qpv 0) (D6 A3) D7) (qpv 0)))
   (A2 (B5 (QW.pt (D9 (E6 (A2a B6h B6h A3 (qln K T.z_len (qpv 1)) (G8 (v:=.int 60) rfl T.ci_MOST_FIGURES.choose_spec ⟨_,rfl⟩))) (F4 (E6 (B8 (B6 (B4r (K:=K) rfl) (by rfl) T.z_all (by rfl) (A0 (S5 rfl (J5 ["sign"] [none]) (A9x (qpv 1)) (fun _ _ _=>(qgc 0 ["sign"])) (fun _ _ _=>K4) (fun _ _ _=>(G9 C5u (qpv 0) (G8 (v:=.str "0123456789") rfl T.cs_FIGURES.choose_spec ⟨_,rfl⟩) (by with_unfolding_all rfl)))) A1)))))))
    (A4 (A8 B2))
    B0)
   (A2 (qst 2 sc_bc (D1 A3x (by rfl) T.z_int (by rfl) (A0 (qpv 0) A1)))
   (A4 (A8 (G2 (A7 (D5 (K:=K) rfl hr.units) (qcK (J7 (K:=K) T) hr.mo (K7 T) (A0 (qpv 2) A1)) (qpv 0) (B1 _)) (qpv 2) B2))))))),?_⟩
 haveI:=T.c2_ARC_WORDS
 refine Pu.F2 h ?_;rintro as Qp ⟨l,rfl,hl,k⟩;have hb:(C6 l).length<=l.length:=by
  cases l with
  | nil=>exact Zv _
  | cons c r =>
   show (if c=45 then r else c :: r).length<=_;split
   ·exact Nat.le_succ _
   ·exact Zv _
 refine Q4 (fun e=>e=[some (.d (.str (sO l))),some (.d (.str (sO (C6 l)))),none]) (fun R hR=>?_) ?_
 ·trivial;rw [m45,A72];cases l with
  | nil=>exact ite2 (fun z=>by cases z) fun _=>hR _ rfl
  | cons c r =>
   refine ite2 (fun z=>?_) (fun z=>?_)
   ·have:c=45:=by simpa using z
    subst this;have eb:C6 (45 :: r)=r:=by
     show (if 45=45 then r else 45 :: r)=r;exact if_pos rfl
    refine ⟨by rw [A9]; omega,?_⟩;rw [Z6];exact hR _ (by rw [eb])
   ·have ne:¬ c=45:=fun h=>z (by rw [h]; rfl);have eb:C6 (c :: r)=c :: r:=by
     show (if c=45 then r else c :: r)=c :: r;exact if_neg ne
    exact hR _ (by rw [eb])
 rintro e rfl;have no:¬ (1<=(C6 l).length/\(C6 l).length<=60/\(C6 l).all digB=true)->Qp (.d .none):=fun h=>by
  unfold wIn at k;rw [if_neg h] at k; exact k
 refine hd fun R hR=>?_;trivial;rw [A9];refine ⟨by omega,ite2 (fun h1=>ite2 (fun h2=>?_) fun h2=>no fun z=>by omega) fun h1=>no fun z=>by omega⟩;refine ⟨by rw [A0u,Zl]; omega,?_⟩;rw [A0u];refine K6 (f:=sgn) (xs:=C6 l) (fun i e ys=>∃ o:Option SV,e=[o]/\ys=(((C6 l).take i).map digB).map .bool) ⟨_,rfl,rfl⟩ ?_ ?_
 ·rintro i c e ys hi ⟨o,rfl,rfl⟩;unfold sgn;trivial;rw [mFig,C0i];refine ⟨_,rfl,?_⟩;rw [List.take_add_one,hi,Zc,Zc]; rfl
 rintro e ys ⟨o,rfl,rfl⟩;rw [List.take_length];trivial;refine ⟨_,A7s _,?_⟩;have ea:((C6 l).map digB).all id=(C6 l).all digB:=by rw [List.all_map]; rfl
 rw [ea];refine ite2 (fun h3=>no fun z=>by rw [z.2.2] at h3; cases h3) fun h3=>?_;have h3:(C6 l).all digB=true:=by cases q:(C6 l).all digB with
  | true=>rfl
  | false=>exact absurd q h3
 have h1:1<=(C6 l).length:=by omega
 have h2:(C6 l).length<=60:=by omega
 subst hR;trivial;refine ⟨_,C0g h3 h1 hl,by rw [A9]; have:=B69 l; omega,_,rfl,R7 (A83 h3 h2),?_⟩;have l1:∀ c ∈ l,c < 128:=fun c hc=>by
  have hd':=M8 h3;cases l with
  | nil=>cases hc
  | cons x r =>
   have eb:C6 (x :: r)=if x=45 then r else x :: r:=rfl;rw [eb] at hd';split at hd'
   ·rcases List.mem_cons.mp hc with m | m
    ·omega
    ·have:=hd' c m;omega
   ·have:=hd' c hc;omega
 have l2:∀ c ∈ whL (valL l),c < 128:=fun c hc=>by
  have:=L9 _ c hc;omega
 unfold wIn at k;rw [if_pos ⟨h1,h2,h3⟩] at k;trivial;rw [N3];refine ⟨E8 l2,E8 l1,ite2 (fun z=>?_) (fun z=>?_)⟩
 ·rw [if_pos (of_decide_eq_true z)] at k; exact k
 ·rw [if_neg (fun y=>z (Zk y))] at k; exact k
def A79:Pu.PSp:=fun as Q=>∃ l:List Nat,as=[.d (.str (sO l))]/\l.length<=1000/\Q (.d (oR (rIn l)))
theorem U0 (T:Txt K mg D):FnOk P w K mg base CX0 3 D.a_bb D.d_bb ["text"] (Pu.spOf K [.dat] A79):=by
 refine T.B.F_bb.ok sc_bb (Zz rfl) (fun cdv A outer s H vs Q E hr h=>?_);refine ⟨_,(QSs.out (A2 (W4 (C3 (K:=K) rfl PySem.F.plainAttrs_str PySem.F.slot_str_partition PySem.F.type_str_partition A1k (qpv 0) (A0 A5 A1)) (G7 (K:=K) (n:=3) rfl rfl (B4 (qgn 1 sc_bb) (B4 (qgn 2 sc_bb) (B4 (qgn 3 sc_bb) G6))) rfl rfl))
   (A2 (qst 4 sc_bb (qcK (T9 (K:=K) T) hr.mo (Y1 T) (A0 (qpv 1) A1)))
   (A2 (qst 5 sc_bb (G2 (A7 (D5 (K:=K) rfl hr.units) (qpv 2) A5 (B1 _)) (qcK (T9 (K:=K) T) hr.mo (Y1 T) (A0 (qpv 3) A1)) A3))
   (A2 (B5 (QW.pt (D9 (A7 E7 (qpv 4) B2 (B1 _)) (F4 (A7 E7 (qpv 5) B2 (B1 _)))))
    (A4 (A8 B2))
    B0)
   (A2 (B5 (QW.pt (A0x (A7 (D5 (K:=K) rfl hr.units) (qpv 2) A5 (B1 _)) (V2 (QW.pt (D9 (A7 A2z (qpv 5) A3 (B1 _)) (F4 (A7 (G5 (K:=K) rfl hr.units) (qcK (A1h (K:=K) T) hr.mo (A38 T) (A0 (qpv 4) (A0 (qpv 5) A1))) A3 (B1 _))))))))
    (A4 (A8 B2))
    B0)
   (A4 (A8 (C5 (A0 (qpv 4) (A0 (qpv 5) A1))))))))))),?_⟩
 haveI:=T.c2_ARC_WORDS
 refine Pu.F2 h ?_;rintro as Qp ⟨l,rfl,hl,k⟩;obtain ⟨esum,hsl⟩:=T6 47 l;have hlen:(parS 47 l).1.length + (parS 47 l).2.1.length + (parS 47 l).2.2.length=l.length:=by
  have:=congrArg List.length esum;rw [Ze,Ze] at this; exact this
 have ly:∀ c ∈ (parS 47 l).2.1,c < 128:=fun c hc=>by
  rcases hsl with z | z
  ·rw [z.1] at hc; cases hc
  ·rw [z] at hc;have:=Zn hc;omega
 refine hd fun R hR=>?_;trivial;rw [m47,A4u];refine ⟨rfl,by rw [A9]; omega,?_⟩;subst hR;unfold rIn at k;generalize (parS 47 l).1=p1 at *;generalize (parS 47 l).2.1=p2 at *;generalize (parS 47 l).2.2=p3 at *;refine hd fun R hR=>?_;trivial;refine ⟨p1,rfl,by omega,?_⟩;trivial;subst hR;refine Q4 (fun e=>e=[some (.d (.str (sO l))),some (.d (.str (sO p1))),some (.d (.str (sO p2))),some (.d (.str (sO p3))),some (.d (oI (wIn p1))),some (.d (oI (if p2=[47] then wIn p3 else some 1)))]) (fun R hR=>?_) ?_
 ·trivial;rw [m47,N3];refine ⟨E8 ly,C6n,ite2 (fun z=>?_) (fun z=>?_)⟩
  ·have z:=of_decide_eq_true z;refine ⟨p3,rfl,by omega,?_⟩;trivial;exact hR _ (by rw [if_pos z])
  ·exact hR _ (by rw [if_neg (fun y=>z (Zk y))]; rfl)
 rintro e rfl;trivial;rw [m47,N3];cases h1:wIn p1 with
 | none =>
  rw [h1] at k;rw [if_pos (show isNo (oI none)=true from rfl)]; exact k
 | some t =>
  cases h2:(if p2=[47] then wIn p3 else some 1) with
  | none =>
   rw [h1,h2] at k;rw [if_neg (show ¬ isNo (oI (some t))=true from fun z=>Bool.noConfusion z),if_pos (show isNo (oI none)=true from rfl)]; exact k
  | some b =>
   rw [h1,h2] at k;have k:Qp (.d (oR (if p2=[47]/\(b < 2\/((Int.gcd t b:Nat):Int)≠1) then none else some (t,b)))):=k;rw [if_neg (show ¬ isNo (oI (some t))=true from fun z=>Bool.noConfusion z),if_neg (show ¬ isNo (oI (some b))=true from fun z=>Bool.noConfusion z)];refine ⟨E8 ly,C6n,ite2 (fun z=>?_) (fun z=>?_)⟩
   ·have z:=of_decide_eq_true z;unfold oI;trivial;refine ite2 (fun y=>?_) (fun y=>?_)
    ·rw [if_pos ⟨z,.inl y⟩] at k; exact k
    ·refine ⟨t,b,rfl,?_⟩;trivial;refine ite2 (fun w=>?_) (fun w=>?_)
     ·rw [if_neg (fun q=>q.2.elim y fun q=>q w)] at k; exact k
     ·rw [if_pos ⟨z,.inr w⟩] at k; exact k
   ·rw [if_neg (fun y=>z (Zk y.1))] at k; exact k
theorem A8h (T:Txt K mg D):FnOk P w K mg base CX0 1 D.a_bd D.d_bd ["_law_script","_law_k"] (A5y K):=by
 refine T.B.F_bd.ok sc_bd (fun vs H Q E h=>?_) (fun cdv A outer s H vs Q E hr h=>?_)
 ·obtain ⟨a,ns,k,rfl,_⟩:=h; rfl
 ·obtain ⟨a,ns,k,rfl,ha,k0,k1,kk⟩:=h;refine ⟨_,(J0 (Z9 (i:=2) sc_bd.nd rfl (Or.inl rfl) D0)
   (J0 (B5x (A94 A2z (pv 1) (A1d call_len_seq (by rfl) T.z_len PySem.boot_len (pa_cons (pv 0) pa_nil)) (B1 _))
    (Q6 (Z9 (i:=2) sc_bd.nd rfl (Or.inl rfl) (A1b ix_list (pv 0) (pv 1) (fun _ _=>rfl))))
    A03)
   (Q6 (A0a (B8f (pa_cons (pv 2) (pa_cons (K2 P9 (K2 J9 (K2 J9 (K2 P9 (pv 2) D0) (K2 O0 (K2 O0 D0 (pv 1)) (pv 1))) D0) D0) (pa_cons (A1c C5w (pv 2) (K2 W8 D0 D0) (B1 _)) pa_nil)))))))),?_⟩
  have fin:∀ c:Int,∃ v,([some (V.ref a),some (V.int k),some (V.int c)]:St)[2]?=some (some v) /\
    (G4 (tOp (rI (fun _ j=>0 < j) fun i j=>.int (i % j)) (tOp (rI0 fun i j=>.int (i + j)) (tOp (rI0 fun i j=>.int (i + j)) (tOp (rI (fun _ j=>0 < j) fun i j=>.int (i % j)) (tVar 2) (tC (.int 2147483587)))
     (tOp (rI C3f fun i j=>.int (i * j)) (tOp (rI C3f fun i j=>.int (i * j)) (tC (.int 104729)) (tVar 1)) (tVar 1))) (tC (.int 7))) (tC (.int 2147483587)))
     (G4 (tOp (rI0 fun i j=>.bl (decide (j<=i))) (tVar 2) (tOp (rI CPow fun i j=>.int (i ^ j.toNat)) (tC (.int 10)) (tC (.int 18)))) tNil)) [some (V.ref a),some (V.int k),some (V.int c)] H
     fun xs H1=>(v :: xs).length<=sizeLine/\∀ p,H1 p=none->Q (.ref p) (upd H1 p (.lst (v :: xs))):=by
   intro c;refine ⟨_,rfl,_,rfl,_,_,rfl,rfl,(by show (0:Int) < 2147483587; decide),_,rfl,_,_,rfl,rfl,⟨Z5 0,A5z k0 k1⟩,_,rfl,_,_,rfl,rfl,⟨(Sm.mul (k:=20) (l:=20) (by unfold Sm; decide) (C3u k0 k1)).mono (by decide),A5z k0 k1⟩,
    _,_,rfl,rfl,_,_,rfl,rfl,_,_,rfl,rfl,(by show (0:Int) < 2147483587; decide),_,rfl,_,_,rfl,rfl,X8 18,_,_,rfl,rfl,by show 3<=sizeLine; decide,fun p hp=>?_⟩
   have e1:=Int.emod_nonneg (c % 2147483587 + 104729 * k * k + 7) (show (2147483587:Int)≠0 by decide);have e2:=Int.emod_lt_of_pos (c % 2147483587 + 104729 * k * k + 7) (show (0:Int) < 2147483587 by decide);exact kk p _ hp ⟨_,_,_,B9,e1,by omega⟩ (Same.upd hp).kp
  refine ⟨_,rfl,_,rfl,a,_,rfl,.inl ha,_,_,rfl,rfl,_,rfl,?_⟩;refine ifD (fun hn=>?_) (fun hn=>?_)
  ·have hk:(ns.map V.int)[k.toNat]?=some (V.int (ns.getD k.toNat 0)):=by
    have hlt:k.toNat < ns.length:=by rw [Zl] at hn; omega
    rw [Zh,Zg hlt,List.getD_eq_getElem?_getD,Zg hlt]; rfl
   have hk':atI (ns.map V.int) k=some (V.int (ns.getD k.toNat 0)):=by
    have:=K1 hk
    rwa [show ((k.toNat:Nat):Int)=k by omega] at this
   refine ⟨_,rfl,_,rfl,a,_,k,_,rfl,rfl,ha,hk',?_⟩;exact fin _
  ·exact fin 0
theorem S8 (T:Txt K mg D):FnOk P w K mg base CX0 1 D.a_bd D.d_bd ["_law_script","_law_k"] (Pu.spOf K [.vw,.dat] Pu.A57):=FnOk.imp (A8h T) Pu.B7c
theorem B1x (T:Txt K mg D):FnOk P w K mg base CX0 1 D.a_c6 D.d_c6 ["_law_state","_law_many"] A9m:=by
 refine T.B.F_c6.ok sc_c6 (fun vs H Q E h=>?_) (fun cdv A outer s H vs Q E hr h=>?_)
 ·obtain ⟨p,n,rfl,_⟩:=h; rfl
 ·obtain ⟨p,n,rfl,S0,n0,sn,k⟩:=h;refine ⟨_,(J0 (B5x (A93 (A1b ix_list (pv 0) D0 (fun _ _=>rfl)))
    (J0 (Z9 (i:=2) sc_c6.nd rfl (Or.inl rfl) (K2 P9 (A1b ix_list (pv 0) D0 (fun _ _=>rfl)) (pv 1)))
    (J0 (A58 (K2 S7 (A1b ix_list (pv 0) D0 (fun _ _=>rfl)) (pv 1)) (B0f (pv 0) D0 A0v))
    (J0 (A58 (A1c A8e (A1b ix_list (pv 0) D0 (fun _ _=>rfl)) D0 (B1 _)) (B0f (pv 0) D0 A0v))
    (Q6 (A0a (pv 2))))))
    A03)
   (J0 (Z9 (i:=3) sc_c6.nd rfl (Or.inl rfl) D0)
   (J0 (B8d Zf rfl (A2p rfl T.z_range (pa_cons (K2 J9 D0 (K2 O0 D0 (A2q A3z (by rfl) T.z_int (by rfl) (pa_cons (A1c A8e (pv 1) (K2 W8 D0 D0) (B1 _)) pa_nil)))) pa_nil)) (B0g (i:=4) sc_c6.nd rfl (Or.inl rfl) (Or.inl rfl))
    (J0 (A58 (K2 P9 (K2 J9 (K2 O0 (A1b ix_list (pv 0) D0 (fun _ _=>rfl)) D0) D0) D0) (B0f (pv 0) D0 A0v))
    (Q6 (Z9 (i:=3) sc_c6.nd rfl (Or.inl rfl) (K2 J9 (K2 O0 (pv 3) D0) (K2 P9 (K2 O0 (A1b ix_list (pv 0) D0 (fun _ _=>rfl)) (A1b ix_list (pv 0) D0 (fun _ _=>rfl))) D0))))))
   (Q6 (A0a (K2 P9 (K2 S7 (pv 3) D0) (pv 1))))))),?_⟩
  obtain ⟨c,m,f,hp,m0,m1⟩:=S0.ex;refine ⟨_,rfl,p,_,_,_,rfl,rfl,SqL.of hp,at2,f,rfl,?_⟩;have s8:Sm 8000 n:=sn.mono (by decide);cases f with
  | true =>
   refine iteT ?_;refine ⟨_,rfl,p,_,_,_,rfl,rfl,SqL.of hp,at0,_,rfl,_,_,rfl,rfl,n0,?_⟩;refine ⟨_,rfl,p,_,_,_,rfl,rfl,SqL.of hp,at0,_,rfl,_,_,rfl,rfl,⟨by omega,s8⟩,_,rfl,p,_,_,0,rfl,rfl,hp,rfl,?_⟩;refine ⟨_,rfl,p,_,_,_,rfl,rfl,SqL.of B9,at0,_,_,rfl,rfl,_,rfl,p,_,_,2,rfl,rfl,B9,rfl,?_⟩;refine ⟨_,rfl,?_⟩;exact k _ _ (Int.emod_nonneg c (by omega)) (Int.emod_lt_of_pos c n0) ⟨_,_,_,B9,m0,m1⟩ (Kp.upd.trans Kp.upd)
  | false =>
   refine iteF ?_;refine ⟨_,rfl,_,_,rfl,rfl,X8 6,_,_,rfl,rfl,.inr ⟨_,rfl,_,_,rfl,rfl,⟨Z5 0,C3v _⟩,_,_,rfl,rfl,_,rfl,?_,?_,B35 (lo:=0)
    (fun i σ H'=>∃ (m' md:Int) (x:Option V),σ=[some (V.ref p),some (V.int n),none,some (V.int md),x]/\H' p=some (.lst [.int c,.int m',.bl false])/\0<=m'/\m' < 2147483648/\Kp p H H'/\Sm (40 * i + 1) md)
    ⟨m,0,none,rfl,hp,m0,m1,Kp.refl,by unfold Sm; decide⟩ ?_ ?_⟩⟩
   ·split <;> omega
   ·split <;> omega
   ·rintro i σ H' hi ⟨m',md,x,rfl,hp',h0,h1,kk,sd⟩;have hi9:i < 9:=by
     refine Nat.lt_of_lt_of_le hi ?_;split <;> decide
    refine ⟨_,rfl,p,_,_,_,rfl,rfl,SqL.of hp',at1,_,_,rfl,rfl,⟨sm32 h0 h1,Z5 0⟩,_,_,rfl,rfl,_,_,rfl,rfl,(by show (0:Int) < 2147483647; decide),_,rfl,p,_,_,1,rfl,rfl,hp',rfl,?_⟩;have e1:=Int.emod_nonneg (m' * 39373 + 17) (show (2147483647:Int)≠0 by decide);have e2:=Int.emod_lt_of_pos (m' * 39373 + 17) (show (0:Int) < 2147483647 by decide);have sm:=sm32 e1 (by omega);refine ⟨_,rfl,_,_,rfl,rfl,⟨sd.mono (by omega),Z5 0⟩,_,rfl,p,_,_,_,rfl,rfl,SqL.of B9,at1,_,rfl,p,_,_,_,rfl,rfl,SqL.of B9,at1,_,_,rfl,rfl,⟨sm,sm⟩,_,_,rfl,rfl,(by show (0:Int) < 2147483587; decide),_,_,rfl,rfl,?_⟩;have g1:=Int.emod_nonneg ((m' * 39373 + 17) % 2147483647 * ((m' * 39373 + 17) % 2147483647)) (show (2147483587:Int)≠0 by decide);have g2:=Int.emod_lt_of_pos ((m' * 39373 + 17) % 2147483647 * ((m' * 39373 + 17) % 2147483647)) (show (0:Int) < 2147483587 by decide);refine ⟨_,_,_,rfl,B9,e1,by omega,kk.trans Kp.upd,?_⟩;refine Sm.mono (k:=40 * i + 1 + 32 + 1) (Sm.add (sd.mul (l:=32) (by unfold Sm; decide)) ?_) (by omega);exact Sm.mono (k:=32) (by unfold Sm; omega) (by omega)
   ·rintro σ H' ⟨m',md,x,rfl,hp',h0,h1,kk,sd⟩;refine ⟨_,rfl,_,_,rfl,rfl,⟨by decide,Z5 0⟩,_,rfl,_,_,rfl,rfl,n0,?_⟩;exact k _ _ (Int.emod_nonneg _ (by omega)) (Int.emod_lt_of_pos _ n0) ⟨_,_,_,hp',h0,h1⟩ kk
theorem D8 (T:Txt K mg D):FnOk P w K mg base CX0 1 D.a_c6 D.d_c6 ["_law_state","_law_many"] (Pu.spOf K [.st,.dat] Pu.A95):=FnOk.imp (B1x T) Pu.C0s
theorem A44 (T:Txt K mg D):FnOk P w K mg base CX0 1 D.a_c7 D.d_c7 ["_law_top","_law_bottom"] (Pu.spOf K [.dat,.dat] C1j):=by
 refine T.B.F_c7.ok sc_c7 (Zz rfl) (fun cdv A outer s H vs Q E hr h=>?_);refine ⟨_,(QSs.out (A2 (qst 2 sc_c7 (qpv 0))
   (A2 (qst 3 sc_c7 (qpv 1))
   (A2 (W2 Zf (A7 (G5 (K:=K) rfl hr.units) (qpv 3) A3 (B1 _))
    (A4 (W3 (i:=2) (j:=3) rfl sc_c7.nd rfl rfl (by decide) rfl rfl (A0 (qpv 3) (A0 (B3 P9 (qpv 2) (qpv 3)) A1)) rfl)))
   (A4 (A8 (C5 (A0 (B3 S7 (qpv 0) (qpv 2)) (A0 (B3 S7 (qpv 1) (qpv 2)) A1))))))))),?_⟩
 haveI:=T.c2_ARC_WORDS
 refine Pu.F2 h ?_;rintro as Qp ⟨t,b,rfl,hb,st,sb,k⟩;trivial;refine ⟨fun m e=>∃ x y:Int,e=[some (.d (.int t)),some (.d (.int b)),some (.d (.int x)),some (.d (.int y))]/\0<=y/\(y=0->0 < x)/\m=y.toNat/\Int.gcd x y=Int.gcd t b,⟨_,_,_,rfl,by omega,fun e=>by omega,rfl,rfl⟩,?_⟩;rintro m e ⟨x,y,rfl,hy,hx,rfl,hg⟩;trivial;refine ite2 (fun e=>?_) (fun hn=>?_)
 ·subst e;have hx0:=hx rfl;have e1:x=sh t b:=by
   have:=A7f x (by omega);rw [hg] at this;unfold sh; rw [if_neg (by omega)]; exact this.symm
  subst e1;have hb0:b≠0:=by omega
  refine ⟨⟨C3x hb0,C3t sb hb0⟩,⟨C3x hb0,C3t sb hb0⟩,?_⟩;rw [B2z hb0,C2s hb0]; exact k
 ·have h1:=Int.emod_lt_of_pos x (show 0 < y by omega);have h2:=Int.emod_nonneg x hn;exact ⟨by omega,(x % y).toNat,by omega,y,x % y,rfl,h2,fun _=>by omega,rfl,by rw [B33,hg]⟩
theorem G3 (T:Txt K mg D):∀ n:Nat,FnOk P w K mg base CX0 (n + 1) D.a_c5 D.d_c5 ["_law_found","_law_due"] (Pu.spOf K [.dat,.dat] (Pu.A07 n)):=by
 have step:∀ (n:Nat) (psI:Pu.PSp),FnOk P w K mg base CX0 n D.a_c5 D.d_c5 ["_law_found","_law_due"] (Pu.spOf K [.dat,.dat] psI)->(∀ xs,(okA n (.list xs)\/okA n (.tuple xs))->xs.length < 1000/\∀ x ∈ xs,∀ Q:SV->Prop,Q (.d (.bool true))->psI [.d x,.d x] Q) ->
   FnOk P w K mg base CX0 (n + 1) D.a_c5 D.d_c5 ["_law_found","_law_due"] (Pu.spOf K [.dat,.dat] (Pu.A07 n)):=by
  intro n psI IH hI;refine T.B.F_c5.ok sc_c5 (Zz rfl) (fun cdv A outer s H vs Q E hr h=>?_);refine ⟨_,(QSs.out (A2 (B5 (A7 E7 (qpv 1) B2 (B1 _))
    (A4 (A8 (G9 E7 (qpv 0) B2 (B1 _))))
    B0)
   (A2 (B5 (B8 (B6 (C9 (K:=K) rfl) (by rfl) T.z_isinstance (by rfl) (A0 (qpv 1) (A0 (E9 (v:=.ty "str") rfl T.z_str (by rfl) rfl) A1))))
    (A4 (A8 (A0y (B6 (C9 (K:=K) rfl) (by rfl) T.z_isinstance (by rfl) (A0 (qpv 0) (A0 (E9 (v:=.ty "str") rfl T.z_str (by rfl) rfl) A1))) (A4m (G9 (D5 (K:=K) rfl hr.units) (qpv 0) (qpv 1) (B1 _))))))
    B0)
   (A2 (B5 (B8 (B6 (C9 (K:=K) rfl) (by rfl) T.z_isinstance (by rfl) (A0 (qpv 1) (A0 (E9 (v:=.ty "bool") rfl T.z_bool (by rfl) rfl) A1))))
    (A4 (A8 (A0y (B6 (C9 (K:=K) rfl) (by rfl) T.z_isinstance (by rfl) (A0 (qpv 0) (A0 (E9 (v:=.ty "bool") rfl T.z_bool (by rfl) rfl) A1))) (A4m (G9 (D5 (K:=K) rfl hr.units) (qpv 0) (qpv 1) (B1 _))))))
    B0)
   (A2 (B5 (B8 (B6 (C9 (K:=K) rfl) (by rfl) T.z_isinstance (by rfl) (A0 (qpv 1) (A0 (E9 (v:=.ty "int") rfl T.z_int (by rfl) rfl) A1))))
    (A4 (A8 (A0y (B6 (C9 (K:=K) rfl) (by rfl) T.z_isinstance (by rfl) (A0 (qpv 0) (A0 (E9 (v:=.ty "int") rfl T.z_int (by rfl) rfl) A1))) (A0y (C1a (B6 (C9 (K:=K) rfl) (by rfl) T.z_isinstance (by rfl) (A0 (qpv 0) (A0 (E9 (v:=.ty "bool") rfl T.z_bool (by rfl) rfl) A1)))) (A4m (G9 (D5 (K:=K) rfl hr.units) (qpv 0) (qpv 1) (B1 _)))))))
    B0)
   (A2 (B5 (QW.pt (D9 (A7 (G5 (K:=K) rfl hr.units) (B6 (C9 (K:=K) rfl) (by rfl) T.z_isinstance (by rfl) (A0 (qpv 1) (A0 (E9 (v:=.ty "list") rfl T.z_list (by rfl) rfl) A1))) (B6 (C9 (K:=K) rfl) (by rfl) T.z_isinstance (by rfl) (A0 (qpv 0) (A0 (E9 (v:=.ty "list") rfl T.z_list (by rfl) rfl) A1))) (B1 _)) (F4 (A7 (G5 (K:=K) rfl hr.units) (B6 (C9 (K:=K) rfl) (by rfl) T.z_isinstance (by rfl) (A0 (qpv 1) (A0 (E9 (v:=.ty "tuple") rfl T.z_tuple (by rfl) rfl) A1))) (B6 (C9 (K:=K) rfl) (by rfl) T.z_isinstance (by rfl) (A0 (qpv 0) (A0 (E9 (v:=.ty "tuple") rfl T.z_tuple (by rfl) rfl) A1))) (B1 _)))))
    (A4 (A8 I0))
    B0)
   (A2 (B5 (A7 (G5 (K:=K) rfl hr.units) (qln K T.z_len (qpv 0)) (qln K T.z_len (qpv 1)) (B1 _))
    (A4 (A8 I0))
    B0)
   (A2 (N7 Zf rfl (C1p (K:=K) rfl rfl T.z_zip (A0 (qpv 0) (A0 (qpv 1) A1))) (G7 (K:=K) (n:=2) rfl rfl (B4 (qgn 2 sc_c5) (B4 (qgn 3 sc_c5) G6)) rfl rfl)
    (A4 (B5 (E6 (B8 (qcK IH hr.mo (J3 T) (A0 (qpv 2) (A0 (qpv 3) A1)))))
     (A4 (A8 I0))
     B0)))
   (A4 (A8 I0)))))))))),?_⟩
  refine Pu.F2 h ?_;rintro as Qp ⟨x,rfl,ox,k⟩;cases x with
  | none =>
   trivial;exact k
  | bool b =>
   trivial;exact k
  | int i =>
   trivial;exact k
  | str t =>
   have oy:(PyData.str t).canLay0=true:=by cases n <;> exact ox
   trivial;exact ⟨oy,oy,k⟩
  | dict kvs=>unfold okA at ox; exact ox.elim
  | list xs =>
   obtain ⟨hl,hx⟩:=hI xs (.inl ox);trivial;refine ⟨fun i e=>∃ o1 o2:Option SV,e=[some (.d (.list xs)),some (.d (.list xs)),o1,o2],⟨_,_,rfl⟩,?_,?_⟩
   ·rintro i x e hxi ⟨o1,o2,rfl⟩;obtain ⟨a,ha,rfl⟩:=A1u hxi;trivial;refine hx a (Zm ha) _ ?_;trivial;exact ⟨_,_,rfl⟩
   ·rintro e ⟨o1,o2,rfl⟩;trivial;exact k
  | tuple xs =>
   obtain ⟨hl,hx⟩:=hI xs (.inr ox);trivial;refine ⟨fun i e=>∃ o1 o2:Option SV,e=[some (.d (.tuple xs)),some (.d (.tuple xs)),o1,o2],⟨_,_,rfl⟩,?_,?_⟩
   ·rintro i x e hxi ⟨o1,o2,rfl⟩;obtain ⟨a,ha,rfl⟩:=A1u hxi;trivial;refine hx a (Zm ha) _ ?_;trivial;exact ⟨_,_,rfl⟩
   ·rintro e ⟨o1,o2,rfl⟩;trivial;exact k
 intro n;induction n with
 | zero=>exact step 0 _ (B61 rfl) fun xs h=>by rcases h with h | h <;> (unfold okA at h; exact h.elim)
 | succ n ih =>
  refine step (n + 1) _ ih fun xs h=>?_;have h':xs.length < 1000/\∀ x ∈ xs,okA n x:=by rcases h with h | h <;> (unfold okA at h; exact h)
  exact ⟨h'.1,fun x hx Q q=>⟨x,rfl,h'.2 x hx,q⟩⟩
def A4o:Pu.PSp:=fun as Q=>∃ l:List Nat,as=[.d (.str (sO l))]/\l.length<=1000/\Q (.d (oI (nIn l)))
theorem A40 (T:Txt K mg D):FnOk P w K mg base CX0 3 D.a_b6 D.d_b6 ["text"] (Pu.spOf K [.dat] A4o):=by
 refine T.B.F_b6.ok sc_b6 (Zz rfl) (fun cdv A outer s H vs Q E hr h=>?_);refine ⟨_,(QSs.out (A2 (qst 1 sc_b6 (qcK (T9 (K:=K) T) hr.mo (Y1 T) (A0 (qpv 0) A1)))
   (A4 (A8 (G2 (QW.pt (A0x (A7 B6g (qpv 1) B2 (B1 _)) (V2 (A2a B6h B6h A3 (qpv 1) (G8 (v:=.int 99) rfl T.ci_MOST_NUMBER.choose_spec ⟨_,rfl⟩))))) (qpv 1) B2))))),?_⟩
 haveI:=T.c2_ARC_WORDS
 refine Pu.F2 h ?_;rintro as Qp ⟨l,rfl,hl,k⟩;trivial;refine ⟨l,rfl,hl,?_⟩;unfold nIn at k;cases h:wIn l with
 | none =>
  rw [h] at k;trivial;rw [if_neg (show ¬ isNo (oI none)=false from fun z=>Bool.noConfusion z)];exact k
 | some n =>
  rw [h] at k;have k:Qp (.d (oI (if 0<=n/\n<=99 then some n else none))):=k;trivial;rw [if_pos (show isNo (oI (some n))=false from rfl)];unfold oI;trivial;refine ite2 (fun z=>ite2 (fun y=>?_) (fun y=>?_)) (fun z=>?_)
  ·rw [if_pos ⟨z,y⟩] at k; exact k
  ·rw [if_neg fun w=>y w.2] at k; exact k
  ·rw [if_neg fun w=>z w.1] at k; exact k
def A2f:Pu.PSp:=fun as Q=>∃ ps:List (Rat × Rat),as=[.d (.list (ps.map stD))]/\ps.length<=10/\(∀ p ∈ ps,StOk p)/\Q (.d (.str (sO (plT ps))))
theorem A21 (T:Txt K mg D):FnOk P w K mg base CX0 3 D.a_b1 D.d_b1 ["plan"] (Pu.spOf K [.dat] A2f):=by
 refine T.B.F_b1.ok sc_b1 (Zz rfl) (fun cdv A outer s H vs Q E hr h=>?_);refine ⟨_,(QSs.out (A4 (A8 (C3 (K:=K) rfl PySem.F.plainAttrs_str PySem.F.slot_str_join PySem.F.type_str_join (T0 (K:=K) rfl) A5 (A0 (S5 rfl (J5 ["start","time"] [none,none]) (M2 (K:=K) rfl (qpv 0)) (fun _ _ _=>(G7 (K:=K) (n:=2) rfl rfl (B4 (qgc 0 ["start","time"]) (B4 (qgc 1 ["start","time"]) G6)) rfl rfl)) (fun _ _ _=>K4) (fun _ _ _=>(V3 (FP.cons (N8 (qcK (M3 (K:=K) T) hr.mo (O7 T) (A0 (qpv 0) A1))) (FP.cons A5 (FP.cons (N8 (qcK (M3 (K:=K) T) hr.mo (O7 T) (A0 (qpv 1) A1))) FP.nil)))))) A1))))),?_⟩
 haveI:=T.c2_ARC_WORDS
 refine Pu.F2 h ?_;rintro as Qp ⟨ps,rfl,hl,hs,k⟩;trivial;refine ⟨by omega,K6 (f:=stD) (xs:=ps) (fun i e ys=>(∃ o1 o2:Option SV,e=[o1,o2])/\ys=((ps.take i).map stT).map fun l=>PyData.str (sO l)) ⟨⟨_,_,rfl⟩,rfl⟩ ?_ ?_⟩
 ·rintro i p e ys hi ⟨⟨o1,o2,rfl⟩,rfl⟩;have hp:=hs p (Zm hi);have r1:=Y5 hp.n1 hp.d1;have r2:=Y5 hp.n2 hp.d2;unfold stD;trivial;refine ⟨p.1,rfl,R7 hp.n1,R7 hp.d1,?_⟩;trivial;rw [B4a,m32];simp only [C8,A9];refine ⟨by omega,by show 0 + _<=_; omega,by show _ + 1<=_; omega,p.2,rfl,R7 hp.n2,R7 hp.d2,?_⟩;trivial;simp only [C8,A9];refine ⟨by omega,by rw [Ze]; show _ + 1 + _<=_; omega,⟨_,_,rfl⟩,?_⟩;rw [List.take_add_one,hi,Option.toList_some,Zc,Zc,C3p]; rfl
 ·rintro e ys ⟨⟨o1,o2,rfl⟩,rfl⟩;rw [List.take_length];trivial;rw [mSep];refine ⟨_,P1 _,?_,?_⟩
  ·refine Zx (V8 (m:=261) fun l h=>?_) ?_
   ·obtain ⟨p,hp,rfl⟩:=List.mem_map.mp h;exact A5w (hs p hp)
   ·rw [Zl,A9];exact Zx (Zu _ hl) (by decide)
  ·rw [P5]; exact k
def A06:Pu.PSp:=fun as Q=>∃ ps:List (List Nat × Int × Rat),as=[.d (.list (ps.map caD))]/\ps.length<=100/\(∀ p ∈ ps,CaOk p)/\Q (.d (.str (sO (paT ps))))
theorem A1g (T:Txt K mg D):FnOk P w K mg base CX0 3 D.a_a7 D.d_a7 ["paper"] (Pu.spOf K [.dat] A06):=by
 refine T.B.F_a7.ok sc_a7 (Zz rfl) (fun cdv A outer s H vs Q E hr h=>?_);refine ⟨_,(QSs.out (A2 (B5 (A7 (D5 (K:=K) rfl hr.units) (qln K T.z_len (qpv 0)) A3 (B1 _))
    (A4 (A8 A5))
    B0)
   (A4 (A8 (C3 (K:=K) rfl PySem.F.plainAttrs_str PySem.F.slot_str_join PySem.F.type_str_join (T0 (K:=K) rfl) A5 (A0 (S5 rfl (J5 ["word","number","amount"] [none,none,none]) (M2 (K:=K) rfl (qpv 0)) (fun _ _ _=>(G7 (K:=K) (n:=2) rfl rfl (B4 (G7 (K:=K) (n:=2) rfl rfl (B4 (qgc 0 ["word","number","amount"]) (B4 (qgc 1 ["word","number","amount"]) G6)) rfl rfl) (B4 (qgc 2 ["word","number","amount"]) G6)) rfl rfl)) (fun _ _ _=>K4) (fun _ _ _=>(V3 (FP.cons (N8 (qpv 0)) (FP.cons A5 (FP.cons (N8 (qpv 1)) (FP.cons A5 (FP.cons (N8 (qcK (M3 (K:=K) T) hr.mo (O7 T) (A0 (qpv 2) A1))) FP.nil)))))))) A1)))))),?_⟩
 haveI:=T.c2_ARC_WORDS
 refine Pu.F2 h ?_;rintro as Qp ⟨ps,rfl,hl,hs,k⟩;trivial;refine ite2 (fun z=>?_) (fun z=>?_)
 ·have:ps=[]:=by cases ps with
   | nil=>rfl
   | cons a r=>exfalso; rw [List.length_cons] at z; omega
  subst this;have e:paT []=[45]:=rfl;rw [e] at k;rw [m45]; exact k
 have hne:ps≠[]:=fun w=>z (by rw [w]; rfl);refine ⟨by omega,K6 (f:=caD) (xs:=ps) (fun i e ys=>(∃ o1 o2 o3:Option SV,e=[o1,o2,o3])/\ys=((ps.take i).map caT).map fun l=>PyData.str (sO l)) ⟨⟨_,_,_,rfl⟩,rfl⟩ ?_ ?_⟩
 ·rintro i p e ys hi ⟨⟨o1,o2,o3,rfl⟩,rfl⟩;have hp:=hs p (Zm hi);have h5:=A1t _ hp.w;have h2:=wh99 hp.n0 hp.n1;have h1:=Y5 hp.n2 hp.d2;have ew:Str.ofString (toString p.2.1)=sO (whL p.2.1):=by
   rw [K3 hp.n0];unfold whL;rw [if_neg (by have:=hp.n0; omega)]
  have n300:p.2.1.natAbs < 10 ^ 300:=by
   have a:=hp.n0;have b:=hp.n1;exact Nat.lt_of_le_of_lt (show p.2.1.natAbs<=99 by omega) (by decide +kernel)
  unfold caD;trivial;rw [ew,m32,B4a];simp only [C8,A9];refine ⟨by omega,by show 0 + _<=_; omega,by show _ + 1<=_; omega,A47 (i:=p.2.1) n300,?_,?_,p.2.2,rfl,R7 hp.n2,R7 hp.d2,?_⟩
  ·rw [Ze]; show _ + 1 + _<=_; omega
  ·rw [Ze,Ze]; show _ + 1 + _ + 1<=_; omega
  trivial;simp only [C8,A9];refine ⟨by omega,by rw [Ze,Ze,Ze]; show _ + 1 + _ + 1 + _<=_; omega,⟨_,_,_,rfl⟩,?_⟩;rw [List.take_add_one,hi,Option.toList_some,Zc,Zc,C7i]; rfl
 ·rintro e ys ⟨⟨o1,o2,o3,rfl⟩,rfl⟩;rw [List.take_length];trivial;rw [mSep];refine ⟨_,P1 _,?_,?_⟩
  ·refine Zx (V8 (m:=139) fun l h=>?_) ?_
   ·obtain ⟨p,hp,rfl⟩:=List.mem_map.mp h;exact A7q (hs p hp)
   ·rw [Zl,A9];exact Zx (Zu _ hl) (by decide)
  ·rw [P5];unfold paT at k;rw [if_neg hne] at k; exact k
def A96:Pu.PSp:=fun as Q=>∃ l:List Nat,as=[.d (.str (sO l))]/\l.length<=1000/\Q (.d (oS (stL l)))
theorem B1w (T:Txt K mg D):FnOk P w K mg base CX0 4 D.a_c2 D.d_c2 ["text"] (Pu.spOf K [.dat] A96):=by
 refine T.B.F_c2.ok sc_c2 (Zz rfl) (fun cdv A outer s H vs Q E hr h=>?_);refine ⟨_,(QSs.out (A2 (W4 (C3 (K:=K) rfl PySem.F.plainAttrs_str PySem.F.slot_str_partition PySem.F.type_str_partition A1k (qpv 0) (A0 A5 A1)) (G7 (K:=K) (n:=3) rfl rfl (B4 (qgn 1 sc_c2) (B4 (qgn 2 sc_c2) (B4 (qgn 3 sc_c2) G6))) rfl rfl))
   (A2 (W3 (i:=4) (j:=5) rfl sc_c2.nd rfl rfl (by decide) rfl rfl (A0 (qcK (U0 (K:=K) T) hr.mo (Y2 T) (A0 (qpv 1) A1)) (A0 (qcK (U0 (K:=K) T) hr.mo (Y2 T) (A0 (qpv 3) A1)) A1)) rfl)
   (A2 (B5 (QW.pt (D9 (A7 E7 (qpv 4) B2 (B1 _)) (D9 (A7 E7 (qpv 5) B2 (B1 _)) (F4 (B8 (qcK (A23 (K:=K) T) hr.mo (A7v T) (A0 (qpv 5) (A0 (G8 (v:=.ref D.k_NOUGHT) rfl T.c_NOUGHT rfl) A1))))))))
    (A4 (A8 B2))
    B0)
   (A4 (A8 (C5 (A0 (qpv 4) (A0 (qpv 5) A1))))))))),?_⟩
 haveI:=T.c2_NOUGHT
 haveI:=T.c2_ARC_WORDS
 refine Pu.F2 h ?_;rintro as Qp ⟨l,rfl,hl,k⟩;trivial;rw [m32,A4u];obtain ⟨esum,_⟩:=T6 32 l;have hlen:(parS 32 l).1.length + (parS 32 l).2.1.length + (parS 32 l).2.2.length=l.length:=by
  have:=congrArg List.length esum;rw [Ze,Ze] at this; exact this
 unfold stL at k;generalize (parS 32 l).1=p1 at *;generalize (parS 32 l).2.1=p2 at *;generalize (parS 32 l).2.2=p3 at *;refine ⟨rfl,by rw [A9]; omega,p1,rfl,by omega,?_⟩;rw [B5s];trivial;refine ⟨p3,rfl,by omega,?_⟩;rw [B5s];trivial;cases h1:qIn p1 with
 | none =>
  rw [h1] at k;rw [if_pos (show isNo (oQ none)=true from rfl)]; exact k
 | some a =>
  cases h2:qIn p3 with
  | none =>
   rw [h1,h2] at k;rw [if_neg (show ¬ isNo (oQ (some a))=true from fun z=>Bool.noConfusion z),if_pos (show isNo (oQ none)=true from rfl)]; exact k
  | some b =>
   rw [h1,h2] at k;have k:Qp (.d (oS (if b < 0 then none else some (a,b)))):=k;rw [if_neg (show ¬ isNo (oQ (some a))=true from fun z=>Bool.noConfusion z),if_neg (show ¬ isNo (oQ (some b))=true from fun z=>Bool.noConfusion z)];obtain ⟨b1,b2⟩:=C4b h2;refine ⟨b,0,rfl,sq60 b1 b2,sq0,?_⟩;trivial;refine ite2 (fun z=>?_) (fun z=>?_)
   ·rw [if_pos z] at k; exact k
   ·rw [if_neg z] at k; exact k
def A2h:Pu.PSp:=fun as Q=>∃ l:List Nat,as=[.d (.str (sO l))]/\l.length<=1000/\(∀ c ∈ l,c < 128)/\Q (.d (oC (caW (splL [32] l))))
theorem A24 (T:Txt K mg D):FnOk P w K mg base CX0 4 D.a_af D.d_af ["text"] (Pu.spOf K [.dat] A2h):=by
 refine T.B.F_af.ok sc_af (Zz rfl) (fun cdv A outer s H vs Q E hr h=>?_);refine ⟨_,(QSs.out (A2 (qst 1 sc_af (C3 (K:=K) rfl PySem.F.plainAttrs_str PySem.F.slot_str_split PySem.F.type_str_split K0 (qpv 0) (A0 A5 A1)))
   (A2 (B5 (QW.pt (D9 (A7 (G5 (K:=K) rfl hr.units) (qln K T.z_len (qpv 1)) A3 (B1 _)) (F4 (A7 (A0e (K:=K) rfl hr.units) (qix K (qpv 1) A3) (G8 (v:=.ref D.k_ARC_WORDS) rfl T.c_ARC_WORDS rfl) (by with_unfolding_all rfl)))))
    (A4 (A8 B2))
    B0)
   (A2 (W3 (i:=2) (j:=3) rfl sc_af.nd rfl rfl (by decide) rfl rfl (A0 (qcK (A40 (K:=K) T) hr.mo (A8u T) (A0 (qix K (qpv 1) A3) A1)) (A0 (qcK (U0 (K:=K) T) hr.mo (Y2 T) (A0 (qix K (qpv 1) A3) A1)) A1)) rfl)
   (A2 (B5 (QW.pt (D9 (A7 E7 (qpv 2) B2 (B1 _)) (D9 (A7 E7 (qpv 3) B2 (B1 _)) (F4 (E6 (B8 (qcK (A23 (K:=K) T) hr.mo (A7v T) (A0 (G8 (v:=.ref D.k_NOUGHT) rfl T.c_NOUGHT rfl) (A0 (qpv 3) A1)))))))))
    (A4 (A8 B2))
    B0)
   (A4 (A8 (C5 (A0 (C5 (A0 (qix K (qpv 1) A3) (A0 (qpv 2) A1))) (A0 (qpv 3) A1)))))))))),?_⟩
 haveI:=T.c2_NOUGHT
 haveI:=T.c2_ARC_WORDS
 refine Pu.F2 h ?_;rintro as Qp ⟨l,rfl,hl,ha,k⟩;trivial;rw [m32,N5];refine ⟨rfl,by rw [A9]; omega,?_⟩;have hw:∀ p ∈ splL [32] l,p.length<=l.length:=fun p hp=>P3 hp;have hz:∀ p ∈ splL [32] l,∀ c ∈ p,c < 128:=fun p hp=>L7 hp ha;generalize splL [32] l=ws at *;rw [Zl];refine ite2 (fun z=>?_) (fun z=>?_)
 ·rcases ws with _ | ⟨a,_ | ⟨b,_ | ⟨c,_ | ⟨d,r⟩⟩⟩⟩
  ·cases z
  ·cases z
  ·cases z
  ·have wa:=hw a (by simp);have wb:=hw b (by simp);have wc:=hw c (by simp);have k:Qp (.d (oC (caP a (nIn b) (qIn c)))):=k;trivial;rw [B43];refine ⟨by decide +kernel,E8 (hz a (by simp)),ite2 (fun y=>?_) (fun y=>?_)⟩
   ·unfold caP at k;rw [if_neg (of_decide_eq_false y)] at k; exact k
   ·have hm:a ∈ arcs:=by
     by_cases m:a ∈ arcs
     ·exact m
     ·exact absurd (Zd m) y
    unfold caP at k;rw [if_pos hm] at k;refine ⟨b,rfl,by omega,?_⟩;trivial;refine ⟨c,rfl,by omega,?_⟩;rw [B5s];trivial;cases h1:nIn b with
    | none =>
     rw [h1] at k;rw [if_pos (show isNo (oI none)=true from rfl)]; exact k
    | some n =>
     cases h2:qIn c with
     | none =>
      rw [h1,h2] at k;rw [if_neg (show ¬ isNo (oI (some n))=true from fun z=>Bool.noConfusion z),if_pos (show isNo (oQ none)=true from rfl)]; exact k
     | some q =>
      rw [h1,h2] at k;have k:Qp (.d (oC (if 0 < q then some (a,n,q) else none))):=k;rw [if_neg (show ¬ isNo (oI (some n))=true from fun z=>Bool.noConfusion z),if_neg (show ¬ isNo (oQ (some q))=true from fun z=>Bool.noConfusion z)];obtain ⟨b1,b2⟩:=C4b h2;refine ⟨0,q,rfl,sq0,sq60 b1 b2,?_⟩;trivial;refine ite2 (fun z=>?_) (fun z=>?_)
      ·rw [if_pos z] at k; exact k
      ·rw [if_neg z] at k; exact k
  ·exfalso;simp only [List.length_cons] at z;omega
 ·have e:caW ws=none:=by
   rcases ws with _ | ⟨a,_ | ⟨b,_ | ⟨c,_ | ⟨d,r⟩⟩⟩⟩
   ·rfl
   ·rfl
   ·rfl
   ·exact absurd rfl z
   ·rfl
  rw [e] at k; exact k
def A98:Pu.PSp:=fun as Q=>∃ l:List Nat,as=[.d (.str (sO l))]/\ShP l/\if okP l=true/\(splL [44,32] l).length<=10 then Q (.own (vaP l)) else Q (.d .none)
theorem A22 (T:Txt K mg D):FnOk P w K mg base CX0 5 D.a_c1 D.d_c1 ["text"] (Pu.spOf K [.dat] A98):=by
 refine T.B.F_c1.ok sc_c1 (Zz rfl) (fun cdv A outer s H vs Q E hr h=>?_);refine ⟨_,(QSs.out (A2 (Q5 (i:=1) rfl sc_c1.nd rfl rfl (J5 ["part"] [none]) (M2 (K:=K) rfl (C3 (K:=K) rfl PySem.F.plainAttrs_str PySem.F.slot_str_split PySem.F.type_str_split K0 (qpv 0) (A0 A5 A1))) (fun _ _ _=>(qgc 0 ["part"])) (fun _ _ _=>K4) (fun _ _ _=>(qcK (B1w (K:=K) T) hr.mo (B7d T) (A0 (qpv 0) A1))) rfl)
   (A4 (A2b (QW.pt (D9 (A7 (B1v (K:=K) rfl hr.units) B2 (qpv 1) (by with_unfolding_all rfl)) (F4 (A7 A8e (qln K T.z_len (qpv 1)) (G8 (v:=.int 10) rfl T.ci_MOST_STEPS.choose_spec ⟨_,rfl⟩) (B1 _))))) B2 (qpv 1))))),?_⟩
 haveI:=T.c2_ARC_WORDS
 refine Pu.F2 h ?_;rintro as Qp ⟨l,rfl,hl,k⟩;trivial;rw [mSep,N5,List.map_map];have hlen:=J8 44 [32] l;have hcnt:l.count 44<=l.length:=List.count_le_length;have h9:=hl.1;refine ⟨rfl,by rw [A9]; exact hl.1,by rw [Zl]; omega,K6 (f:=PyData.str ∘ sO) (xs:=splL [44,32] l) (fun i e ys=>(∃ o1:Option SV,e=[o1])/\ys=((splL [44,32] l).take i).map fun p=>oS (stL p)) ⟨⟨_,rfl⟩,rfl⟩ ?_ ?_⟩
 ·rintro i p e ys hi ⟨⟨o1,rfl⟩,rfl⟩;have hp:=hl.2 p (Zm hi);trivial;refine ⟨p,rfl,hp,?_⟩;trivial;refine ⟨⟨_,rfl⟩,?_⟩;rw [List.take_add_one,hi,Zc]; rfl
 ·rintro e ys ⟨⟨o1,rfl⟩,rfl⟩;rw [List.take_length];trivial;rw [B51];refine ⟨A1m fun x _=>C54 _,ite2 (fun z=>?_) (fun z=>?_)⟩
  ·rw [if_neg (fun w=>by rw [w.1] at z; cases z)] at k; exact k
  have z:okP l=true:=by cases h:okP l with
   | true=>rfl
   | false=>rw [h] at z; exact absurd rfl z
  refine ite2 (fun y=>?_) (fun y=>?_)
  ·rw [if_neg (fun w=>by omega)] at k; exact k
  ·rw [if_pos ⟨z,by omega⟩] at k;exact k
def A8a:Pu.PSp:=fun as Q=>∃ l:List Nat,as=[.d (.str (sO l))]/\ShP l/\(∀ c ∈ l,c < 128)/\if l=[45] then Q (.own []) else if okC l=true/\(splL [44,32] l).length<=100 then Q (.own (vaC l)) else Q (.d .none)
theorem A0f (T:Txt K mg D):FnOk P w K mg base CX0 5 D.a_ba D.d_ba ["text"] (Pu.spOf K [.dat] A8a):=by
 refine T.B.F_ba.ok sc_ba (Zz rfl) (fun cdv A outer s H vs Q E hr h=>?_);refine ⟨_,(QSs.out (A2 (B5 (A7 (D5 (K:=K) rfl hr.units) (qpv 0) A5 (B1 _))
    (A4 (A8 (C2 A1)))
    B0)
   (A2 (Q5 (i:=1) rfl sc_ba.nd rfl rfl (J5 ["part"] [none]) (M2 (K:=K) rfl (C3 (K:=K) rfl PySem.F.plainAttrs_str PySem.F.slot_str_split PySem.F.type_str_split K0 (qpv 0) (A0 A5 A1))) (fun _ _ _=>(qgc 0 ["part"])) (fun _ _ _=>K4) (fun _ _ _=>(qcK (A24 (K:=K) T) hr.mo (A5i T) (A0 (qpv 0) A1))) rfl)
   (A4 (A2b (QW.pt (D9 (A7 (B1v (K:=K) rfl hr.units) B2 (qpv 1) (by with_unfolding_all rfl)) (F4 (A7 A8e (qln K T.z_len (qpv 1)) (G8 (v:=.int 100) rfl T.ci_MOST_ARCS.choose_spec ⟨_,rfl⟩) (B1 _))))) B2 (qpv 1)))))),?_⟩
 haveI:=T.c2_ARC_WORDS
 refine Pu.F2 h ?_;rintro as Qp ⟨l,rfl,hl,ha,k⟩;trivial;rw [m45,N3];refine ⟨E8 ha,E8 (by decide),ite2 (fun z=>?_) (fun z=>?_)⟩
 ·rw [if_pos (of_decide_eq_true z)] at k; exact k
 rw [if_neg (fun y=>z (Zk y))] at k;rw [mSep,N5,List.map_map];have hlen:=J8 44 [32] l;have hcnt:l.count 44<=l.length:=List.count_le_length;have h9:=hl.1;refine ⟨rfl,by rw [A9]; exact hl.1,by rw [Zl]; omega,K6 (f:=PyData.str ∘ sO) (xs:=splL [44,32] l) (fun i e ys=>(∃ o1:Option SV,e=[o1])/\ys=((splL [44,32] l).take i).map fun p=>oC (caW (splL [32] p))) ⟨⟨_,rfl⟩,rfl⟩ ?_ ?_⟩
 ·rintro i p e ys hi ⟨⟨o1,rfl⟩,rfl⟩;have hm:=Zm hi;have hp:=hl.2 p hm;trivial;refine ⟨p,rfl,hp,L7 hm ha,?_⟩;trivial;refine ⟨⟨_,rfl⟩,?_⟩;rw [List.take_add_one,hi,Zc]; rfl
 ·rintro e ys ⟨⟨o1,rfl⟩,rfl⟩;rw [List.take_length];trivial;rw [B0m];refine ⟨A1m fun x _=>C6b _,ite2 (fun z=>?_) (fun z=>?_)⟩
  ·rw [if_neg (fun w=>by rw [w.1] at z; cases z)] at k; exact k
  have z:okC l=true:=by cases h:okC l with
   | true=>rfl
   | false=>rw [h] at z; exact absurd rfl z
  refine ite2 (fun y=>?_) (fun y=>?_)
  ·rw [if_neg (fun w=>by omega)] at k; exact k
  ·rw [if_pos ⟨z,by omega⟩] at k;exact k
def A4n:Pu.PSp:=fun as Q=>∃ l:List Nat,as=[.d (.str (sO l))]/\ShP l/\okP l=true/\(splL [44,32] l).length<=10/\Q (.own (vaP l))
theorem Q8 (T:Txt K mg D):FnOk P w K mg base CX0 6 D.a_b7 D.d_b7 ["text"] (Pu.spOf K [.dat] A4n):=by
 refine T.B.F_b7.ok sc_b7 (Zz rfl) (fun cdv A outer s H vs Q E hr h=>?_);refine ⟨_,(QSs.out (A2 (qst 1 sc_b7 (G2 (B8 (B6 (C9 (K:=K) rfl) (by rfl) T.z_isinstance (by rfl) (A0 (qpv 0) (A0 (E9 (v:=.ty "str") rfl T.z_str (by rfl) rfl) A1)))) (qcK (A22 (K:=K) T) hr.mo (A7u T) (A0 (qpv 0) A1)) B2))
   (A2 (B5 (A7 E7 (qpv 1) B2 (B1 _))
    (A4 A2c)
    B0)
   (A4 (A8 (qpv 1)))))),?_⟩
 haveI:=T.c2_ARC_WORDS
 refine Pu.F2 h ?_;rintro as Qp ⟨l,rfl,hl,h1,h2,k⟩;trivial;refine ⟨l,rfl,hl,?_⟩;rw [if_pos ⟨h1,h2⟩];trivial;exact k
def A2e:List SV->PyData->Prop:=fun as z=>∃ x:PyData,as=[.d x]/\NoP x/\z=.int 0
theorem A20 (T:Txt K mg D):FnOk P w K mg base (CX2 P w) 6 D.a_b7 D.d_b7 ["text"] (Pu.spE2 K [.dat] D.k_NoText "row" A2e):=by
 haveI:=T.c2_ARC_WORDS
 refine Pu.okx2 T.B.F_b7 sc_b7 rfl (fun cdv A outer s H E w0 z hr hk=>(QSs.out (A2 (B75 (qst 1 sc_b7 (G2 (B8 (B6 (C9 (K:=K) rfl) (by rfl) T.z_isinstance (by rfl) (A0 (qpv 0) (A0 (E9 (v:=.ty "str") rfl T.z_str (by rfl) rfl) A1)))) (qcK (A22 (K:=K) T) hr.mo (A7u T) (A0 (qpv 0) A1)) B2))) (A2 (B5 (B74 (A7 E7 (qpv 1) B2 (B1 _))) (A4 (Z7 hk T.J_NoText.choose_spec.choose_spec hr.mo (by rfl) T.c_NoText A3)) B0) A19)))) (fun w0 z=>inferInstance) ?_;rintro as z ⟨x,rfl,ox,rfl⟩;cases x with
 | str y =>
  trivial;refine ⟨y.cps.toList,rfl,ox.1,?_⟩;rw [if_neg ox.2];trivial
 | dict kvs=>exact ox.elim
 | _ =>
  trivial
def A2g:Pu.PSp:=fun as Q=>∃ l:List Nat,as=[.d (.str (sO l))]/\ShP l/\(∀ c ∈ l,c < 128)/\(l=[45]\/okC l=true/\(splL [44,32] l).length<=100)/\Q (.own (if l=[45] then [] else vaC l))
theorem O1 (T:Txt K mg D):FnOk P w K mg base CX0 6 D.a_b0 D.d_b0 ["text"] (Pu.spOf K [.dat] A2g):=by
 refine T.B.F_b0.ok sc_b0 (Zz rfl) (fun cdv A outer s H vs Q E hr h=>?_);refine ⟨_,(QSs.out (A2 (qst 1 sc_b0 (G2 (B8 (B6 (C9 (K:=K) rfl) (by rfl) T.z_isinstance (by rfl) (A0 (qpv 0) (A0 (E9 (v:=.ty "str") rfl T.z_str (by rfl) rfl) A1)))) (qcK (A0f (K:=K) T) hr.mo (A37 T) (A0 (qpv 0) A1)) B2))
   (A2 (B5 (A7 E7 (qpv 1) B2 (B1 _))
    (A4 A2c)
    B0)
   (A4 (A8 (qpv 1)))))),?_⟩
 haveI:=T.c2_ARC_WORDS
 refine Pu.F2 h ?_;rintro as Qp ⟨l,rfl,hl,ha,h1,k⟩;trivial;refine ⟨l,rfl,hl,ha,?_⟩;by_cases z:l=[45]
 ·rw [if_pos z] at k ⊢;trivial;exact k
 ·rw [if_neg z] at k ⊢;rw [if_pos (h1.resolve_left z)];trivial;exact k
def A02:List SV->PyData->Prop:=fun as z=>∃ x:PyData,as=[.d x]/\NoC x/\z=.int 0
theorem A1f (T:Txt K mg D):FnOk P w K mg base (CX2 P w) 6 D.a_b0 D.d_b0 ["text"] (Pu.spE2 K [.dat] D.k_NoText "row" A02):=by
 haveI:=T.c2_ARC_WORDS
 refine Pu.okx2 T.B.F_b0 sc_b0 rfl (fun cdv A outer s H E w0 z hr hk=>(QSs.out (A2 (B75 (qst 1 sc_b0 (G2 (B8 (B6 (C9 (K:=K) rfl) (by rfl) T.z_isinstance (by rfl) (A0 (qpv 0) (A0 (E9 (v:=.ty "str") rfl T.z_str (by rfl) rfl) A1)))) (qcK (A0f (K:=K) T) hr.mo (A37 T) (A0 (qpv 0) A1)) B2))) (A2 (B5 (B74 (A7 E7 (qpv 1) B2 (B1 _))) (A4 (Z7 hk T.J_NoText.choose_spec.choose_spec hr.mo (by rfl) T.c_NoText A3)) B0) A19)))) (fun w0 z=>inferInstance) ?_;rintro as z ⟨x,rfl,ox,rfl⟩;cases x with
 | str y =>
  trivial;refine ⟨y.cps.toList,rfl,ox.1,ox.2.1,?_⟩;rw [if_neg ox.2.2.1,if_neg ox.2.2.2];trivial
 | dict kvs=>exact ox.elim
 | _ =>
  trivial
def A8c:Pu.PSp:=fun as Q=>∃ q:Rat,as=[.d (dq q)]/\q.num.natAbs < 10 ^ 60/\q.den < 10 ^ 60/\Q (.d (.str (sO (rtL q))))
theorem U1 (T:Txt K mg D):FnOk P w K mg base CX0 1 D.a_b8 D.d_b8 ["_law_one"] (Pu.spOf K [.dat] A8c):=by
 refine T.B.F_b8.ok sc_b8 (Zz rfl) (fun cdv A outer s H vs Q E hr h=>?_);refine ⟨_,(QSs.out (A2 (B5 (A7 (D5 (K:=K) rfl hr.units) (qix K (qpv 0) A3) A3 (B1 _))
    (A4 (A8 (D1 L8 (by rfl) T.z_str (by rfl) (A0 (qix K (qpv 0) A3) A1))))
    B0)
   (A4 (A8 (B3 F5 (B3 F5 (D1 L8 (by rfl) T.z_str (by rfl) (A0 (qix K (qpv 0) A3) A1)) A5) (D1 L8 (by rfl) T.z_str (by rfl) (A0 (qix K (qpv 0) A3) A1))))))),?_⟩
 haveI:=T.c2_ARC_WORDS
 refine Pu.F2 h ?_;rintro as Qp ⟨q,rfl,h1,h2,k⟩;have hl:=Y5 h1 h2;have hw:=B7i h1;have hv:=B7i (n:=(q.den:Int)) h2;trivial;rw [Q2,Q2,m47];refine ite2 (fun z=>⟨A47 (R7 h1),?_⟩) (fun z=>⟨A47 (R7 h1),?_,A47 (i:=(q.den:Int)) (R7 h2),?_,?_⟩)
 ·have:rtL q=whL q.num:=by unfold rtL; rw [if_neg (by omega),List.append_nil]
  rw [this] at k;exact k
 ·rw [A9,A9]; show _ + 1<=_; omega
 ·rw [C8,A9,A9,Ze]; show _ + 1 + _<=_; omega
 ·rw [rt_e z]; exact k
def A2m:Pu.PSp:=fun as Q=>∃ far:Bool,as=[.st,.d (.bool far)]/\∀ q:Rat,0<=q->q.num.natAbs + q.den < 10 ^ 60->Q (.d (dq q))
theorem O5 (T:Txt K mg D):FnOk P w K mg base CX0 2 D.a_aa D.d_aa ["_law_state","_law_far"] (Pu.spOf K [.st,.dat] A2m):=by
 refine T.B.F_aa.ok sc_aa (Zz rfl) (fun cdv A outer s H vs Q E hr h=>?_);refine ⟨_,(QSs.out (A2 (qst 2 sc_aa (qcK (D8 (K:=K) T) hr.mo (G1 T) (A0 (qpv 0) (A0 A3 A1))))
   (A2 (B5 (B8 (qpv 1))
    (A4 (qst 2 sc_aa (B3 J9 A3 (qcK (D8 (K:=K) T) hr.mo (G1 T) (A0 (qpv 0) (A0 A3 A1))))))
    B0)
   (A2 (qst 3 sc_aa (qcK (D8 (K:=K) T) hr.mo (G1 T) (A0 (qpv 0) (A0 (qix K (C2 (A0 A3 (A0 A3 (A0 (B3 W8 A3 A3) (A0 (B3 W8 A3 A3) (A0 (B3 B1r (B3 W8 A3 A3) A3) A1)))))) (qpv 2)) A1))))
   (A4 (A8 (qcK (A44 (K:=K) T) hr.mo (B4w T) (A0 (qpv 3) (A0 (B3 J9 A3 (qcK (D8 (K:=K) T) hr.mo (G1 T) (A0 (qpv 0) (A0 (qix K (C2 (A0 A3 (A0 A3 (A0 A3 (A0 (B3 W8 A3 A3) (A0 A3 A1)))))) (qpv 2)) A1)))) A1))))))))),?_⟩
 haveI:=T.c2_ARC_WORDS
 refine Pu.F2 h ?_;rintro as Qp ⟨far,rfl,k⟩;refine hd fun R hR=>?_;trivial;refine ⟨4,rfl,by decide,sm4 4,fun way w0 w4=>?_⟩;trivial;subst hR;refine Q4 (fun e=>∃ d:Int,e=[some .st,some (.d (.bool far)),some (.d (.int d)),none]/\0<=d/\d < 5) (fun R hR=>?_) ?_
 ·trivial;cases far with
  | false =>
   trivial;exact hR _ ⟨way,rfl,w0,by omega⟩
  | true =>
   trivial;refine ⟨2,rfl,by decide,sm4 2,fun c c0 c2=>?_⟩;trivial;exact hR _ ⟨3 + c,rfl,by omega,by omega⟩
 rintro e ⟨d,rfl,d0,d5⟩;refine hd fun R hR=>?_;trivial;refine ⟨X8 6,X8 30,X8 60,?_⟩;obtain ⟨dn,rfl⟩:=Zi d0;obtain ⟨n,m,en,em,n0,m0,nm⟩:=C28 dn (by omega);have n1:n<=10 ^ 60:=Int.le_trans (by omega) nm;have m1:m<=10 ^ 60:=Int.le_trans (by omega) nm;refine W6 (K1 en) ?_;trivial;refine ⟨n,rfl,n0,(smz (by omega) n1).mono (by decide),fun t t0 t1=>?_⟩;trivial;subst hR;nofun
 refine ⟨X8 59,?_⟩;refine W6 (K1 em) ?_;trivial;refine ⟨m,rfl,m0,(smz (by omega) m1).mono (by decide),fun b b0 b1=>?_⟩;trivial;have hb0:0 < 1 + b:=by omega
 refine ⟨t,1 + b,rfl,hb0,(smz t0 (by omega)).mono (by decide),(smz (by omega) (by omega)).mono (by decide),?_⟩;trivial;exact k _ ((Rat.divInt_nonneg_iff_of_pos_right hb0).mpr t0) (C63 t0 t1 hb0 (by omega) nm)
def B5y:Pu.PSp:=fun as Q=>∃ (ns:List Int) (at0:Nat),as=[.bor (ns.map .int),.d (.int at0)]/\at0 < ns.length/\ns.length<=63/\∀ ps:List (Rat × Rat),ps≠[]->ps.length<=10->ps.length<=ns.length - at0->(∀ p ∈ ps,StOk p)->Q (.own (ps.map stD))
theorem B6i (T:Txt K mg D):FnOk P w K mg base CX0 3 D.a_c4 D.d_c4 ["_law_cells","_law_at"] (Pu.spOf K [.vw,.dat] B5y):=by
 refine T.B.F_c4.ok sc_c4 (Zz rfl) (fun cdv A outer s H vs Q E hr h=>?_);refine ⟨_,(QSs.out (A2 (qst 2 sc_c4 (C2 A1))
   (A2 (N7 Zf rfl (Z8 rfl T.z_range (A0 (qpv 1) (A0 (B6 (B4o rfl) (by rfl) T.z_min (by rfl) (A0 (B3 J9 (qpv 1) A3) (A0 (qln K T.z_len (qpv 0)) A1))) A1))) (qgn 3 sc_c4)
    (A2 (qst 4 sc_c4 (qcK (S8 (K:=K) T) hr.mo (V6 T) (A0 (qpv 0) (A0 (qpv 3) A1))))
    (A2 (qst 5 sc_c4 (qcK (O5 (K:=K) T) hr.mo (R5 T) (A0 (qpv 4) (A0 (G9 (D5 (K:=K) rfl hr.units) (qpv 3) (qpv 1) (B1 _)) A1))))
    (A2 (B5 (A7 (D5 (K:=K) rfl hr.units) (qcK (D8 (K:=K) T) hr.mo (G1 T) (A0 (qpv 4) (A0 A3 A1))) A3 (B1 _))
     (A4 (qst 5 sc_c4 (C5 (A0 (B3 B1r A3 (qix K (qpv 5) A3)) (A0 (qix K (qpv 5) A3) A1)))))
     B0)
    (A4 (K5 (C3 (K:=K) rfl Z1 Z2 Z3 J1 (qpv 2) (A0 (C5 (A0 (qpv 5) (A0 (qcK (O5 (K:=K) T) hr.mo (R5 T) (A0 (qpv 4) (A0 (G9 (D5 (K:=K) rfl hr.units) (qpv 3) (qpv 1) (B1 _)) A1))) A1))) A1))))))))
   (A4 (A8 (qpv 2)))))),?_⟩
 haveI:=T.c2_ARC_WORDS
 refine Pu.F2 h ?_;rintro as Qp ⟨ns,at0,rfl,h1,h2,k⟩;refine hd fun R hR=>?_;trivial;subst hR;trivial;obtain ⟨m,em,m0,m1,m2⟩:∃ m:Nat,(if (ns.length:Int) < (at0:Int) + 10 then (ns.length:Int) else (at0:Int) + 10)=((at0 + m:Nat):Int)/\0 < m/\m<=10/\at0 + m<=ns.length:=by
  by_cases z:(ns.length:Int) < (at0:Int) + 10
  ·rw [if_pos z]; exact ⟨ns.length - at0,by omega,by omega,by omega,by omega⟩
  ·rw [if_neg z]; exact ⟨10,by omega,by omega,by omega,by omega⟩
 rw [em];have en:(((at0 + m:Nat):Int) - (at0:Int)).toNat=m:=by omega
 rw [en];refine ⟨⟨by omega,by omega,by omega,by omega⟩,?_⟩;refine A5c (fun i e=>∃ (ps:List (Rat × Rat)) (o3 o4 o5:Option SV),e=[some (.bor (ns.map .int)),some (.d (.int at0)),some (.own (ps.map stD)),o3,o4,o5]/\ps.length=i/\∀ p ∈ ps,StOk p) ⟨[],_,_,_,rfl,rfl,fun _ z=>nomatch z⟩ ?_ ?_
 ·rintro i e hi ⟨ps,o3,o4,o5,rfl,hpl,hps⟩;refine hd fun R hR=>?_;trivial;refine ⟨ns,_,rfl,by omega,by omega,?_⟩;trivial;subst hR;refine hd fun R hR=>?_;trivial;refine ⟨_,rfl,fun q q0 qs=>?_⟩;have q1:=sumL qs;have q2:=sumR qs;trivial;subst hR;refine Q4 (fun e=>∃ q:Rat,e=[some (.bor (ns.map .int)),some (.d (.int at0)),some (.own (ps.map stD)),some (.d (.int ((at0:Int) + i))),some .st,some (.d (dq q))]/\q.num.natAbs < 10 ^ 60/\q.den < 10 ^ 60) (fun R hR=>?_) ?_
  ·trivial;refine ⟨3,rfl,by decide,sm4 3,fun c c0 c3=>?_⟩;trivial;refine ite2 (fun _=>?_) (fun _=>hR _ ⟨q,rfl,q1,q2⟩);rw [Int.zero_sub,C68];exact hR _ ⟨-q,rfl,by show (-q.num).natAbs < _; rw [Int.natAbs_neg]; exact q1,q2⟩
  rintro e ⟨p,rfl,p1,p2⟩;trivial;refine ⟨_,rfl,fun r r0 rs=>?_⟩;have r1:=sumL rs;have r2:=sumR rs;trivial;refine ⟨by omega,ps++[(p,r)],_,_,_,by rw [Zc]; rfl,by rw [Ze,hpl]; rfl,fun z hz=>?_⟩;rcases Za hz with m | m
  ·exact hps z m
  ·rw [Zn m]; exact ⟨p1,p2,r1,r2,r0⟩
 ·rintro e ⟨ps,o3,o4,o5,rfl,hpl,hps⟩;trivial;exact k ps (fun w=>by rw [w] at hpl; exact absurd hpl (by show ¬ 0=m; omega)) (by omega) (by omega) hps
def B0a:Pu.PSp:=fun as Q=>∃ ns:List Int,as=[.bor (ns.map .int)]/\ns.length<=63/\∀ ps:List (List Nat × Int × Rat),ps.length=ns.length->(∀ p ∈ ps,CaOk p)->Q (.own (ps.map caD))
theorem B1y (T:Txt K mg D):FnOk P w K mg base CX0 3 D.a_be D.d_be ["_law_cells"] (Pu.spOf K [.vw] B0a):=by
 refine T.B.F_be.ok sc_be (Zz rfl) (fun cdv A outer s H vs Q E hr h=>?_);refine ⟨_,(QSs.out (A2 (qst 1 sc_be (C2 A1))
   (A2 (N7 Zf rfl (A76 rfl T.z_range (A0 (qln K T.z_len (qpv 0)) A1)) (qgn 2 sc_be)
    (A2 (qst 3 sc_be (qcK (S8 (K:=K) T) hr.mo (V6 T) (A0 (qpv 0) (A0 (B3 J9 (qpv 2) A3) A1))))
    (A2 (qst 4 sc_be (qcK (O5 (K:=K) T) hr.mo (R5 T) (A0 (qpv 3) (A0 (G9 (D5 (K:=K) rfl hr.units) (qpv 2) A3 (B1 _)) A1))))
    (A2 (qst 5 sc_be (qix K (C2 (A0 A5 (A0 A5 (A0 A5 (A0 A5 A1))))) (qcK (D8 (K:=K) T) hr.mo (G1 T) (A0 (qpv 3) (A0 A3 A1)))))
    (A4 (K5 (C3 (K:=K) rfl Z1 Z2 Z3 J1 (qpv 1) (A0 (C5 (A0 (C5 (A0 (qpv 5) (A0 (qcK (D8 (K:=K) T) hr.mo (G1 T) (A0 (qpv 3) (A0 A3 A1))) A1))) (A0 (qcK (A44 (K:=K) T) hr.mo (B4w T) (A0 (B3 J9 (qix K (qpv 4) A3) (qix K (qpv 4) A3)) (A0 (qix K (qpv 4) A3) A1))) A1))) A1))))))))
   (A4 (A8 (qpv 1)))))),?_⟩
 haveI:=T.c2_ARC_WORDS
 refine Pu.F2 h ?_;rintro as Qp ⟨ns,rfl,h2,k⟩;refine hd fun R hR=>?_;trivial;subst hR;trivial;rw [Int.toNat_natCast];refine ⟨⟨by omega,by omega⟩,?_⟩;refine A5c (fun i e=>∃ (ps:List (List Nat × Int × Rat)) (o3 o4 o5 o6:Option SV),e=[some (.bor (ns.map .int)),some (.own (ps.map caD)),o3,o4,o5,o6]/\ps.length=i/\∀ p ∈ ps,CaOk p) ⟨[],_,_,_,_,rfl,rfl,fun _ z=>nomatch z⟩ ?_ ?_
 ·rintro i e hi ⟨ps,o3,o4,o5,o6,rfl,hpl,hps⟩;refine hd fun R hR=>?_;trivial;refine ⟨ns,_,rfl,by omega,by omega,?_⟩;trivial;subst hR;refine hd fun R hR=>?_;trivial;refine ⟨_,rfl,fun q q0 qs=>?_⟩;trivial;subst hR;refine hd fun R hR=>?_;trivial;refine ⟨4,rfl,by decide,sm4 4,fun c c0 c4=>?_⟩;trivial;obtain ⟨_,⟨w,rfl,hw⟩,ew⟩:=B4z (P:=fun x=>∃ w,x=PyData.str (sO w)/\w ∈ arcs) (d:=c) B42 c0 c4;refine W6 ew ?_;trivial;subst hR;trivial;refine ⟨100,rfl,by decide,sm4 100,fun d d0 d1=>?_⟩;trivial;obtain ⟨g1,g2,g3,g4⟩:=C2r q0 qs;refine ⟨_,_,rfl,by have:=q.den_pos; omega,B5i (R7 g4),B5i (R7 (show ((q.den:Int)).natAbs < 10 ^ 60 from sumR qs)),?_⟩;trivial;generalize Rat.divInt (q.num + (q.den:Int)) (q.den:Int)=r at *;refine ⟨by omega,ps++[(w,d,r)],_,_,_,_,by rw [Zc]; rfl,by rw [Ze,hpl]; rfl,fun z hz=>?_⟩;rcases Za hz with m | m
  ·exact hps z m
  ·rw [Zn m]; exact ⟨hw,d0,by show d<=99; omega,g2,g3,g1⟩
 ·rintro e ⟨ps,o3,o4,o5,o6,rfl,hpl,hps⟩;trivial;exact k ps hpl hps
def A2i:Pu.PSp:=fun as Q=>∃ ps:List (Rat × Rat),as=[.d (.list (ps.map stD))]/\ps.length<=10/\(∀ p ∈ ps,StOk p)/\Q (.d (.str (sO (plT ps))))
theorem O2 (T:Txt K mg D):FnOk P w K mg base CX0 2 D.a_ae D.d_ae ["_law_plan_here"] (Pu.spOf K [.dat] A2i):=by
 refine T.B.F_ae.ok sc_ae (Zz rfl) (fun cdv A outer s H vs Q E hr h=>?_);refine ⟨_,(QSs.out (A4 (A8 (C3 (K:=K) rfl PySem.F.plainAttrs_str PySem.F.slot_str_join PySem.F.type_str_join (T0 (K:=K) rfl) A5 (A0 (S5 rfl (J5 ["_law_start","_law_time"] [none,none]) (M2 (K:=K) rfl (qpv 0)) (fun _ _ _=>(G7 (K:=K) (n:=2) rfl rfl (B4 (qgc 0 ["_law_start","_law_time"]) (B4 (qgc 1 ["_law_start","_law_time"]) G6)) rfl rfl)) (fun _ _ _=>K4) (fun _ _ _=>(B3 F5 (B3 F5 (qcK (U1 (K:=K) T) hr.mo (Y3 T) (A0 (qpv 0) A1)) A5) (qcK (U1 (K:=K) T) hr.mo (Y3 T) (A0 (qpv 1) A1))))) A1))))),?_⟩
 haveI:=T.c2_ARC_WORDS
 refine Pu.F2 h ?_;rintro as Qp ⟨ps,rfl,hl,hs,k⟩;trivial;refine ⟨by omega,K6 (f:=stD) (xs:=ps) (fun i e ys=>(∃ o1 o2:Option SV,e=[o1,o2])/\ys=((ps.take i).map stT).map fun l=>PyData.str (sO l)) ⟨⟨_,_,rfl⟩,rfl⟩ ?_ ?_⟩
 ·rintro i p e ys hi ⟨⟨o1,o2,rfl⟩,rfl⟩;have hp:=hs p (Zm hi);have r1:=Y5 hp.n1 hp.d1;have r2:=Y5 hp.n2 hp.d2;unfold stD;trivial;refine ⟨p.1,rfl,hp.n1,hp.d1,?_⟩;trivial;rw [m32];simp only [C8,A9];refine ⟨by show _ + 1<=_; omega,p.2,rfl,hp.n2,hp.d2,?_⟩;trivial;simp only [C8,A9];refine ⟨by rw [Ze]; show _ + 1 + _<=_; omega,⟨_,_,rfl⟩,?_⟩;rw [List.take_add_one,hi,Option.toList_some,Zc,Zc,C3p]; rfl
 ·rintro e ys ⟨⟨o1,o2,rfl⟩,rfl⟩;rw [List.take_length];trivial;rw [mSep];refine ⟨_,P1 _,?_,?_⟩
  ·refine Zx (V8 (m:=261) fun l h=>?_) ?_
   ·obtain ⟨p,hp,rfl⟩:=List.mem_map.mp h;exact A5w (hs p hp)
   ·rw [Zl,A9];exact Zx (Zu _ hl) (by decide)
  ·rw [P5]; exact k
def A09:Pu.PSp:=fun as Q=>∃ ps:List (List Nat × Int × Rat),as=[.d (.list (ps.map caD))]/\ps.length<=100/\(∀ p ∈ ps,CaOk p)/\Q (.d (.str (sO (paT ps))))
theorem M4 (T:Txt K mg D):FnOk P w K mg base CX0 2 D.a_a4 D.d_a4 ["_law_paper_here"] (Pu.spOf K [.dat] A09):=by
 refine T.B.F_a4.ok sc_a4 (Zz rfl) (fun cdv A outer s H vs Q E hr h=>?_);refine ⟨_,(QSs.out (A2 (B5 (A7 (D5 (K:=K) rfl hr.units) (qpv 0) (C2 A1) (B1 _))
    (A4 (A8 A5))
    B0)
   (A4 (A8 (C3 (K:=K) rfl PySem.F.plainAttrs_str PySem.F.slot_str_join PySem.F.type_str_join (T0 (K:=K) rfl) A5 (A0 (S5 rfl (J5 ["_law_arc","_law_amount"] [none,none]) (M2 (K:=K) rfl (qpv 0)) (fun _ _ _=>(G7 (K:=K) (n:=2) rfl rfl (B4 (qgc 0 ["_law_arc","_law_amount"]) (B4 (qgc 1 ["_law_arc","_law_amount"]) G6)) rfl rfl)) (fun _ _ _=>K4) (fun _ _ _=>(B3 F5 (B3 F5 (B3 F5 (B3 F5 (qix K (qpv 0) A3) A5) (D1 L8 (by rfl) T.z_str (by rfl) (A0 (qix K (qpv 0) A3) A1))) A5) (qcK (U1 (K:=K) T) hr.mo (Y3 T) (A0 (qpv 1) A1))))) A1)))))),?_⟩
 haveI:=T.c2_ARC_WORDS
 refine Pu.F2 h ?_;rintro as Qp ⟨ps,rfl,hl,hs,k⟩;trivial;refine ⟨C7e hs,C7f ps,ite2 (fun z=>?_) (fun z=>?_)⟩
 ·have:ps=[]:=by cases ps with
   | nil=>rfl
   | cons a r=>exact absurd z (fun w=>Bool.noConfusion w)
  subst this;have e:paT []=[45]:=rfl;rw [e] at k;rw [m45]; exact k
 have hne:ps≠[]:=fun w=>z (by rw [w]; rfl);refine ⟨by omega,K6 (f:=caD) (xs:=ps) (fun i e ys=>(∃ o1 o2:Option SV,e=[o1,o2])/\ys=((ps.take i).map caT).map fun l=>PyData.str (sO l)) ⟨⟨_,_,rfl⟩,rfl⟩ ?_ ?_⟩
 ·rintro i p e ys hi ⟨⟨o1,o2,rfl⟩,rfl⟩;have hp:=hs p (Zm hi);have h5:=A1t _ hp.w;have h2:=wh99 hp.n0 hp.n1;have h1:=Y5 hp.n2 hp.d2;have n300:p.2.1.natAbs < 10 ^ 300:=by
   have a:=hp.n0;have b:=hp.n1;exact Nat.lt_of_le_of_lt (show p.2.1.natAbs<=99 by omega) (by decide +kernel)
  unfold caD;trivial;rw [Q2,m32];simp only [C8,A9];refine ⟨by show _ + 1<=_; omega,A47 (i:=p.2.1) n300,by rw [Ze]; show _ + 1 + _<=_; omega,by rw [Ze,Ze]; show _ + 1 + _ + 1<=_; omega,p.2.2,rfl,hp.n2,hp.d2,?_⟩;trivial;simp only [C8,A9];refine ⟨by rw [Ze,Ze,Ze]; show _ + 1 + _ + 1 + _<=_; omega,⟨_,_,rfl⟩,?_⟩;rw [List.take_add_one,hi,Option.toList_some,Zc,Zc,C7i]; rfl
 ·rintro e ys ⟨⟨o1,o2,rfl⟩,rfl⟩;rw [List.take_length];trivial;rw [mSep];refine ⟨_,P1 _,?_,?_⟩
  ·refine Zx (V8 (m:=139) fun l h=>?_) ?_
   ·obtain ⟨p,hp,rfl⟩:=List.mem_map.mp h;exact A7q (hs p hp)
   ·rw [Zl,A9];exact Zx (Zu _ hl) (by decide)
  ·rw [P5];unfold paT at k;rw [if_neg hne] at k; exact k
def A4s:Pu.PSp:=fun as Q=>∃ d:Int,as=[.d (.int d)]/\0<=d/\d < 28/\∀ x,NoP x->Q (.d x)
theorem A43 (T:Txt K mg D):FnOk P w K mg base CX0 1 D.a_b2 D.d_b2 ["_law_turn"] (Pu.spOf K [.dat] A4s):=by
 refine T.B.F_b2.ok sc_b2 (Zz rfl) (fun cdv A outer s H vs Q E hr h=>?_);refine' Exists.intro _ (And.intro (QSs.out ?h) ?g)
 case h =>
  exact (A2 (qst 1 sc_b2 (C2 (A0 A5 (A0 A5 (A0 A5 (A0 A5 (A0 A5 (A0 A5 (A0 A5 (A0 A5 (A0 A5 (A0 A5 (A0 A5 (A0 A5 (A0 A5 A1)))))))))))))))
   (A2 (qst 1 sc_b2 (B3 (Q7 (K:=K) rfl) (qpv 1) (C2 (A0 A5 (A0 A5 (A0 A5 (A0 A5 (A0 A5 (A0 A5 (A0 A5 A1))))))))))
   (A2 (qst 1 sc_b2 (B3 (Q7 (K:=K) rfl) (qpv 1) (C2 (A0 (B3 F5 A5 (B3 A1e A5 A3)) (A0 A5 (A0 A5 A1))))))
   (A4 (A8 (qix K (B3 (Q7 (K:=K) rfl) (qpv 1) (C2 (A0 (B3 F5 (B3 A1e A5 A3) A5) (A0 B2 (A0 A3 (A0 (C2 (A0 (C5 (A0 (C5 (A0 A3 (A0 A3 A1))) (A0 (C5 (A0 A3 (A0 A3 A1))) A1))) A1)) (A0 I0 A1))))))) (qpv 0)))))))
 case g =>
  haveI:=T.c2_NOUGHT
  haveI:=T.c2_ARC_WORDS
  refine Pu.F2 h ?_;rintro as Qp ⟨d,rfl,d0,d1,k⟩
  repeat (first | refine And.intro (Nat.le_of_ble_eq_true rfl) ?_ | refine And.intro (by decide) ?_)
  have d2:d < (oddPl.length:Int):=by rw [show oddPl.length=28 from rfl]; exact d1
  obtain ⟨x,hx,e⟩:=B4z (P:=NoP) (xs:=oddPl) (d:=d) B6j d0 d2;exact W6 e (k x hx)
def A2j:Pu.PSp:=fun as Q=>∃ d:Int,as=[.d (.int d)]/\0<=d/\d < 31/\∀ x,NoC x->Q (.d x)
theorem A26 (T:Txt K mg D):FnOk P w K mg base CX0 1 D.a_ad D.d_ad ["_law_turn"] (Pu.spOf K [.dat] A2j):=by
 refine T.B.F_ad.ok sc_ad (Zz rfl) (fun cdv A outer s H vs Q E hr h=>?_);refine' Exists.intro _ (And.intro (QSs.out ?h) ?g)
 case h =>
  exact (A2 (qst 1 sc_ad (C2 (A0 A5 (A0 A5 (A0 A5 (A0 A5 (A0 A5 (A0 A5 (A0 A5 (A0 A5 (A0 A5 (A0 A5 A1))))))))))))
   (A2 (qst 1 sc_ad (B3 (Q7 (K:=K) rfl) (qpv 1) (C2 (A0 A5 (A0 A5 (A0 A5 (A0 A5 (A0 A5 (A0 A5 A1)))))))))
   (A2 (qst 1 sc_ad (B3 (Q7 (K:=K) rfl) (qpv 1) (C2 (A0 A5 (A0 A5 (A0 A5 (A0 A5 (A0 A5 (A0 A5 A1)))))))))
   (A2 (qst 1 sc_ad (B3 (Q7 (K:=K) rfl) (qpv 1) (C2 (A0 A5 (A0 (B3 F5 A5 (B3 A1e A5 A3)) A1)))))
   (A4 (A8 (qix K (B3 (Q7 (K:=K) rfl) (qpv 1) (C2 (A0 (B3 F5 (B3 A1e A5 A3) A5) (A0 B2 (A0 A3 (A0 (C2 A1) (A0 I0 (A0 A5 (A0 A5 A1))))))))) (qpv 0))))))))
 case g =>
  haveI:=T.c2_NOUGHT
  haveI:=T.c2_ARC_WORDS
  refine Pu.F2 h ?_;rintro as Qp ⟨d,rfl,d0,d1,k⟩
  repeat (first | refine And.intro (Nat.le_of_ble_eq_true rfl) ?_ | refine And.intro (by decide) ?_)
  have d2:d < (oddCl.length:Int):=by rw [show oddCl.length=31 from rfl]; exact d1
  obtain ⟨x,hx,e⟩:=B4z (P:=NoC) (xs:=oddCl) (d:=d) B6k d0 d2;exact W6 e (k x hx)
def A2k:Pu.PSp:=fun as Q=>∃ l:List Nat,as=[.d (.str (sO l))]/\l.length<=1000/\(∀ c ∈ l,c < 128)/\Q (.d (oI (lnI l)))
theorem O3 (T:Txt K mg D):FnOk P w K mg base CX0 1 D.a_ac D.d_ac ["_law_word"] (Pu.spOf K [.dat] A2k):=by
 refine T.B.F_ac.ok sc_ac (Zz rfl) (fun cdv A outer s H vs Q E hr h=>?_);refine ⟨_,(QSs.out (A2 (B5 (QW.pt (D9 (A7 A2z (qln K T.z_len (qpv 0)) A3 (B1 _)) (D9 (A7 A8e (qln K T.z_len (qpv 0)) A3 (B1 _)) (F4 (QW.pt (A0x (A7 (D5 (K:=K) rfl hr.units) (qix K (qpv 0) A3) A5 (B1 _)) (V2 (A7 (G5 (K:=K) rfl hr.units) (qpv 0) A5 (B1 _)))))))))
    (A4 (A8 B2))
    B0)
   (A2 (N7 Zf rfl (A9x (qpv 0)) (qgn 1 sc_ac)
    (A4 (B5 (A7 B1s (qpv 1) A5 (by with_unfolding_all rfl))
     (A4 (A8 B2))
     B0)))
   (A4 (A8 (D1 A3x (by rfl) T.z_int (by rfl) (A0 (qpv 0) A1))))))),?_⟩
 haveI:=T.c2_ARC_WORDS
 refine Pu.F2 h ?_;rintro as Qp ⟨l,rfl,hl,ha,k⟩;have no:¬ lnB l=true->Qp (.d .none):=fun h=>by
  unfold lnI at k;rw [if_neg h] at k; exact k
 refine hd fun R hR=>?_;trivial;rw [m48,A9];refine ⟨hl,ite2 (fun z=>no fun w=>?_) (fun z1=>⟨hl,ite2 (fun z=>no fun w=>?_) (fun z2=>⟨hl,?_⟩)⟩)⟩
 ·have:=(lnB_iff.mp w).1.1;omega
 ·have:=(lnB_iff.mp w).1.2.1;omega
 have next:¬ (l.head?=some 48/\l≠[48])->R { nx:=fun x=>Qp (SV.d PyData.none),rt:=fun s x=>Qp s,bk:=fun x=>False,ct:=fun x=>False } [some (SV.d (PyData.str (sO l))),none]:=fun hh=>by
  subst hR;refine hd fun R hR=>?_;trivial;rw [A0u];refine A5d (f:=sgn) (xs:=l) (fun i e=>(∃ o:Option SV,e=[some (.d (.str (sO l))),o])/\(l.take i).all digB=true) ⟨⟨_,rfl⟩,rfl⟩ ?_ ?_
  ·rintro i c e hi ⟨⟨o,rfl⟩,hd9⟩;unfold sgn;trivial;rw [mFig,C0i];cases hc:digB c with
   | false =>
    trivial;refine no fun w=>?_;have:=List.all_eq_true.mp (lnB_iff.mp w).1.2.2 c (Zm hi);rw [hc] at this; cases this
   | true =>
    trivial;refine ⟨⟨_,rfl⟩,?_⟩;rw [List.take_add_one,hi,Option.toList_some,List.all_append,hd9];show (true && (digB c && true))=true;rw [hc]; rfl
  ·rintro e ⟨⟨o,rfl⟩,hd9⟩;rw [List.take_length] at hd9;subst hR;have ok:lnB l=true:=lnB_iff.mpr ⟨⟨by omega,by omega,hd9⟩,hh⟩;have hb:C6 l=l:=by
    cases l with
    | nil=>rfl
    | cons a r =>
     show (if a=45 then r else a :: r)=_;rw [if_neg fun z=>by
      have:=M8 hd9 a Zy;omega]
   have hv:valL l=((PySem.NumText.digitsVal l:Nat):Int):=by
    unfold valL;rw [if_neg fun z=>by
     obtain ⟨r,e⟩:=head45.mp z;have:=M8 hd9 45 (by rw [e]; exact Zy);omega,hb]
   have hi:=C0g (l:=l) (by rw [hb]; exact hd9) (by rw [hb]; omega) hl;rw [hv] at hi;unfold lnI at k;rw [if_pos ok] at k;trivial;exact ⟨_,hi,by rw [A9]; omega,k⟩
 cases l with
 | nil=>exact absurd (show ((([]:List Nat).length:Nat):Int) < 1 by decide) z1
 | cons c r =>
  have h0:L2.atI (c :: r) ((0:Nat):Int)=some c:=K1 rfl;refine ⟨c,h0,?_⟩;unfold sgn;trivial;rw [show (⟨#[c]⟩:Str)=sO [c] from rfl,N3,N3];refine ⟨E8 fun x hx=>ha x (by rw [Zn hx]; exact Zy),E8 (by decide),?_⟩;refine ite2 (fun z=>?_) (fun z=>?_)
  ·have hc:c=48:=by simpa using of_decide_eq_true z
   refine ⟨E8 ha,E8 (by decide),?_⟩;refine ite2 (fun y=>?_) (fun y=>?_)
   ·exact no fun w=>(lnB_iff.mp w).2 ⟨by rw [hc]; rfl,of_decide_eq_false y⟩
   ·exact next fun w=>y (Zd w.2)
  ·refine next fun w=>z (Zk ?_);have hc:c=48:=by simpa using w.1
   rw [hc]
def A4q:Pu.PSp:=fun as Q=>∃ l:List Nat,as=[.d (.str (sO l))]/\l.length<=1000/\(∀ c ∈ l,c < 128)/\Q (.d (oQ (qIn l)))
theorem W9 (T:Txt K mg D):FnOk P w K mg base CX0 2 D.a_b4 D.d_b4 ["_law_word"] (Pu.spOf K [.dat] A4q):=by
 refine T.B.F_b4.ok sc_b4 (Zz rfl) (fun cdv A outer s H vs Q E hr h=>?_);refine ⟨_,(QSs.out (A2 (qst 1 sc_b4 (C4 S2 (qpv 0) (D6 (D1 A3y (by rfl) T.z_int (by rfl) (A0 (G9 (D5 (K:=K) rfl hr.units) (C4 S2 (qpv 0) D7 (D6 A3)) A5 (B1 _)) A1))) D7))
   (A2 (W4 (C3 (K:=K) rfl PySem.F.plainAttrs_str PySem.F.slot_str_partition PySem.F.type_str_partition A1k (qpv 1) (A0 A5 A1)) (G7 (K:=K) (n:=3) rfl rfl (B4 (qgn 2 sc_b4) (B4 (qgn 3 sc_b4) (B4 (qgn 4 sc_b4) G6))) rfl rfl))
   (A2 (qst 5 sc_b4 (C5 (A0 (qcK (O3 (K:=K) T) hr.mo (R3 T) (A0 (qpv 2) A1)) (A0 A3 A1))))
   (A2 (B5 (A7 (G5 (K:=K) rfl hr.units) (qpv 3) A5 (B1 _))
    (A4 (qst 5 sc_b4 (C5 (A0 (qix K (qpv 5) A3) (A0 (qcK (O3 (K:=K) T) hr.mo (R3 T) (A0 (qpv 4) A1)) A1)))))
    B0)
   (A2 (B5 (QW.pt (D9 (A7 E7 (qix K (qpv 5) A3) B2 (B1 _)) (D9 (A7 E7 (qix K (qpv 5) A3) B2 (B1 _)) (F4 (A7 A2z (qix K (qpv 5) A3) (B3 J9 A3 (D1 A3y (by rfl) T.z_int (by rfl) (A0 (G9 (G5 (K:=K) rfl hr.units) (qpv 3) A5 (B1 _)) A1))) (B1 _))))))
    (A4 (A8 B2))
    B0)
   (A2 (B5 (QW.pt (D9 (A7 (G5 (K:=K) rfl hr.units) (qcK (A44 (K:=K) T) hr.mo (B4w T) (A0 (qix K (qpv 5) A3) (A0 (qix K (qpv 5) A3) A1))) (qpv 5) (B1 _)) (F4 (QW.pt (A0x (A7 (D5 (K:=K) rfl hr.units) (qix K (qpv 5) A3) A3 (B1 _)) (V2 (A7 (G5 (K:=K) rfl hr.units) (qpv 1) (qpv 0) (B1 _))))))))
    (A4 (A8 B2))
    B0)
   (A2 (B5 (A7 (G5 (K:=K) rfl hr.units) (qpv 1) (qpv 0) (B1 _))
    (A4 (A8 (C5 (A0 (B3 B1r A3 (qix K (qpv 5) A3)) (A0 (qix K (qpv 5) A3) A1)))))
    B0)
   (A4 (A8 (qpv 5))))))))))),?_⟩
 haveI:=T.c2_ARC_WORDS
 refine Pu.F2 h ?_;rintro as Qp ⟨l,rfl,hl,ha,k⟩;rw [<- B5s,C37] at k;refine hd fun R hR=>?_;trivial;rw [m45,A9n,N3,A9o];refine ⟨by rw [A9]; omega,E8 (fun c hc=>ha c (List.mem_of_mem_take hc)),E8 (by decide),by rw [A9]; omega,?_⟩;have bl:(C6 l).length<=l.length:=C3a l;have ba:∀ c ∈ C6 l,c < 128:=fun c hc=>ha c (B68 hc);unfold lrI at k;generalize hF:C6 l=F at *;subst hR;refine hd fun R hR=>?_;trivial;obtain ⟨esum,hsl⟩:=T6 47 F;have hlen:(parS 47 F).1.length + (parS 47 F).2.1.length + (parS 47 F).2.2.length=F.length:=by
  have:=congrArg List.length esum;rw [Ze,Ze] at this; exact this
 have pa1:∀ c ∈ (parS 47 F).1,c < 128:=fun c hc=>ba c (by rw [<- esum]; simp [hc]);have pa2:∀ c ∈ (parS 47 F).2.1,c < 128:=fun c hc=>ba c (by rw [<- esum]; simp [hc]);have pa3:∀ c ∈ (parS 47 F).2.2,c < 128:=fun c hc=>ba c (by rw [<- esum]; simp [hc]);rw [m47,A4u];refine ⟨rfl,by rw [A9]; omega,?_⟩;generalize (parS 47 F).1=p1 at *;generalize (parS 47 F).2.1=p2 at *;generalize (parS 47 F).2.2=p3 at *;subst hR;refine hd fun R hR=>?_;trivial;refine ⟨p1,rfl,by omega,pa1,?_⟩;trivial;subst hR;refine Q4 (fun e=>e=[some (.d (.str (sO l))),some (.d (.str (sO F))),some (.d (.str (sO p1))),some (.d (.str (sO p2))),some (.d (.str (sO p3))),some (.d (.tuple [oI (lnI p1),oI (if p2=[47] then lnI p3 else some 1)]))]) (fun R hR=>?_) ?_
 ·trivial;rw [mE,N3];refine ⟨E8 pa2,C6o,?_⟩;refine ite2 (fun z=>?_) (fun z=>?_)
  ·have hp:p2=[47]:=hsl.resolve_left fun w=>of_decide_eq_false z w.1;refine ⟨p3,rfl,by omega,pa3,?_⟩;trivial;exact hR _ (by rw [if_pos hp])
  ·have hp:p2≠[47]:=fun w=>z (Zd (by rw [w]; exact List.cons_ne_nil _ _));exact hR _ (by rw [if_neg hp]; rfl)
 rintro e rfl;cases h1:lnI p1 with
 | none =>
  rw [h1] at k;trivial;rw [if_pos (show isNo (oI none)=true from rfl)];exact k
 | some t =>
  cases h2:(if p2=[47] then lnI p3 else some 1) with
  | none =>
   rw [h1,h2] at k;trivial;rw [if_neg (show ¬ isNo (oI (some t))=true from fun z=>Bool.noConfusion z),if_pos (show isNo (oI none)=true from rfl)];exact k
  | some b =>
   rw [h1,h2] at k;have k:Qp (.d (oR (if p2=[47]/\(b < 2\/((Int.gcd t b:Nat):Int)≠1)\/(F≠l/\t=0) then none else some (if F≠l then -t else t,b)))):=k;have tn:=A6x h1;have ts:=A6w h1;have b1:1<=b\/p2=[47]:=by
    by_cases hp:p2=[47]
    ·exact .inr hp
    ·rw [if_neg hp] at h2;cases h2; exact .inl (by decide)
   have bs:b.natAbs < 10 ^ 60:=by
    by_cases hp:p2=[47]
    ·rw [if_pos hp] at h2; exact A6w h2
    ·rw [if_neg hp] at h2; cases h2; decide
   have ec:(1 + if decide (p2=[])=false then (1:Int) else 0)=if p2=[47] then 2 else 1:=by
    rcases hsl with w | w
    ·rw [w.1]; decide
    ·rw [w]; decide
   refine hd fun R hR=>?_;unfold oI;trivial;rw [mE,N3,ec];refine ⟨E8 pa2,C6o,?_⟩;refine ite2 (fun z=>?_) (fun z=>?_)
   ·have w:p2=[47]/\b < 2:=by
     by_cases hp:p2=[47]
     ·rw [if_pos hp] at z; exact ⟨hp,z⟩
     ·rw [if_neg hp] at z;exact absurd (b1.resolve_right hp) (by omega)
    rw [if_pos (.inl ⟨w.1,.inl w.2⟩)] at k;exact k
   have b0:0 < b:=by
    by_cases hp:p2=[47]
    ·rw [if_pos hp] at z; omega
    ·rw [if_neg hp] at z; omega
   subst hR;refine hd fun R hR=>?_;trivial;refine ⟨t,b,rfl,b0,B5i (R7 ts),B5i (R7 bs),?_⟩;trivial;have fin:Int.gcd t b=1->¬ (F≠l/\t=0)->R { nx:=fun x=>Qp (SV.d PyData.none),rt:=fun s x=>Qp s,bk:=fun x=>False,ct:=fun x=>False } [some (SV.d (PyData.str (sO l))),some (SV.d (PyData.str (sO F))),some (SV.d (PyData.str (sO p1))),some (SV.d (PyData.str (sO p2))),some (SV.d (PyData.str (sO p3))),some (SV.d (PyData.tuple [PyData.int t,PyData.int b]))]:=fun hg hh=>by
    rw [if_neg (fun w=>w.elim (fun w=>w.2.elim (fun y=>by rw [if_pos w.1] at z; omega) fun y=>y (by rw [hg]; rfl)) hh)] at k;subst hR;trivial;rw [N3];refine ⟨E8 ba,E8 ha,?_⟩;refine ite2 (fun y=>?_) (fun y=>?_)
    ·rw [if_pos (of_decide_eq_false y)] at k;rw [Int.zero_sub];exact k
    ·have e:F=l:=by
      by_cases w:F=l
      ·exact w
      ·exact absurd (Zd w) y
     rw [if_neg (fun w=>w e)] at k;exact k
   rw [C69 b0,N3];refine ⟨rfl,?_⟩;refine ite2 (fun y=>?_) (fun y=>?_)
   ·have hg:=of_decide_eq_false y;have hp:p2=[47]:=by
     by_cases w:p2=[47]
     ·exact w
     ·rw [if_neg w] at h2;cases h2;exact absurd Int.gcd_one hg
    rw [if_pos (.inl ⟨hp,.inr fun w=>hg (Int.ofNat.inj w)⟩)] at k;exact k
   have hg:Int.gcd t b=1:=by
    by_cases w:Int.gcd t b=1
    ·exact w
    ·exact absurd (Zd w) y
   refine ite2 (fun t0=>⟨E8 ba,E8 ha,?_⟩) (fun t0=>fin hg fun w=>t0 w.2);refine ite2 (fun y=>?_) (fun y=>?_)
   ·rw [if_pos (.inr ⟨of_decide_eq_false y,t0⟩)] at k;exact k
   ·exact fin hg fun w=>y (Zd w.1)
def A8b:Pu.PSp:=fun as Q=>∃ l:List Nat,as=[.d (.str (sO l))]/\l.length<=1000/\(∀ c ∈ l,c < 128)/\if okP l=true then Q (.own (vaP l)) else Q (.d .none)
theorem A8g (T:Txt K mg D):FnOk P w K mg base CX0 3 D.a_b9 D.d_b9 ["_law_text"] (Pu.spOf K [.dat] A8b):=by
 refine T.B.F_b9.ok sc_b9 (Zz rfl) (fun cdv A outer s H vs Q E hr h=>?_);refine ⟨_,(QSs.out (A2 (qst 1 sc_b9 (C2 A1))
   (A2 (N7 Zf rfl (M2 (K:=K) rfl (C3 (K:=K) rfl PySem.F.plainAttrs_str PySem.F.slot_str_split PySem.F.type_str_split K0 (qpv 0) (A0 A5 A1))) (qgn 2 sc_b9)
    (A2 (Q5 (i:=3) rfl sc_b9.nd rfl rfl (J5 ["_law_word"] [none]) (M2 (K:=K) rfl (C3 (K:=K) rfl PySem.F.plainAttrs_str PySem.F.slot_str_split PySem.F.type_str_split K0 (qpv 2) (A0 A5 A1))) (fun _ _ _=>(qgc 0 ["_law_word"])) (fun _ _ _=>K4) (fun _ _ _=>(qcK (W9 (K:=K) T) hr.mo (A0m T) (A0 (qpv 0) A1))) rfl)
    (A2 (B5 (QW.pt (D9 (A7 (G5 (K:=K) rfl hr.units) (qln K T.z_len (qpv 3)) A3 (B1 _)) (D9 (A7 E7 (qix K (qpv 3) A3) B2 (B1 _)) (D9 (A7 E7 (qix K (qpv 3) A3) B2 (B1 _)) (F4 (A7 A2z (qix K (qix K (qpv 3) A3) A3) A3 (B1 _)))))))
     (A4 (A8 B2))
     B0)
    (A4 (K5 (C3 (K:=K) rfl Z1 Z2 Z3 J1 (qpv 1) (A0 (C5 (A0 (qix K (qpv 3) A3) (A0 (qix K (qpv 3) A3) A1))) A1)))))))
   (A4 (A8 (qpv 1)))))),?_⟩
 haveI:=T.c2_ARC_WORDS
 refine Pu.F2 h ?_;rintro as Qp ⟨l,rfl,hl,ha,k⟩;refine hd fun R hR=>?_;trivial;subst hR;trivial;rw [mSep,N5,A1l];refine ⟨rfl,by rw [A9]; omega,?_⟩;refine A5d (f:=fun w=>PyData.str (sO w)) (xs:=splL [44,32] l) (fun i e=>(∃ o1 o2:Option SV,e=[some (.d (.str (sO l))),some (.own (((splL [44,32] l).take i).map fun p=>oS (stL p))),o1,o2])/\((splL [44,32] l).take i).all (fun p=>(stL p).isSome)=true) ⟨⟨_,_,rfl⟩,rfl⟩ ?_ ?_
 ·rintro i p e hi ⟨⟨o1,o2,rfl⟩,hok⟩;have hm:=Zm hi;have hp:=P3 hm;have hpa:=L7 hm ha;have stop:stL p=none->Qp (.d .none):=fun h=>by
   rw [if_neg fun w=>by
    have:=List.all_eq_true.mp (show (splL [44,32] l).all (fun p=>(stL p).isSome)=true from w) p hm;rw [h] at this; cases this] at k
   exact k
  refine hd fun R hR=>?_;trivial;rw [m32,N5,A1l];have hcount:=J8 32 [] p;have hcl:p.count 32<=p.length:=List.count_le_length;refine ⟨rfl,by rw [A9]; omega,by rw [Zl]; omega,K6 (f:=fun w=>PyData.str (sO w)) (xs:=splL [32] p) (fun i e ys=>(∃ o1:Option SV,e=[o1])/\ys=((splL [32] p).take i).map fun w=>oQ (qIn w)) ⟨⟨_,rfl⟩,rfl⟩ ?_ ?_⟩
  ·rintro j w e ys hj ⟨⟨o,rfl⟩,rfl⟩;have hw:=Zm hj;have hwl:=P3 hw;trivial;refine ⟨w,rfl,by omega,L7 hw hpa,?_⟩;trivial;refine ⟨⟨_,rfl⟩,?_⟩;rw [List.take_add_one,hj,Zc]; rfl
  rintro e ys ⟨⟨o,rfl⟩,rfl⟩;rw [List.take_length];trivial;have hst:=C3q p;have hn:stW (splL [32] p)=stW (splL [32] p):=rfl;subst hR;generalize splL [32] p=ws at *;rcases ws with _ | ⟨a,_ | ⟨b,_ | ⟨c,r⟩⟩⟩
  ·trivial;exact stop hst
  ·trivial;exact stop hst
  ·have hst:stL p=stP (qIn a) (qIn b):=hst;trivial;refine ite2 (fun _=>?_) (fun z=>absurd rfl z);cases h1:qIn a with
   | none =>
    rw [h1] at hst;rw [if_pos (show isNo (oQ none)=true from rfl)];exact stop hst
   | some x =>
    cases h2:qIn b with
    | none =>
     rw [h2,U8] at hst;rw [if_neg (show ¬ isNo (oQ (some x))=true from fun z=>Bool.noConfusion z),if_pos (show isNo (oQ none)=true from rfl)];exact stop hst
    | some y =>
     rw [h1,h2] at hst;have hst:stL p=if y < 0 then none else some (x,y):=hst;rw [if_neg (show ¬ isNo (oQ (some x))=true from fun z=>Bool.noConfusion z),if_neg (show ¬ isNo (oQ (some y))=true from fun z=>Bool.noConfusion z)];unfold oQ dq;trivial;refine ite2 (fun z=>?_) (fun z=>?_)
     ·rw [if_pos (num_neg.mp z)] at hst;exact stop hst
     ·rw [if_neg (fun w=>z (num_neg.mpr w))] at hst;have ht:((splL [44,32] l).take i).length<=(splL [44,32] l).length:=by rw [List.length_take]; omega
      have hc2:=J8 44 [32] l;have hc3:l.count 44<=l.length:=List.count_le_length;have e:((splL [44,32] l).take (i + 1)).map (fun p=>oS (stL p))=((splL [44,32] l).take i).map (fun p=>oS (stL p))++[.tuple [dq x,dq y]]:=by
       rw [List.take_add_one,hi,Option.toList_some,Zc];show _++[oS (stL p)]=_;rw [hst]; rfl
      rw [e];refine ⟨by omega,⟨_,_,rfl⟩,?_⟩
      ·rw [List.take_add_one,hi,Option.toList_some,List.all_append,hok];show (true && ((stL p).isSome && true))=true;rw [hst]; rfl
  ·trivial;refine ite2 (fun z=>?_) (fun _=>stop hst);exfalso; omega
 ·rintro e ⟨⟨o1,o2,rfl⟩,hok⟩;rw [List.take_length] at hok ⊢;trivial;rw [if_pos (show okP l=true from hok)] at k;exact k
def A4r:Pu.PSp:=fun as Q=>∃ l:List Nat,as=[.d (.str (sO l))]/\l.length<=1000/\(∀ c ∈ l,c < 128)/\if okC l=true then Q (.own (vaC l)) else Q (.d .none)
theorem A42 (T:Txt K mg D):FnOk P w K mg base CX0 3 D.a_b3 D.d_b3 ["_law_text"] (Pu.spOf K [.dat] A4r):=by
 refine T.B.F_b3.ok sc_b3 (Zz rfl) (fun cdv A outer s H vs Q E hr h=>?_);refine ⟨_,(QSs.out (A2 (qst 1 sc_b3 (C2 A1))
   (A2 (N7 Zf rfl (M2 (K:=K) rfl (C3 (K:=K) rfl PySem.F.plainAttrs_str PySem.F.slot_str_split PySem.F.type_str_split K0 (qpv 0) (A0 A5 A1))) (qgn 2 sc_b3)
    (A2 (qst 3 sc_b3 (C3 (K:=K) rfl PySem.F.plainAttrs_str PySem.F.slot_str_split PySem.F.type_str_split K0 (qpv 2) (A0 A5 A1)))
    (A2 (B5 (QW.pt (D9 (A7 (G5 (K:=K) rfl hr.units) (qln K T.z_len (qpv 3)) A3 (B1 _)) (F4 (A7 (A0e (K:=K) rfl hr.units) (qix K (qpv 3) A3) (C2 (A0 A5 (A0 A5 (A0 A5 (A0 A5 A1))))) (by with_unfolding_all rfl)))))
     (A4 (A8 B2))
     B0)
    (A2 (qst 4 sc_b3 (qcK (O3 (K:=K) T) hr.mo (R3 T) (A0 (qix K (qpv 3) A3) A1)))
    (A2 (qst 5 sc_b3 (qcK (W9 (K:=K) T) hr.mo (A0m T) (A0 (qix K (qpv 3) A3) A1)))
    (A2 (B5 (QW.pt (D9 (A7 E7 (qpv 4) B2 (B1 _)) (D9 (A7 A8e (qpv 4) A3 (B1 _)) (D9 (A7 E7 (qpv 5) B2 (B1 _)) (F4 (A7 A2z (qix K (qpv 5) A3) A3 (B1 _)))))))
     (A4 (A8 B2))
     B0)
    (A4 (K5 (C3 (K:=K) rfl Z1 Z2 Z3 J1 (qpv 1) (A0 (C5 (A0 (C5 (A0 (qix K (qpv 3) A3) (A0 (qpv 4) A1))) (A0 (qpv 5) A1))) A1))))))))))
   (A4 (A8 (qpv 1)))))),?_⟩
 haveI:=T.c2_ARC_WORDS
 refine Pu.F2 h ?_;rintro as Qp ⟨l,rfl,hl,ha,k⟩;refine hd fun R hR=>?_;trivial;subst hR;trivial;rw [mSep,N5,A1l];refine ⟨rfl,by rw [A9]; omega,?_⟩;refine A5d (f:=fun w=>PyData.str (sO w)) (xs:=splL [44,32] l) (fun i e=>(∃ o1 o2 o3 o4:Option SV,e=[some (.d (.str (sO l))),some (.own (((splL [44,32] l).take i).map fun p=>oC (caW (splL [32] p)))),o1,o2,o3,o4])/\((splL [44,32] l).take i).all (fun p=>(caW (splL [32] p)).isSome)=true) ⟨⟨_,_,_,_,rfl⟩,rfl⟩ ?_ ?_
 ·rintro i p e hi ⟨⟨o1,o2,o3,o4,rfl⟩,hok⟩;have hm:=Zm hi;have hp:=P3 hm;have hpa:=L7 hm ha;have stop:caW (splL [32] p)=none->Qp (.d .none):=fun h=>by
   rw [if_neg fun w=>by
    have:=List.all_eq_true.mp (show (splL [44,32] l).all (fun p=>(caW (splL [32] p)).isSome)=true from w) p hm;rw [h] at this; cases this] at k
   exact k
  refine hd fun R hR=>?_;trivial;rw [m32,N5];refine ⟨rfl,by rw [A9]; omega,?_⟩;have hw:∀ w ∈ splL [32] p,w.length<=p.length:=fun w h=>P3 h;have hz:∀ w ∈ splL [32] p,∀ c ∈ w,c < 128:=fun w h=>L7 h hpa;have e:((splL [44,32] l).take (i + 1)).map (fun p=>oC (caW (splL [32] p)))=((splL [44,32] l).take i).map (fun p=>oC (caW (splL [32] p)))++[oC (caW (splL [32] p))]:=by
   rw [List.take_add_one,hi,Option.toList_some,Zc]; rfl
  have e2:((splL [44,32] l).take (i + 1)).all (fun p=>(caW (splL [32] p)).isSome)=(true && ((caW (splL [32] p)).isSome && true)):=by
   rw [List.take_add_one,hi,Option.toList_some,List.all_append,hok]; rfl
  subst hR;rw [e,e2];generalize splL [32] p=ws at *;rcases ws with _ | ⟨a,_ | ⟨b,_ | ⟨c,_ | ⟨d,r⟩⟩⟩⟩
  ·trivial;exact stop rfl
  ·trivial;exact stop rfl
  ·trivial;exact stop rfl
  ·have wa:=hw a (by simp);have wb:=hw b (by simp);have wc:=hw c (by simp);refine hd fun R hR=>?_;trivial;refine ite2 (fun _=>?_) (fun z=>absurd rfl z);rw [B43];refine ⟨by decide +kernel,E8 (hz a (by simp)),?_⟩;have hc:caW [a,b,c]=caP a (nIn b) (qIn c):=rfl;refine ite2 (fun y=>?_) (fun y=>?_)
   ·exact stop (by rw [hc]; unfold caP; exact if_neg (of_decide_eq_false y))
   have hm:a ∈ arcs:=by
    by_cases m:a ∈ arcs
    ·exact m
    ·exact absurd (Zd m) y
   subst hR;trivial;refine ⟨b,rfl,by omega,hz b (by simp),?_⟩;trivial;refine ⟨c,rfl,by omega,hz c (by simp),?_⟩;have hln:=C6i b;cases h1:lnI b with
   | none =>
    rw [h1] at hln;have hln:nIn b=none:=hln;rw [hln,C0l] at hc;trivial;rw [if_pos (show isNo (oI none)=true from rfl)];exact stop hc
   | some n =>
    rw [h1] at hln;have hln:nIn b=if n<=99 then some n else none:=hln;cases h2:qIn c with
    | none =>
     rw [h2,C7j] at hc;trivial;rw [if_neg (show ¬ isNo (oI (some n))=true from fun z=>Bool.noConfusion z)];unfold oI;trivial;rw [if_pos (show isNo (oQ none)=true from rfl)];exact ite2 (fun _=>stop hc) (fun _=>stop hc)
    | some q =>
     rw [h2] at hc;unfold oI oQ dq;trivial;refine ite2 (fun z=>?_) (fun z=>?_)
     ·rw [hln,if_neg (by omega),C0l] at hc;exact stop hc
     rw [hln,if_pos (by omega),B65 hm] at hc;refine ite2 (fun y=>?_) (fun y=>?_)
     ·rw [if_neg (num_pos1.mp y)] at hc;exact stop hc
     ·rw [if_pos (Decidable.not_not.mp fun w=>y (num_pos1.mpr w))] at hc;have ht:((splL [44,32] l).take i).length<=(splL [44,32] l).length:=by rw [List.length_take]; omega
      have hc2:=J8 44 [32] l;have hc3:l.count 44<=l.length:=List.count_le_length;rw [hc];exact ⟨by omega,⟨_,_,_,_,rfl⟩,rfl⟩
  ·trivial;refine ite2 (fun z=>?_) (fun _=>stop rfl);exfalso; omega
 ·rintro e ⟨⟨o1,o2,o3,o4,rfl⟩,hok⟩;rw [List.take_length] at hok ⊢;trivial;rw [if_pos (show okC l=true from hok)] at k;exact k
def A99:Pu.PSp:=fun as Q=>∃ l:List Nat,as=[.d (.str (sO l)),.st]/\l.length<=900/\∀ c a b,alnB c=true->l=a++b->Q (.d (.str (sO (a++c :: b))))
theorem A25 (T:Txt K mg D):FnOk P w K mg base CX0 2 D.a_bf D.d_bf ["_law_text","_law_state"] (Pu.spOf K [.dat,.st] A99):=by
 refine T.B.F_bf.ok sc_bf (Zz rfl) (fun cdv A outer s H vs Q E hr h=>?_);refine ⟨_,(QSs.out (A2 (qst 2 sc_bf (qcK (D8 (K:=K) T) hr.mo (G1 T) (A0 (qpv 1) (A0 (B3 J9 (qln K T.z_len (qpv 0)) A3) A1))))
   (A4 (A8 (B3 F5 (B3 F5 (C4 S2 (qpv 0) D7 (D6 (qpv 2))) (qix K A5 (qcK (D8 (K:=K) T) hr.mo (G1 T) (A0 (qpv 1) (A0 A3 A1))))) (C4 S2 (qpv 0) (D6 (qpv 2)) D7)))))),?_⟩
 haveI:=T.c2_ARC_WORDS
 refine Pu.F2 h ?_;rintro as Qp ⟨l,rfl,hl,k⟩;refine hd fun R hR=>?_;trivial;rw [A9];refine ⟨by omega,(l.length:Int) + 1,rfl,by omega,(smN (n:=l.length + 1) (by omega)),fun t t0 t1=>?_⟩;trivial;subst hR;obtain ⟨i,hi,ej⟩:∃ j:Nat,j<=l.length/\t=(j:Int):=⟨t.toNat,by omega,by omega⟩;subst ej;trivial;rw [A9];refine ⟨by omega,36,rfl,by decide,sm4 36,fun c c0 c36=>?_⟩;trivial;have d36:c < (alnL.length:Int):=by rw [show alnL.length=36 from rfl]; exact c36
 obtain ⟨x,hx,ex⟩:=B40 (P:=fun c=>alnB c=true) (fun y hy=>List.all_eq_true.mp C3d y hy) c0 d36;rw [mAln];refine ⟨by decide,x,ex,?_⟩;unfold sgn;trivial;rw [U9 hi,V0 hi,show (⟨#[x]⟩:Str)=sO [x] from rfl,C8,C8];have hlt:(l.take i).length=i:=by rw [List.length_take]; omega
 have hld:(l.drop i).length=l.length - i:=by rw [List.length_drop]
 have g:=k x _ _ hx (List.take_append_drop i l).symm;have e0:l.take i++[x]++l.drop i=l.take i++x :: l.drop i:=by simp
 rw [e0];refine ⟨by rw [A9,A9]; show _ + 1<=_; omega,by rw [A9]; omega,by rw [A9,A9,Ze]; show _ + 1 + _<=_; omega,g⟩
def A2l:Pu.PSp:=fun as Q=>∃ x:PyData,as=[.d x]/\NoP x/\Q (.d (.bool true))
theorem O4 (T:Txt K mg D):FnOk P w K mg base CX0 10 D.a_ab D.d_ab ["_law_thing"] (Pu.spOf K [.dat] A2l):=by
 refine T.B.F_ab.ok sc_ab (Zz rfl) (fun cdv A outer s H vs Q E hr h=>?_);refine ⟨_,(QSs.out (A2 (qst 1 sc_ab B2)
   (A2 (B5q (A20 (K:=K) T) hr.mo (by rfl) T.m_b7 T.B.F_b7.kp (P6 T).b (A0 (qpv 0) A1) (C1b (C:=D.k_NoText) (i:=2) (by rfl) T.c_NoText T.xm_NoText_NoText sc_ab.nd (by rfl) (by rfl) (C09 (i:=2) (j:=1) T.J_NoText.choose_spec.choose_spec (ExC.of T.xga_NoText T.xgn_NoText T.xgc_NoText T.xsb_NoText T.xso_NoText T.xhd_NoText T.xty_NoText) rfl rfl sc_ab.nd rfl rfl)))
   (A4 (A8 (qcK (G3 (K:=K) T 8) hr.mo (J3 T) (A0 (qpv 1) (A0 A3 A1)))))))),?_⟩
 haveI:=T.c2_ARC_WORDS
 refine Pu.F2 h ?_;rintro as Qp ⟨x,rfl,ox,k⟩;trivial;refine ⟨_,⟨x,rfl,ox,rfl⟩,_,rfl,True.intro,?_⟩;trivial;exact k
def A1a:Pu.PSp:=fun as Q=>∃ x:PyData,as=[.d x]/\NoC x/\Q (.d (.bool true))
theorem M5 (T:Txt K mg D):FnOk P w K mg base CX0 10 D.a_a3 D.d_a3 ["_law_thing"] (Pu.spOf K [.dat] A1a):=by
 refine T.B.F_a3.ok sc_a3 (Zz rfl) (fun cdv A outer s H vs Q E hr h=>?_);refine ⟨_,(QSs.out (A2 (qst 1 sc_a3 B2)
   (QSs.mk (B5u (C:=D.k_NoText) (i:=2) (tsu:=Pu.tsK 2 1) (trest:=fun a dx=>tRK 1 a (A1y (Pu.spOf K [.dat,.dat] (Pu.A07 8)) [] _ (G4 (tHF 1 a dx "row") (G4 (tC (.int 0)) tNil)))) (A1f (K:=K) T) hr.mo (by rfl) T.m_b0 T.B.F_b0.kp (M9 T).b (A0 (qpv 0) A1).out (by rfl) T.c_HurryError T.xm_NoText_HurryError sc_a3.nd (by rfl) (by rfl) (fun _ _ _ _=>A4 (qst 1 sc_a3 (qpv 2))) (fun _ _ he nc=>B5p (KW.t (C6r (C6s (KE.t (A68 he (ExC.of T.xga_NoText T.xgn_NoText T.xgc_NoText T.xsb_NoText T.xso_NoText T.xhd_NoText T.xty_NoText) (by rfl) T.z_isinstance (by rfl) (Or.inl (by rfl)) (B3v (by rfl) T.c_NoText) T.xi_NoText_NoText))) (C6r (KE.t (A68 he (ExC.of T.xga_NoText T.xgn_NoText T.xgc_NoText T.xsb_NoText T.xso_NoText T.xhd_NoText T.xty_NoText) (by rfl) T.z_isinstance (by rfl) (Or.inl (by rfl)) (B3v (by rfl) T.c_NoPaper) T.xi_NoText_NoPaper)) (C6q (KE.t (A68 he (ExC.of T.xga_NoText T.xgn_NoText T.xgc_NoText T.xsb_NoText T.xso_NoText T.xhd_NoText T.xty_NoText) (by rfl) T.z_isinstance (by rfl) (Or.inl (by rfl)) (B3v (by rfl) T.c_NoRow) T.xi_NoText_NoRow)))))) (A68 he (ExC.of T.xga_NoText T.xgn_NoText T.xgc_NoText T.xsb_NoText T.xso_NoText T.xhd_NoText T.xty_NoText) (by rfl) T.z_isinstance (by rfl) (Or.inl (by rfl)) (C8k (by rfl) T.z_ValueError (by rfl)) T.xi_NoText_ValueError) (qcK (G3 (K:=K) T 8) hr.mo (J3 T) (A0 (C4a T.J_NoText.choose_spec.choose_spec (ExC.of T.xga_NoText T.xgn_NoText T.xgc_NoText T.xsb_NoText T.xso_NoText T.xhd_NoText T.xty_NoText) he nc (by rfl) (Or.inl (by rfl))) (A0 A3 A1)))))))),?_⟩
 haveI:=T.c2_ARC_WORDS
 refine Pu.F2 h ?_;rintro as Qp ⟨x,rfl,ox,k⟩;trivial;exact ⟨by decide,by decide,_,⟨x,rfl,ox,rfl⟩,_,rfl,True.intro,true,rfl,k⟩
def A08:Pu.PSp:=fun as Q=>∃ ps:List (Rat × Rat),as=[.d (.list (ps.map stD))]/\ps≠[]/\ps.length<=10/\(∀ p ∈ ps,StOk p)/\Q (.d (.bool true))
theorem A1i (T:Txt K mg D):FnOk P w K mg base CX0 10 D.a_a5 D.d_a5 ["_law_plan_here"] (Pu.spOf K [.dat] A08):=by
 refine T.B.F_a5.ok sc_a5 (Zz rfl) (fun cdv A outer s H vs Q E hr h=>?_);refine ⟨_,(QSs.out (A2 (qst 1 sc_a5 (D1 (A3u (K:=K) rfl) (by rfl) T.z_list (by rfl) (A0 (qpv 0) A1)))
   (A2 (qst 2 sc_a5 (qcK (O2 (K:=K) T) hr.mo (R1 T) (A0 (qpv 0) A1)))
   (A2 (B5 (QW.pt (D9 (E6 (B8 (U5 (qcK (G3 (K:=K) T 8) hr.mo (J3 T) (A0 (qcK (A21 (K:=K) T) hr.mo (A5h T) (A0 (qpv 1) A1)) (A0 (qpv 2) A1)))))) (F4 (E6 (B8 (U5 (qcK (G3 (K:=K) T 8) hr.mo (J3 T) (A0 (qpv 1) (A0 (qpv 0) A1)))))))))
    (A4 (A8 I0))
    B0)
   (A2 (qst 3 sc_a5 (qcK (Q8 (K:=K) T) hr.mo (P6 T) (A0 (qpv 2) A1)))
   (A2 (B5 (E6 (B8 (U5 (qcK (G3 (K:=K) T 8) hr.mo (J3 T) (A0 (qpv 3) (A0 (qpv 0) A1))))))
    (A4 (A8 I0))
    B0)
   (A2 (K5 (C3 (K:=K) rfl Z1 Z2 Z3 J1 (qpv 3) (A0 (C5 (A0 (C5 (A0 A3 (A0 A3 A1))) (A0 (C5 (A0 A3 (A0 A3 A1))) A1))) A1)))
   (A4 (A8 (U5 (qcK (G3 (K:=K) T 8) hr.mo (J3 T) (A0 (qcK (Q8 (K:=K) T) hr.mo (P6 T) (A0 (qpv 2) A1)) (A0 (qpv 0) A1))))))))))))),?_⟩
 haveI:=T.c2_ARC_WORDS
 refine Pu.F2 h ?_;rintro as Qp ⟨ps,rfl,hne,hl,hs,k⟩;refine hd fun R hR=>?_;trivial;subst hR;refine hd fun R hR=>?_;trivial;refine ⟨ps,rfl,hl,hs,?_⟩;trivial;subst hR;have hok:=C51 hs hl;obtain ⟨p1,p2⟩:=C4h hne hs;have psp:=A4t hne;refine hd fun R hR=>?_;trivial;refine ⟨ps,rfl,hl,hs,?_⟩;trivial;refine ⟨_,rfl,C1o ps,?_⟩;trivial;refine ⟨true,rfl,?_⟩;trivial;refine ⟨_,rfl,hok,true,rfl,?_⟩;trivial;subst hR;refine hd fun R hR=>?_;trivial;refine ⟨plT ps,rfl,B0c hne hl hs,p1,by rw [psp,Zl]; exact hl,?_⟩;rw [p2];trivial;subst hR;refine hd fun R hR=>?_;trivial;refine ⟨_,rfl,hok,true,rfl,?_⟩;trivial;subst hR;refine hd fun R hR=>?_;trivial;refine ⟨by omega,?_⟩;subst hR;trivial;refine ⟨plT ps,rfl,B0c hne hl hs,p1,by rw [psp,Zl]; exact hl,?_⟩;rw [p2];trivial;exact ⟨_,rfl,hok,true,rfl,k⟩
def Y6:Pu.PSp:=fun as Q=>∃ ps:List (List Nat × Int × Rat),as=[.d (.list (ps.map caD))]/\ps.length<=100/\(∀ p ∈ ps,CaOk p)/\Q (.d (.bool true))
theorem K9 (T:Txt K mg D):FnOk P w K mg base CX0 10 D.a_a2 D.d_a2 ["_law_paper_here"] (Pu.spOf K [.dat] Y6):=by
 refine T.B.F_a2.ok sc_a2 (Zz rfl) (fun cdv A outer s H vs Q E hr h=>?_);refine ⟨_,(QSs.out (A2 (qst 1 sc_a2 (D1 (A3u (K:=K) rfl) (by rfl) T.z_list (by rfl) (A0 (qpv 0) A1)))
   (A2 (qst 2 sc_a2 (qcK (M4 (K:=K) T) hr.mo (O8 T) (A0 (qpv 0) A1)))
   (A2 (B5 (QW.pt (D9 (E6 (B8 (U5 (qcK (G3 (K:=K) T 8) hr.mo (J3 T) (A0 (qcK (A1g (K:=K) T) hr.mo (A36 T) (A0 (qpv 1) A1)) (A0 (qpv 2) A1)))))) (F4 (E6 (B8 (U5 (qcK (G3 (K:=K) T 8) hr.mo (J3 T) (A0 (qpv 1) (A0 (qpv 0) A1)))))))))
    (A4 (A8 I0))
    B0)
   (A2 (qst 3 sc_a2 (qcK (O1 (K:=K) T) hr.mo (M9 T) (A0 (qpv 2) A1)))
   (A2 (B5 (E6 (B8 (U5 (qcK (G3 (K:=K) T 8) hr.mo (J3 T) (A0 (qpv 3) (A0 (qpv 0) A1))))))
    (A4 (A8 I0))
    B0)
   (A2 (K5 (C3 (K:=K) rfl Z1 Z2 Z3 J1 (qpv 3) (A0 (C5 (A0 (C5 (A0 A5 (A0 A3 A1))) (A0 (C5 (A0 A3 (A0 A3 A1))) A1))) A1)))
   (A4 (A8 (U5 (qcK (G3 (K:=K) T 8) hr.mo (J3 T) (A0 (qcK (O1 (K:=K) T) hr.mo (M9 T) (A0 (qpv 2) A1)) (A0 (qpv 0) A1))))))))))))),?_⟩
 haveI:=T.c2_ARC_WORDS
 refine Pu.F2 h ?_;rintro as Qp ⟨ps,rfl,hl,hs,k⟩;refine hd fun R hR=>?_;trivial;subst hR;refine hd fun R hR=>?_;trivial;refine ⟨ps,rfl,hl,hs,?_⟩;trivial;subst hR;have hok:=C2m hs hl;have rd:ShP (paT ps)/\(paT ps=[45]\/okC (paT ps)=true/\(splL [44,32] (paT ps)).length<=100)/\(if paT ps=[45] then [] else vaC (paT ps))=ps.map caD:=by
  by_cases hne:ps=[]
  ·subst hne;exact ⟨S3 (by decide),.inl rfl,if_pos rfl⟩
  ·obtain ⟨p1,p2⟩:=C4s hne hs;refine ⟨C1x hne hl hs,.inr ⟨p1,by rw [A4v hne hs,Zl]; exact hl⟩,?_⟩;rw [if_neg (C4t hne),p2]; rfl
 refine hd fun R hR=>?_;trivial;refine ⟨ps,rfl,hl,hs,?_⟩;trivial;refine ⟨_,rfl,C1y hs,?_⟩;trivial;refine ⟨true,rfl,?_⟩;trivial;refine ⟨_,rfl,hok,true,rfl,?_⟩;trivial;subst hR;refine hd fun R hR=>?_;trivial;refine ⟨paT ps,rfl,rd.1,S6 hs,rd.2.1,?_⟩;rw [rd.2.2];trivial;subst hR;refine hd fun R hR=>?_;trivial;refine ⟨_,rfl,hok,true,rfl,?_⟩;trivial;subst hR;refine hd fun R hR=>?_;trivial;refine ⟨by omega,?_⟩;subst hR;trivial;refine ⟨paT ps,rfl,rd.1,S6 hs,rd.2.1,?_⟩;rw [rd.2.2];trivial;exact ⟨_,rfl,hok,true,rfl,k⟩
def A4p:Pu.PSp:=fun as Q=>∃ (l:List Nat) (t:Int),as=[.d (.str (sO l)),.d (.int t)]/\l.length<=900/\0<=t/\t < 1000000/\∀ c a b,strC c=true->l=a++b->Q (.d (.str (sO (a++c :: b))))
theorem A41 (T:Txt K mg D):FnOk P w K mg base CX0 1 D.a_b5 D.d_b5 ["_law_text","_law_turn"] (Pu.spOf K [.dat,.dat] A4p):=by
 refine T.B.F_b5.ok sc_b5 (Zz rfl) (fun cdv A outer s H vs Q E hr h=>?_);refine ⟨_,(QSs.out (A2 (qst 2 sc_b5 A5)
   (A2 (qst 3 sc_b5 (B3 P9 (B3 S7 (qpv 1) A3) (B3 J9 (qln K T.z_len (qpv 0)) A3)))
   (A4 (A8 (B3 F5 (B3 F5 (C4 S2 (qpv 0) D7 (D6 (qpv 3))) (qix K (qpv 2) (B3 P9 (qpv 1) A3))) (C4 S2 (qpv 0) (D6 (qpv 3)) D7))))))),?_⟩
 haveI:=T.c2_ARC_WORDS
 refine Pu.F2 h ?_;rintro as Qp ⟨l,t,rfl,hl,t0,t1,k⟩;trivial;rw [A9,mStr,Int.fdiv_eq_ediv_of_nonneg t (by decide)];obtain ⟨i,hi,ei⟩:∃ i:Nat,i<=l.length/\t / 51 % ((l.length:Int) + 1)=(i:Int):=by
  have a0:=Int.emod_nonneg (t / 51) (show (l.length:Int) + 1≠0 by omega);have a1:=Int.emod_lt_of_pos (t / 51) (show 0 < (l.length:Int) + 1 by omega);exact ⟨(t / 51 % ((l.length:Int) + 1)).toNat,by omega,by omega⟩
 rw [ei,U9 hi,V0 hi];obtain ⟨c,hc,ec⟩:∃ c,strC c=true/\L2.atI strL (t % 51)=some c:=by
  have a0:=Int.emod_nonneg t (show (51:Int)≠0 by decide);have a1:=Int.emod_lt_of_pos t (show (0:Int) < 51 by decide);obtain ⟨j,ej⟩:=Zi a0;have hj:j < strL.length:=by rw [show strL.length=51 from rfl]; omega
  refine ⟨strL[j],List.all_eq_true.mp B5f _ (List.getElem_mem hj),?_⟩;rw [ej];exact K1 (Zg hj)
 have g:=k c _ _ hc (List.take_append_drop i l).symm;have e0:sO (l.take i)++sO [c]++sO (l.drop i)=sO (l.take i++c :: l.drop i):=by rw [C8,C8]; simp
 have hlt:(l.take i).length=i:=by rw [List.length_take]; omega
 have hld:(l.drop i).length=l.length - i:=by rw [List.length_drop]
 refine ⟨⟨by decide,by unfold Sm; decide⟩,by omega,by omega,by omega,by decide,by decide,c,ec,?_⟩;unfold sgn;trivial;rw [show (⟨#[c]⟩:Str)=sO [c] from rfl,e0,C8];refine ⟨by rw [A9,A9]; show _ + 1<=_; omega,by omega,by rw [A9,A9,Ze]; show _ + 1 + _<=_; omega,g⟩
def Y7:Pu.PSp:=fun as Q=>∃ l:List Nat,as=[.d (.str (sO l))]/\l.length<=1000/\(∀ c ∈ l,c < 128)/\(splL [44,32] l).length<=10/\Q (.d (.bool true))
theorem Y8 (T:Txt K mg D):FnOk P w K mg base CX0 11 D.a_a1 D.d_a1 ["_law_text"] (Pu.spOf K [.dat] Y7):=by
 refine T.B.F_a1.ok sc_a1 (Zz rfl) (fun cdv A outer s H vs Q E hr h=>?_);refine ⟨_,(QSs.out (A2 (qst 1 sc_a1 (qcK (A8g (K:=K) T) hr.mo (B4v T) (A0 (qpv 0) A1)))
   (A2 (B5 (A7 E7 (qpv 1) B2 (B1 _))
    (A4 (A8 (qcK (O4 (K:=K) T) hr.mo (R4 T) (A0 (qpv 0) A1))))
    B0)
   (A4 (A8 (qcK (G3 (K:=K) T 8) hr.mo (J3 T) (A0 (qcK (Q8 (K:=K) T) hr.mo (P6 T) (A0 (qpv 0) A1)) (A0 (qpv 1) A1)))))))),?_⟩
 haveI:=T.c2_ARC_WORDS
 refine Pu.F2 h ?_;rintro as Qp ⟨l,rfl,hl,ha,h10,k⟩;refine hd fun R hR=>?_;trivial;refine ⟨l,rfl,hl,ha,?_⟩;by_cases ok:okP l=true
 ·rw [if_pos ok];trivial;subst hR;trivial;refine ⟨l,rfl,S3 hl,ok,h10,?_⟩;trivial;exact ⟨_,rfl,C50 ok h10,k⟩
 ·rw [if_neg ok];trivial;subst hR;trivial;exact ⟨_,rfl,⟨S3 hl,fun w=>ok w.1⟩,k⟩
def W5:Pu.PSp:=fun as Q=>∃ l:List Nat,as=[.d (.str (sO l))]/\l.length<=1000/\(∀ c ∈ l,c < 128)/\(splL [44,32] l).length<=100/\l≠[45]/\Q (.d (.bool true))
theorem X0 (T:Txt K mg D):FnOk P w K mg base CX0 11 D.a_a0 D.d_a0 ["_law_text"] (Pu.spOf K [.dat] W5):=by
 refine T.B.F_a0.ok sc_a0 (Zz rfl) (fun cdv A outer s H vs Q E hr h=>?_);refine ⟨_,(QSs.out (A2 (qst 1 sc_a0 (qcK (A42 (K:=K) T) hr.mo (A8w T) (A0 (qpv 0) A1)))
   (A2 (B5 (A7 E7 (qpv 1) B2 (B1 _))
    (A4 (A8 (qcK (M5 (K:=K) T) hr.mo (O9 T) (A0 (qpv 0) A1))))
    B0)
   (A4 (A8 (qcK (G3 (K:=K) T 8) hr.mo (J3 T) (A0 (qcK (O1 (K:=K) T) hr.mo (M9 T) (A0 (qpv 0) A1)) (A0 (qpv 1) A1)))))))),?_⟩
 haveI:=T.c2_ARC_WORDS
 refine Pu.F2 h ?_;rintro as Qp ⟨l,rfl,hl,ha,h10,hne,k⟩;refine hd fun R hR=>?_;trivial;refine ⟨l,rfl,hl,ha,?_⟩;by_cases ok:okC l=true
 ·rw [if_pos ok];trivial;subst hR;trivial;refine ⟨l,rfl,S3 hl,ha,.inr ⟨ok,h10⟩,?_⟩;rw [if_neg hne];trivial;exact ⟨_,rfl,C5z ok h10,k⟩
 ·rw [if_neg ok];trivial;subst hR;trivial;exact ⟨_,rfl,⟨S3 hl,ha,hne,fun w=>ok w.1⟩,k⟩
def B5z:Pu.PSp:=fun as Q=>∃ l:List Nat,as=[.d (.str (sO l)),.st]/\l.length<=900/\∀ c a b,strC c=true->l=a++b->Q (.d (.str (sO (a++c :: b))))
theorem A6p (T:Txt K mg D):FnOk P w K mg base CX0 2 D.a_c3 D.d_c3 ["_law_text","_law_state"] (Pu.spOf K [.dat,.st] B5z):=by
 refine T.B.F_c3.ok sc_c3 (Zz rfl) (fun cdv A outer s H vs Q E hr h=>?_);refine ⟨_,(QSs.out (A2 (qst 2 sc_c3 (qcK (D8 (K:=K) T) hr.mo (G1 T) (A0 (qpv 1) (A0 (B3 J9 (qln K T.z_len (qpv 0)) A3) A1))))
   (A2 (B5 (A7 (D5 (K:=K) rfl hr.units) (qcK (D8 (K:=K) T) hr.mo (G1 T) (A0 (qpv 1) (A0 A3 A1))) A3 (B1 _))
    (A4 (A8 (qcK (A41 (K:=K) T) hr.mo (A8v T) (A0 (qpv 0) (A0 (qcK (D8 (K:=K) T) hr.mo (G1 T) (A0 (qpv 1) (A0 (B3 W8 A3 A3) A1))) A1)))))
    B0)
   (A4 (A8 (B3 F5 (B3 F5 (C4 S2 (qpv 0) D7 (D6 (qpv 2))) (qix K A5 (qcK (D8 (K:=K) T) hr.mo (G1 T) (A0 (qpv 1) (A0 A3 A1))))) (C4 S2 (qpv 0) (D6 (qpv 2)) D7))))))),?_⟩
 haveI:=T.c2_ARC_WORDS
 refine Pu.F2 h ?_;rintro as Qp ⟨l,rfl,hl,k⟩;refine hd fun R hR=>?_;trivial;rw [A9];refine ⟨by omega,(l.length:Int) + 1,rfl,by omega,(smN (n:=l.length + 1) (by omega)),fun t t0 t1=>?_⟩;trivial;subst hR;obtain ⟨i,hi,ej⟩:∃ j:Nat,j<=l.length/\t=(j:Int):=⟨t.toNat,by omega,by omega⟩;subst ej;trivial;refine ⟨2,rfl,by decide,sm4 2,fun b b0 b2=>?_⟩;trivial;refine ite2 (fun z=>?_) (fun z=>?_)
 ·have e6:(10:Int) ^ Int.toNat 6=1000000:=by decide
  rw [e6];refine ⟨X8 6,1000000,rfl,by decide,by unfold Sm; decide,fun t t0 t1=>?_⟩;trivial;exact ⟨l,t,rfl,hl,t0,t1,k⟩
 rw [A9];refine ⟨by omega,10,rfl,by decide,sm4 10,fun c c0 c10=>?_⟩;trivial;have d10:c < (bentM.length:Int):=by rw [show bentM.length=10 from rfl]; exact c10
 obtain ⟨x,hx,ex⟩:=B40 (P:=fun c=>strC c=true) (fun y hy=>List.all_eq_true.mp B7b y hy) c0 d10;rw [C6k];refine ⟨by decide,x,ex,?_⟩;unfold sgn;trivial;rw [U9 hi,V0 hi,show (⟨#[x]⟩:Str)=sO [x] from rfl,C8,C8];have hlt:(l.take i).length=i:=by rw [List.length_take]; omega
 have hld:(l.drop i).length=l.length - i:=by rw [List.length_drop]
 have g:=k x _ _ hx (List.take_append_drop i l).symm;have e0:l.take i++[x]++l.drop i=l.take i++x :: l.drop i:=by simp
 rw [e0];refine ⟨by rw [A9,A9]; show _ + 1<=_; omega,by rw [A9]; omega,by rw [A9,A9,Ze]; show _ + 1 + _<=_; omega,g⟩
theorem C5y (T:Txt K mg D):FnOk P w K mg base CX0 12 D.a_c8 D.d_c8 ["_law_script"] (C02 K):=by
 refine FnOk.imp (sp:=Pu.spOf K [.vw] Pu.pLaw) ?_ Pu.C6p;refine T.F_c8.ok sc_c8 (Zz rfl) (fun cdv A outer s H vs Q E hr h=>?_);refine ⟨_,(QSs.out (A2 (qst 1 sc_c8 (C4 (M1 (K:=K) rfl) (qpv 0) D7 (D6 A3)))
   (A2 (B5 (A7 (D5 (K:=K) rfl hr.units) (qpv 1) (C2 A1) (B1 _))
    (A4 (qst 1 sc_c8 (C2 (A0 A3 A1))))
    B0)
   (A2 (qst 2 sc_c8 (qcK (B1y (K:=K) T) hr.mo (B7e T) (A0 (qpv 1) A1)))
   (A2 (B5 (A7 (D5 (K:=K) rfl hr.units) (qcK (D8 (K:=K) T) hr.mo (G1 T) (A0 (qcK (S8 (K:=K) T) hr.mo (V6 T) (A0 (qpv 1) (A0 A3 A1))) (A0 A3 A1))) A3 (B1 _))
    (A4 (qst 2 sc_c8 (C4 (M1 (K:=K) rfl) (B3 C2k (qpv 2) A3) D7 (D6 A3))))
    B0)
   (A2 (B5 (QW.pt (D9 (E6 (B8 (qcK (K9 (K:=K) T) hr.mo (N0 T) (A0 (qpv 2) A1)))) (D9 (E6 (B8 (qcK (K9 (K:=K) T) hr.mo (N0 T) (A0 (C4 (M1 (K:=K) rfl) (qpv 2) (D6 A3) D7) A1)))) (F4 (E6 (B8 (qcK (K9 (K:=K) T) hr.mo (N0 T) (A0 (C2 A1) A1))))))))
    (A4 (A8 I0))
    B0)
   (A2 (N7 Zf rfl (A75 rfl T.z_range (A0 A3 (A0 (qln K T.z_len (qpv 1)) (A0 A3 A1)))) (qgn 3 sc_c8)
    (A2 (qst 4 sc_c8 (qcK (B6i (K:=K) T) hr.mo (C3c T) (A0 (qpv 1) (A0 (qpv 3) A1))))
    (A2 (B5 (E6 (B8 (qcK (A1i (K:=K) T) hr.mo (A39 T) (A0 (qpv 4) A1))))
     (A4 (A8 I0))
     B0)
    (A4 (N7 Zf rfl (Z8 rfl T.z_range (A0 (qpv 3) (A0 (B3 J9 (qpv 3) (qln K T.z_len (qpv 4))) A1))) (qgn 5 sc_c8)
     (A2 (qst 6 sc_c8 (qcK (S8 (K:=K) T) hr.mo (V6 T) (A0 (A55 (K:=K) rfl (qpv 1) (B76 B7k A3)) (A0 (qpv 5) A1))))
     (A2 (B5 (E6 (B8 (qcK (O4 (K:=K) T) hr.mo (R4 T) (A0 (qcK (A43 (K:=K) T) hr.mo (A8x T) (A0 (qcK (D8 (K:=K) T) hr.mo (G1 T) (A0 (qpv 6) (A0 A3 A1))) A1)) A1))))
      (A4 (A8 I0))
      B0)
     (A2 (B5 (E6 (B8 (qcK (M5 (K:=K) T) hr.mo (O9 T) (A0 (qcK (A26 (K:=K) T) hr.mo (A5j T) (A0 (qcK (D8 (K:=K) T) hr.mo (G1 T) (A0 (qpv 6) (A0 A3 A1))) A1)) A1))))
      (A4 (A8 I0))
      B0)
     (A2 (B5 (E6 (B8 (qcK (O4 (K:=K) T) hr.mo (R4 T) (A0 (qcK (A6p (K:=K) T) hr.mo (B4x T) (A0 (qcK (O2 (K:=K) T) hr.mo (R1 T) (A0 (C4 (M1 (K:=K) rfl) (qpv 4) D7 (D6 A3)) A1)) (A0 (qpv 6) A1))) A1))))
      (A4 (A8 I0))
      B0)
     (A2 (B5 (E6 (B8 (qcK (M5 (K:=K) T) hr.mo (O9 T) (A0 (qcK (A6p (K:=K) T) hr.mo (B4x T) (A0 (qcK (M4 (K:=K) T) hr.mo (O8 T) (A0 (C4 (M1 (K:=K) rfl) (qpv 2) D7 (D6 A3)) A1)) (A0 (qpv 6) A1))) A1))))
      (A4 (A8 I0))
      B0)
     (A2 (B5 (E6 (B8 (qcK (Y8 (K:=K) T) hr.mo (A1s T) (A0 (qcK (A25 (K:=K) T) hr.mo (A7w T) (A0 (qcK (O2 (K:=K) T) hr.mo (R1 T) (A0 (C4 (M1 (K:=K) rfl) (qpv 4) D7 (D6 A3)) A1)) (A0 (qpv 6) A1))) A1))))
      (A4 (A8 I0))
      B0)
     (A4 (B5 (E6 (B8 (qcK (X0 (K:=K) T) hr.mo (Y9 T) (A0 (qcK (A25 (K:=K) T) hr.mo (A7w T) (A0 (qcK (M4 (K:=K) T) hr.mo (O8 T) (A0 (C4 (M1 (K:=K) rfl) (qpv 2) D7 (D6 A3)) A1)) (A0 (qpv 6) A1))) A1))))
      (A4 (A8 I0))
      B0)))))))))))))
   (A4 (A8 I0))))))))),?_⟩
 haveI:=T.c2_ARC_WORDS
 refine Pu.F2 h ?_;rintro as Qp ⟨ns,rfl,hns,k⟩;refine hd fun R hR=>?_;trivial;rw [C8m];subst hR;refine Q4 (fun e=>∃ ms:List Int,e=[some (.bor (ns.map .int)),some (.own (ms.map .int)),none,none,none,none,none]/\0 < ms.length/\ms.length<=63) (fun R hR=>?_) ?_
 ·trivial;refine ⟨A60 _,B62 _,ite2 (fun z=>hR _ ⟨[0],rfl,by decide,by decide⟩) (fun z=>hR _ ⟨_,rfl,?_,by rw [List.length_take]; omega⟩)⟩;cases ns with
  | nil=>exact absurd rfl z
  | cons a r=>rw [List.length_take]; show 0 < min 63 (r.length + 1); omega
 rintro e ⟨ms,rfl,m0,m1⟩;refine hd fun R hR=>?_;trivial;refine ⟨ms,rfl,m1,fun ps pl pok=>?_⟩;trivial;subst hR;refine Q4 (fun e=>∃ ps:List (List Nat × Int × Rat),e=[some (.bor (ns.map .int)),some (.own (ms.map .int)),some (.own (ps.map caD)),none,none,none,none]/\0 < ps.length/\ps.length<=100/\∀ p ∈ ps,CaOk p) (fun R hR=>?_) ?_
 ·trivial;refine ⟨ms,0,rfl,by decide,by decide,?_⟩;trivial;refine ⟨3,rfl,by decide,sm4 3,fun c c0 c3=>?_⟩;trivial;refine ite2 (fun z=>?_) (fun z=>hR _ ⟨ps,rfl,by omega,by omega,pok⟩);refine ⟨100,rfl,by decide,by decide,by omega,hR _ ⟨((List.replicate 100 ps).flatten).take 100,?_,?_,?_,?_⟩⟩
  ·rw [show Int.toNat 100=100 from rfl,C06,show (some (100:Int))=some ((100:Nat):Int) from rfl,C0k]
  ·rw [List.length_take,List.length_flatten,List.map_replicate,List.sum_replicate_nat];omega
  ·rw [List.length_take]; omega
  ·exact fun p hp=>pok p (C05 (List.mem_of_mem_take hp))
 rintro e ⟨qs,rfl,q0,q1,qok⟩;refine hd fun R hR=>?_;trivial;refine ⟨qs,rfl,q1,qok,?_⟩;trivial;rw [A3m];refine ⟨qs.drop 1,rfl,by rw [List.length_drop]; omega,fun p hp=>qok p (List.mem_of_mem_drop hp),?_⟩;trivial;refine ⟨[],rfl,by decide,(fun _ z=>nomatch z),?_⟩;trivial;subst hR;refine hd fun R hR=>?_;trivial;refine ⟨⟨⟨by decide,by decide⟩,⟨by omega,by omega⟩,by decide,by decide⟩,C22 (fun i e=>∃ o3 o4 o5 o6:Option SV,e=[some (.bor (ns.map .int)),some (.own (ms.map .int)),some (.d (.list (qs.map caD))),o3,o4,o5,o6]) ⟨_,_,_,_,rfl⟩ ?_ ?_⟩
 ·rintro i e hi ⟨o3,o4,o5,o6,rfl⟩;have hlt:i * 10 < ms.length:=C01 hi;obtain ⟨a,ea⟩:∃ a:Nat,(0 + (i:Nat) * 10:Int)=(a:Int)/\a < ms.length:=⟨i * 10,by omega,hlt⟩;rw [ea.1];have ha:=ea.2;refine hd fun R hR=>?_;trivial;refine ⟨ms,a,rfl,ha,m1,fun ps pne pl10 plm pok=>?_⟩;trivial;subst hR;refine hd fun R hR=>?_;trivial;refine ⟨ps,rfl,pne,pl10,pok,?_⟩;trivial;subst hR;have en:(((a:Nat):Int) + (ps.length:Int) - (a:Int)).toNat=ps.length:=by omega
  trivial;rw [en];have p3:∀ p ∈ ps.take 3,StOk p:=fun p h=>pok p (List.mem_of_mem_take h);have q3:∀ p ∈ qs.take 3,CaOk p:=fun p h=>qok p (List.mem_of_mem_take h);have pn3:(ps.take 3).length<=3:=by rw [List.length_take]; omega
  have qn3:(qs.take 3).length<=3:=by rw [List.length_take]; omega
  have qne:qs.take 3≠[]:=fun w=>by
   have:=congrArg List.length w;rw [List.length_take] at this;have:min 3 qs.length=0:=this;omega
  have pl:=B52 pn3 p3;have ql:=B56 qne qn3 q3;have pc:=B53 pn3;have qc:=B57 qne qn3 q3;have pas:=A2n (ps.take 3);have qas:=S6 q3;refine ⟨⟨by omega,by omega,by omega,by omega⟩,A5c (fun j e=>∃ o5 o6:Option SV,e=[some (.bor (ns.map .int)),some (.own (ms.map .int)),some (.d (.list (qs.map caD))),some (.d (.int (a:Int))),some (.d (.list (ps.map stD))),o5,o6]) ⟨_,_,rfl⟩ ?_ ?_⟩
  ·rintro j e hj ⟨o5,o6,rfl⟩;refine hd fun R hR=>?_;trivial;refine ⟨ms.reverse,(a:Int) + (j:Nat),?_,by omega,by omega,?_⟩
   ·rw [List.map_reverse]
   trivial;subst hR;refine hd fun R hR=>?_;trivial;refine ⟨28,rfl,by decide,sm4 28,fun d d0 d1=>?_⟩;trivial;refine ⟨d,rfl,d0,d1,fun x ox=>?_⟩;trivial;refine ⟨x,rfl,ox,?_⟩;trivial;subst hR;refine hd fun R hR=>?_;trivial;refine ⟨31,rfl,by decide,sm4 31,fun d d0 d1=>?_⟩;trivial;refine ⟨d,rfl,d0,d1,fun x ox=>?_⟩;trivial;refine ⟨x,rfl,ox,?_⟩;trivial;subst hR;refine hd fun R hR=>?_;trivial;rw [cut3];refine ⟨ps.take 3,rfl,by omega,p3,?_⟩;trivial;refine ⟨plT (ps.take 3),rfl,by omega,fun c x y hc hl=>?_⟩;trivial;refine ⟨_,rfl,C2q hc (by rw [<- hl]; omega),?_⟩;trivial;subst hR;refine hd fun R hR=>?_;trivial;rw [cut3];refine ⟨qs.take 3,rfl,by omega,q3,?_⟩;trivial;refine ⟨paT (qs.take 3),rfl,by omega,fun c x y hc hl=>?_⟩;trivial;refine ⟨_,rfl,B6r hc (by rw [<- hl]; omega) (by rw [<- hl]; exact qas),?_⟩;trivial;subst hR;refine hd fun R hR=>?_;trivial;rw [cut3];refine ⟨ps.take 3,rfl,by omega,p3,?_⟩;trivial;refine ⟨plT (ps.take 3),rfl,by omega,fun c x y hc hl=>?_⟩;trivial;refine ⟨_,rfl,by rw [A01 hl]; omega,A2d hc hl pas,Zx (A91 (m:=4) pc hl (A7y hc).1) (by decide),?_⟩;trivial;subst hR;trivial;rw [cut3];refine ⟨qs.take 3,rfl,by omega,q3,?_⟩;trivial;refine ⟨paT (qs.take 3),rfl,by omega,fun c x y hc hl=>?_⟩;trivial;refine ⟨_,rfl,by rw [A01 hl]; omega,A2d hc hl qas,Zx (A91 (m:=4) qc hl (A7y hc).1) (by decide),B8a (A7y hc).2,?_⟩;trivial;exact ⟨_,_,rfl⟩
  ·rintro e ⟨o5,o6,rfl⟩;trivial;exact ⟨_,_,_,_,rfl⟩
 ·rintro e ⟨o3,o4,o5,o6,rfl⟩;subst hR;trivial;exact k
end
theorem all_mk {l:PySem.W.OpenLaw} {w:World} {K:PySem.W.Frag} {h:Heap} {mg:Str->Option Value} {fa:Addr} (X:K.In h) (G:h.Ns mainGlobals mg) (hfa:mg "law"=some (.ref fa)) {a_a6 a_c0 a_a9 a_a8 a_bc a_bb a_b6 a_b1 a_a7 a_c2 a_af a_c1 a_ba a_b7 a_b0 a_bd a_c6 a_c7 a_c5 a_b8 a_aa a_c4 a_be a_ae a_a4 a_b2 a_ad a_ac a_b4 a_b9 a_b3 a_bf a_ab a_a3 a_a5 a_a2 a_b5 a_a1 a_a0 a_c3 k_NOUGHT k_ARC_WORDS k_NoText k_HurryError k_NoRow k_NoPaper:Addr} {d_a6 d_c0 d_a9 d_a8 d_bc d_bb d_b6 d_b1 d_a7 d_c2 d_af d_c1 d_ba d_b7 d_b0 d_bd d_c6 d_c7 d_c5 d_b8 d_aa d_c4 d_be d_ae d_a4 d_b2 d_ad d_ac d_b4 d_b9 d_b3 d_bf d_ab d_a3 d_a5 d_a2 d_b5 d_a1 d_a0 d_c3:FuncData} (B:TxB K a_a6 a_c0 a_a9 a_a8 a_bc a_bb a_b6 a_b1 a_a7 a_c2 a_af a_c1 a_ba a_b7 a_b0 a_bd a_c6 a_c7 a_c5 a_b8 a_aa a_c4 a_be a_ae a_a4 a_b2 a_ad a_ac a_b4 a_b9 a_b3 a_bf a_ab a_a3 a_a5 a_a2 a_b5 a_a1 a_a0 a_c3 k_NOUGHT k_ARC_WORDS k_NoText k_HurryError k_NoRow k_NoPaper d_a6 d_c0 d_a9 d_a8 d_bc d_bb d_b6 d_b1 d_a7 d_c2 d_af d_c1 d_ba d_b7 d_b0 d_bd d_c6 d_c7 d_c5 d_b8 d_aa d_c4 d_be d_ae d_a4 d_b2 d_ad d_ac d_b4 d_b9 d_b3 d_bf d_ab d_a3 d_a5 d_a2 d_b5 d_a1 d_a0 d_c3)
  {od_law an_law:Option Addr} {sl_law:Array (Option Value)} {oc_law kV_law dc_law pm_law cd_law ct_law:Value} {a_c8:Addr}
  {od_NOUGHT:Option Addr} {its_NOUGHT:Array Value} {n_NOUGHT:Nat} {sl_NOUGHT:Array (Option Value)} {t0_NOUGHT t1_NOUGHT:Tok}
  {od_ARC_WORDS:Option Addr} {its_ARC_WORDS:Array Value} {n_ARC_WORDS:Nat} {sl_ARC_WORDS:Array (Option Value)} {t0_ARC_WORDS t1_ARC_WORDS t2_ARC_WORDS t3_ARC_WORDS:Tok}
  {t_MOST_FIGURES:Tok}
  {t_CHUNK:Tok}
  {t_CHUNK_FIGURES:Tok}
  {t_MOST_STEPS:Tok}
  {t_MOST_ARCS:Tok}
  {t_MOST_NUMBER:Tok}
  {t_FIGURES:Tok}
  {osy:Obj}
  (g_c8:PySem.W.nsIn K mainGlobals "law"=some (some (.ref a_c8)))
  (l_law:K.lookup a_c8=some ⟨oc_law,od_law,.func (PySem.W.fnOf "law" "law" (J2 s_c8) (G0 s_c8) (A6 s_c8) .none kV_law dc_law pm_law an_law cd_law ct_law),sl_law⟩)
  (c_law:PySem.W.codeIn K cd_law "law"=true)
  (k_law:PySem.W.keepIn K (.ref a_c8)=true)
  (lq_NOUGHT:K.lookup k_NOUGHT=some ⟨.type "tuple",od_NOUGHT,.seq its_NOUGHT n_NOUGHT,sl_NOUGHT⟩)
  (vq_NOUGHT:its_NOUGHT=#[Value.int 0 t0_NOUGHT,Value.int 1 t1_NOUGHT])
  (lq_ARC_WORDS:K.lookup k_ARC_WORDS=some ⟨.type "tuple",od_ARC_WORDS,.seq its_ARC_WORDS n_ARC_WORDS,sl_ARC_WORDS⟩)
  (vq_ARC_WORDS:its_ARC_WORDS=#[Value.str "start" t0_ARC_WORDS,Value.str "end" t1_ARC_WORDS,Value.str "wait" t2_ARC_WORDS,Value.str "hold" t3_ARC_WORDS])
  (gi_MOST_FIGURES:PySem.W.nsIn K mainGlobals "MOST_FIGURES"=some (some (.int 60 t_MOST_FIGURES)))
  (gi_CHUNK:PySem.W.nsIn K mainGlobals "CHUNK"=some (some (.int 1000000000000000000 t_CHUNK)))
  (gi_CHUNK_FIGURES:PySem.W.nsIn K mainGlobals "CHUNK_FIGURES"=some (some (.int 18 t_CHUNK_FIGURES)))
  (gi_MOST_STEPS:PySem.W.nsIn K mainGlobals "MOST_STEPS"=some (some (.int 10 t_MOST_STEPS)))
  (gi_MOST_ARCS:PySem.W.nsIn K mainGlobals "MOST_ARCS"=some (some (.int 100 t_MOST_ARCS)))
  (gi_MOST_NUMBER:PySem.W.nsIn K mainGlobals "MOST_NUMBER"=some (some (.int 99 t_MOST_NUMBER)))
  (gs_FIGURES:PySem.W.nsIn K mainGlobals "FIGURES"=some (some (.str "0123456789" t_FIGURES)))
  (J_NoText:∃ fI fd,InitX K k_NoText fI "row" "row" "NoText.__init__" s_NoTextinit fd ["self","row"])
  (xm_NoText_NoText:PySem.W.exmOne K (.ref k_NoText) (.ref k_NoText)=some true)
  (xga_NoText:PySem.W.findIn K (.ref k_NoText) "__getattribute__"=some (some (.builtin "BaseException.__getattribute__")))
  (xgn_NoText:PySem.W.findIn K (.ref k_NoText) "__getattr__"=some none)
  (xgc_NoText:PySem.W.findIn K (.ref k_NoText) "__class__"=some (some (.builtin "object.__class__")))
  (xsb_NoText:PySem.W.subIn K (.ref k_NoText) (.type "BaseException")=some true)
  (xso_NoText:PySem.W.subIn K (.ref k_NoText) (.type "object")=some true)
  (xhd_NoText:PySem.W.hasDictIn K k_NoText=true)
  (xty_NoText:(K.lookup k_NoText).map (·.cls)=some (.type "type"))
  (xm_NoText_HurryError:PySem.W.exmOne K (.ref k_NoText) (.ref k_HurryError)=some true)
  (xi_NoText_NoRow:PySem.W.kitOne K (.ref k_NoText) (.ref k_NoRow)=some false)
  (xi_NoText_NoPaper:PySem.W.kitOne K (.ref k_NoText) (.ref k_NoPaper)=some false)
  (xi_NoText_NoText:PySem.W.kitOne K (.ref k_NoText) (.ref k_NoText)=some true)
  (xi_NoText_ValueError:PySem.W.kitOne K (.ref k_NoText) (.type "ValueError")=some true)
  (lsy:K.lookup sysModules=some osy)
  (lsz:osy.cls≠.type "list")
  : ∃ fd:FuncData,(∀ (s:Shared) (v:Value),BindsTo s fd ⟨[v],[]⟩ [("_law_script",v)])/\∀ base:Heap,K.In base->base.Ns mainGlobals mg->FnOk l.prog w K mg base CX0 12 fa fd ["_law_script"] (sp_law K):=by
 have e:=hfa.symm.trans (Zq X G g_c8);cases e;have T:Txt K mg ⟨a_a6,d_a6,a_c0,d_c0,a_a9,d_a9,a_a8,d_a8,a_bc,d_bc,a_bb,d_bb,a_b6,d_b6,a_b1,d_b1,a_a7,d_a7,a_c2,d_c2,a_af,d_af,a_c1,d_c1,a_ba,d_ba,a_b7,d_b7,a_b0,d_b0,a_bd,d_bd,a_c6,d_c6,a_c7,d_c7,a_c5,d_c5,a_b8,d_b8,a_aa,d_aa,a_c4,d_c4,a_be,d_be,a_ae,d_ae,a_a4,d_a4,a_b2,d_b2,a_ad,d_ad,a_ac,d_ac,a_b4,d_b4,a_b9,d_b9,a_b3,d_b3,a_bf,d_bf,a_ab,d_ab,a_a3,d_a3,a_a5,d_a5,a_a2,d_a2,a_b5,d_b5,a_a1,d_a1,a_a0,d_a0,a_c3,d_c3,fa,PySem.W.fnOf "law" "law" (J2 s_c8) (G0 s_c8) (A6 s_c8) .none kV_law dc_law pm_law an_law cd_law ct_law,k_NOUGHT,k_ARC_WORDS,k_NoText,k_HurryError,k_NoRow,k_NoPaper⟩:=⟨B,Zq X G B.g_a6,Zq X G B.g_c0,Zq X G B.g_a9,Zq X G B.g_a8,Zq X G B.g_bc,Zq X G B.g_bb,Zq X G B.g_b6,Zq X G B.g_b1,Zq X G B.g_a7,Zq X G B.g_c2,Zq X G B.g_af,Zq X G B.g_c1,Zq X G B.g_ba,Zq X G B.g_b7,Zq X G B.g_b0,Zq X G B.g_bd,Zq X G B.g_c6,Zq X G B.g_c7,Zq X G B.g_c5,Zq X G B.g_b8,Zq X G B.g_aa,Zq X G B.g_c4,Zq X G B.g_be,Zq X G B.g_ae,Zq X G B.g_a4,Zq X G B.g_b2,Zq X G B.g_ad,Zq X G B.g_ac,Zq X G B.g_b4,Zq X G B.g_b9,Zq X G B.g_b3,Zq X G B.g_bf,Zq X G B.g_ab,Zq X G B.g_a3,Zq X G B.g_a5,Zq X G B.g_a2,Zq X G B.g_b5,Zq X G B.g_a1,Zq X G B.g_a0,Zq X G B.g_c3,B34 (st:=s_c8) l_law c_law k_law,Zq X G g_c8,Zq X G B.gc_NOUGHT,Zq X G B.gc_ARC_WORDS,Zq X G B.gc_NoText,Zq X G B.gc_HurryError,Zq X G B.gc_NoRow,Zq X G B.gc_NoPaper,PySem.W.mg_none_of X G B.z_ValueError,PySem.W.mg_none_of X G B.z_abs,PySem.W.mg_none_of X G B.z_all,PySem.W.mg_none_of X G B.z_bool,PySem.W.mg_none_of X G B.z_divmod,PySem.W.mg_none_of X G B.z_int,PySem.W.mg_none_of X G B.z_isinstance,PySem.W.mg_none_of X G B.z_len,PySem.W.mg_none_of X G B.z_list,PySem.W.mg_none_of X G B.z_min,PySem.W.mg_none_of X G B.z_range,PySem.W.mg_none_of X G B.z_str,PySem.W.mg_none_of X G B.z_tuple,PySem.W.mg_none_of X G B.z_zip,⟨fun H=>.tup ⟨.inr ⟨_,its_NOUGHT,n_NOUGHT,lq_NOUGHT,rfl,rfl,by rw [vq_NOUGHT]; show 2<=sizeLine; decide,by rw [vq_NOUGHT]; exact .cons ⟨_,rfl⟩ (.cons ⟨_,rfl⟩ .nil)⟩,.inr L2.C6f⟩ (.cons (.int _) (.cons (.int _) .nil))⟩,⟨fun H=>.tup ⟨.inr ⟨_,its_ARC_WORDS,n_ARC_WORDS,lq_ARC_WORDS,rfl,rfl,by rw [vq_ARC_WORDS]; show 4<=sizeLine; decide,by rw [vq_ARC_WORDS]; exact .cons ⟨_,rfl⟩ (.cons ⟨_,rfl⟩ (.cons ⟨_,rfl⟩ (.cons ⟨_,rfl⟩ .nil)))⟩,.inr L2.nsi3⟩ (.cons (.str _) (.cons (.str _) (.cons (.str _) (.cons (.str _) .nil))))⟩,⟨_,Zq X G gi_MOST_FIGURES⟩,⟨_,Zq X G gi_CHUNK⟩,⟨_,Zq X G gi_CHUNK_FIGURES⟩,⟨_,Zq X G gi_MOST_STEPS⟩,⟨_,Zq X G gi_MOST_ARCS⟩,⟨_,Zq X G gi_MOST_NUMBER⟩,⟨_,Zq X G gs_FIGURES⟩,J_NoText,xm_NoText_NoText,xga_NoText,xgn_NoText,xgc_NoText,xsb_NoText,xso_NoText,xhd_NoText,xty_NoText,xm_NoText_HurryError,xi_NoText_NoRow,xi_NoText_NoPaper,xi_NoText_NoText,xi_NoText_ValueError,⟨_,lsy,lsz⟩⟩;exact ⟨_,fun s v=>.of_eq rfl,fun base _ _=>C5y T⟩
theorem walk {l:PySem.W.OpenLaw} {q:Program} {loose:List Str} {XP:(Str->Option Value)->Heap->Prop} {YP:World->Heap->Prop} {d:DefRec} {K:Params->PySem.W.Frag} (hn:l.most=some 63) (hdf:d.params.defaults=[])
  (hY:∀ (w:World) (h:Heap),YP w h->(K w.params).In h)
  (F:∀ (w:World) (mg:Str->Option Value) (fa:Addr) (h:Heap),(K w.params).In h->h.Ns mainGlobals mg->mg d.name=some (.ref fa) ->
   ∃ fd:FuncData,(∀ (s:Shared) (u:Value),BindsTo s fd ⟨[u],[]⟩ [("_law_script",u)])/\∀ base:Heap,(K w.params).In base->base.Ns mainGlobals mg->FnOk l.prog w (K w.params) mg base CX0 12 fa fd ["_law_script"] (sp_law (K w.params))) :
  PySem.W.WalkO q loose XP YP l.row.toRowW d [] (fun f vs=>PySem.call f vs) :=
 L2.C0p (n:=63) (k:=12) (x:="_law_script") (CX:=fun _=>CX0) (sp:=fun w=>sp_law (K w.params)) hn (by decide) hdf ⟨rfl,rfl,by decide,by decide⟩ hY F (fun _ _ a ns hl _ hS=>⟨a,ns,rfl,hS,hl,fun _=>rfl⟩) fun _ _ _ _ _ z=>z
end Prf
open PySem PySem.W PyProof.Rows
set_option maxRecDepth 100000 in
set_option maxHeartbeats 0 in
theorem PySem.Challenge.cw_hurryprice_k81_plans_and_papers_written_holds : PySem.Challenge.rw_hurryprice_k81_plans_and_papers_written.Holds := by
 refine holds_law Prf.said fun ws=>?_;refine holds_open (q:=Prf.qq) (loose:=[]) (Xt:=Prf.xt) (XP:=XL Prf.qq []) (Yf:=Prf.hh.obs)
  (Ya:=Prf.hh.val) (YP:=Prf.hh.says) (N:=4694) Prf.left Prf.hh.of Prf.hh.keeps
  (fun s e=>xl_of s (Bool.and_eq_true_iff.mp e).1) XL.keeps
  (by rfl) (by rfl) (by rfl) (fun s e=>recFacts_of (Bool.and_eq_true_iff.mp e).2)
  (by rfl) ws (by decide +kernel)
  ⟨rfl,rfl,rfl,rfl,rfl,by decide +kernel⟩ ?hw ?hc
 case hw=>w_witness2
 refine Prf.walk (l:=PySem.Challenge.rw_hurryprice_k81_plans_and_papers_written) (K:=Prf.kk) rfl rfl (fun w h Y=>PySem.W.kIn_of Y) ?F;case F =>
  intro w mg fa h KX G hmg
  k_fill
  refine' Prf.all_mk KX G hmg ⟨?g_a6,?F_a6,?g_c0,?F_c0,?g_a9,?F_a9,?g_a8,?F_a8,?g_bc,?F_bc,?g_bb,?F_bb,?g_b6,?F_b6,?g_b1,?F_b1,?g_a7,?F_a7,?g_c2,?F_c2,?g_af,?F_af,?g_c1,?F_c1,?g_ba,?F_ba,?g_b7,?F_b7,?g_b0,?F_b0,?g_bd,?F_bd,?g_c6,?F_c6,?g_c7,?F_c7,?g_c5,?F_c5,?g_b8,?F_b8,?g_aa,?F_aa,?g_c4,?F_c4,?g_be,?F_be,?g_ae,?F_ae,?g_a4,?F_a4,?g_b2,?F_b2,?g_ad,?F_ad,?g_ac,?F_ac,?g_b4,?F_b4,?g_b9,?F_b9,?g_b3,?F_b3,?g_bf,?F_bf,?g_ab,?F_ab,?g_a3,?F_a3,?g_a5,?F_a5,?g_a2,?F_a2,?g_b5,?F_b5,?g_a1,?F_a1,?g_a0,?F_a0,?g_c3,?F_c3,?gc_NOUGHT,?gc_ARC_WORDS,?gc_NoText,?gc_HurryError,?gc_NoRow,?gc_NoPaper,?z_ValueError,?z_abs,?z_all,?z_bool,?z_divmod,?z_int,?z_isinstance,?z_len,?z_list,?z_min,?z_range,?z_str,?z_tuple,?z_zip⟩ ?g_c8 ?l_law ?c_law ?k_law ?lq_NOUGHT ?vq_NOUGHT ?lq_ARC_WORDS ?vq_ARC_WORDS ?gi_MOST_FIGURES ?gi_CHUNK ?gi_CHUNK_FIGURES ?gi_MOST_STEPS ?gi_MOST_ARCS ?gi_MOST_NUMBER ?gs_FIGURES ?J_NoText ?xm_NoText_NoText ?xga_NoText ?xgn_NoText ?xgc_NoText ?xsb_NoText ?xso_NoText ?xhd_NoText ?xty_NoText ?xm_NoText_HurryError ?xi_NoText_NoRow ?xi_NoText_NoPaper ?xi_NoText_NoText ?xi_NoText_ValueError ?lsy ?lsz
  (case g_a6 | F_a6 | g_c0 | F_c0 | g_a9 | F_a9 | g_a8 | F_a8 | g_bc | F_bc | g_bb | F_bb | g_b6 | F_b6 | g_b1 | F_b1 | g_a7 | F_a7 | g_c2 | F_c2 | g_af | F_af | g_c1 | F_c1 | g_ba | F_ba | g_b7 | F_b7 | g_b0 | F_b0 | g_bd | F_bd | g_c6 | F_c6 | g_c7 | F_c7 | g_c5 | F_c5 | g_b8 | F_b8 | g_aa | F_aa | g_c4 | F_c4 | g_be | F_be | g_ae | F_ae | g_a4 | F_a4 | g_b2 | F_b2 | g_ad | F_ad | g_ac | F_ac | g_b4 | F_b4 | g_b9 | F_b9 | g_b3 | F_b3 | g_bf | F_bf | g_ab | F_ab | g_a3 | F_a3 | g_a5 | F_a5 | g_a2 | F_a2 | g_b5 | F_b5 | g_a1 | F_a1 | g_a0 | F_a0 | g_c3 | F_c3=>first | (apply L2.B34 <;> k_is) | k_is)
  (case gc_NOUGHT=>k_is)
  (case gc_ARC_WORDS=>k_is)
  (case gc_NoText=>k_is)
  (case gc_HurryError=>k_is)
  (case gc_NoRow=>k_is)
  (case gc_NoPaper=>k_is)
  (case z_ValueError=>k_is)
  (case z_abs=>k_is)
  (case z_all=>k_is)
  (case z_bool=>k_is)
  (case z_divmod=>k_is)
  (case z_int=>k_is)
  (case z_isinstance=>k_is)
  (case z_len=>k_is)
  (case z_list=>k_is)
  (case z_min=>k_is)
  (case z_range=>k_is)
  (case z_str=>k_is)
  (case z_tuple=>k_is)
  (case z_zip=>k_is)
  (case g_c8=>k_is)
  (case l_law=>k_is)
  (case c_law=>k_is)
  (case k_law=>k_is)
  (case lq_NOUGHT=>k_is)
  (case vq_NOUGHT=>exact rfl)
  (case lq_ARC_WORDS=>k_is)
  (case vq_ARC_WORDS=>exact rfl)
  (case gi_MOST_FIGURES=>k_is)
  (case gi_CHUNK=>k_is)
  (case gi_CHUNK_FIGURES=>k_is)
  (case gi_MOST_STEPS=>k_is)
  (case gi_MOST_ARCS=>k_is)
  (case gi_MOST_NUMBER=>k_is)
  (case gs_FIGURES=>k_is)
  (case J_NoText=>exact Exists.intro (nat_lit 60) (Exists.intro _ (L2.B6z (by apply L2.B34 <;> k_is) Prf.sc_NoTextinit (by exact rfl) (by with_unfolding_all exact rfl) (by k_is) (by k_is) ⟨_,_,_,_,rfl,fun _=>rfl⟩ (bd:=fun _ _ _ _ _ _ us hl=>by obtain ⟨_,_,rfl⟩:=L2.us2 hl; rfl))))
  (case xm_NoText_NoText=>exact rfl)
  (case xga_NoText=>k_is)
  (case xgn_NoText=>k_is)
  (case xgc_NoText=>k_is)
  (case xsb_NoText=>k_is)
  (case xso_NoText=>k_is)
  (case xhd_NoText=>k_is)
  (case xty_NoText=>exact rfl)
  (case xm_NoText_HurryError=>exact rfl)
  (case xi_NoText_NoRow=>exact rfl)
  (case xi_NoText_NoPaper=>exact rfl)
  (case xi_NoText_NoText=>exact rfl)
  (case xi_NoText_ValueError=>exact rfl)
  (case lsy=>k_is)
  (case lsz=>exact (fun z=>absurd (Value.type.inj z) (by decide)))