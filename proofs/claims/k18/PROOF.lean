
import PyProof.Rows.All
import Wide.All
import OpenK.AllK
import Wide.FinOn
import Lean
import PyProof.EqAt
import PyProof.EqKinds
import PyProof.TupleCall
import PySem.Challenge.RW_hurryprice_k18_amounts_of_works
set_option Elab.async false
set_option linter.all false
set_option maxRecDepth 100000
set_option maxHeartbeats 4000000
set_option compiler.extract_closed false
local macro_rules|`(tactic|ext)=>`(tactic|decide +kernel)
def Zm {α:Type u} {l:List α} {i:Nat} {a:α} (h:l[i]?=some a):a ∈ l:=List.mem_of_getElem? h
def Zg {α:Type u} {l:List α} {i:Nat} (h:i < l.length):l[i]?=some l[i]:=List.getElem?_eq_getElem h
def Zs {α:Type u} {l:List α} {i:Nat} {a:α} (h:l[i]?=some a):∃ h:i < l.length,l[i]=a:=List.getElem?_eq_some_iff.mp h
def Za {α:Type u} {a:α} {s t:List α} (h:a ∈ s++t):a ∈ s\/a ∈ t:=List.mem_append.mp h
def Zi {a:Int} (h:0<=a):∃ n:Nat,a=(n:Int):=Int.eq_ofNat_of_zero_le h
def Zo {α:Type u} {β:Type v} {f:α->β} {x:Option α} {b:β} (h:x.map f=some b):∃ a,x=some a/\f a=b:=Option.map_eq_some_iff.mp h
theorem Zn {α:Type u} {a b:α} (h:a ∈ [b]):a=b:=List.mem_singleton.mp h
def Zr {α:Type u} {a:α} {l:List α} (y:α) (h:a ∈ l):a ∈ y :: l:=List.mem_cons_of_mem y h
def Zu {m n:Nat} (k:Nat) (h:m<=n):m * k<=n * k:=Nat.mul_le_mul_right k h
def Zt {α:Type u} {a:α} {as:List α} (bs:List α) (h:a ∈ as):a ∈ as++bs:=List.mem_append_left bs h
def Zw {α:Type u} {b:α} (as:List α) {bs:List α} (h:b ∈ bs):b ∈ as++bs:=List.mem_append_right as h
def Zj {α:Type u} {a b:α} (h:some a=some b):a=b:=Option.some.inj h
def Zp {n m k:Nat} (h:n > 0) (g:m<=k):n ^ m<=n ^ k:=Nat.pow_le_pow_right h g
def Zv (n:Nat):n<=n:=Nat.le_refl n
def Zx {n m k:Nat} (a:n<=m) (b:m<=k):n<=k:=Nat.le_trans a b
def Zy {α:Type u} {a:α} {l:List α}:a ∈ a :: l:=List.mem_cons_self
def Zd {p:Prop} [Decidable p] (h:¬p):decide p=false:=decide_eq_false h
theorem Zk {p:Prop} [Decidable p] (h:p):decide p=true:=decide_eq_true h
def Zq:=@PySem.W.mg_of
def Z1:=@PySem.F.plainAttrs_list
def Z2:=@PySem.F.slot_list_append
def Z3:=@PySem.F.type_list_append
def Zl {α:Type u} {β:Type v} {as:List α} {f:α->β}:(as.map f).length=as.length:=List.length_map f
theorem Zh {α:Type u} {β:Type v} {f:α->β} {l:List α} {i:Nat}:(l.map f)[i]?=l[i]?.map f:=List.getElem?_map ..
def Zc {α:Type u} {β:Type v} {f:α->β} {l k:List α}:(l++k).map f=l.map f++k.map f:=List.map_append ..
theorem Ze {α:Type u} {as bs:List α}:(as++bs).length=as.length + bs.length:=List.length_append ..
abbrev LW:=List (Int × Int × Rat)
abbrev LH:=List (PySem.Str × Int × Rat)
abbrev LR:=List (Rat × Rat)
abbrev LP:=List PySem.PyData
abbrev LQ:=List Rat
namespace L2
open PySem PySem.Spec PyProof.Rows
def J2 (s:Stmt):Arguments:=match s with
 | .FunctionDef _ a _ _ _ _ _ _ _ _=>a
 | _=>{ posonlyargs:=[],args:=[],vararg:=none,kwonlyargs:=[],kw_defaults:=[],kwarg:=none,defaults:=[] }
def F6 (s:Stmt):List Stmt:=match s with
 | .FunctionDef _ _ b _ _ _ _ _ _ _=>b
 | _=>[]
def A7 (s:Stmt):Scope:=match s with
 | .FunctionDef _ _ _ _ _ _ sc _ _ _=>sc
 | _=>{ kind:=.function,names:=[],isGenerator:=false,isCoroutine:=false }
def C11:Stmt->Nat->Stmt
 | .ClassDef _ _ _ body _ _ _ _ _ _ _,n=>body.getD n (.Pass ⟨0,0,0,0⟩)
 | s,_=>s
open PySem.W
def T1 (tb:String->Option Builtin) (p:Program) (w:World) (m:Nat) (ann:Option Value):Nat->SharedT->Thread->Option SharedT
 | 0,_,_=>none
 | n + 1,s,t=>match through t with
  | true=>some s
  | false=>match stepOk m ann t with
   | false=>none
   | true=>match stepT (denote tb) p w s t with
    | some x=>T1 tb p w m ann n x.1 x.2
    | none=>none
def Y6 {tb:String->Option Builtin} {p:Program} {w:World} {m:Nat} {ann:Option Value}:∀ (n:Nat) (s r:SharedT) (t:Thread),T1 tb p w m ann n s t=some r->topRun tb p w m ann n s.abs t=some r.abs
 | 0,_,_,_,h=>by cases h
 | n + 1,s,r,t,h=>by
  unfold T1 at h;unfold topRun;cases a:through t with
  | true=>rw [a] at h; cases h; rfl
  | false =>
   rw [a] at h;cases b:stepOk m ann t with
   | false=>rw [b] at h; cases h
   | true =>
    rw [b] at h;cases c:stepT (denote tb) p w s t with
    | none=>rw [c] at h; cases h
    | some x =>
     rw [c] at h;rw [stepT_spec (s':=x.1) (t':=x.2) c];exact Y6 n x.1 r x.2 h
def mkT (os:List Obj):Nat->Nat->Nat->BT
 | 0,_,_=>.nil
 | k + 1,a,b=>match os[b]? with
  | some o=>.node o (mkT os k (2 * a) (a + b)) (mkT os k (2 * a) (2 * a + b))
  | none=>.nil
noncomputable def A5v (w:World) (os:OsState):Shared:=⟨boot_heap w.params,Array.mk [],boot_drawn,boot_toks,os⟩
noncomputable def B1l (w:World) (os:OsState):SharedT:=⟨mkT (boot_heap w.params).objs.toList 12 1 0,(boot_heap w.params).objs.size,(boot_heap w.params).life,Array.mk [],boot_drawn,boot_toks,os⟩
def B1k (w:World) (os:OsState):(B1l w os).abs=A5v w os:=by kernel_rfl
def B69 (w:World) (os:OsState):((A5v w os).heap.isNs mainGlobals && (A5v w os).gens.size == 0)=true:=by kernel_rfl
def C20 {p q:Program} {loose:List Str} {Xt:Shared->Bool} {α:Type} {Yf:Shared->α} {Ya:World->α} {N:Nat} (ho:opening p=plainProg p.main.scope.names) (hN:Nat.ble 600 N=true) (hf:∀ s,fenceModules? p s=some s)
  (run:∀ (w:World) (os:OsState),(T1 treeTable p w (boot_heap w.params).objs.size ((boot_heap w.params).nsMap mainGlobals "__annotations__") N (B1l w os) (topStub p)).map
   (fun x=>(staticsOk (importedModules p.main.body) (boot_heap w.params) x.abs.heap && namesBound p x.abs.heap && gensDone x.abs && laidKept (boot_heap w.params) x.abs.heap,openSeen q loose (importedModules p.main.body) Xt true x.abs,Yf x.abs))=some (true,openGood q loose,Ya w)) :
  LeftO p q loose Xt Yf Ya N:=fun w=>by
 obtain ⟨⟨h,gs,d,k,os⟩,e,z⟩:=Zo (boot_open ho hN hf w);obtain ⟨rfl,rfl,rfl,rfl⟩:h=boot_heap w.params/\gs=Array.mk []/\d=boot_drawn/\k=boot_toks:=by simpa using z
 obtain ⟨x,r,v⟩:=Zo (run w os);have r:=Y6 _ _ _ _ r;rw [B1k] at r;obtain ⟨v1,v2⟩:=Prod.mk.inj v;obtain ⟨v2,v3⟩:=Prod.mk.inj v2;show ((fencedOpening treeTable p w N).bind (topFrom treeTable p w N)).map _=_;rw [e];show (topFrom treeTable p w N (A5v w os)).map _=_;have t:topFrom treeTable p w N (A5v w os)=some x.abs:=by
  unfold topFrom;rw [B69];show (topRun treeTable p w (boot_heap w.params).objs.size ((boot_heap w.params).nsMap mainGlobals "__annotations__") N (A5v w os) (topStub p)).bind _=_;rw [r];show (match staticsOk (importedModules p.main.body) (boot_heap w.params) x.abs.heap && namesBound p x.abs.heap && gensDone x.abs && laidKept (boot_heap w.params) x.abs.heap with | true=>some x.abs | false=>none)=_;rw [v1]
 rw [t];show some (openSeen q loose (importedModules p.main.body) Xt true x.abs,Yf x.abs)=_;rw [v2,v3]
noncomputable abbrev ranT (p:Program) (N:Nat) (w:World) (os:OsState):Option SharedT:=T1 treeTable p w (boot_heap w.params).objs.size ((boot_heap w.params).nsMap mainGlobals "__annotations__") N (B1l w os) (topStub p)
def C0u {p q:Program} {loose:List Str} {Xt:Shared->Bool} {α:Type} {Yf:Shared->α} {Ya:World->α} {N:Nat} (ho:opening p=plainProg p.main.scope.names) (hN:Nat.ble 600 N=true) (hf:∀ s,fenceModules? p s=some s)
  (a:∀ (w:World) (os:OsState),(ranT p N w os).map (fun x=>staticsOk (importedModules p.main.body) (boot_heap w.params) x.abs.heap && namesBound p x.abs.heap && gensDone x.abs && laidKept (boot_heap w.params) x.abs.heap)=some true)
  (b:∀ (w:World) (os:OsState),(ranT p N w os).map (fun x=>openSeen q loose (importedModules p.main.body) Xt true x.abs)=some (openGood q loose))
  (c:∀ (w:World) (os:OsState),(ranT p N w os).map (fun x=>Yf x.abs)=some (Ya w)):LeftO p q loose Xt Yf Ya N :=
 C20 ho hN hf fun w os=>by
  obtain ⟨x,r,e⟩:=Zo (a w os);have r':T1 treeTable p w (boot_heap w.params).objs.size ((boot_heap w.params).nsMap mainGlobals "__annotations__") N (B1l w os) (topStub p)=some x:=r;have f:openSeen q loose (importedModules p.main.body) Xt true x.abs=openGood q loose:=by have z:=b w os; rw [r] at z; exact Zj z
  have g:Yf x.abs=Ya w:=by have z:=c w os; rw [r] at z; exact Zj z
  rw [r'];show some (_,_,_)=_;rw [e,f,g]
def C0t {p q:Program} {loose:List Str} {Xt:Shared->Bool} {α:Type} {Yf:Shared->α} {Ya:World->α} {N:Nat} (ho:opening p=plainProg p.main.scope.names) (hN:Nat.ble 600 N=true) (hf:∀ s,fenceModules? p s=some s)
  (a:∀ (w:World) (os:OsState),(ranT p N w os).map (fun x=>staticsOk (importedModules p.main.body) (boot_heap w.params) x.abs.heap && namesBound p x.abs.heap && gensDone x.abs && laidKept (boot_heap w.params) x.abs.heap)=some true)
  (b:∀ (w:World) (os:OsState),(ranT p N w os).map (fun x=>seen ((recsOf q).map (·.name)) (ownsOf q) [] { heap:=x.abs.heap,drawn:=x.abs.drawn,toks:=x.abs.toks,os:=x.abs.os })=some (expectedOf q))
  (b1:∀ (w:World) (os:OsState),(ranT p N w os).map (fun x=>x.abs.heap.bltView)=some bltViewBooted)
  (k1:∀ (w:World) (os:OsState),(ranT p N w os).map (fun x=>x.abs.heap.keysOk (looseW q loose) ((recsOf q).map (·.name)) ((litsOf q).map (·.1)) ((clssOf q (looseW q loose)).map (·.name)))=some true)
  (k2:∀ (w:World) (os:OsState),(ranT p N w os).map (fun x=>x.abs.heap.accountedOkI (importedModules p.main.body) && x.abs.heap.isNs mainGlobals && x.abs.heap.isNs builtinsNs && tablesOk q x.abs.heap && Xt x.abs && x.abs.gens.size == 0)=some true)
  (b3:∀ (w:World) (os:OsState),(ranT p N w os).map (fun x=>(tabsOk q x.abs,pinSeenD q (drecsOf q) x.abs))=some (true,pinGoodD (drecsOf q)))
  (b5:∀ (w:World) (os:OsState),(ranT p N w os).map (fun x=>(plainSeenE q (looseW q loose) x.abs,plainSeenD q loose x.abs))=some (plainGoodE q (looseW q loose),plainGoodD q loose))
  (b4:∀ (w:World) (os:OsState),(ranT p N w os).map (fun x=>(wideSeen q x.abs,clsSeenW q loose x.abs))=some (wideGood q,clsGoodW q loose))
  (c:∀ (w:World) (os:OsState),(ranT p N w os).map (fun x=>Yf x.abs)=some (Ya w)):LeftO p q loose Xt Yf Ya N :=
 C0u ho hN hf a (fun w os=>by
  obtain ⟨x,r,e⟩:=Zo (b w os);have z1:=b1 w os;have z2:=k1 w os;have z3:=k2 w os;have z4:=b3 w os;have z6:=b4 w os;have z7:=b5 w os;rw [r] at z1 z2 z3 z4 z6 z7 ⊢;have z1:x.abs.heap.bltView=bltViewBooted:=Zj z1;have z2:x.abs.heap.keysOk (looseW q loose) ((recsOf q).map (·.name)) ((litsOf q).map (·.1)) ((clssOf q (looseW q loose)).map (·.name))=true:=Zj z2;have z3:(x.abs.heap.accountedOkI (importedModules p.main.body) && x.abs.heap.isNs mainGlobals && x.abs.heap.isNs builtinsNs && tablesOk q x.abs.heap && Xt x.abs && x.abs.gens.size == 0)=true:=Zj z3;obtain ⟨y1,y2⟩:=Prod.mk.inj (Zj z4);obtain ⟨y3,y4⟩:=Prod.mk.inj (Zj z7);obtain ⟨y5,y6⟩:=Prod.mk.inj (Zj z6);show some (seen ((recsOf q).map (·.name)) (ownsOf q) [] { heap:=x.abs.heap,drawn:=x.abs.drawn,toks:=x.abs.toks,os:=x.abs.os },x.abs.heap.bltView,(x.abs.heap.keysOk (looseW q loose) ((recsOf q).map (·.name)) ((litsOf q).map (·.1)) ((clssOf q (looseW q loose)).map (·.name)) && x.abs.heap.accountedOkI (importedModules p.main.body) && x.abs.heap.isNs mainGlobals && x.abs.heap.isNs builtinsNs && tablesOk q x.abs.heap && Xt x.abs && x.abs.gens.size == 0),tabsOk q x.abs,pinSeenD q (drecsOf q) x.abs,plainSeenE q (looseW q loose) x.abs,plainSeenD q loose x.abs,wideSeen q x.abs,clsSeenW q loose x.abs)=some (expectedOf q,bltViewBooted,true,true,pinGoodD (drecsOf q),plainGoodE q (looseW q loose),plainGoodD q loose,wideGood q,clsGoodW q loose);rw [z1,z2,Bool.true_and,z3,y1,y2,y3,y4,y5,y6];exact congrArg (fun z=>some (z,_)) e) c
end L2
namespace Prf
open PySem L2
def top (i:Nat):Stmt:=PySem.Challenge.pw_hurryprice_k18_amounts_of_works.main.body.getD i (.Pass ⟨0,0,0,0⟩)
abbrev s_ae:Stmt:=top 5
abbrev s_a6:Stmt:=top 6
abbrev s_a1:Stmt:=top 7
abbrev s_ad:Stmt:=top 8
abbrev s_c6:Stmt:=top 11
abbrev s_c4:Stmt:=top 12
abbrev s_bb:Stmt:=top 13
abbrev s_a0:Stmt:=top 15
abbrev s_c3:Stmt:=top 17
abbrev s_a5:Stmt:=top 18
abbrev s_a2:Stmt:=top 19
abbrev s_ac:Stmt:=top 20
abbrev s_ab:Stmt:=top 21
abbrev s_a4:Stmt:=top 22
abbrev s_af:Stmt:=top 24
abbrev s_c0:Stmt:=top 25
abbrev s_c5:Stmt:=top 26
abbrev s_bd:Stmt:=top 27
abbrev s_b3:Stmt:=top 28
abbrev s_b9:Stmt:=top 29
abbrev s_ba:Stmt:=top 30
abbrev s_a9:Stmt:=top 31
abbrev s_b4:Stmt:=top 32
abbrev s_b7:Stmt:=top 33
abbrev s_c2:Stmt:=top 34
abbrev s_be:Stmt:=top 35
abbrev s_b5:Stmt:=top 36
abbrev s_b1:Stmt:=top 37
abbrev s_b2:Stmt:=top 38
abbrev s_c1:Stmt:=top 39
abbrev s_a7:Stmt:=top 40
abbrev s_b8:Stmt:=top 41
abbrev s_a3:Stmt:=top 42
abbrev s_bc:Stmt:=top 43
abbrev s_aa:Stmt:=top 44
abbrev s_a8:Stmt:=top 45
abbrev s_b0:Stmt:=top 46
abbrev s_b6:Stmt:=top 47
abbrev s_c7:Stmt:=top 48
abbrev s_NoPaperinit:Stmt:=C11 (top 2) 0
abbrev s_Unbalancedinit:Stmt:=C11 (top 3) 0
abbrev cO (n:Str) (a:Tok) (m:Str) (b c:Tok) (l p f:Int) (x y z u v:Value) (g k:Int) (d:Tok):Obj:=⟨.type "code",none,.fields #[.str n a,.str m b,.str "/claim/cut.py" c,.int l 0,.int p 0,.int 0 0,.int 0 0,.int f 0,x,.bool true,.int 181 0,y,.none,z,u,v,.int g 0,.int k 0,.str "/claim/cut.py" d],#[]⟩
abbrev fO (n:Str) (s:Stmt) (m:Str) (t:Tok) (c:Addr):Obj:=⟨.type "function",none,.func (W.fnOf n n (J2 s) (F6 s) (A7 s) .none .none .none (.str m t) none (.ref c) .none),#[]⟩
abbrev nE (P:Params) (x:Str) (t:Tok) (v:Value):DictEntry:=⟨PyData.keyHash P x,.str x t,v⟩
noncomputable def kk:Params->W.Frag:=fun P =>
 (nat_lit 3,⟨(.type "dict"),none,(.dict #[nE P "__name__" 165 (.str "law_hurryprice_k18_amounts_of_works" 403),nE P "__doc__" 166 .none,nE P "__package__" 167 .none,nE P "__loader__" 168 (.builtin "__main__.__loader__#opaque"),nE P "__spec__" 169 .none,nE P "__annotations__" 170 (.ref 6),nE P "__builtins__" 171 (.ref 4),nE P "__file__" 173 (.str "/claim/cut.py" 172),nE P "__cached__" 174 .none,nE P "HurryError" 206 (.ref 24),nE P "NoPaper" 231 (.ref 44),nE P "Unbalanced" 256 (.ref 63),nE P "is_whole" 265 (.ref 72),nE P "is_tuple_of" 273 (.ref 79),nE P "common_part" 281 (.ref 86),nE P "is_ratio" 290 (.ref 93),nE P "NOUGHT" 295 (.ref 94),nE P "plus" 308 (.ref 101),nE P "minus" 316 (.ref 108),nE P "is_less" 324 (.ref 115),nE P "is_number_below" 334 (.ref 122),nE P "is_arc" 350 (.ref 129),nE P "is_carried" 360 (.ref 136),nE P "look_at_form" 371 (.ref 143),nE P "flows_of" 377 (.ref 148),nE P "add_hold" 390 (.ref 155),nE P "amounts_of" 402 (.ref 162),nE P "_law_begun" 413 (.ref 169),nE P "_law_take" 424 (.ref 176),nE P "_law_low" 434 (.ref 183),nE P "_law_plus" 442 (.ref 190),nE P "_law_minus" 450 (.ref 197),nE P "_law_times" 458 (.ref 204),nE P "_law_under" 466 (.ref 211),nE P "_law_amount" 477 (.ref 218),nE P "_law_offer" 483 (.ref 223),nE P "_law_shape" 503 (.ref 230),nE P "_law_walk" 509 (.ref 235),nE P "_law_rate" 523 (.ref 242),nE P "_law_paper" 529 (.ref 247),nE P "_law_flows" 535 (.ref 252),nE P "_law_least" 547 (.ref 259),nE P "_law_time" 553 (.ref 264),nE P "_law_planned" 559 (.ref 269),nE P "_law_slack" 569 (.ref 276),nE P "_law_fraction" 577 (.ref 283),nE P "_law_copy" 583 (.ref 288),nE P "_law_spoilt" 589 (.ref 293),nE P "_law_refused" 598 (.ref 300),nE P "_law_drawn" 610 (.ref 307),nE P "_law_right" 616 (.ref 312),nE P "law" 622 (.ref 317)] 52),#[]⟩) ::
 (nat_lit 23,⟨(.type "dict"),none,(.dict #[nE P "__module__" 196 (.str "hurryprice.errors" 187),nE P "__firstlineno__" 200 (.int 2 199),nE P "__static_attributes__" 201 (.ref 22),nE P "__weakref__" 203 (.ref 25),nE P "__doc__" 204 .none] 3),#[]⟩) ::
 (nat_lit 24,⟨(.type "type"),none,(.cls ⟨"HurryError",[(.type "ValueError")],[(.ref 24),(.type "ValueError"),(.type "Exception"),(.type "BaseException"),(.type "object")],23,"HurryError",true,[],[(.ref 44),(.ref 63)],false,none,false⟩),#[(some (.ref 15)),none,(some (.str "HurryError" 189)),(some (.str "HurryError" 197)),(some (.builtin "ValueError.__new__")),(some (.bool true))]⟩) ::
 (nat_lit 40,cO "__init__" 219 "NoPaper.__init__" 220 221 6 2 3 (.ref 35) (.ref 36) (.ref 37) (.ref 38) (.ref 39) 224 6 225) ::
 (nat_lit 41,⟨(.type "function"),none,(.func (W.fnOf "__init__" "NoPaper.__init__" (J2 s_NoPaperinit) (F6 s_NoPaperinit) (A7 s_NoPaperinit) .none .none .none (.str "hurryprice.errors" 187) none (.ref 40) .none)),#[]⟩) ::
 (nat_lit 43,⟨(.type "dict"),none,(.dict #[nE P "__module__" 214 (.str "hurryprice.errors" 187),nE P "__firstlineno__" 218 (.int 4 217),nE P "__init__" 226 (.ref 41),nE P "__static_attributes__" 228 (.ref 42),nE P "__doc__" 229 .none] 2),#[]⟩) ::
 (nat_lit 44,⟨(.type "type"),none,(.cls ⟨"NoPaper",[(.ref 24)],[(.ref 44),(.ref 24),(.type "ValueError"),(.type "Exception"),(.type "BaseException"),(.type "object")],43,"NoPaper",true,[],[],false,none,false⟩),#[(some (.ref 28)),none,(some (.str "NoPaper" 207)),(some (.str "NoPaper" 215)),(some (.builtin "ValueError.__new__")),(some (.bool true))]⟩) ::
 (nat_lit 59,cO "__init__" 244 "Unbalanced.__init__" 245 246 10 2 3 (.ref 54) (.ref 55) (.ref 56) (.ref 57) (.ref 58) 249 10 250) ::
 (nat_lit 60,⟨(.type "function"),none,(.func (W.fnOf "__init__" "Unbalanced.__init__" (J2 s_Unbalancedinit) (F6 s_Unbalancedinit) (A7 s_Unbalancedinit) .none .none .none (.str "hurryprice.errors" 187) none (.ref 59) .none)),#[]⟩) ::
 (nat_lit 62,⟨(.type "dict"),none,(.dict #[nE P "__module__" 239 (.str "hurryprice.errors" 187),nE P "__firstlineno__" 243 (.int 8 242),nE P "__init__" 251 (.ref 60),nE P "__static_attributes__" 253 (.ref 61),nE P "__doc__" 254 .none] 2),#[]⟩) ::
 (nat_lit 63,⟨(.type "type"),none,(.cls ⟨"Unbalanced",[(.ref 24)],[(.ref 63),(.ref 24),(.type "ValueError"),(.type "Exception"),(.type "BaseException"),(.type "object")],62,"Unbalanced",true,[],[],false,none,false⟩),#[(some (.ref 47)),none,(some (.str "Unbalanced" 232)),(some (.str "Unbalanced" 240)),(some (.builtin "ValueError.__new__")),(some (.bool true))]⟩) ::
 (nat_lit 71,cO "is_whole" 259 "is_whole" 260 261 13 1 3 (.ref 66) (.ref 67) (.ref 68) (.ref 69) (.ref 70) 263 13 264) ::
 (nat_lit 72,fO "is_whole" s_ae "hurryprice.names" 257 71) ::
 (nat_lit 78,cO "is_tuple_of" 266 "is_tuple_of" 267 268 15 2 3 (.ref 73) (.ref 74) (.ref 75) (.ref 76) (.ref 77) 271 15 272) ::
 (nat_lit 79,fO "is_tuple_of" s_a6 "hurryprice.names" 257 78) ::
 (nat_lit 85,cO "common_part" 274 "common_part" 275 276 17 2 3 (.ref 80) (.ref 81) (.ref 82) (.ref 83) (.ref 84) 279 17 280) ::
 (nat_lit 86,fO "common_part" s_a1 "hurryprice.names" 257 85) ::
 (nat_lit 92,cO "is_ratio" 282 "is_ratio" 283 284 22 1 3 (.ref 87) (.ref 88) (.ref 89) (.ref 90) (.ref 91) 288 22 289) ::
 (nat_lit 93,fO "is_ratio" s_ad "hurryprice.names" 257 92) ::
 (nat_lit 94,⟨(.type "tuple"),none,(.seq #[(.int 0 293),(.int 1 294)] 0),#[]⟩) ::
 (nat_lit 100,cO "plus" 296 "plus" 297 298 31 2 3 (.ref 95) (.ref 96) (.ref 97) (.ref 98) (.ref 99) 306 31 307) ::
 (nat_lit 101,fO "plus" s_c6 "hurryprice.ratios" 291 100) ::
 (nat_lit 107,cO "minus" 309 "minus" 310 311 37 2 3 (.ref 102) (.ref 103) (.ref 104) (.ref 105) (.ref 106) 314 37 315) ::
 (nat_lit 108,fO "minus" s_c4 "hurryprice.ratios" 291 107) ::
 (nat_lit 114,cO "is_less" 317 "is_less" 318 319 39 2 3 (.ref 109) (.ref 110) (.ref 111) (.ref 112) (.ref 113) 322 39 323) ::
 (nat_lit 115,fO "is_less" s_bb "hurryprice.ratios" 291 114) ::
 (nat_lit 121,cO "is_number_below" 327 "is_number_below" 328 329 42 2 3 (.ref 116) (.ref 117) (.ref 118) (.ref 119) (.ref 120) 332 42 333) ::
 (nat_lit 122,fO "is_number_below" s_a0 "hurryprice.nets" 325 121) ::
 (nat_lit 128,cO "is_arc" 337 "is_arc" 338 339 45 2 3 (.ref 123) (.ref 124) (.ref 125) (.ref 126) (.ref 127) 348 45 349) ::
 (nat_lit 129,fO "is_arc" s_c3 "hurryprice.papers" 335 128) ::
 (nat_lit 135,cO "is_carried" 351 "is_carried" 352 353 52 2 3 (.ref 130) (.ref 131) (.ref 132) (.ref 133) (.ref 134) 358 52 359) ::
 (nat_lit 136,fO "is_carried" s_a5 "hurryprice.papers" 335 135) ::
 (nat_lit 142,cO "look_at_form" 361 "look_at_form" 362 363 57 2 3 (.ref 137) (.ref 138) (.ref 139) (.ref 140) (.ref 141) 369 57 370) ::
 (nat_lit 143,fO "look_at_form" s_a2 "hurryprice.papers" 335 142) ::
 (nat_lit 147,cO "flows_of" 372 "flows_of" 373 374 65 2 3 (.ref 144) (.ref 145) .none .none (.ref 146) 375 65 376) ::
 (nat_lit 148,fO "flows_of" s_ac "hurryprice.papers" 335 147) ::
 (nat_lit 154,cO "add_hold" 378 "add_hold" 379 380 81 4 3 (.ref 149) (.ref 150) (.ref 151) (.ref 152) (.ref 153) 388 81 389) ::
 (nat_lit 155,fO "add_hold" s_ab "hurryprice.papers" 335 154) ::
 (nat_lit 161,cO "amounts_of" 391 "amounts_of" 392 393 89 2 3 (.ref 156) (.ref 157) (.ref 158) (.ref 159) (.ref 160) 400 89 401) ::
 (nat_lit 162,fO "amounts_of" s_a4 "hurryprice.papers" 335 161) ::
 (nat_lit 168,cO "_law_begun" 405 "_law_begun" 406 407 97 2 3 (.ref 163) (.ref 164) (.ref 165) (.ref 166) (.ref 167) 411 97 412) ::
 (nat_lit 169,fO "_law_begun" s_af "law_hurryprice_k18_amounts_of_works" 403 168) ::
 (nat_lit 175,cO "_law_take" 414 "_law_take" 415 416 102 2 3 (.ref 170) (.ref 171) (.ref 172) (.ref 173) (.ref 174) 422 102 423) ::
 (nat_lit 176,fO "_law_take" s_c0 "law_hurryprice_k18_amounts_of_works" 403 175) ::
 (nat_lit 182,cO "_law_low" 425 "_law_low" 426 427 113 2 3 (.ref 177) (.ref 178) (.ref 179) (.ref 180) (.ref 181) 432 113 433) ::
 (nat_lit 183,fO "_law_low" s_c5 "law_hurryprice_k18_amounts_of_works" 403 182) ::
 (nat_lit 189,cO "_law_plus" 435 "_law_plus" 436 437 119 2 3 (.ref 184) (.ref 185) (.ref 186) (.ref 187) (.ref 188) 440 119 441) ::
 (nat_lit 190,fO "_law_plus" s_bd "law_hurryprice_k18_amounts_of_works" 403 189) ::
 (nat_lit 196,cO "_law_minus" 443 "_law_minus" 444 445 121 2 3 (.ref 191) (.ref 192) (.ref 193) (.ref 194) (.ref 195) 448 121 449) ::
 (nat_lit 197,fO "_law_minus" s_b3 "law_hurryprice_k18_amounts_of_works" 403 196) ::
 (nat_lit 203,cO "_law_times" 451 "_law_times" 452 453 123 2 3 (.ref 198) (.ref 199) (.ref 200) (.ref 201) (.ref 202) 456 123 457) ::
 (nat_lit 204,fO "_law_times" s_b9 "law_hurryprice_k18_amounts_of_works" 403 203) ::
 (nat_lit 210,cO "_law_under" 459 "_law_under" 460 461 125 2 3 (.ref 205) (.ref 206) (.ref 207) (.ref 208) (.ref 209) 464 125 465) ::
 (nat_lit 211,fO "_law_under" s_ba "law_hurryprice_k18_amounts_of_works" 403 210) ::
 (nat_lit 217,cO "_law_amount" 467 "_law_amount" 468 469 127 3 3 (.ref 212) (.ref 213) (.ref 214) (.ref 215) (.ref 216) 475 127 476) ::
 (nat_lit 218,fO "_law_amount" s_a9 "law_hurryprice_k18_amounts_of_works" 403 217) ::
 (nat_lit 222,cO "_law_offer" 478 "_law_offer" 479 480 133 4 3 (.ref 219) (.ref 220) .none .none (.ref 221) 481 133 482) ::
 (nat_lit 223,fO "_law_offer" s_b4 "law_hurryprice_k18_amounts_of_works" 403 222) ::
 (nat_lit 229,cO "_law_shape" 484 "_law_shape" 485 486 151 2 3 (.ref 224) (.ref 225) (.ref 226) (.ref 227) (.ref 228) 501 151 502) ::
 (nat_lit 230,fO "_law_shape" s_b7 "law_hurryprice_k18_amounts_of_works" 403 229) ::
 (nat_lit 234,cO "_law_walk" 504 "_law_walk" 505 506 172 2 3 (.ref 231) (.ref 232) .none .none (.ref 233) 507 172 508) ::
 (nat_lit 235,fO "_law_walk" s_c2 "law_hurryprice_k18_amounts_of_works" 403 234) ::
 (nat_lit 241,cO "_law_rate" 510 "_law_rate" 511 512 190 2 3 (.ref 236) (.ref 237) (.ref 238) (.ref 239) (.ref 240) 521 190 522) ::
 (nat_lit 242,fO "_law_rate" s_be "law_hurryprice_k18_amounts_of_works" 403 241) ::
 (nat_lit 246,cO "_law_paper" 524 "_law_paper" 525 526 199 3 3 (.ref 243) (.ref 244) .none .none (.ref 245) 527 199 528) ::
 (nat_lit 247,fO "_law_paper" s_b5 "law_hurryprice_k18_amounts_of_works" 403 246) ::
 (nat_lit 251,cO "_law_flows" 530 "_law_flows" 531 532 215 2 3 (.ref 248) (.ref 249) .none .none (.ref 250) 533 215 534) ::
 (nat_lit 252,fO "_law_flows" s_b1 "law_hurryprice_k18_amounts_of_works" 403 251) ::
 (nat_lit 258,cO "_law_least" 536 "_law_least" 537 538 234 2 3 (.ref 253) (.ref 254) (.ref 255) (.ref 256) (.ref 257) 545 234 546) ::
 (nat_lit 259,fO "_law_least" s_b2 "law_hurryprice_k18_amounts_of_works" 403 258) ::
 (nat_lit 263,cO "_law_time" 548 "_law_time" 549 550 241 3 3 (.ref 260) (.ref 261) .none .none (.ref 262) 551 241 552) ::
 (nat_lit 264,fO "_law_time" s_c1 "law_hurryprice_k18_amounts_of_works" 403 263) ::
 (nat_lit 268,cO "_law_planned" 554 "_law_planned" 555 556 253 3 3 (.ref 265) (.ref 266) .none .none (.ref 267) 557 253 558) ::
 (nat_lit 269,fO "_law_planned" s_a7 "law_hurryprice_k18_amounts_of_works" 403 268) ::
 (nat_lit 275,cO "_law_slack" 560 "_law_slack" 561 562 279 2 3 (.ref 270) (.ref 271) (.ref 272) (.ref 273) (.ref 274) 567 279 568) ::
 (nat_lit 276,fO "_law_slack" s_b8 "law_hurryprice_k18_amounts_of_works" 403 275) ::
 (nat_lit 282,cO "_law_fraction" 570 "_law_fraction" 571 572 286 1 3 (.ref 277) (.ref 278) (.ref 279) (.ref 280) (.ref 281) 575 286 576) ::
 (nat_lit 283,fO "_law_fraction" s_a3 "law_hurryprice_k18_amounts_of_works" 403 282) ::
 (nat_lit 287,cO "_law_copy" 578 "_law_copy" 579 580 293 1 3 (.ref 284) (.ref 285) .none .none (.ref 286) 581 293 582) ::
 (nat_lit 288,fO "_law_copy" s_bc "law_hurryprice_k18_amounts_of_works" 403 287) ::
 (nat_lit 292,cO "_law_spoilt" 584 "_law_spoilt" 585 586 299 3 3 (.ref 289) (.ref 290) .none .none (.ref 291) 587 299 588) ::
 (nat_lit 293,fO "_law_spoilt" s_aa "law_hurryprice_k18_amounts_of_works" 403 292) ::
 (nat_lit 299,cO "_law_refused" 590 "_law_refused" 591 592 311 1 3 (.ref 294) (.ref 295) (.ref 296) (.ref 297) (.ref 298) 596 311 597) ::
 (nat_lit 300,fO "_law_refused" s_a8 "law_hurryprice_k18_amounts_of_works" 403 299) ::
 (nat_lit 306,cO "_law_drawn" 599 "_law_drawn" 600 601 320 2 3 (.ref 301) (.ref 302) (.ref 303) (.ref 304) (.ref 305) 608 320 609) ::
 (nat_lit 307,fO "_law_drawn" s_b0 "law_hurryprice_k18_amounts_of_works" 403 306) ::
 (nat_lit 311,cO "_law_right" 611 "_law_right" 612 613 325 2 3 (.ref 308) (.ref 309) .none .none (.ref 310) 614 325 615) ::
 (nat_lit 312,fO "_law_right" s_b6 "law_hurryprice_k18_amounts_of_works" 403 311) ::
 (nat_lit 316,cO "law" 617 "law" 618 619 329 1 3 (.ref 313) (.ref 314) .none .none (.ref 315) 620 329 621) ::
 (nat_lit 317,fO "law" s_c7 "law_hurryprice_k18_amounts_of_works" 403 316) :: []
noncomputable def qq:Program:=W.view PySem.Challenge.pw_hurryprice_k18_amounts_of_works [1,2,3,5,6,7,8,10,11,12,13,15,17,18,19,20,21,22,24,25,26,27,28,29,30,31,32,33,34,35,36,37,38,39,40,41,42,43,44,45,46,47,48]
noncomputable def aa:List Nat:=[3,23,24,40,41,43,44,59,60,62,63,71,72,78,79,85,86,92,93,94,100,101,107,108,114,115,121,122,128,129,135,136,142,143,147,148,154,155,161,162,168,169,175,176,182,183,189,190,196,197,203,204,210,211,217,218,222,223,229,230,234,235,241,242,246,247,251,252,258,259,263,264,268,269,275,276,282,283,287,288,292,293,299,300,306,307,311,312,316,317]
def C3j:∀ P:Params,aa=(kk P).map (·.1):=fun P=>by kernel_rfl
noncomputable abbrev hh:W.Hook:=W.kHook kk aa C3j
noncomputable abbrev xt (s:Shared):Bool:=W.xlAt qq [] s && W.recOk (W.RowW.records PySem.Challenge.rw_hurryprice_k18_amounts_of_works.row.toRowW) s
theorem run1 (w:World) (os:OsState):(L2.ranT PySem.Challenge.pw_hurryprice_k18_amounts_of_works 3988 w os).map (fun x=>W.staticsOk (importedModules PySem.Challenge.pw_hurryprice_k18_amounts_of_works.main.body) (W.boot_heap w.params) x.abs.heap && W.namesBound PySem.Challenge.pw_hurryprice_k18_amounts_of_works x.abs.heap && W.gensDone x.abs && W.laidKept (W.boot_heap w.params) x.abs.heap)=some true:=by kernel_rfl
open PySem.W PySem.Spec PyProof.Rows
theorem run2 (w:World) (os:OsState):(L2.ranT PySem.Challenge.pw_hurryprice_k18_amounts_of_works 3988 w os).map (fun x=>seen ((recsOf qq).map (·.name)) (ownsOf qq) [] { heap:=x.abs.heap,drawn:=x.abs.drawn,toks:=x.abs.toks,os:=x.abs.os })=some (expectedOf qq):=by kernel_rfl
theorem run4 (w:World) (os:OsState):(L2.ranT PySem.Challenge.pw_hurryprice_k18_amounts_of_works 3988 w os).map (fun x=>x.abs.heap.bltView)=some bltViewBooted:=by kernel_rfl
theorem run5 (w:World) (os:OsState):(L2.ranT PySem.Challenge.pw_hurryprice_k18_amounts_of_works 3988 w os).map (fun x=>x.abs.heap.keysOk (looseW qq []) ((recsOf qq).map (·.name)) ((litsOf qq).map (·.1)) ((clssOf qq (looseW qq [])).map (·.name)))=some true:=by kernel_rfl
theorem run6 (w:World) (os:OsState):(L2.ranT PySem.Challenge.pw_hurryprice_k18_amounts_of_works 3988 w os).map (fun x=>x.abs.heap.accountedOkI (importedModules PySem.Challenge.pw_hurryprice_k18_amounts_of_works.main.body) && x.abs.heap.isNs mainGlobals && x.abs.heap.isNs builtinsNs && tablesOk qq x.abs.heap && xt x.abs && x.abs.gens.size == 0)=some true:=by kernel_rfl
theorem run7 (w:World) (os:OsState):(L2.ranT PySem.Challenge.pw_hurryprice_k18_amounts_of_works 3988 w os).map (fun x=>(tabsOk qq x.abs,pinSeenD qq (drecsOf qq) x.abs))=some (true,pinGoodD (drecsOf qq)):=by kernel_rfl
theorem run9 (w:World) (os:OsState):(L2.ranT PySem.Challenge.pw_hurryprice_k18_amounts_of_works 3988 w os).map (fun x=>(plainSeenE qq (looseW qq []) x.abs,plainSeenD qq [] x.abs))=some (plainGoodE qq (looseW qq []),plainGoodD qq []):=by kernel_rfl
theorem run8 (w:World) (os:OsState):(L2.ranT PySem.Challenge.pw_hurryprice_k18_amounts_of_works 3988 w os).map (fun x=>(wideSeen qq x.abs,clsSeenW qq [] x.abs))=some (wideGood qq,clsGoodW qq []):=by kernel_rfl
theorem run3 (w:World) (os:OsState):(L2.ranT PySem.Challenge.pw_hurryprice_k18_amounts_of_works 3988 w os).map (fun x=>hh.obs x.abs)=some (hh.val w):=by kernel_rfl
def left:W.LeftO PySem.Challenge.pw_hurryprice_k18_amounts_of_works qq [] xt hh.obs hh.val 3988:=L2.C0t (by kernel_rfl) (by decide) (fun s=>by kernel_rfl) run1 run2 run4 run5 run6 run7 run9 run8 run3
def said:PySem.Challenge.rw_hurryprice_k18_amounts_of_works.wellSaid=true:=by
 unfold W.OpenLaw.wellSaid
 repeat' with_reducible refine Bool.and_eq_true_iff.mpr ⟨?_,?_⟩
 all_goals ext
end Prf
namespace L2
open PySem PySem.Spec PyProof.Rows
abbrev Key:=Sum Int Str
def A5p:Key->Value->Bool
 | .inl k,v=>Value.isInt k v
 | .inr x,v=>Value.isStrOf x v
def keyH (w:World):Key->Int
 | .inl k=>hashInt k
 | .inr x=>hashStr w x
def F8:∀ {k:Key} {v:Value},A5p k v=true->(∃ i t,k=Sum.inl i/\v=Value.int i t)\/(∃ x t,k=Sum.inr x/\v=Value.str x t)
 | .inl i,v,h=>by
  obtain ⟨t,e⟩:=Value.isInt_shape (k:=i) (v:=v) h;exact .inl ⟨i,t,rfl,e⟩
 | .inr x,v,h=>by
  obtain ⟨t,e⟩:=Value.isStrOf_shape (x:=x) (v:=v) h;exact .inr ⟨x,t,rfl,e⟩
def A79 (i:Int) (t:Tok):A5p (.inl i) (.int i t)=true:=by simp [A5p,Value.isInt]
def A78 (x:Str) (t:Tok):A5p (.inr x) (.str x t)=true:=by simp [A5p,Value.isStrOf]
def C1g (a b:Int):decide ((Sum.inl a:Key)=Sum.inl b)=(a == b):=by
 by_cases e:a=b
 ·subst e; simp
 ·have h:¬ (Sum.inl a:Key)=Sum.inl b:=fun q=>e (Sum.inl.inj q);rw [Zd h];exact (beq_eq_false_iff_ne.mpr e).symm
def C1d (a b:Str):decide ((Sum.inr a:Key)=Sum.inr b)=decide (a=b):=by
 by_cases e:a=b
 ·subst e; simp
 ·have h:¬ (Sum.inr a:Key)=Sum.inr b:=fun q=>e (Sum.inr.inj q);rw [Zd h,Zd e]
def C1f (a:Int) (b:Str):decide ((Sum.inl a:Key)=Sum.inr b)=false:=Zd (fun q=>nomatch q)
def C1e (a:Str) (b:Int):decide ((Sum.inr a:Key)=Sum.inl b)=false:=Zd (fun q=>nomatch q)
def J1 (prog:Program) (w:World):PySem.KeyKind prog w Key where
 is:=A5p
 hash:=keyH w
 inj:=fun v a b ha hb=>by
  rcases F8 ha with ⟨i,t,rfl,rfl⟩ | ⟨x,t,rfl,rfl⟩
  ·rcases F8 hb with ⟨j,u,rfl,e⟩ | ⟨y,u,rfl,e⟩
   ·injection e with e1 _; rw [e1]
   ·exact nomatch e
  ·rcases F8 hb with ⟨j,u,rfl,e⟩ | ⟨y,u,rfl,e⟩
   ·exact nomatch e
   ·injection e with e1 _; rw [e1]
 byValue:=fun k v h=>by
  rcases F8 h with ⟨i,t,rfl,rfl⟩ | ⟨x,t,rfl,rfl⟩ <;> rfl
 pyHash:=fun hv h=>by
  rcases F8 hv with ⟨i,t,rfl,rfl⟩ | ⟨x,t,rfl,rfl⟩
  ·exact wpAny_pyHash_int h
  ·exact wpAny_pyHash_str h
 eqBool:=fun hu hv h=>by
  rcases F8 hu with ⟨i,t,rfl,rfl⟩ | ⟨x,t,rfl,rfl⟩
  ·rcases F8 hv with ⟨j,u,rfl,rfl⟩ | ⟨y,u,rfl,rfl⟩
   ·rw [C1g] at h; exact wpAny_eqBool_int h
   ·rw [C1f] at h; exact SeqAt.EqAt.int_str i t y u _ _ _ _ h
  ·rcases F8 hv with ⟨j,u,rfl,rfl⟩ | ⟨y,u,rfl,rfl⟩
   ·rw [C1e] at h; exact SeqAt.EqAt.str_int x t j u _ _ _ _ h
   ·rw [C1d] at h; exact wpAny_eqBool_str h
 «strs»:=fun k x t v h=>by
  rcases F8 h with ⟨i,u,rfl,e⟩ | ⟨y,u,rfl,e⟩
  ·exact nomatch e
  ·injection e with e1 _
   subst e1;cases v <;> rfl
def A20 (prog:Program) (w:World) (i:Int) (t:Tok):(J1 prog w).is (.inl i) (.int i t)=true:=A79 i t
def A2z (prog:Program) (w:World) (x:Str) (t:Tok):(J1 prog w).is (.inr x) (.str x t)=true:=A78 x t
inductive V where
 | non | bl (b:Bool) | int (i:Int) | str (x:Str) | byt (b:Array UInt8) | flt (b:UInt64) | ref (a:Addr) | ty (n:String)
 deriving DecidableEq
def RelV:V->Value->Prop
 | .non,u=>u=Value.none
 | .bl b,u=>u=Value.bool b
 | .int i,u=>∃ t,u=Value.int i t
 | .str x,u=>∃ t,u=Value.str x t
 | .byt b,u=>∃ t,u=Value.bytes b t
 | .flt b,u=>∃ t,u=Value.float b t
 | .ref a,u=>u=Value.ref a
 | .ty n,u=>u=Value.type n
abbrev Vals:List V->List Value->Prop:=Paired RelV
theorem Vals.length {xs:List V} {us:List Value} (r:Vals xs us):xs.length=us.length:=Paired.length r
def Vals.get:∀ {xs:List V} {us:List Value} {i:Nat} {x:V},Vals xs us->xs[i]?=some x->∃ u,us[i]?=some u/\RelV x u
 | _,_,_,_,.nil,e=>by simp at e
 | _,_,0,_,.cons r _,e=>by simp at e; subst e; exact ⟨_,rfl,r⟩
 | _,_,i + 1,x,.cons _ t,e=>by
  obtain ⟨u,h1,h2⟩:=Vals.get (i:=i) (x:=x) t (by simpa using e);exact ⟨u,by simpa using h1,h2⟩
def Vals.set {x:V} {u:Value} (r:RelV x u):∀ {xs:List V} {us:List Value} (i:Nat),Vals xs us->Vals (xs.set i x) (us.set i u)
 | _,_,_,.nil=>.nil
 | _,_,0,.cons _ t=>.cons r t
 | _,_,i + 1,.cons q t=>.cons q (Vals.set r i t)
def Vals.append:∀ {xs ys:List V} {us ws:List Value},Vals xs us->Vals ys ws->Vals (xs++ys) (us++ws)
 | _,_,_,_,.nil,s=>s
 | _,_,_,_,.cons r t,s=>.cons r (Vals.append t s)
def Vals.take:∀ {xs:List V} {us:List Value} (n:Nat),Vals xs us->Vals (xs.take n) (us.take n)
 | _,_,0,_=>.nil
 | _,_,_ + 1,.nil=>.nil
 | _,_,n + 1,.cons r t=>.cons r (Vals.take n t)
def Vals.drop:∀ {xs:List V} {us:List Value} (n:Nat),Vals xs us->Vals (xs.drop n) (us.drop n)
 | _,_,0,r=>r
 | _,_,_ + 1,.nil=>.nil
 | _,_,n + 1,.cons _ t=>Vals.drop n t
def Vals.none_of:∀ {xs:List V} {us:List Value} {i:Nat},Vals xs us->xs[i]?=none->us[i]?=none:=fun {xs us i} r e=>by
 have h1:=r.length;have h2:xs.length<=i:=List.getElem?_eq_none_iff.mp e;exact List.getElem?_eq_none_iff.mpr (by omega)
def RelO:Option V->Option Value->Prop
 | some v,some u=>RelV v u
 | none,none=>True
 | _,_=>False
def KV {κ:Type}:List (κ × V)->List (κ × Value)->Prop:=Paired fun (p:κ × V) (q:κ × Value)=>p.1=q.1/\RelV p.2 q.2
def kV:Key->V
 | .inl i=>.int i
 | .inr x=>.str x
inductive HO where
  | lst (xs:List V)
  | tup (xs:List V)
  | dK (kvs:List (Key × V)) | dT (kvs:List (List Key × V))
  | set (S:Int->Bool) (n:Nat)
  | ins (C dx:Addr) (fs:List (Str × V))
  | own (x:Addr)
  | xd (fs:List (Str × V))
  | met (f x:Addr)
  | rng (lo hi:Int)
  | frz (o:Obj) (u:HO)
  | tbl (ps:Array Value)
  | ext (φ:Heap->Prop)
abbrev Hp:=Addr->Option HO
def upd (H:Hp) (a:Addr) (o:HO):Hp:=fun b=>if b=a then some o else H b
def B7 {H:Hp} {a:Addr} {o:HO}:upd H a o a=some o:=by unfold upd; rw [if_pos rfl]
def C4 {H:Hp} {a b:Addr} {o:HO} (h:b≠a):upd H a o b=H b:=by unfold upd; rw [if_neg h]
def B2x {H:Hp} {a:Addr} {o u:HO}:upd (upd H a o) a u=upd H a u:=by
 funext b; unfold upd; split <;> rfl
def C2w {H:Hp} {a b:Addr} {o u:HO} (h:H a=some o) (h':H b=some u) (d:o≠u):a≠b:=by
 intro e; subst e; rw [h] at h'; exact d (Zj h')
def E6 {H:Hp} {a b:Addr} {o:HO} (h:H a=some o) (h':H b=none):a≠b:=by
 intro e; subst e; rw [h] at h'; cases h'
section
variable (P:Program) (w:World)
def ObjOk (H:Hp) (h:Heap) (a:Addr):HO->Prop
 | .lst xs=>xs.length<=sizeLine/\∃ (its:List Value) (n:Nat),Vals xs its/\h.get? a=some { cls:=.type "list",data:=.seq its.toArray n }
 | .tup xs=>xs.length<=sizeLine/\∃ its:List Value,Vals xs its/\IsTup h a its.toArray
 | .dK kvs=>kvs.length<=sizeLine/\(a == sysModules)=false/\∃ vs,KV kvs vs/\h.DictOf (J1 P w) a vs
 | .dT kvs=>kvs.length<=sizeLine/\(a == sysModules)=false/\∃ xs:List (List Key × Addr × Value),
   Paired (fun (p:List Key × V) (q:List Key × Addr × Value)=>p.1=q.1/\H q.2.1=some (.tup (p.1.map kV))/\RelV p.2 q.2.2) kvs xs /\
   ∃ o es ep,h.get? a=some o/\o.ExactDict/\o.data=.dict es ep/\es.toList=xs.map (entryOfKey (tupleKind (J1 P w)))/\(xs.map (·.1)).Nodup
 | .set S n=>h.SetOf (intKind P w) a S n
 | .ins C dx fs=>H dx=some (.own a)/\fs.length<=1000/\dx≠a/\h.get? a=some (W.instObj C dx) /\
   ∃ mA,h.Ns1 dx mA/\(∀ f,RelO (fs.lookup f) (mA f))/\PySem.Within mA (fs.map (·.1))
 | .own _=>∃ o,h.get? a=some o
 | .xd fs=>∃ mA,h.Ns1 a mA/\∀ f,RelO (fs.lookup f) (mA f)
 | .rng lo hi=>∃ t u v,h.get? a=some { cls:=.type "range",data:=.fields #[.int lo t,.int hi u,.int 1 v] }
 | .frz o u=>h.get? a=some o/\ObjOk H h a u
 | .tbl ps=>h.get? a=some { cls:=.none,data:=.fields ps }
 | .met f x=>h.get? a=some (W.methodObj (.ref f) (.ref x))
 | .ext φ=>φ h/\(∃ o,h.get? a=some o)/\∀ h1 h2:Heap,φ h1->(∀ o,h1.get? a=some o->h2.get? a=some o)->φ h2
def HOk (H:Hp) (h:Heap):Prop:=∀ a o,H a=some o->ObjOk P w H h a o
end
section
variable {P:Program} {w:World} {H H':Hp} {h h':Heap} {a:Addr} {o:HO}
def ObjOk.lt (x:ObjOk P w H h a o):a < h.objs.size:=by
 cases o with
 | lst xs=>obtain ⟨_,_,_,_,e⟩:=x; exact Heap.lt_size e
 | tup xs=>obtain ⟨_,_,_,p⟩:=x; exact p.lt
 | dK kvs=>obtain ⟨_,_,_,_,o,_,_,e,_⟩:=x; exact Heap.lt_size e
 | dT kvs=>obtain ⟨_,_,_,_,o,_,_,e,_⟩:=x; exact Heap.lt_size e
 | set S n=>obtain ⟨o,_,_,_,e,_⟩:=x; exact Heap.lt_size e
 | ins C dx fs=>obtain ⟨_,_,_,e,_⟩:=x; exact Heap.lt_size e
 | own y=>obtain ⟨_,e⟩:=x; exact Heap.lt_size e
 | xd fs=>obtain ⟨_,⟨_,_,_,e,_⟩,_⟩:=x; exact Heap.lt_size e
 | rng lo hi=>obtain ⟨_,_,_,e⟩:=x; exact Heap.lt_size e
 | frz ob u=>obtain ⟨e,_⟩:=x; exact Heap.lt_size e
 | tbl ps=>exact Heap.lt_size (show h.get? a=some _ from x)
 | met f y=>exact Heap.lt_size (show h.get? a=some _ from x)
 | ext φ=>obtain ⟨_,⟨_,e⟩,_⟩:=x; exact Heap.lt_size e
def Paired.mapP {α β:Type} {F G:α->β->Prop}:∀ {l₁:List α} {l₂:List β},Paired F l₁ l₂->(∀ a b,F a b->G a b)->Paired G l₁ l₂
 | _,_,.nil,_=>.nil
 | _,_,.cons r t,f=>.cons (f _ _ r) (Paired.mapP t f)
def ObjOk.stay (x:ObjOk P w H h a o) (k:∀ b u,(b=a\/H b=some (.own a))->h.get? b=some u->h'.get? b=some u)
  (ho:∀ b,H b=some (.own a)->H' b=some (.own a)) (ht:∀ b xs,H b=some (.tup xs)->H' b=some (.tup xs)):ObjOk P w H' h' a o:=by
 induction o with
 | lst xs=>obtain ⟨z,its,n,r,e⟩:=x; exact ⟨z,its,n,r,k _ _ (.inl rfl) e⟩
 | tup xs=>obtain ⟨z,its,r,ob,e,c⟩:=x; exact ⟨z,its,r,ob,k _ _ (.inl rfl) e,c⟩
 | dK kvs=>obtain ⟨z,y,vs,r,ob,es,ep,e,c⟩:=x; exact ⟨z,y,vs,r,ob,es,ep,k _ _ (.inl rfl) e,c⟩
 | dT kvs =>
  obtain ⟨z,y,xs,r,ob,es,ep,e,c⟩:=x;exact ⟨z,y,xs,Paired.mapP r fun p q z=>⟨z.1,ht _ _ z.2.1,z.2.2⟩,ob,es,ep,k _ _ (.inl rfl) e,c⟩
 | set S n=>obtain ⟨ob,es,ep,t,e,c⟩:=x; exact ⟨ob,es,ep,t,k _ _ (.inl rfl) e,c⟩
 | ins C dx fs =>
  obtain ⟨d,z,ne,e,mA,⟨od,es,ep,e2,c⟩,r⟩:=x;exact ⟨ho _ d,z,ne,k _ _ (.inl rfl) e,mA,⟨od,es,ep,k _ _ (.inr d) e2,c⟩,r⟩
 | own y=>obtain ⟨ob,e⟩:=x; exact ⟨ob,k _ _ (.inl rfl) e⟩
 | xd fs=>obtain ⟨mA,⟨od,es,ep,e,c⟩,r⟩:=x; exact ⟨mA,⟨od,es,ep,k _ _ (.inl rfl) e,c⟩,r⟩
 | rng lo hi=>obtain ⟨t,u,v,e⟩:=x; exact ⟨t,u,v,k _ _ (.inl rfl) e⟩
 | frz ob u ih=>obtain ⟨e,q⟩:=x; exact ⟨k _ _ (.inl rfl) e,ih q⟩
 | tbl ps =>
  have e:h.get? a=some { cls:=.none,data:=.fields ps }:=x;show h'.get? a=some { cls:=.none,data:=.fields ps };exact k a _ (.inl rfl) e
 | met f y =>
  have e:h.get? a=some (W.methodObj (.ref f) (.ref y)):=x;show h'.get? a=some (W.methodObj (.ref f) (.ref y));exact k a _ (.inl rfl) e
 | ext φ=>obtain ⟨p,⟨o,e⟩,st⟩:=x; exact ⟨st _ _ p fun o q=>k _ _ (.inl rfl) q,⟨o,k _ _ (.inl rfl) e⟩,st⟩
def HOk.lt (x:HOk P w H h) (e:H a=some o):a < h.objs.size:=(x a o e).lt
def HOk.fresh (x:HOk P w H h) (e:h.objs.size<=a):H a=none:=by
 cases q:H a with
 | none=>rfl
 | some u=>exact absurd (Nat.lt_of_lt_of_le (x.lt q) e) (Nat.lt_irrefl _)
def HOk.kept (x:HOk P w H h) (k:∀ b u,h.get? b=some u->h'.get? b=some u):HOk P w H h':=fun a o e =>
 (x a o e).stay (fun b u _ q=>k b u q) (fun _ q=>q) fun _ _ q=>q
def HOk.laid (x:HOk P w H h) (k:∀ b u,h.get? b=some u->h'.get? b=some u) (hp:h.objs.size<=a) (new:ObjOk P w (upd H a o) h' a o):HOk P w (upd H a o) h':=fun b u e=>by
 have hn:=x.fresh hp;by_cases hb:b=a
 ·subst hb; rw [B7] at e; cases e; exact new
 ·rw [C4 hb] at e;exact (x b u e).stay (fun c v _ q=>k c v q) (fun c q=>by rw [C4 (E6 q hn)]; exact q) fun c xs q=>by rw [C4 (E6 q hn)]; exact q
end
def Rd (H:Hp) (a:Addr) (u:HO):Prop:=H a=some u\/∃ o,H a=some (.frz o u)
def Rd.ok {P:Program} {w:World} {H:Hp} {h:Heap} {a:Addr} {u:HO} (r:Rd H a u) (x:HOk P w H h):ObjOk P w H h a u:=by
 rcases r with r | ⟨o,r⟩
 ·exact x a u r
 ·obtain ⟨_,q⟩:=x a _ r;exact q
def Mut:Option HO->Prop
 | some (.lst _)=>True
 | some (.dK _)=>True
 | some (.dT _)=>True
 | some (.set _ _)=>True
 | some (.ins _ _ _)=>True
 | some (.ext _)=>True
 | _=>False
section
variable {P:Program} {w:World} {H:Hp} {h h':Heap} {x e:Addr} {o':HO}
def HOk.write (ok:HOk P w H h) (mu:Mut (H x)) (he:e=x\/H e=some (.own x)) (k:∀ b u,b≠e->h.get? b=some u->h'.get? b=some u) (heo:∃ u,h'.get? e=some u)
  (new:ObjOk P w (upd H x o') h' x o'):HOk P w (upd H x o') h':=fun b u q=>by
 have nown:∀ c y,H c=some (.own y)->c≠x:=fun c y r z=>by subst z; rw [r] at mu; exact mu
 have ntup:∀ c xs,H c=some (.tup xs)->c≠x:=fun c xs r z=>by subst z; rw [r] at mu; exact mu
 by_cases hb:b=x
 ·subst hb; rw [B7] at q; cases q; exact new
 ·rw [C4 hb] at q;by_cases hbe:b=e
  ·have q':H b=some (.own x):=by
    rcases he with z | z
    ·exact absurd (hbe.trans z) hb
    ·rw [hbe]; exact z
   rw [q] at q'; cases q';obtain ⟨v,hv⟩:=heo;exact ⟨v,by rw [hbe]; exact hv⟩
  ·refine (ok b u q).stay (fun c v hc r=>k c v ?_ r) (fun c r=>by rw [C4 (nown c b r)]; exact r) fun c xs r=>by rw [C4 (ntup c xs r)]; exact r
   rcases hc with rfl | hc
   ·exact hbe
   ·rintro rfl;rcases he with z | z
    ·exact nown c b hc z
    ·rw [hc] at z; cases z; exact hb rfl
end
structure Un (fs ex:List Addr) (H H':Hp) (h h':Heap):Prop where
 keep:∀ b o,h.get? b=some o->H b=none->b ∉ fs->b ∉ ex->h'.get? b=some o
 slot:∀ b o,h.get? b=some o->H b=none->b ∈ fs->b ∉ ex->∃ sl,h'.get? b=some { o with slots:=sl }
 free:∀ b o,h.get? b=some o->H b=none->b ∉ ex->H' b=none
 there:∀ b o,h.get? b=some o->b ∉ ex->∃ o',h'.get? b=some o'
 tups:∀ b xs,H b=some (.tup xs)->H' b=some (.tup xs)
 frzs:∀ b o u,H b=some (.frz o u)->H' b=some (.frz o u)
 tbls:∀ b ps,H b=some (.tbl ps)->∃ more,H' b=some (.tbl (ps++more))
section
variable {fs fs' ex ex':List Addr} {H H1 H2:Hp} {h h1 h2 h':Heap} {a x e:Addr} {o:HO}
def Un.any (u:Un fs ex H H1 h h1) {b:Addr} {ob:Obj} (q:h.get? b=some ob) (n:H b=none) (hx:b ∉ ex):∃ sl,h1.get? b=some { ob with slots:=sl }:=by
 by_cases hb:b ∈ fs
 ·exact u.slot b ob q n hb hx
 ·exact ⟨ob.slots,u.keep b ob q n hb hx⟩
def Un.kept (k:∀ b u,h.get? b=some u->h'.get? b=some u):Un fs ex H H h h' :=
 ⟨fun b ob q _ _ _=>k b ob q,fun b ob q _ _ _=>⟨ob.slots,k b ob q⟩,fun _ _ _ n _=>n,fun b ob q _=>⟨ob,k b ob q⟩,fun _ _ q=>q,fun _ _ _ q=>q,fun _ ps q=>⟨#[],by rw [q]; simp⟩⟩
def Un.refl:Un fs ex H H h h:=Un.kept fun _ _ q=>q
def Un.laid (k:∀ b u,h.get? b=some u->h'.get? b=some u) (hp:h.objs.size<=a) (hn:H a=none):Un fs ex H (upd H a o) h h' where
 keep:=fun b u q _ _ _=>k b u q
 slot:=fun b u q _ _ _=>⟨u.slots,k b u q⟩
 free:=fun b u q n _=>by rw [C4 (Nat.ne_of_lt (Nat.lt_of_lt_of_le (Heap.lt_size q) hp))]; exact n
 there:=fun b u q _=>⟨u,k b u q⟩
 tups:=fun b xs q=>by rw [C4 (E6 q hn)]; exact q
 frzs:=fun b u xs q=>by rw [C4 (E6 q hn)]; exact q
 tbls:=fun b ps q=>⟨#[],by rw [C4 (E6 q hn),q]; simp⟩
def Un.write (mu:Mut (H x)) (he:e=x\/H e=some (.own x)) (k:∀ b u,b≠e->h.get? b=some u->h'.get? b=some u) (heo:∃ u,h'.get? e=some u):Un fs ex H (upd H x o) h h':=by
 have hx:∀ b,H b=none->b≠x:=fun b n z=>by subst z; rw [n] at mu; exact mu
 have hb:∀ b,H b=none->b≠e:=fun b n z=>by
  subst z;rcases he with r | r
  ·exact hx b n r
  ·rw [n] at r; cases r
 have hm:∀ b u,H b=some u->¬ Mut (some u)->b≠x:=fun b u q nm z=>by subst z; rw [q] at mu; exact nm mu
 refine ⟨fun b u q n _ _=>k b u (hb b n) q,fun b u q n _ _=>⟨u.slots,k b u (hb b n) q⟩,fun b u q n _=>by rw [C4 (hx b n)]; exact n,fun b u q _=>?_,
  fun b xs q=>by rw [C4 (hm b _ q fun z=>z)]; exact q,fun b u xs q=>by rw [C4 (hm b _ q fun z=>z)]; exact q,fun b ps q=>⟨#[],by rw [C4 (hm b _ q fun z=>z),q]; simp⟩⟩
 by_cases hbe:b=e
 ·subst hbe; exact heo
 ·exact ⟨u,k b u hbe q⟩
end
def trk (h:Heap) (H:Hp):List Addr:=(List.range h.objs.size).filter fun a=>(H a).isSome
def hidT (h:Heap) (H:Hp):Heap:=W.hideAll h (trk h H)
def A8e (h:Heap) (H:Hp):(hidT h H).objs.size=h.objs.size:=W.hideAll_size _ _
def B05 {h:Heap} {H:Hp} {b:Addr} {o:Obj} (e:h.get? b=some o) (n:H b=none):(hidT h H).get? b=some o :=
 W.hideAll_get _ e fun hm=>by
  have q:(H b).isSome=true:=(List.mem_filter.mp hm).2;rw [n] at q; simp at q
def B5f {h:Heap} {H:Hp} {b:Addr} {o:Obj} (e:(hidT h H).get? b=some o):h.get? b=some o/\H b=none:=by
 have e':h.get? b=some o:=W.of_hideAll (trk h H) e;refine ⟨e',?_⟩;cases q:H b with
 | none=>rfl
 | some x =>
  have hm:b ∈ trk h H:=List.mem_filter.mpr ⟨List.mem_range.mpr (Heap.lt_size e'),by simp [q]⟩;have z:(hidT h H).get? b=none:=W.hideAll_none (trk h H) hm;rw [z] at e; cases e
def B7j (g h:Heap) (L:Addr):List (Addr × Obj):=(List.range h.objs.size).filterMap fun a=>if a=L\/(g.get? a).isSome=true then none else (h.get? a).map fun o=>(a,o)
def rest (g h:Heap) (L d:Addr):List (Addr × Obj):=(B7j g h L).filter fun p=>decide (p.1≠d)
structure Mod (K:W.Frag) (mg:Str->Option Value) (base:Heap):Prop where
 kin:K.In base
 glob:base.Ns mainGlobals mg
 blt:∃ mb,base.Ns builtinsNs mb/\∀ x:Str,x≠"__name__"->mb x=bootBuiltins x
 nolimit:base.NoLimit
structure Cx where
 prog:Program
 w:World
 K:W.Frag
 mg:Str->Option Value
 base:Heap
 A:Around
 N:List Str
 s₀:Shared
 H₀:Hp
 env:Env
 outer:List Env
 stack:List Env
 ex:List Addr
 fn:Str->Bool
 calm:Bool
 pn:List (Addr × Obj)
 xe:Value->Shared->Prop
def frs (l:List Env):List Addr:=l.filterMap (·.frame)
abbrev Cx.fs (X:Cx):List Addr:=frs X.outer
def Vis (sc:Scope) (x:Str):Prop:=sc.names.lookup x=some .local\/sc.names.lookup x=some .cell\/sc.names.lookup x=some .free
def Loc (sc:Scope) (x:Str):Prop:=sc.names.lookup x=some .local\/sc.names.lookup x=some .cell
def Look (env:Env) (h:Heap) (m:Str->Option Value) (x:Str) (u:Value):Prop :=
 (env.kindOf x=some .local/\m x=some u)\/((env.kindOf x=some .cell\/env.kindOf x=some .free)/\∃ c,env.cells.lookup x=some c/\h.IsCell c (some u))
structure Cx.Ok (X:Cx):Prop where
 mod:Mod X.K X.mg X.base
 kind:X.env.scope.kind=.function
 glob:X.env.globals=mainGlobals
 blt:X.env.builtins=builtinsNs
 above:X.s₀.heap.objs.size<=X.env.locals
 inj:∀ x y c,X.env.cells.lookup x=some c->X.env.cells.lookup y=some c->x=y
 has:∀ x,(X.env.kindOf x=some .cell\/X.env.kindOf x=some .free)->∃ c,X.env.cells.lookup x=some c
 cab:∀ x c,X.fn x=true->X.env.cells.lookup x=some c->X.s₀.heap.objs.size<=c
 hd:X.calm=true->X.A.handled=none
 frames:X.A.frames=some X.stack
 stk:X.stack=X.outer\/(X.stack=X.env :: X.outer/\X.env.frame=some X.env.locals)
 exf:∀ b ∈ X.ex,b≠X.env.locals/\∀ x c,X.env.cells.lookup x=some c->c≠b
 bs:∀ b o,X.base.get? b=some o->X.s₀.heap.get? b=some o/\X.H₀ b=none
 bsz:X.base.objs.size<=X.s₀.heap.objs.size
 noex:∀ b o,X.base.get? b=some o->b ∉ X.ex
 exfs:∀ b ∈ X.ex,b ∉ X.fs
 funs:X.s₀.heap.FunFrames X.base X.outer
 frf:∀ b ∈ X.fs,X.H₀ b=none
structure Inv (X:Cx) (pins:List (Addr × Obj)) (σ:List (Option V)) (H:Hp) (s:Shared):Prop where
 ok:X.Ok
 os:s.os=X.s₀.os
 bare:AllBare s.gens
 base:Un X.fs X.ex X.H₀ H X.s₀.heap s.heap
 loc:∃ m,s.heap.Ns X.env.locals m/\∀ (i:Nat) (x:Str) (v:V),X.N[i]?=some x->σ[i]?=some (some v)->Vis X.env.scope x->∃ u,RelV v u/\Look X.env s.heap m x u
 cell:∀ x c,X.env.cells.lookup x=some c->∃ v,s.heap.IsCell c v
 free:H X.env.locals=none
 freeC:∀ x c,X.env.cells.lookup x=some c->H c=none
 pin:∀ p ∈ X.pn++pins,s.heap.get? p.1=some p.2/\H p.1=none/\p.1≠X.env.locals/\p.1 ∉ X.fs/\∀ v,p.2.data≠.cell v
 hok:HOk X.prog X.w H s.heap
 len:σ.length=X.N.length
section
variable {X:Cx} {pins:List (Addr × Obj)} {σ:List (Option V)} {H H':Hp} {s:Shared} {h':Heap}
def Cx.Ok.nofr (ok:X.Ok) {b:Addr} {o:Obj} (e:X.base.get? b=some o):b ∉ X.fs:=fun hb=>by
 have:=(ok.funs.mem hb).1;rw [e] at this; cases this
def Inv.bs (I:Inv X pins σ H s):∀ b o,X.base.get? b=some o->s.heap.get? b=some o/\H b=none:=fun b o e =>
 ⟨I.base.keep b o (I.ok.bs b o e).1 (I.ok.bs b o e).2 (I.ok.nofr e) (I.ok.noex b o e),I.base.free b o (I.ok.bs b o e).1 (I.ok.bs b o e).2 (I.ok.noex b o e)⟩
def Inv.bk (I:Inv X pins σ H s):∀ b o,X.base.get? b=some o->s.heap.get? b=some o:=fun b o e=>(I.bs b o e).1
def Inv.mod (I:Inv X pins σ H s):Mod X.K X.mg X.base:=I.ok.mod
def Inv.kIn (I:Inv X pins σ H s):X.K.In s.heap:=I.ok.mod.kin.keeps I.bk
def Inv.lt (I:Inv X pins σ H s):X.env.locals < s.heap.objs.size:=let ⟨_,hn,_⟩:=I.loc; hn.lt
def Inv.sz (I:Inv X pins σ H s):X.s₀.heap.objs.size<=s.heap.objs.size:=Zx I.ok.above (Nat.le_of_lt I.lt)
def Inv.nofs (I:Inv X pins σ H s) {a:Addr} (h:s.heap.objs.size<=a):a ∉ X.fs:=fun hb=>by
 obtain ⟨_,o,ho,_⟩:=I.ok.funs.mem hb;exact absurd (Nat.lt_of_lt_of_le (Heap.lt_size ho) (Zx I.sz h)) (Nat.lt_irrefl _)
def Inv.cne (I:Inv X pins σ H s):∀ x c,X.env.cells.lookup x=some c->c≠X.env.locals:=fun x c e z=>by
 obtain ⟨v,o,ho,hd⟩:=I.cell x c e;obtain ⟨m,⟨o',es,ep,ho',hd',_⟩,_⟩:=I.loc;rw [z,ho'] at ho; cases ho; rw [hd'] at hd; cases hd
def Inv.funs (I:Inv X pins σ H s):s.heap.FunFrames X.base X.outer:=by
 have all:∀ (l:List Env),(∀ b ∈ frs l,b ∈ X.fs)->X.s₀.heap.FunFrames X.base l->s.heap.FunFrames X.base l:=by
  intro l;induction l with
  | nil=>intro _ _; trivial
  | cons env r ih =>
   intro hs hl;obtain ⟨hk,⟨L,o,hf,hn,ho,hd⟩,hr⟩:=hl;have hL:L ∈ X.fs:=hs L (by unfold frs; rw [List.filterMap_cons,hf]; exact Zy);obtain ⟨sl,e⟩:=I.base.slot L o ho (I.ok.frf L hL) hL fun z=>I.ok.exfs L z hL;exact ⟨hk,⟨L,_,hf,hn,e,hd⟩,ih (fun b hb=>hs b (by unfold frs; rw [List.filterMap_cons,hf]; exact Zr _ hb)) hr⟩
 exact all X.outer (fun _ hb=>hb) I.ok.funs
def Inv.stack (I:Inv X pins σ H s):s.heap.FunFrames X.base X.stack:=by
 rcases I.ok.stk with e | ⟨e,hf⟩
 ·rw [e]; exact I.funs
 ·rw [e];obtain ⟨m,hn,_⟩:=I.loc;refine .cons (by rw [I.ok.kind]; decide) hf hn ?_ I.funs;exact Heap.get?_none_of_le (Zx I.ok.bsz I.ok.above)
def Inv.stkSub (I:Inv X pins σ H s):∀ b ∈ frs X.stack,b ∈ X.env.locals :: X.fs:=fun b hb=>by
 rcases I.ok.stk with e | ⟨e,hf⟩
 ·rw [e] at hb; exact Zr _ hb
 ·rw [e] at hb;unfold frs at hb;rw [List.filterMap_cons,hf] at hb;exact hb
def Inv.stkFree (I:Inv X pins σ H s):∀ b ∈ frs X.stack,H b=none:=fun b hb=>by
 rcases List.mem_cons.mp (I.stkSub b hb) with e | hb
 ·rw [e]; exact I.free
 ·obtain ⟨_,o,ho,_⟩:=I.ok.funs.mem hb;exact I.base.free b o ho (I.ok.frf b hb) fun z=>I.ok.exfs b z hb
def Inv.step {g':Array GenState} {t':Nat} {d':Drawn} {ch:List Addr} (I:Inv X pins σ H s)
  (hch:∀ b ∈ ch,(b ∈ X.ex\/X.s₀.heap.objs.size<=b)/\b≠X.env.locals/\(∀ x c,X.env.cells.lookup x=some c->c≠b)/\∀ p ∈ X.pn++pins,p.1≠b)
  (keep:∀ b o,b≠X.env.locals->b ∉ X.fs->b ∉ ch->s.heap.get? b=some o->H b=none->h'.get? b=some o)
  (slot:∀ b o,b≠X.env.locals->b ∈ X.fs->b ∉ ch->s.heap.get? b=some o->H b=none->∃ sl,h'.get? b=some { o with slots:=sl }) (free:∀ b o,b ∉ ch->s.heap.get? b=some o->H b=none->H' b=none)
  (there:∀ b o,b ∉ ch->s.heap.get? b=some o->∃ o',h'.get? b=some o')
  (tups:∀ b xs,H b=some (.tup xs)->H' b=some (.tup xs)) (frzs:∀ b o u,H b=some (.frz o u)->H' b=some (.frz o u)) (tbls:∀ b ps,H b=some (.tbl ps)->∃ more,H' b=some (.tbl (ps++more)))
  (ns:∀ m,s.heap.Ns X.env.locals m->h'.Ns X.env.locals m) (hok:HOk X.prog X.w H' h') (hg:AllBare g') :
  Inv X pins σ H' { s with heap:=h',gens:=g',drawn:=d',toks:=t' }:=by
 have neL:∀ b o,X.s₀.heap.get? b=some o->b≠X.env.locals:=fun b o e=>Nat.ne_of_lt (Nat.lt_of_lt_of_le (Heap.lt_size e) I.ok.above);have neC:∀ b o,X.s₀.heap.get? b=some o->b ∉ X.ex->b ∉ ch:=fun b o e hx hb=>by
  rcases (hch b hb).1 with z | z
  ·exact hx z
  ·exact absurd (Nat.lt_of_lt_of_le (Heap.lt_size e) z) (Nat.lt_irrefl _)
 have cellK:∀ x c,X.env.cells.lookup x=some c->∀ v,s.heap.IsCell c v->h'.IsCell c v:=fun x c e v ⟨o,ho,hd⟩=>by
  have nch:c ∉ ch:=fun z=>(hch c z).2.2.1 x c e rfl;by_cases hc:c ∈ X.fs
  ·obtain ⟨sl,q⟩:=slot c o (I.cne x c e) hc nch ho (I.freeC x c e);exact ⟨_,q,hd⟩
  ·exact ⟨o,keep c o (I.cne x c e) hc nch ho (I.freeC x c e),hd⟩
 refine ⟨I.ok,I.os,hg,⟨fun b o e n hb hx=>?_,fun b o e n hb hx=>?_,fun b o e n hx=>?_,fun b o e hx=>?_,fun b xs e=>tups b xs (I.base.tups b xs e),fun b o xs e=>frzs b o xs (I.base.frzs b o xs e),fun b ps e=>?_⟩,?_,fun x c e=>?_,?_,fun x c e=>?_,fun p hp=>?_,hok,I.len⟩
 ·exact keep b o (neL b o e) hb (neC b o e hx) (I.base.keep b o e n hb hx) (I.base.free b o e n hx)
 ·obtain ⟨sl,e1⟩:=I.base.slot b o e n hb hx;obtain ⟨sl',e2⟩:=slot b _ (neL b o e) hb (neC b o e hx) e1 (I.base.free b o e n hx);exact ⟨sl',e2⟩
 ·obtain ⟨o',e1⟩:=I.base.there b o e hx;exact free b o' (neC b o e hx) e1 (I.base.free b o e n hx)
 ·obtain ⟨o',e1⟩:=I.base.there b o e hx;exact there b o' (neC b o e hx) e1
 ·obtain ⟨m1,e1⟩:=I.base.tbls b ps e;obtain ⟨m2,e2⟩:=tbls b _ e1;exact ⟨m1++m2,by rw [e2,Array.append_assoc]⟩
 ·obtain ⟨m,hn,hl⟩:=I.loc;refine ⟨m,ns m hn,fun i x v e1 e2 e3=>?_⟩;obtain ⟨u,r,l⟩:=hl i x v e1 e2 e3;refine ⟨u,r,?_⟩;rcases l with l | ⟨k,c,e,z⟩
  ·exact .inl l
  ·exact .inr ⟨k,c,e,cellK x c e _ z⟩
 ·obtain ⟨v,z⟩:=I.cell x c e;exact ⟨v,cellK x c e v z⟩
 ·obtain ⟨m,⟨o,_,_,ho,_⟩,_⟩:=I.loc;exact free _ o (fun z=>(hch _ z).2.1 rfl) ho I.free
 ·obtain ⟨v,o,ho,hd⟩:=I.cell x c e;exact free c o (fun z=>(hch c z).2.2.1 x c e rfl) ho (I.freeC x c e)
 ·obtain ⟨e,n,ne,nf,d⟩:=I.pin p hp;have nch:p.1 ∉ ch:=fun z=>(hch p.1 z).2.2.2 p hp rfl;exact ⟨keep p.1 p.2 ne nf nch e n,free p.1 p.2 nch e n,ne,nf,d⟩
def Inv.un {t':Nat} (I:Inv X pins σ H s) (u:Un X.fs [] H H' s.heap h') (hok:HOk X.prog X.w H' h'):Inv X pins σ H' { s with heap:=h',toks:=t' }:=by
 obtain ⟨m,⟨o,es,ep,ho,r⟩,_⟩:=id I.loc;obtain ⟨sl,hL⟩:=u.any ho I.free (by simp);exact I.step (g':=s.gens) (d':=s.drawn) (ch:=[]) (fun _ z=>nomatch z) (fun b o _ hb _ e n=>u.keep b o e n hb (by simp)) (fun b o _ hb _ e n=>u.slot b o e n hb (by simp)) (fun b o _ e n=>u.free b o e n (by simp)) (fun b o _ e=>u.there b o e (by simp)) u.tups u.frzs u.tbls (fun m' hm=>by
  obtain ⟨o',es',ep',ho',r'⟩:=hm;rw [ho] at ho'; cases ho';exact ⟨_,es',ep',hL,r'⟩) hok I.bare
def Inv.call {g':Array GenState} {t':Nat} {d':Drawn} {ch:List Addr} (I:Inv X pins σ H s) (u:Un (frs X.stack) ch H H' s.heap h') (hok:HOk X.prog X.w H' h') (hg:AllBare g')
  (hch:∀ b ∈ ch,(b ∈ X.ex\/X.s₀.heap.objs.size<=b)/\b≠X.env.locals/\(∀ x c,X.env.cells.lookup x=some c->c≠b)/\∀ p ∈ X.pn++pins,p.1≠b) :
  Inv X pins σ H' { s with heap:=h',gens:=g',drawn:=d',toks:=t' }:=by
 obtain ⟨m,⟨o,es,ep,ho,r⟩,_⟩:=id I.loc;obtain ⟨sl,hL⟩:=u.any ho I.free fun z=>(hch _ z).2.1 rfl;exact I.step (ch:=ch) hch (fun b o hL hb hc e n=>u.keep b o e n (fun z=>(List.mem_cons.mp (I.stkSub b z)).elim hL hb) hc) (fun b o _ _ hc e n=>u.any e n hc) (fun b o hc e n=>u.free b o e n hc) (fun b o hc e=>u.there b o e hc) u.tups u.frzs u.tbls (fun m' hm=>by
  obtain ⟨o',es',ep',ho',r'⟩:=hm;rw [ho] at ho'; cases ho';exact ⟨_,es',ep',hL,r'⟩) hok hg
def Inv.turned {t':Nat} {it:Addr} (I:Inv X pins σ H s) (k:∀ b o,b≠it->s.heap.get? b=some o->h'.get? b=some o) (hn:H it=none) (hL:it≠X.env.locals)
  (h1:it ∈ X.ex\/X.s₀.heap.objs.size<=it) (h2:∀ x c,X.env.cells.lookup x=some c->c≠it) (h3:∀ p ∈ X.pn++pins,p.1≠it):Inv X pins σ H { s with heap:=h',toks:=t' }:=by
 have nit:∀ b u,H b=some u->b≠it:=fun b u e z=>by rw [z,hn] at e; cases e
 refine I.step (g':=s.gens) (d':=s.drawn) (ch:=[it]) (fun b hb=>?_) (fun b o _ _ hc e _=>k b o (fun z=>hc (by simp [z])) e) (fun b o _ _ hc e _=>⟨o.slots,k b o (fun z=>hc (by simp [z])) e⟩) (fun _ _ _ _ n=>n)
  (fun b o hc e=>⟨o,k b o (fun z=>hc (by simp [z])) e⟩) (fun _ _ e=>e) (fun _ _ _ e=>e) (fun b ps e=>⟨#[],by rw [e]; simp⟩) (fun m hm=>?_) (fun b u e=>?_) I.bare
 ·have e:b=it:=by simpa using hb
  subst e;exact ⟨h1,hL,h2,h3⟩
 ·obtain ⟨o,es,ep,ho,r⟩:=hm;exact ⟨o,es,ep,k _ o (Ne.symm hL) ho,r⟩
 ·refine (I.hok b u e).stay (fun c v hc q=>k c v ?_ q) (fun _ q=>q) fun _ _ q=>q;rcases hc with z | z
  ·rw [z]; exact nit b u e
  ·exact nit c _ z
def Inv.tok (I:Inv X pins σ H s) (t:Nat):Inv X pins σ H { s with toks:=t }:=I.un (h':=s.heap) (t':=t) Un.refl I.hok
def Inv.kept {t':Nat} (I:Inv X pins σ H s) (k:∀ b u,s.heap.get? b=some u->h'.get? b=some u):Inv X pins σ H { s with heap:=h',toks:=t' }:=I.un (Un.kept k) (I.hok.kept k)
def Inv.laid {a:Addr} {o:HO} {t':Nat} (I:Inv X pins σ H s) (k:∀ b u,s.heap.get? b=some u->h'.get? b=some u) (hp:s.heap.objs.size<=a) (new:ObjOk X.prog X.w (upd H a o) h' a o) :
  Inv X pins σ (upd H a o) { s with heap:=h',toks:=t' }:=I.un (Un.laid k hp (I.hok.fresh hp)) (I.hok.laid k hp new)
def Inv.write {x e:Addr} {o:HO} {t':Nat} (I:Inv X pins σ H s) (mu:Mut (H x)) (he:e=x\/H e=some (.own x)) (k:∀ b u,b≠e->s.heap.get? b=some u->h'.get? b=some u) (heo:∃ u,h'.get? e=some u)
  (new:ObjOk X.prog X.w (upd H x o) h' x o):Inv X pins σ (upd H x o) { s with heap:=h',toks:=t' }:=I.un (Un.write mu he k heo) (I.hok.write mu he k heo new)
def Inv.pins_of {pins':List (Addr × Obj)} (I:Inv X pins σ H s) (h:∀ p ∈ pins',s.heap.get? p.1=some p.2/\H p.1=none/\p.1≠X.env.locals/\p.1 ∉ X.fs/\∀ v,p.2.data≠.cell v):Inv X pins' σ H s :=
 ⟨I.ok,I.os,I.bare,I.base,I.loc,I.cell,I.free,I.freeC,fun p hp=>(Za hp).elim (fun z=>I.pin p (Zt _ z)) (h p),I.hok,I.len⟩
def A0w {N:List Str} (hN:N.Nodup) {i j:Nat} {x:Str} (a:N[i]?=some x) (b:N[j]?=some x):i=j:=by
 obtain ⟨h1,e1⟩:=Zs a;obtain ⟨h2,e2⟩:=Zs b;exact (List.getElem_inj hN).mp (e1.trans e2.symm)
def A1b {M:Model} {A:Around} {E:Value->Shared->Prop} {i:Nat} {x:Str} {v:V} {u:Value} {Q:Unit->Shared->Prop} (I:Inv X pins σ H s) (hN:X.N.Nodup) (hi:X.N[i]?=some x) (hx:Loc X.env.scope x) (r:RelV v u)
  (h:∀ s',Inv X pins (σ.set i (some v)) H s'->(∃ a,Heap.SameBut a s.heap s'.heap/\(a=X.env.locals\/X.env.cells.lookup x=some a))->Q () s') (hf:X.fn x=true\/X.env.scope.names.lookup x=some .local:=by first | exact .inl rfl | exact .inr rfl | assumption):wpAny M A (storeName X.env x u) Q E s:=by
 obtain ⟨m,hn,hl⟩:=id I.loc;have hcls:(X.env.scope.kind == .class || (X.env.scope.kind == .module && X.env.locals != X.env.globals))=false:=by rw [I.ok.kind]; rfl
 have hiσ:i < σ.length:=by rw [I.len]; exact (Zs hi).1
 have cne:=I.cne;have tracked:∀ {a:Addr} {h':Heap},(∃ o,s.heap.get? a=some o/\H a=none)->Heap.SameBut a s.heap h'->HOk X.prog X.w H h':=fun {a h'} ha hs b ob e=>by
  obtain ⟨_,_,hfree⟩:=ha;refine (I.hok b ob e).stay (fun c w' hc q=>(hs.2 c ?_).trans q) (fun _ q=>q) fun _ _ q=>q;rintro rfl;rcases hc with rfl | hc
  ·rw [hfree] at e; cases e
  ·rw [hfree] at hc; cases hc
 rcases hx with hk | hk
 ·refine wpAny_storeName_local hk hn (fun h' hn' hs=>?_) hcls;obtain ⟨oL,_,_,hoL,_⟩:=id hn;refine h _ ⟨I.ok,I.os,I.bare,⟨fun b o e n hb hx=>?_,fun b o e n hb hx=>?_,I.base.free,fun b o e hx=>?_,I.base.tups,I.base.frzs,I.base.tbls⟩,⟨_,hn',fun j y v' e1 e2 e3=>?_⟩,fun y c e=>?_,I.free,I.freeC,fun p hp=>?_,tracked ⟨oL,hoL,I.free⟩ hs,by simpa using I.len⟩ ⟨_,hs,.inl rfl⟩
  ·exact (hs.2 b (Nat.ne_of_lt (Nat.lt_of_lt_of_le (Heap.lt_size e) I.ok.above))).trans (I.base.keep b o e n hb hx)
  ·obtain ⟨sl,e1⟩:=I.base.slot b o e n hb hx;exact ⟨sl,(hs.2 b (Nat.ne_of_lt (Nat.lt_of_lt_of_le (Heap.lt_size e) I.ok.above))).trans e1⟩
  ·obtain ⟨o',e1⟩:=I.base.there b o e hx;exact ⟨o',(hs.2 b (Nat.ne_of_lt (Nat.lt_of_lt_of_le (Heap.lt_size e) I.ok.above))).trans e1⟩
  ·by_cases hj:j=i
   ·subst hj;rw [hi] at e1; cases e1;rw [List.getElem?_set_self hiσ] at e2;cases e2;exact ⟨u,r,.inl ⟨hk,by simp⟩⟩
   ·rw [List.getElem?_set_ne (Ne.symm hj)] at e2;obtain ⟨u',r',q⟩:=hl j y v' e1 e2 e3;refine ⟨u',r',?_⟩;rcases q with ⟨k,e⟩ | ⟨k,c,e,z⟩
    ·refine .inl ⟨k,?_⟩;have:y≠x:=fun e=>hj (A0w hN e1 (e ▸ hi));simp [this,e]
    ·exact .inr ⟨k,c,e,z.sameBut hs (cne y c e)⟩
  ·obtain ⟨w',z⟩:=I.cell y c e;exact ⟨w',z.sameBut hs (cne y c e)⟩
  ·obtain ⟨e,n,ne,nf,d⟩:=I.pin p hp;exact ⟨(hs.2 p.1 ne).trans e,n,ne,nf,d⟩
 ·have hfn:X.fn x=true:=by
   rcases hf with z | z
   ·exact z
   ·rw [z] at hk; cases hk
  obtain ⟨c,hc⟩:=I.ok.has x (.inl hk);obtain ⟨w',z⟩:=I.cell x c hc;refine wpAny_storeName_cell I.ok.kind hk hc z (fun h' hc' hs=>?_);obtain ⟨oc,hoc,hocd⟩:=id z;refine h { s with heap:=h' } ⟨I.ok,I.os,I.bare,⟨fun b o e n hb hx=>?_,fun b o e n hb hx=>?_,I.base.free,fun b o e hx=>?_,I.base.tups,I.base.frzs,I.base.tbls⟩,⟨m,hn.sameBut hs (Ne.symm (cne x c hc)),fun j y v' e1 e2 e3=>?_⟩,fun y c' e=>?_,I.free,I.freeC,fun p hp=>?_,tracked ⟨oc,hoc,I.freeC x c hc⟩ hs,by simpa using I.len⟩ ⟨c,hs,.inr hc⟩
  ·exact (hs.2 b (Nat.ne_of_lt (Nat.lt_of_lt_of_le (Heap.lt_size e) (I.ok.cab x c hfn hc)))).trans (I.base.keep b o e n hb hx)
  ·obtain ⟨sl,e1⟩:=I.base.slot b o e n hb hx;exact ⟨sl,(hs.2 b (Nat.ne_of_lt (Nat.lt_of_lt_of_le (Heap.lt_size e) (I.ok.cab x c hfn hc)))).trans e1⟩
  ·obtain ⟨o',e1⟩:=I.base.there b o e hx;exact ⟨o',(hs.2 b (Nat.ne_of_lt (Nat.lt_of_lt_of_le (Heap.lt_size e) (I.ok.cab x c hfn hc)))).trans e1⟩
  ·by_cases hj:j=i
   ·subst hj;rw [hi] at e1; cases e1;rw [List.getElem?_set_self hiσ] at e2;cases e2;exact ⟨u,r,.inr ⟨.inl hk,c,hc,hc'⟩⟩
   ·rw [List.getElem?_set_ne (Ne.symm hj)] at e2;obtain ⟨u',r',q⟩:=hl j y v' e1 e2 e3;refine ⟨u',r',?_⟩;rcases q with q | ⟨k,c',e,z'⟩
    ·exact .inl q
    ·refine .inr ⟨k,c',e,z'.sameBut hs ?_⟩;rintro rfl;exact hj (A0w hN e1 (I.ok.inj _ _ _ e hc ▸ hi))
  ·by_cases hcc:c'=c
   ·subst hcc; exact ⟨_,hc'⟩
   ·obtain ⟨w2,z2⟩:=I.cell y c' e;exact ⟨w2,z2.sameBut hs hcc⟩
  ·obtain ⟨e,n,ne,nf,d⟩:=I.pin p hp;refine ⟨(hs.2 p.1 ?_).trans e,n,ne,nf,d⟩;intro q;rw [q,hoc] at e;have q':oc=p.2:=Zj e;exact d w' (by rw [<- q']; exact hocd)
def L8 {M:Model} {A:Around} {E:Value->Shared->Prop} {i:Nat} {x:Str} {v:V} {u:Value} {Q:Unit->Shared->Prop} (I:Inv X pins σ H s) (hN:X.N.Nodup) (hi:X.N[i]?=some x) (hx:Loc X.env.scope x) (r:RelV v u)
  (h:∀ s',Inv X pins (σ.set i (some v)) H s'->Q () s') (hf:X.fn x=true\/X.env.scope.names.lookup x=some .local:=by first | exact .inl rfl | exact .inr rfl | assumption):wpAny M A (storeName X.env x u) Q E s :=
 A1b I hN hi hx r (fun s' I' _=>h s' I') hf
def Inv.call' {s':Shared} {ch:List Addr} (I:Inv X pins σ H s) (ho:s'.os=s.os) (u:Un (frs X.stack) ch H H' s.heap s'.heap) (hok:HOk X.prog X.w H' s'.heap) (hg:AllBare s'.gens)
  (hch:∀ b ∈ ch,(b ∈ X.ex\/X.s₀.heap.objs.size<=b)/\b≠X.env.locals/\(∀ x c,X.env.cells.lookup x=some c->c≠b)/\∀ p ∈ X.pn++pins,p.1≠b):Inv X pins σ H' s':=by
 obtain ⟨h',g',d',t',o'⟩:=s';have e:o'=s.os:=ho;subst e;exact I.call (g':=g') (t':=t') (d':=d') u hok hg hch
end
abbrev XK:=Value->Option Addr->Hp->Prop
abbrev St:=List (Option V)
abbrev VK:=V->Hp->Prop
abbrev TE:=St->Hp->VK->Prop
abbrev TT:=St->Hp->(Bool->Hp->Prop)->Prop
abbrev TA:=St->Hp->(List V->Hp->Prop)->Prop
structure Ends where
 nx:St->Hp->Prop
 rt:VK
 bk:St->Hp->Prop:=fun _ _=>False
 ct:St->Hp->Prop:=fun _ _=>False
abbrev TS:=Ends->St->Hp->Prop
def EP (X:Cx) (pins:List (Addr × Obj)) (σ:St) (Q:VK) (u:Value) (s':Shared):Prop:=∃ v H',Inv X pins σ H' s'/\RelV v u/\Q v H'
def TP (X:Cx) (pins:List (Addr × Obj)) (σ:St) (Q:Bool->Hp->Prop) (b:Bool) (s':Shared):Prop:=∃ H',Inv X pins σ H' s'/\Q b H'
def AP (X:Cx) (pins:List (Addr × Obj)) (σ:St) (Q:List V->Hp->Prop) (us:List Value) (s':Shared):Prop:=∃ vs H',Inv X pins σ H' s'/\Vals vs us/\Q vs H'
def SP (X:Cx) (pins:List (Addr × Obj)) (D:Ends) (f:Flow) (s':Shared):Prop :=
 match f with
 | .next=>∃ σ' H',Inv X pins σ' H' s'/\D.nx σ' H'
 | .brk=>∃ σ' H',Inv X pins σ' H' s'/\D.bk σ' H'
 | .cont=>∃ σ' H',Inv X pins σ' H' s'/\D.ct σ' H'
 | .ret u=>∃ v σ' H',Inv X pins σ' H' s'/\RelV v u/\D.rt v H'
def PE (X:Cx) (e:Expr) (t:TE):Prop :=
 ∀ (pins:List (Addr × Obj)) (s:Shared) (σ:St) (H:Hp) (Q:VK),Inv X pins σ H s->t σ H Q->wpAny (model X.prog X.w) X.A (eval e X.env) (EP X pins σ Q) X.xe s
def PT (X:Cx) (e:Expr) (t:TT):Prop :=
 ∀ (pins:List (Addr × Obj)) (s:Shared) (σ:St) (H:Hp) (Q:Bool->Hp->Prop),Inv X pins σ H s->t σ H Q->wpAny (model X.prog X.w) X.A (isTrue e X.env (eval e X.env)) (TP X pins σ Q) X.xe s
def PW (X:Cx) (e:Expr) (t:TT):Prop :=
 ∀ (whole:Sem Value) (pins:List (Addr × Obj)) (s:Shared) (σ:St) (H:Hp) (Q:Bool->Hp->Prop),Inv X pins σ H s->t σ H Q->wpAny (model X.prog X.w) X.A (isTrue e X.env whole) (TP X pins σ Q) X.xe s
def PW.pt {X:Cx} {e:Expr} {t:TT} (h:PW X e t):PT X e t:=h _
def PA (X:Cx) (es:List Expr) (t:TA):Prop :=
 ∀ (pos:Pos) (pins:List (Addr × Obj)) (s:Shared) (σ:St) (H:Hp) (Q:List V->Hp->Prop),Inv X pins σ H s->t σ H Q->wpAny (model X.prog X.w) X.A (spliced (backTo pos (starEach es X.env))) (AP X pins σ Q) X.xe s
def PS (X:Cx) (st:Stmt) (t:TS):Prop :=
 ∀ (pins:List (Addr × Obj)) (s:Shared) (σ:St) (H:Hp) (D:Ends),Inv X pins σ H s->t D σ H->wpAny (model X.prog X.w) X.A (exec st X.env) (SP X pins D) X.xe s
def PSs (X:Cx) (st:List Stmt) (t:TS):Prop :=
 ∀ (pins:List (Addr × Obj)) (s:Shared) (σ:St) (H:Hp) (D:Ends),Inv X pins σ H s->t D σ H->wpAny (model X.prog X.w) X.A (execs st X.env) (SP X pins D) X.xe s
def thn {α:Type} {t:Sem α} {Q Q':α->Shared->Prop} {M:Model} {A:Around} {E:Value->Shared->Prop} {s:Shared} (h:wpAny M A t Q E s) (hQ:∀ a s,Q a s->Q' a s):wpAny M A t Q' E s:=wpAny_mono h hQ fun _ _ x=>x
section
variable {X:Cx}
def bin {a b:Expr} {ta tb:TE} (ha:PE X a ta) (hb:PE X b tb) {pins:List (Addr × Obj)} {s:Shared} {σ:St} {H:Hp} {R:V->V->Hp->Prop} (I:Inv X pins σ H s) (h:ta σ H fun x H1=>tb σ H1 fun y H2=>R x y H2)
  {α:Type} {Q:α->Shared->Prop} {f:Value->Value->Sem α}
  (hf:∀ v u s2 x y H2,Inv X pins σ H2 s2->RelV x v->RelV y u->R x y H2->wpAny (model X.prog X.w) X.A (f v u) Q X.xe s2) :
  wpAny (model X.prog X.w) X.A (eval a X.env) (fun v s₁=>wpAny (model X.prog X.w) X.A (eval b X.env) (fun u s₂=>wpAny (model X.prog X.w) X.A (f v u) Q X.xe s₂) X.xe s₁) X.xe s:=by
 refine thn (ha pins s σ H _ I h) fun v s1 ⟨x,H1,I1,r1,q1⟩=>?_;refine thn (hb pins s1 σ H1 _ I1 q1) fun u s2 ⟨y,H2,I2,r2,q2⟩=>?_;exact hf v u s2 x y H2 I2 r1 r2 q2
def tVar (i:Nat):TE:=fun σ H Q=>∃ v,σ[i]?=some (some v)/\Q v H
def tC (v:V):TE:=fun _ H Q=>Q v H
def Z4 {i:Nat} {x:Str} {pos:Pos} (hN:X.N[i]?=some x) (hv:Vis X.env.scope x) (hd:(x == ("__debug__":Str))=false:=by decide) (hcd:(x == ("__classdict__":Str))=false:=by decide):PE X (.Name x pos) (tVar i):=by
 intro pins s σ H Q I h;obtain ⟨v,e,h⟩:=h;obtain ⟨m,hn,hl⟩:=I.loc;obtain ⟨u,r,l⟩:=hl i x v hN e hv;have fin:EP X pins σ Q u s:=⟨v,H,I,r,h⟩;rcases l with ⟨hk,hm⟩ | ⟨hk,c,hc,hcell⟩
 ·exact wpAny_Name (wpAny_loadName_local I.ok.kind hk hn hm fin) hd
 ·rcases hk with hk | hk
  ·exact wpAny_Name (wpAny_loadName_cell I.ok.kind hk hc hcell fin) hd
  ·exact wpAny_Name (wpAny_loadName_free I.ok.kind hk hc hcell fin hcd) hd
def E8 {i j pos}:PE X (.Constant (.int i) j pos) (tC (.int i)):=fun _ _ _ H _ I h=>wpAny_Constant_int ⟨.int i,H,I.tok _,⟨_,rfl⟩,h⟩
def C2o {b j pos}:PE X (.Constant (.bool b) j pos) (tC (.bl b)):=fun _ _ _ H _ I h=>Constant_bool ⟨.bl b,H,I,rfl,h⟩
def B8r {j pos}:PE X (.Constant .none j pos) (tC .non):=fun _ _ _ H _ I h=>Constant_none ⟨.non,H,I,rfl,h⟩
def B8q {x j pos}:PE X (.Constant (.str x) j pos) (tC (.str x)):=fun _ _ _ H _ I h=>Calls.Constant_str ⟨.str x,H,I.tok _,⟨_,rfl⟩,h⟩
def Gl (X:Cx) (x:Str):Prop:=X.env.kindOf x=some .globalImplicit
def R3 {E:Value->Shared->Prop} {pins:List (Addr × Obj)} {s:Shared} {σ:St} {H:Hp} {x:Str} {u:Value} {pos:Pos} {Q:Value->Shared->Prop} (I:Inv X pins σ H s) (hg:Gl X x) (hm:X.mg x=some u) (h:Q u s)
  (hd:(x == ("__debug__":Str))=false:=by decide):wpAny (model X.prog X.w) X.A (eval (.Name x pos) X.env) Q E s :=
 Calls.Name_function_global I.ok.kind hg (Calls.loadGlobal_global (by rw [I.ok.glob]; exact I.mod.glob.keeps I.bk) hm h) hd
def Z9 {E:Value->Shared->Prop} {pins:List (Addr × Obj)} {s:Shared} {σ:St} {H:Hp} {x:Str} {u:Value} {pos:Pos} {Q:Value->Shared->Prop} (I:Inv X pins σ H s) (hg:Gl X x) (hm:X.mg x=none) (hv:bootBuiltins x=some u) (h:Q u s)
  (hn:x≠"__name__":=by decide) (hd:(x == ("__debug__":Str))=false:=by decide):wpAny (model X.prog X.w) X.A (eval (.Name x pos) X.env) Q E s:=by
 obtain ⟨mb,h1,h2⟩:=I.mod.blt;exact Calls.Name_function_global I.ok.kind hg (Calls.loadGlobal_builtin (by rw [I.ok.glob]; exact I.mod.glob.keeps I.bk) hm (by rw [I.ok.blt]; exact h1.keeps I.bk) ((h2 x hn).trans hv) h) hd
def A7c {x:Str} {v:V} {u:Value} {pos:Pos} (hg:Gl X x) (hm:X.mg x=some u) (r:RelV v u) (hd:(x == ("__debug__":Str))=false:=by decide):PE X (.Name x pos) (tC v) :=
 fun _ _ _ H _ I h=>R3 I hg hm ⟨v,H,I,r,h⟩ hd
def B4d {x:Str} {v:V} {u:Value} {pos:Pos} (hg:Gl X x) (hm:X.mg x=none) (hv:bootBuiltins x=some u) (r:RelV v u) (hn:x≠"__name__":=by decide) (hd:(x == ("__debug__":Str))=false:=by decide):PE X (.Name x pos) (tC v) :=
 fun _ _ _ H _ I h=>Z9 I hg hm hv ⟨v,H,I,r,h⟩ hn hd
variable {a b:Expr} {ta tb:TE} {pos:Pos}
def PC (X:Cx) (op:CmpOp) (a b:Expr) (t:TE):Prop :=
 ∀ (pins:List (Addr × Obj)) (s:Shared) (σ:St) (H:Hp) (Q:VK),Inv X pins σ H s->t σ H Q ->
  wpAny (model X.prog X.w) X.A (eval a X.env) (fun v s₁=>wpAny (model X.prog X.w) X.A (eval b X.env) (fun u s₂=>wpAny (model X.prog X.w) X.A (compareOp op v u) (EP X pins σ Q) X.xe s₂) X.xe s₁) X.xe s
def A37 (b:Expr) {op:CmpOp} (h:op≠.In) (h2:op≠.NotIn):behindInMarks op b=false:=by
 have e1:(op == CmpOp.In)=false:=by cases op <;> first | rfl | exact absurd rfl h
 have e2:(op == CmpOp.NotIn)=false:=by cases op <;> first | rfl | exact absurd rfl h2
 cases b <;> simp [behindInMarks,e1,e2]
def tB (t:TE):TT:=fun σ H Q=>t σ H fun x H1=>∃ c,x=.bl c/\Q c H1
def B8s {op:CmpOp} {t:TE} (h:PC X op a b t) (h1:behindInMarks op b=false:=by first | exact A37 _ (by decide) (by decide) | rfl):PE X (.Compare a [op] [b] pos) t:=fun pins s σ H Q I hw=>wpAny_Compare1 (h pins s σ H Q I hw) h1
def B8k {op:CmpOp} {t:TE} (h:PC X op a b t) (h1:behindInMarks op b=false:=by first | exact A37 _ (by decide) (by decide) | rfl):PT X (.Compare a [op] [b] pos) (tB t):=by
 intro pins s σ H Q I hw;refine wpAny_isTrue_Compare1 (thn (h pins s σ H _ I hw) fun v s1 h1=>thn h1 fun u s2 h2=>thn h2 fun c s3 ⟨x,H1,I1,r1,q1⟩=>?_) h1;obtain ⟨d,rfl,q⟩:=q1;cases r1;exact wpAny_truthy_bool ⟨H1,I1,q⟩
def B14 {e:Expr} {t:TE} (h:PE X e t) (he:∀ whole,isTrue e X.env whole=(do let v <- whole; standAt e.pos; holding [v] (truthy v)):=by intro _; rfl):PT X e (tB t):=by
 intro pins s σ H Q I hw;refine isTrue_plain (thn (h pins s σ H _ I hw) fun v s1 ⟨x,H1,I1,r1,q1⟩=>?_) (he _);obtain ⟨d,rfl,q⟩:=q1;cases r1;exact wpAny_truthy_bool ⟨H1,I1,q⟩
variable {tA tB':TT} {rest:List Expr}
def tAnd (t u:TT):TT:=fun σ H Q=>t σ H fun c H1=>if c=true then u σ H1 Q else Q false H1
def tOr (t u:TT):TT:=fun σ H Q=>t σ H fun c H1=>if c=true then Q true H1 else u σ H1 Q
def tNot (t:TT):TT:=fun σ H Q=>t σ H fun c H1=>Q (!c) H1
def B3r (ha:PT X a tA):PW X (.BoolOp .And [a] pos) tA:=by
 intro wh pins s σ H Q I h;refine isTrue_and (thn (ha pins s σ H Q I h) fun c s1 e=>?_);cases c with
 | true=>exact isTrue_and_nil e
 | false=>exact e
def B8h (ha:PT X a tA):PW X (.BoolOp .Or [a] pos) tA:=by
 intro wh pins s σ H Q I h;refine isTrue_or (thn (ha pins s σ H Q I h) fun c s1 e=>?_);cases c with
 | false=>exact isTrue_or_nil e
 | true=>exact e
def B8i (ha:PT X a tA) (hb:PW X (.BoolOp .And (b :: rest) pos) tB'):PW X (.BoolOp .And (a :: b :: rest) pos) (tAnd tA tB'):=by
 intro wh pins s σ H Q I h;refine isTrue_and (thn (ha pins s σ H _ I h) fun c s1 ⟨H1,I1,q1⟩=>?_);cases c with
 | true=>exact hb wh pins s1 σ H1 Q I1 q1
 | false=>exact ⟨H1,I1,q1⟩
def C2k (ha:PT X a tA) (hb:PW X (.BoolOp .Or (b :: rest) pos) tB'):PW X (.BoolOp .Or (a :: b :: rest) pos) (tOr tA tB'):=by
 intro wh pins s σ H Q I h;refine isTrue_or (thn (ha pins s σ H _ I h) fun c s1 ⟨H1,I1,q1⟩=>?_);cases c with
 | true=>exact ⟨H1,I1,q1⟩
 | false=>exact hb wh pins s1 σ H1 Q I1 q1
def B8j (ha:PT X a tA):PT X (.UnaryOp .Not a pos) (tNot tA):=by
 intro pins s σ H Q I h;exact isTrue_not (ha pins s σ H (fun c H1=>Q (!c) H1) I h)
def B3b (ta tb:TE):TE:=fun σ H Q=>ta σ H fun x H1=>∃ c,x=.bl c/\if c=true then tb σ H1 Q else Q (.bl false) H1
def B26 (ta:TE):TE:=fun σ H Q=>ta σ H fun x H1=>∃ c,x=.bl c/\Q (.bl (!c)) H1
def B16 {op} {t:TE} (h:PE X a t):PE X (.BoolOp op [a] pos) t:=fun pins s σ H Q I hw=>BoolOp_one (h pins s σ H Q I hw)
def B18 (ha:PE X a ta) (hb:PE X (.BoolOp .And (b :: rest) pos) tb):PE X (.BoolOp .And (a :: b :: rest) pos) (B3b ta tb):=by
 intro pins s σ H Q I h;refine BoolOp_and (thn (ha pins s σ H _ I h) fun v s1 ⟨x,H1,I1,r1,q1⟩=>?_);obtain ⟨c,rfl,q1⟩:=q1;cases r1;refine wpAny_truthy_bool ?_;cases c with
 | true=>exact hb pins s1 σ H1 Q I1 q1
 | false=>exact ⟨.bl false,H1,I1,rfl,q1⟩
def B17 (ha:PE X a ta):PE X (.UnaryOp .Not a pos) (B26 ta):=by
 intro pins s σ H Q I h;refine UnaryOp_ (thn (ha pins s σ H _ I h) fun v s1 ⟨x,H1,I1,r1,q1⟩=>?_);obtain ⟨c,rfl,q1⟩:=q1;cases r1;exact not_of (wpAny_truthy_bool ⟨.bl (!c),H1,I1,rfl,q1⟩)
end
def SqL (K:W.Frag) (H:Hp) (a:Addr) (xs:List V):Prop :=
 Rd H a (.lst xs) \/
  ∃ (o:Obj) (its:Array Value) (n:Nat),K.lookup a=some o/\o.cls=.type "list"/\o.dict=none/\o.data=.seq its n/\its.size<=sizeLine/\Vals xs its.toList
def SqT (K:W.Frag) (H:Hp) (a:Addr) (xs:List V):Prop :=
 Rd H a (.tup xs) \/
  ∃ (o:Obj) (its:Array Value) (n:Nat),K.lookup a=some o/\o.cls=.type "tuple"/\o.data=.seq its n/\its.size<=sizeLine/\Vals xs its.toList
def absV:Value->Option V
 | .none=>some .non
 | .bool b=>some (.bl b)
 | .int i _=>some (.int i)
 | .str x _=>some (.str x)
 | .bytes b _=>some (.byt b)
 | .float b _=>some (.flt b)
 | .ref a=>some (.ref a)
 | .type n=>some (.ty n)
 | _=>none
def RelV.abs {x:V} {u:Value} (r:RelV x u):absV u=some x:=by
 cases x with
 | non=>cases r; rfl
 | bl _=>cases r; rfl
 | int _=>obtain ⟨t,rfl⟩:=r; rfl
 | str _=>obtain ⟨t,rfl⟩:=r; rfl
 | byt _=>obtain ⟨t,rfl⟩:=r; rfl
 | flt _=>obtain ⟨t,rfl⟩:=r; rfl
 | ref _=>cases r; rfl
 | ty _=>cases r; rfl
def RelV.inj {x y:V} {u:Value} (r:RelV x u) (q:RelV y u):x=y:=Zj (r.abs.symm.trans q.abs)
def Vals.inj:∀ {xs ys:List V} {us:List Value},Vals xs us->Vals ys us->xs=ys
 | _,_,_,.nil,.nil=>rfl
 | _,_,_,.cons r t,.cons r' t'=>by rw [r.inj r',Vals.inj t t']
section
variable {X:Cx} {pins:List (Addr × Obj)} {σ:St} {H:Hp} {s:Shared} {a:Addr} {xs ys:List V}
def SqL.of {K:W.Frag} (h:H a=some (.lst xs)):SqL K H a xs:=.inl (.inl h)
def SqT.of {K:W.Frag} (h:H a=some (.tup xs)):SqT K H a xs:=.inl (.inl h)
def Inv.list (I:Inv X pins σ H s) (h:SqL X.K H a xs):∃ its:List Value,Vals xs its/\PlainL s.heap a its.toArray/\xs.length<=sizeLine:=by
 rcases h with h | ⟨o,its,n,hk,hc,hd,hs,hz,r⟩
 ·obtain ⟨z,its,n,r,e⟩:=h.ok I.hok;exact ⟨its,r,⟨_,n,e,rfl,rfl,rfl⟩,z⟩
 ·refine ⟨its.toList,r,⟨o,n,I.kIn a o hk,hc,hd,by simpa using hs⟩,?_⟩;have e:=r.length;simp only [Array.length_toList] at e;omega
theorem Inv.tuple (I:Inv X pins σ H s) (h:SqT X.K H a xs):∃ its:List Value,Vals xs its/\IsTup s.heap a its.toArray/\xs.length<=sizeLine:=by
 rcases h with h | ⟨o,its,n,hk,hc,hs,hz,r⟩
 ·obtain ⟨z,its,r,p⟩:=h.ok I.hok;exact ⟨its,r,p,z⟩
 ·refine ⟨its.toList,r,⟨o,I.kIn a o hk,hc,n,by simpa using hs⟩,?_⟩;have e:=r.length;simp only [Array.length_toList] at e;omega
theorem Inv.list_inj (I:Inv X pins σ H s) (h:SqL X.K H a xs) (h':SqL X.K H a ys):xs=ys:=by
 obtain ⟨its,r,⟨o,n,e,_,_,d⟩,_⟩:=I.list h;obtain ⟨its',r',⟨o',n',e',_,_,d'⟩,_⟩:=I.list h';rw [e] at e'; cases e';rw [d] at d';injection d' with d1 _
 have:its=its':=by simpa using congrArg Array.toList d1
 subst this;exact r.inj r'
theorem Inv.tuple_inj (I:Inv X pins σ H s) (h:SqT X.K H a xs) (h':SqT X.K H a ys):xs=ys:=by
 obtain ⟨its,r,⟨o,e,_,n,d⟩,_⟩:=I.tuple h;obtain ⟨its',r',⟨o',e',_,n',d'⟩,_⟩:=I.tuple h';rw [e] at e'; cases e';rw [d] at d';injection d' with d1 _
 have:its=its':=by simpa using congrArg Array.toList d1
 subst this;exact r.inj r'
end
abbrev Cx.wish (X:Cx) (E:Value->Shared->Prop):Cx:={ X with xe:=E }
abbrev Cx.nox (X:Cx):Cx:=X.wish fun _ _=>False
def Cx.Ok.wish {X:Cx} (ok:X.Ok) (E:Value->Shared->Prop):(X.wish E).Ok :=
 ⟨ok.mod,ok.kind,ok.glob,ok.blt,ok.above,ok.inj,ok.has,ok.cab,ok.hd,ok.frames,ok.stk,ok.exf,ok.bs,ok.bsz,ok.noex,ok.exfs,ok.funs,ok.frf⟩
def Cx.Ok.unwish {X:Cx} {E:Value->Shared->Prop} (ok:(X.wish E).Ok):X.Ok :=
 ⟨ok.mod,ok.kind,ok.glob,ok.blt,ok.above,ok.inj,ok.has,ok.cab,ok.hd,ok.frames,ok.stk,ok.exf,ok.bs,ok.bsz,ok.noex,ok.exfs,ok.funs,ok.frf⟩
section
variable {X:Cx} {pins:List (Addr × Obj)} {σ:St} {H:Hp} {s:Shared} {E:Value->Shared->Prop}
def Inv.wish (I:Inv X pins σ H s) (E:Value->Shared->Prop):Inv (X.wish E) pins σ H s:=⟨I.ok.wish E,I.os,I.bare,I.base,I.loc,I.cell,I.free,I.freeC,I.pin,I.hok,I.len⟩
def Inv.unwish (I:Inv (X.wish E) pins σ H s):Inv X pins σ H s:=⟨I.ok.unwish,I.os,I.bare,I.base,I.loc,I.cell,I.free,I.freeC,I.pin,I.hok,I.len⟩
def SP.unwish {D:Ends} {f:Flow} {s':Shared} (h:SP (X.wish E) pins D f s'):SP X pins D f s':=by
 cases f with
 | next=>obtain ⟨σ',H',I,q⟩:=h; exact ⟨σ',H',I.unwish,q⟩
 | brk=>obtain ⟨σ',H',I,q⟩:=h; exact ⟨σ',H',I.unwish,q⟩
 | cont=>obtain ⟨σ',H',I,q⟩:=h; exact ⟨σ',H',I.unwish,q⟩
 | ret u=>obtain ⟨v,σ',H',I,r,q⟩:=h; exact ⟨v,σ',H',I.unwish,r,q⟩
def PE.nox {e:Expr} {t:TE} (h:PE X.nox e t):PE X e t:=fun pins s σ H Q I hw =>
 wpAny_mono (h pins s σ H Q (I.wish _) hw) (fun _ _ ⟨v,H',I',r,q⟩=>⟨v,H',I'.unwish,r,q⟩) fun _ _ z=>False.elim z
def PT.nox {e:Expr} {t:TT} (h:PT X.nox e t):PT X e t:=fun pins s σ H Q I hw =>
 wpAny_mono (h pins s σ H Q (I.wish _) hw) (fun _ _ ⟨H',I',q⟩=>⟨H',I'.unwish,q⟩) fun _ _ z=>False.elim z
def PSs.nox {st:List Stmt} {t:TS} (h:PSs X.nox st t):PSs X st t:=fun pins s σ H D I hw =>
 wpAny_mono (h pins s σ H D (I.wish _) hw) (fun _ _ q=>q.unwish) fun _ _ z=>False.elim z
end
section
variable {X:Cx} {st:Stmt} {rest:List Stmt} {t u:TS} {e:Expr} {te:TE} {pos:Pos}
def A9g:TS:=fun D σ H=>D.nx σ H
def tSeq (t u:TS):TS:=fun D σ H=>t { D with nx:=u D } σ H
def A2u:PSs X [] A9g:=fun _ _ σ H _ I h=>wpAny_execs_nil ⟨σ,H,I,h⟩
def K0 (h1:PS X st t) (h2:PSs X rest u):PSs X (st :: rest) (tSeq t u):=by
 intro pins s σ H D I h;refine wpAny_execs_cons (thn (h1 pins s σ H { D with nx:=u D } I h) fun f s1 q=>?_);cases f with
 | next =>
  obtain ⟨σ',H',I',q⟩:=q;exact h2 pins s1 σ' H' D I' q
 | ret v=>exact q
 | brk=>exact q
 | cont=>exact q
def T6 (h1:PS X st t):PSs X [st] t:=by
 intro pins s σ H D I h;refine wpAny_execs_cons (thn (h1 pins s σ H D I h) fun f s1 q=>?_);cases f with
 | next=>exact wpAny_execs_nil q
 | ret v=>exact q
 | brk=>exact q
 | cont=>exact q
def Inv.quiet {pins:List (Addr × Obj)} {σ:St} {H:Hp} {s:Shared} (I:Inv X pins σ H s):interactive X.env=false:=by simp [interactive,I.ok.kind]
def A09 (te:TE):TS:=fun D σ H=>te σ H fun _ H1=>D.nx σ H1
def B3y (he:PE X e te) (hs:swapsWith e none pos.line X.env=pure false:=by rfl):PS X (.Expr e pos) (A09 te):=by
 intro pins s σ H D I h;exact wpAny_Expr_any (thn (he pins s σ H _ I h) fun v s1 ⟨x,H1,I1,r1,q1⟩=>⟨σ,H1,I1,q1⟩) I.quiet hs
def tRet (te:TE):TS:=fun D σ H=>te σ H D.rt
def A3w (he:PE X e te):PS X (.Return (some e) pos) (tRet te):=by
 intro pins s σ H D I h;exact wpAny_Return_some (thn (he pins s σ H _ I h) fun v s1 ⟨x,H1,I1,r1,q1⟩=>⟨x,σ,H1,I1,r1,q1⟩)
def tIfS (c:TT) (t u:TS):TS:=fun D σ H=>c σ H fun b H1=>if b=true then t D σ H1 else u D σ H1
def B3x {c:Expr} {a b:List Stmt} {tc:TT} (hc:PT X c tc) (ha:PSs X a t) (hb:PSs X b u):PS X (.If c a b pos) (tIfS tc t u):=by
 intro pins s σ H D I h;refine wpAny_If (thn (hc pins s σ H _ I h) fun d s1 ⟨H1,I1,q1⟩=>?_);cases d with
 | true=>exact ha pins s1 σ H1 D I1 q1
 | false=>exact hb pins s1 σ H1 D I1 q1
def A08:TS:=fun _ _ _=>False
def A9z:PS X st A08:=fun _ _ _ _ _ _ h=>h.elim
end
abbrev TG:=V->St->Hp->(St->Hp->Prop)->Prop
abbrev TGs:=List V->St->Hp->(St->Hp->Prop)->Prop
def PG (X:Cx) (target:Expr) (t:TG):Prop :=
 ∀ (pins:List (Addr × Obj)) (s:Shared) (σ:St) (H:Hp) (v:V) (u:Value) (Q:St->Hp->Prop),Inv X pins σ H s->RelV v u->t v σ H Q ->
  wpAny (model X.prog X.w) X.A (assign target X.env u) (fun _ s'=>∃ σ' H',Inv X pins σ' H' s'/\Q σ' H') X.xe s
def PGs (X:Cx) (ts:List Expr) (t:TGs):Prop :=
 ∀ (pins:List (Addr × Obj)) (s:Shared) (σ:St) (H:Hp) (vs:List V) (us:List Value) (Q:St->Hp->Prop),Inv X pins σ H s->Vals vs us->t vs σ H Q ->
  wpAny (model X.prog X.w) X.A (assignInOrder ((assignEach ts X.env).map (·.2)) us) (fun _ s'=>∃ σ' H',Inv X pins σ' H' s'/\Q σ' H') X.xe s
abbrev TSet:=V->V->V->Hp->(Hp->Prop)->Prop
def PSet (X:Cx) (t:TSet):Prop :=
 ∀ (pins:List (Addr × Obj)) (s:Shared) (σ:St) (H:Hp) (o i v:V) (ov iv u:Value) (Q:Hp->Prop),Inv X pins σ H s->RelV o ov->RelV i iv->RelV v u->t o i v H Q ->
  wpAny (model X.prog X.w) X.A (setItem ov iv u) (fun _ s'=>∃ H',Inv X pins σ H' s'/\Q H') X.xe s
section
variable {X:Cx} {pos:Pos}
def O6 (i:Nat):TG:=fun v σ H Q=>Q (σ.set i (some v)) H
def A69 {i:Nat} {x:Str} (hN:X.N.Nodup) (hi:X.N[i]?=some x) (hx:Loc X.env.scope x) (hf:X.fn x=true\/X.env.scope.names.lookup x=some .local:=by first | exact .inl rfl | exact .inr rfl | assumption):PG X (.Name x pos) (O6 i):=by
 intro pins s σ H v u Q I r h;exact wpAny_assign_Name (L8 I hN hi hx r (fun s' I'=>⟨_,H,I',h⟩) hf)
def gNil:TGs:=fun vs σ H Q=>vs=[]/\Q σ H
def Y5 (t:TG) (u:TGs):TGs:=fun vs σ H Q=>∃ v r,vs=v :: r/\t v σ H fun σ' H'=>u r σ' H' Q
def B35:PGs X [] gNil:=by
 intro pins s σ H vs us Q I r h;obtain ⟨e,h⟩:=h;subst e;cases r;exact assignInOrder_nil ⟨σ,H,I,h⟩
def A97 {e:Expr} {es:List Expr} {t:TG} {u:TGs} (h1:PG X e t) (h2:PGs X es u)
  (hs:(assignEach (e :: es) X.env).map (·.2)=assign e X.env :: (assignEach es X.env).map (·.2):=by rfl):PGs X (e :: es) (Y5 t u):=by
 intro pins s σ H vs us Q I r h;obtain ⟨v,vr,e1,h⟩:=h;subst e1;cases r with
 | cons r rr =>
  rw [hs];refine assignInOrder_cons (thn (h1 pins s σ H _ _ _ I r h) fun _ s1 ⟨σ1,H1,I1,q1⟩=>?_);exact h2 pins s1 σ1 H1 _ _ Q I1 rr q1
def gTup (K:W.Frag) (n:Nat) (t:TGs):TG:=fun v σ H Q=>∃ a xs,v=.ref a/\SqT K H a xs/\xs.length=n/\t xs σ H Q
def B8o {es:List Expr} {k:Nat} {t:TGs} {n:Nat} (hc:X.calm=true) (h:PGs X es t)
  (hn:(assignEach es X.env).length=n:=by rfl) (hst:(assignEach es X.env).findIdx? (·.1)=none:=by rfl):PG X (.Tuple es k pos) (gTup X.K n t):=by
 intro pins s σ H v u Q I r hw;obtain ⟨a,xs,e1,hq,hl,hw⟩:=hw;subst e1;cases r;obtain ⟨its,rv,ht,hz⟩:=I.tuple hq;refine assign_Tuple_tuple (I.ok.hd hc) ht (by simp [hn,<- hl,rv.length]) hst fun h' hx=>?_;have I1:Inv X pins σ H { s with heap:=h' }:=I.kept (t':=s.toks) fun b o e=>hx b o (Nat.ne_of_lt (Heap.lt_size e)) e;exact h pins _ σ H xs _ Q I1 (by simpa using rv) hw
def gSub (to ti:TE) (t:TSet):TG:=fun v σ H Q=>to σ H fun o H1=>ti σ H1 fun i H2=>t o i v H2 fun H3=>Q σ H3
def A3z {o i:Expr} {to ti:TE} {t:TSet} (ho:PE X o to) (hi:PE X i ti) (hs:PSet X t)
  (ha:∀ v,assign (.Subscript o i pos) X.env v=(do
   let ov <- holding [v] (eval o X.env)
   let iv <- holding [v,ov] (eval i X.env)
   standAt pos
   holding [v,ov,iv] (setItem ov iv v)
   release [v,ov,iv] []):=by intro _; rfl):PG X (.Subscript o i pos) (gSub to ti t):=by
 intro pins s σ H v u Q I r h;rw [ha];refine wpAny_bind (wpAny_holding (thn (ho pins s σ H _ I h) fun ov s1 ⟨x,H1,I1,r1,q1⟩=>?_));refine wpAny_bind (wpAny_holding (thn (hi pins s1 σ H1 _ I1 q1) fun iv s2 ⟨y,H2,I2,r2,q2⟩=>?_));refine wpAny_bind (wpAny_standAt (wpAny_bind (wpAny_holding (thn (hs pins s2 σ H2 x y v ov iv u _ I2 r1 r2 r q2) fun _ s3 ⟨H3,I3,q3⟩=>?_))));exact wpAny_release ⟨σ,H3,I3,q3⟩
def tAsg (te:TE) (g:TG):TS:=fun D σ H=>te σ H fun x H1=>g x σ H1 D.nx
def A3y {tg e:Expr} {te:TE} {g:TG} (he:PE X e te) (hg:PG X tg g) (hs:swapsWithSole [tg] e pos.line X.env=pure false:=by rfl) (hw:swappedStores [tg] e X.env=pure none:=by rfl)
  (h1:(assignEach [tg] X.env).map (·.2)=[assign tg X.env]:=by rfl):PS X (.Assign [tg] e pos) (tAsg te g):=by
 intro pins s σ H D I h;refine wpAny_Assign_stores (thn (he pins s σ H _ I h) fun v s1 ⟨x,H1,I1,r1,q1⟩=>?_) hs hw;rw [h1];exact thn (hg pins s1 σ H1 x v _ I1 r1 q1) fun _ s2 q=>q
def Z0 {i:Nat} {x:Str} {e:Expr} {te:TE} {pos':Pos} (hN:X.N.Nodup) (hi:X.N[i]?=some x) (hx:Loc X.env.scope x) (he:PE X e te) (hs:swapsWith e (some (.Name x pos')) pos.line X.env=pure false:=by rfl) (hf:X.fn x=true\/X.env.scope.names.lookup x=some .local:=by first | exact .inl rfl | exact .inr rfl | assumption) :
  PS X (.Assign [.Name x pos'] e pos) (tAsg te (O6 i)):=by
 intro pins s σ H D I h;refine wpAny_Assign_Name (thn (he pins s σ H _ I h) fun v s1 ⟨y,H1,I1,r1,q1⟩=>?_) hs;exact L8 I1 hN hi hx r1 (fun s2 I2=>⟨_,H1,I2,q1⟩) hf
def tPar (i j:Nat) (ta:TA):TS:=fun D σ H=>ta σ H fun vs H1=>∃ v w,vs=[v,w]/\D.nx ((σ.set i (some v)).set j (some w)) H1
def B8l {i j:Nat} {x y:Str} {a b:Expr} {ta:TA} {px py pt:Pos} {kt k2 pt2} (hc:X.calm=true) (hN:X.N.Nodup) (hi:X.N[i]?=some x) (hj:X.N[j]?=some y) (hij:i≠j)
  (hx:X.env.scope.names.lookup x=some .local) (hy:X.env.scope.names.lookup y=some .local) (ha:PA X [a,b] ta)
  (hw:swappedStores [.Tuple [.Name x px,.Name y py] kt pt] (.Tuple [a,b] k2 pt2) X.env=pure (some [x,y]))
  (hs:swapsWithSole [.Tuple [.Name x px,.Name y py] kt pt] (.Tuple [a,b] k2 pt2) pos.line X.env=pure false:=by rfl) :
  PS X (.Assign [.Tuple [.Name x px,.Name y py] kt pt] (.Tuple [a,b] k2 pt2) pos) (tPar i j ta):=by
 intro pins s σ H D I h;rw [exec_Assign_arm];refine wpAny_bind (wpAny_standAt ?_);rw [hs];refine wpAny_bind (wpAny_pure ?_);rw [if_neg (by decide)];refine wpAny_bind (Tuple_ (thn (ha _ pins s σ H _ I h) fun us s1 ⟨vs,H1,I1,r1,q1⟩=>?_));obtain ⟨v,w,e1,q1⟩:=q1;subst e1;obtain ⟨u1,u2,rfl,rv,rw'⟩:∃ u1 u2,us=[u1,u2]/\RelV v u1/\RelV w u2:=by
  cases r1 with
  | cons p q =>
   cases q with
   | cons p' q' =>
    cases q';exact ⟨_,_,rfl,p,p'⟩
 refine wpAny_newObj_type ?_ (by show 2<=sizeLine; decide);have I2:Inv X pins σ H1 { s1 with heap:=s1.heap.push { cls:=.type "tuple",data:=.seq [u1,u2].toArray } }:=I1.kept (t':=s1.toks) fun b o e=>Heap.get?_push_of_some _ e;rw [hw];refine wpAny_bind (wpAny_pure ?_);show wpAny (model X.prog X.w) X.A (do rule "assign.swapped-stores"; let items <- unpackItems (.ref s1.heap.objs.size) 2 none; assignInOrder [fun v=>bindName X.env y v,fun v=>bindName X.env x v] items.reverse; pure Flow.next) _ _ _;refine wpAny_bind (wpAny_rule (wpAny_bind (unpackItems_tuple (items:=#[u1,u2]) (I.ok.hd hc) (IsTup.new s1.heap _) fun h' hx'=>?_)));have I3:=I2.kept (h':=h') (t':=s1.toks) fun b o e=>hx' b o (Nat.ne_of_lt (Heap.lt_size e)) e;show wpAny _ _ (assignInOrder [fun v=>bindName X.env y v,fun v=>bindName X.env x v] [u2,u1] >>= fun _=>pure Flow.next) _ _ _;refine wpAny_bind (assignInOrder_cons (wpAny_bindName (L8 I3 hN hj (.inl hy) rw' (fun s2 I4=>?_) (.inr hy))));refine assignInOrder_cons (wpAny_bindName (L8 I4 hN hi (.inl hx) rv (fun s3 I5=>assignInOrder_nil (wpAny_pure ?_)) (.inr hx)));rw [List.set_comm _ _ (Ne.symm hij)] at I5;exact ⟨_,H1,I5,q1⟩
def A57 (c:TT) (tb:TS):TS:=fun D σ H=>∃ W:Nat->St->Hp->Prop,(∃ m,W m σ H)/\∀ m σ H,W m σ H ->
 c σ H fun b H1=>if b=true then ∃ N:St->Hp->Prop,(∀ σ' H',N σ' H'->∃ m',m' < m/\W m' σ' H')/\tb { D with nx:=N,ct:=N,bk:=D.nx } σ H1 else D.nx σ H1
def A9y {c:Expr} {body:List Stmt} {tc:TT} {tb:TS} (hp:PassesOwn (model X.prog X.w) X.A X.env X.xe) (hc:PT X c tc) (hb:PSs X body tb):PS X (.While c body [] pos) (A57 tc tb):=by
 intro pins s σ H D I h;obtain ⟨W,⟨m0,w0⟩,turn⟩:=h;refine wpAny_While (codeAny_whileLoop (fun n s'=>∃ σ' H',Inv X pins σ' H' s'/\W n σ' H') ?_ m0 ⟨σ,H,I,w0⟩);rintro n s1 ⟨σ1,H1,I1,w1⟩;refine wpAny_passesOwn hp (thn (hc pins s1 σ1 H1 _ I1 (turn n σ1 H1 w1)) fun b s2 ⟨H2,I2,q2⟩=>?_);cases b with
 | true =>
  obtain ⟨N,hN,q2⟩:=q2;rw [if_pos rfl];refine wpAny_passesOwn hp (thn (hb pins s2 σ1 H2 _ I2 q2) fun f s3 q3=>?_);cases f with
  | next =>
   obtain ⟨σ3,H3,I3,n3⟩:=q3;obtain ⟨m',hm,w3⟩:=hN σ3 H3 n3;exact ⟨m',hm,σ3,H3,I3,w3⟩
  | cont =>
   obtain ⟨σ3,H3,I3,n3⟩:=q3;obtain ⟨m',hm,w3⟩:=hN σ3 H3 n3;exact ⟨m',hm,σ3,H3,I3,w3⟩
  | brk=>exact q3
  | ret v=>exact q3
 | false =>
  rw [if_neg Bool.false_ne_true];exact wpAny_execs_nil ⟨σ1,H2,I2,q2⟩
end
structure It where
 go:Nat->Hp->Prop
 yld:Nat->Hp->V->Hp->Prop
 stop:Nat->Hp->Prop
def FpOk (X:Cx) (pins:List (Addr × Obj)) (H:Hp) (b:Addr):Prop :=
 H b=none/\b≠X.env.locals/\b ∉ X.fs/\(b ∈ X.ex\/X.s₀.heap.objs.size<=b)/\(∀ x c,X.env.cells.lookup x=some c->c≠b)/\∀ p ∈ X.pn++pins,p.1≠b
def Inv.fpOk {X:Cx} {pins:List (Addr × Obj)} {σ:St} {H H':Hp} {s:Shared} {b:Addr} (I:Inv X pins σ H s) (hb:s.heap.objs.size<=b) (hn:H' b=none):FpOk X pins H' b:=by
 refine ⟨hn,Nat.ne_of_gt (Nat.lt_of_lt_of_le I.lt hb),I.nofs hb,.inr (Zx I.sz hb),fun x c e z=>?_,fun p hp z=>?_⟩
 ·obtain ⟨v,q⟩:=I.cell x c e;exact absurd (Nat.lt_of_lt_of_le q.lt (by rw [z]; exact hb)) (Nat.lt_irrefl _)
 ·exact absurd (Nat.lt_of_lt_of_le (Heap.lt_size (I.pin p hp).1) (by rw [z]; exact hb)) (Nat.lt_irrefl _)
structure Turn (P:Program) (w:World) (K:W.Frag) (tg:Expr) (J:It) (fp:List Addr) (it:Addr) (tn:Nat->Heap->Prop):Prop where
  mem:it ∈ fp
  obj:∀ i h,tn i h->∀ b ∈ fp,∃ o,h.get? b=some o/\∀ v,o.data≠.cell v
  keep:∀ i h h',tn i h->(∀ b ∈ fp,∀ o,h.get? b=some o->h'.get? b=some o)->tn i h'
  item:∀ (X:Cx),X.prog=P->X.w=w->X.K=K->X.calm=true->∀ (i:Nat) (pins:List (Addr × Obj)) (s:Shared) (σ:St) (H:Hp) (E:Value->Shared->Prop),Inv X pins σ H s->(∀ b ∈ fp,FpOk X pins H b)->tn i s.heap->J.go i H ->
    wpAny (model P w) X.A (pyNext (.ref it)) (fun r s1=>∃ u,r=some u /\
      wpAny (model P w) X.A (letOwnedTupleGo tg (.ref it) u) (fun _ s2=>∃ x H',Inv X pins σ H' s2/\RelV x u/\J.yld i H x H'/\tn (i + 1) s2.heap/\∀ b ∈ fp,H' b=none) E s1) E s
  done:∀ (X:Cx),X.prog=P->X.w=w->X.K=K->X.calm=true->∀ (i:Nat) (pins:List (Addr × Obj)) (s:Shared) (σ:St) (H:Hp) (E:Value->Shared->Prop),Inv X pins σ H s->(∀ b ∈ fp,FpOk X pins H b)->tn i s.heap->J.stop i H ->
    wpAny (model P w) X.A (pyNext (.ref it)) (fun r s1=>r=none/\Inv X pins σ H s1) E s
  self:∀ (A:Around) (i:Nat) (s:Shared) (Q:Value->Shared->Prop) (E:Value->Shared->Prop),tn i s.heap->Q (.ref it) s->wpAny (model P w) A (pyIter (.ref it)) Q E s
abbrev TI:=St->Hp->(It->Hp->Prop)->Prop
def PIE (X:Cx) (pins:List (Addr × Obj)) (σ:St) (tg:Expr) (R:It->Hp->Prop) (itv:Value) (s2:Shared):Prop :=
 ∃ (it:Addr) (fp:List Addr) (tn:Nat->Heap->Prop) (J:It) (H':Hp),itv=.ref it/\Inv X pins σ H' s2/\Turn X.prog X.w X.K tg J fp it tn/\tn 0 s2.heap/\(∀ b ∈ fp,FpOk X pins H' b)/\R J H'
def PI (X:Cx) (tg iter:Expr) (wi:TI):Prop :=
 ∀ (pins:List (Addr × Obj)) (s:Shared) (σ:St) (H:Hp) (R:It->Hp->Prop),Inv X pins σ H s->wi σ H R ->
  wpAny (model X.prog X.w) X.A (eval iter X.env) (fun v s1=>wpAny (model X.prog X.w) X.A (pyIter v) (PIE X pins σ tg R) X.xe s1) X.xe s
def B6t {M:Model} {A:Around} {E:Value->Shared->Prop} {s:Shared} {tg:Expr} {it:Addr} {u:Value} {o:Obj} {n:String} {vs:Array Value} {Q:Unit->Shared->Prop} (ho:s.heap.get? it=some o) (hc:o.cls=.type n) (hd:o.data=.fields vs)
    (hn:["enumerate","zip","dict_itemiterator","dict_reverseitemiterator","odict_iterator","itertools.zip_longest","itertools.pairwise"].contains n=false) (hQ:Q () s):wpAny M A (letOwnedTupleGo tg (.ref it) u) Q E s:=by
  unfold letOwnedTupleGo;cases tg <;> first
    | exact wpAny_pure hQ
    | (cases u <;> first
        | exact wpAny_pure hQ
        | (refine wpAny_bind (wpAny_load ho ?_)
           rw [hc,hd];show wpAny M A (if (["enumerate","zip","dict_itemiterator","dict_reverseitemiterator","odict_iterator","itertools.zip_longest","itertools.pairwise"].contains n && vs[0]? == some (rawInt _))=true then _ else _) Q E s;rw [if_neg (by intro h; rw [hn,Bool.false_and] at h; cases h)];exact wpAny_pure hQ))
def Itl (K:W.Frag) (a:Addr):It :=
 ⟨fun i H=>∃ xs x,SqL K H a xs/\xs[i]?=some x,fun i H x H'=>H'=H/\∀ xs,SqL K H a xs->xs[i]?=some x,fun i H=>∃ xs,SqL K H a xs/\xs.length<=i⟩
def Itt (K:W.Frag) (a:Addr):It :=
 ⟨fun i H=>∃ xs x,SqT K H a xs/\xs[i]?=some x,fun i H x H'=>H'=H/\∀ xs,SqT K H a xs->xs[i]?=some x,fun i H=>∃ xs,SqT K H a xs/\xs.length<=i⟩
def Itr (lo:Int) (n:Nat):It:=⟨fun i _=>i < n,fun i H x H'=>H'=H/\x=.int (lo + i),fun i _=>n<=i⟩
def A55 {P:Program} {w:World} {K:W.Frag} {tg:Expr} (a it:Addr):Turn P w K tg (Itl K a) [it] it (fun i h=>h.IsListIter it a i) where
 mem:=by simp
 obj:=fun i h st b hb=>by
  have e:b=it:=by simpa using hb
  subst e;obtain ⟨o,e,c,d⟩:=st;exact ⟨o,e,fun v z=>by rw [d] at z; cases z⟩
 keep:=fun i h h' st k=>st.at fun o e=>k it (by simp) o e
 item:=by
  intro X hP hw hK hc i pins s σ H E I hf st hg;subst hP hw hK;obtain ⟨xs,x,hq,hx⟩:=hg;obtain ⟨its,rv,p,hz⟩:=I.list hq;obtain ⟨u,hu,ru⟩:=rv.get hx;obtain ⟨f0,f1,f2,f3,f4,f5⟩:=hf it (by simp);refine wpAny_pyNext_list_item st p.isList (x:=u) (by simpa using hu) fun h' st' sb=>?_;have I1:Inv X pins σ H { s with heap:=h' }:=I.turned (t':=s.toks) (fun b o hb e=>(sb.2 b hb).trans e) f0 f1 f3 f4 f5;obtain ⟨o,e,c,d⟩:=id st';exact ⟨u,rfl,B6t (s:={ s with heap:=h' }) e c d (by decide) ⟨x,H,I1,ru,⟨rfl,fun ys hy=>by rw [I.list_inj hy hq]; exact hx⟩,st',fun b hb=>(hf b hb).1⟩⟩
 done:=by
  intro X hP hw hK hc i pins s σ H E I hf st hg;subst hP hw hK;obtain ⟨xs,hq,hx⟩:=hg;obtain ⟨its,rv,p,hz⟩:=I.list hq;obtain ⟨f0,f1,f2,f3,f4,f5⟩:=hf it (by simp);have hl:=rv.length;exact wpAny_pyNext_list_end (I.ok.hd hc) st p.isList (by simp; omega) fun h' eb=>⟨rfl,I.turned (t':=s.toks) (fun b o hb e=>eb b o hb e) f0 f1 f3 f4 f5⟩
 self:=fun _ _ _ _ _ st h=>wpAny_pyIter_listiter st h
def A4t {P:Program} {w:World} {K:W.Frag} {tg:Expr} (a it:Addr):Turn P w K tg (Itt K a) [it] it (fun i h=>h.IsTupleIter it a i) where
 mem:=by simp
 obj:=fun i h st b hb=>by
  have e:b=it:=by simpa using hb
  subst e;obtain ⟨o,e,c,d⟩:=st;exact ⟨o,e,fun v z=>by rw [d] at z; cases z⟩
 keep:=fun i h h' st k=>st.at fun o e=>k it (by simp) o e
 item:=by
  intro X hP hw hK hc i pins s σ H E I hf st hg;subst hP hw hK;obtain ⟨xs,x,hq,hx⟩:=hg;obtain ⟨its,rv,p,hz⟩:=I.tuple hq;obtain ⟨u,hu,ru⟩:=rv.get hx;obtain ⟨f0,f1,f2,f3,f4,f5⟩:=hf it (by simp);refine wpAny_pyNext_tuple_item st (show s.heap.IsTuple a its.toArray from p) (x:=u) (by simpa using hu) fun h' st' sb=>?_;have I1:Inv X pins σ H { s with heap:=h' }:=I.turned (t':=s.toks) (fun b o hb e=>(sb.2 b hb).trans e) f0 f1 f3 f4 f5;obtain ⟨o,e,c,d⟩:=id st';exact ⟨u,rfl,B6t (s:={ s with heap:=h' }) e c d (by decide) ⟨x,H,I1,ru,⟨rfl,fun ys hy=>by rw [I.tuple_inj hy hq]; exact hx⟩,st',fun b hb=>(hf b hb).1⟩⟩
 done:=by
  intro X hP hw hK hc i pins s σ H E I hf st hg;subst hP hw hK;obtain ⟨xs,hq,hx⟩:=hg;obtain ⟨its,rv,p,hz⟩:=I.tuple hq;obtain ⟨f0,f1,f2,f3,f4,f5⟩:=hf it (by simp);have hl:=rv.length;exact wpAny_pyNext_tuple_end (I.ok.hd hc) st (show s.heap.IsTuple a its.toArray from p) (by simp; omega) fun h' eb=>⟨rfl,I.turned (t':=s.toks) (fun b o hb e=>eb b o hb e) f0 f1 f3 f4 f5⟩
 self:=fun _ _ _ _ _ st h=>wpAny_pyIter_tupleiter st h
def A4u {P:Program} {w:World} {K:W.Frag} {tg:Expr} (it:Addr) (lo:Int) (n:Nat):Turn P w K tg (Itr lo n) [it] it (fun i h=>IsRangeIter h it (lo + (i:Nat) * 1) ((n:Int) - (i:Nat)) 1) where
 mem:=by simp
 obj:=fun i h st b hb=>by
  have e:b=it:=by simpa using hb
  subst e;exact ⟨_,st,fun v z=>by
   have z':Data.fields _=Data.cell v:=z;cases z'⟩
 keep:=fun i h h' st k=>k it (by simp) _ st
 item:=by
  intro X hP hw hK hc i pins s σ H E I hf st hg;subst hP hw hK;obtain ⟨f0,f1,f2,f3,f4,f5⟩:=hf it (by simp);have W:=Walks.range (prog:=X.prog) (w:=X.w) (I.ok.hd hc) it lo 1 n;refine W.item i s _ _ hg st fun v h' tk hv st' kk=>?_;obtain ⟨t,rfl⟩:=hv;have I1:Inv X pins σ H { s with heap:=h',toks:=tk }:=I.turned (fun b o hb e=>kk b o (by simpa using hb) e) f0 f1 f3 f4 f5;refine ⟨_,rfl,B6t (s:={ s with heap:=h',toks:=tk }) (n:="range_iterator") st' rfl rfl (by decide) ⟨.int (lo + i),H,I1,⟨t,?_⟩,⟨rfl,rfl⟩,st',fun b hb=>(hf b hb).1⟩⟩;rw [Int.mul_one]
 done:=by
  intro X hP hw hK hc i pins s σ H E I hf st hg;subst hP hw hK;obtain ⟨f0,f1,f2,f3,f4,f5⟩:=hf it (by simp);exact wpAny_pyNext_range_end (I.ok.hd hc) st (by have:n<=i:=hg; omega) fun h' eb=>⟨rfl,I.turned (t':=s.toks) (fun b o hb e=>eb b o hb e) f0 f1 f3 f4 f5⟩
 self:=fun _ _ _ _ _ st h=>wpAny_pyIter_rangeiter st h
section
variable {X:Cx} {tg:Expr}
def A3q {pins:List (Addr × Obj)} {σ:St} {H:Hp} {s:Shared} {R:It->Hp->Prop} {E:Value->Shared->Prop} {lo hi:Int} {t u v:Tok} {tk:Nat} (I:Inv X pins σ H s) (h1:-(2 ^ 62)<=lo) (h2:lo < 2 ^ 62) (h3:-(2 ^ 62)<=hi) (h4:hi < 2 ^ 62)
  (q:R (Itr lo (hi - lo).toNat) H):wpAny (model X.prog X.w) X.A (pyIter (.ref s.heap.objs.size)) (PIE X pins σ tg R) E { s with heap:=s.heap.push { cls:=.type "range",data:=.fields #[.int lo t,.int hi u,.int 1 v] },toks:=tk }:=by
 refine wpAny_pyIter_range (IsRange.new ..) (small_one h1 h2 h3 h4) ?_;have I1:Inv X pins σ H { s with heap:=s.heap.push { cls:=.type "range",data:=.fields #[.int lo t,.int hi u,.int 1 v] },toks:=tk }:=I.kept fun b o e=>Heap.get?_push_of_some _ e;refine ⟨(s.heap.push { cls:=.type "range",data:=.fields #[.int lo t,.int hi u,.int 1 v] }).objs.size,[(s.heap.push { cls:=.type "range",data:=.fields #[.int lo t,.int hi u,.int 1 v] }).objs.size],_,_,H,rfl,
  I1.kept (t':=tk) fun b o e=>Heap.get?_push_of_some _ e,A4u _ lo (hi - lo).toNat,?_,fun b hb=>?_,q⟩
 ·have e1:lo + ((0:Nat):Int) * 1=lo:=by simp
  have e2:(((hi - lo).toNat:Nat):Int) - ((0:Nat):Int)=Builtin.Range.rangeSize lo hi 1:=by rw [rangeSize_one]; split <;> omega
  show IsRangeIter _ _ (lo + ((0:Nat):Int) * 1) ((((hi - lo).toNat:Nat):Int) - ((0:Nat):Int)) 1;rw [e1,e2];exact Heap.get?_push_size _ rfl
 ·have e:b=(s.heap.push { cls:=.type "range",data:=.fields #[.int lo t,.int hi u,.int 1 v] }).objs.size:=by simpa using hb
  subst e;exact I1.fpOk (Zv _) (I1.hok.fresh (Zv _))
def B6r (ta:TA):TI:=fun σ H R=>ta σ H fun vs H1=>∃ j:Int,vs=[.int j]/\-(2 ^ 62)<=j/\j < 2 ^ 62/\R (Itr 0 j.toNat) H1
def B6q (ta:TA):TI:=fun σ H R=>ta σ H fun vs H1=>∃ i j:Int,vs=[.int i,.int j]/\(-(2 ^ 62)<=i/\i < 2 ^ 62/\-(2 ^ 62)<=j/\j < 2 ^ 62)/\R (Itr i (j - i).toNat) H1
def A1o {a:Expr} {ta:TA} {p pos:Pos} (hg:Gl X "range") (hm:X.mg "range"=none) (ha:PA X [a] ta) (hs:starEach [a] X.env=[(false,eval a X.env)]:=by rfl):PI X tg (.Call (.Name "range" p) [a] [] pos) (B6r ta):=by
 intro pins s σ H R I h;refine Call_ (Z9 I hg hm boot_range (PyProof.Rows.callWith_type1 (thn (ha pos pins s σ H _ I h) fun us s1 ⟨vs,H1,I1,r1,q1⟩=>?_) hs rfl));obtain ⟨j,e,q1,q2,q⟩:=q1;subst e;cases r1 with
 | cons r rr =>
  cases rr;obtain ⟨t,rfl⟩:=r;exact call_range_1 (A3q I1 (by omega) (by omega) q1 q2 (by simpa using q))
def A68 {a b:Expr} {ta:TA} {p pos:Pos} (hg:Gl X "range") (hm:X.mg "range"=none) (ha:PA X [a,b] ta) (hs:starEach [a,b] X.env=[(false,eval a X.env),(false,eval b X.env)]:=by rfl) (hs2:starEach [b] X.env=[(false,eval b X.env)]:=by rfl) :
  PI X tg (.Call (.Name "range" p) [a,b] [] pos) (B6q ta):=by
 intro pins s σ H R I h;refine Call_ (Z9 I hg hm boot_range (PyProof.Rows.callWith_type1 (thn (ha pos pins s σ H _ I h) fun us s1 ⟨vs,H1,I1,r1,q1⟩=>?_) (by rw [hs,hs2]) (by rw [hs2]; rfl)));obtain ⟨i,j,e,⟨q1,q2,q3,q4⟩,q⟩:=q1;subst e;cases r1 with
 | cons r rr =>
  cases rr with
  | cons r' rr =>
   cases rr;obtain ⟨t,rfl⟩:=r;obtain ⟨t',rfl⟩:=r';exact call_range_2 (A3q I1 q1 q2 q3 q4 q)
def tFor (wi:TI) (g:TG) (tb:TS):TS:=fun D σ H=>wi σ H fun J H1=>∃ W:Nat->Nat->St->Hp->Prop,(∃ m,W 0 m σ H1)/\∀ i m σ H,W i m σ H ->
 (J.stop i H/\D.nx σ H)\/(J.go i H/\∃ N:St->Hp->Prop,(∀ σ' H',N σ' H'->∃ m',m' < m/\W (i + 1) m' σ' H')/\∀ x H',J.yld i H x H'->g x σ H' fun σ2 H2=>tb { D with nx:=N,ct:=N,bk:=D.nx } σ2 H2)
def A1n (fp:List Addr) (h:Heap):List (Addr × Obj):=fp.filterMap fun b=>(h.get? b).map fun o=>(b,o)
def P9 {fp:List Addr} {h:Heap} {b:Addr} {o:Obj} (hb:b ∈ fp) (e:h.get? b=some o):(b,o) ∈ A1n fp h:=List.mem_filterMap.mpr ⟨b,hb,by rw [e]; rfl⟩
def A7v {fp:List Addr} {h:Heap} {p:Addr × Obj} (hp:p ∈ A1n fp h):p.1 ∈ fp/\h.get? p.1=some p.2:=by
 obtain ⟨b,hb,e⟩:=List.mem_filterMap.mp hp;cases q:h.get? b with
 | none=>rw [q] at e; cases e
 | some o =>
  rw [q] at e;have e':(b,o)=p:=Zj e;subst e';exact ⟨hb,q⟩
def Inv.pinned {pins:List (Addr × Obj)} {σ:St} {H:Hp} {s:Shared} {fp:List Addr} (I:Inv X pins σ H s) (hf:∀ b ∈ fp,FpOk X pins H b) (ho:∀ b ∈ fp,∃ o,s.heap.get? b=some o/\∀ v,o.data≠.cell v):Inv X (pins++A1n fp s.heap) σ H s :=
 I.pins_of fun p hp=>(Za hp).elim (fun z=>I.pin p (Zw _ z)) fun z=>by
  obtain ⟨hb,e⟩:=A7v z;obtain ⟨f0,f1,f2,_⟩:=hf p.1 hb;obtain ⟨o,e',d⟩:=ho p.1 hb;rw [e] at e'; cases e';exact ⟨e,f0,f1,f2,d⟩
def Inv.unpinned {pins pl:List (Addr × Obj)} {σ:St} {H:Hp} {s:Shared} (I:Inv X (pins++pl) σ H s):Inv X pins σ H s:=I.pins_of fun p hp=>I.pin p (Zw _ (Zt _ hp))
def A6x {iter:Expr} {body:List Stmt} {wi:TI} {g:TG} {tb:TS} {pos:Pos} (hp:PassesOwn (model X.prog X.w) X.A X.env X.xe) (hc:X.calm=true) (hi:PI X tg iter wi) (hg:PG X tg g) (hb:PSs X body tb)
  (hs:∀ x,foldedSetIterable iter X.env x=pure x:=by intro _; rfl):PS X (.For tg iter body [] pos) (tFor wi g tb):=by
 intro pins s σ H D I h;refine wpAny_For (thn (hi pins s σ H _ I h) fun v s1 h1=>thn h1 fun itv s2 h2=>?_) hs;obtain ⟨it,fp,tn,J,H2,e,I2,T,st2,f2,W,⟨m0,w0⟩,turn⟩:=h2;subst e;have stat:∀ {H':Hp},(∀ b ∈ fp,H' b=none)->∀ b ∈ fp,FpOk X pins H' b:=fun hn b hb=>⟨hn b hb,(f2 b hb).2⟩;refine codeAny_forLoop_any (fun n s'=>∃ i σ' H',Inv X pins σ' H' s'/\tn i s'.heap/\(∀ b ∈ fp,H' b=none)/\W i n σ' H') ?_ m0 ⟨0,σ,H2,I2,st2,fun b hb=>(f2 b hb).1,w0⟩;rintro n s3 ⟨i,σ3,H3,I3,st3,fr3,w3⟩;rcases turn i n σ3 H3 w3 with ⟨stop,qn⟩ | ⟨go,N,hN,step⟩
 ·refine wpAny_passesOwn hp (thn (T.done X rfl rfl rfl hc i pins s3 σ3 H3 X.xe I3 (stat fr3) st3 stop) fun r s4 ⟨hr,I4⟩=>?_);subst hr;exact wpAny_execs_nil ⟨σ3,H3,I4,qn⟩
 ·refine wpAny_passesOwn hp (thn (T.item X rfl rfl rfl hc i pins s3 σ3 H3 X.xe I3 (stat fr3) st3 go) fun r s4 ⟨u,hr,h4⟩=>?_);subst hr;refine wpAny_passesOwn hp (thn h4 fun _ s5 ⟨x,H5,I5,r5,y5,st5,fr5⟩=>?_);have I5':=I5.pinned (stat fr5) (T.obj _ _ st5);refine wpAny_passesOwn hp (thn (hg _ s5 σ3 H5 x u _ I5' r5 (step x H5 y5)) fun _ s6 ⟨σ6,H6,I6,q6⟩=>?_);refine wpAny_passesOwn hp (thn (hb _ s6 σ6 H6 _ I6 q6) fun f s7 q7=>?_);have again:∀ {σ7:St} {H7:Hp},Inv X (pins++A1n fp s5.heap) σ7 H7 s7->N σ7 H7->∃ m,m < n/\∃ i σ' H',Inv X pins σ' H' s7/\tn i s7.heap/\(∀ b ∈ fp,H' b=none)/\W i m σ' H':=fun {σ7 H7} I7 n7=>by
   obtain ⟨m',hm,w7⟩:=hN σ7 H7 n7;refine ⟨m',hm,i + 1,σ7,H7,I7.unpinned,T.keep _ _ _ st5 fun b hb o e=>(I7.pin (b,o) (Zw _ (Zw _ (P9 hb e)))).1,fun b hb=>?_,w7⟩;obtain ⟨o,e,d⟩:=T.obj _ _ st5 b hb;exact (I7.pin (b,o) (Zw _ (Zw _ (P9 hb e)))).2.1
  cases f with
  | next=>obtain ⟨σ7,H7,I7,n7⟩:=q7; exact again I7 n7
  | cont=>obtain ⟨σ7,H7,I7,n7⟩:=q7; exact again I7 n7
  | brk=>obtain ⟨σ7,H7,I7,q7⟩:=q7; exact ⟨σ7,H7,I7.unpinned,q7⟩
  | ret v=>obtain ⟨x7,σ7,H7,I7,r7,q7⟩:=q7; exact ⟨x7,σ7,H7,I7.unpinned,r7,q7⟩
end
def A8j {lo:Int} {n:Nat} {g:TG} {tb:TS} {D:Ends} {σ:St} {H:Hp} (Pv:Nat->St->Hp->Prop) (h0:Pv 0 σ H)
  (hs:∀ i σ H,i < n->Pv i σ H->g (.int (lo + i)) σ H fun σ2 H2=>tb { D with nx:=Pv (i + 1),ct:=Pv (i + 1),bk:=D.nx } σ2 H2) (hd:∀ σ H,Pv n σ H->D.nx σ H) :
  ∃ W:Nat->Nat->St->Hp->Prop,(∃ m,W 0 m σ H)/\∀ i m σ H,W i m σ H ->
   ((Itr lo n).stop i H/\D.nx σ H)\/((Itr lo n).go i H/\∃ N:St->Hp->Prop,(∀ σ' H',N σ' H'->∃ m',m' < m/\W (i + 1) m' σ' H')/\∀ x H',(Itr lo n).yld i H x H'->g x σ H' fun σ2 H2=>tb { D with nx:=N,ct:=N,bk:=D.nx } σ2 H2):=by
 refine ⟨fun i m σ H=>m=n - i/\i<=n/\Pv i σ H,⟨n,by simp,Nat.zero_le _,h0⟩,?_⟩;rintro i m σ H ⟨rfl,hi,p⟩;by_cases hlt:i < n
 ·refine .inr ⟨hlt,Pv (i + 1),fun σ' H' p'=>⟨n - (i + 1),by omega,rfl,hlt,p'⟩,fun x H' y=>?_⟩;obtain ⟨e,y⟩:=y;subst e y;exact hs i σ _ hlt p
 ·have e:i=n:=by omega
  subst e;exact .inl ⟨Zv _,hd σ H p⟩
abbrev R2:=V->V->Hp->VK->Prop
def OpR (X:Cx) (f:Value->Value->Sem Value) (r:R2):Prop :=
 ∀ (pins:List (Addr × Obj)) (s:Shared) (σ:St) (H:Hp) (x y:V) (v u:Value) (Q:VK),Inv X pins σ H s->RelV x v->RelV y u->r x y H Q ->
  wpAny (model X.prog X.w) X.A (f v u) (EP X pins σ Q) X.xe s
def UnR (X:Cx) (f:Value->Sem Value) (r:V->Hp->VK->Prop):Prop :=
 ∀ (pins:List (Addr × Obj)) (s:Shared) (σ:St) (H:Hp) (x:V) (v:Value) (Q:VK),Inv X pins σ H s->RelV x v->r x H Q ->
  wpAny (model X.prog X.w) X.A (f v) (EP X pins σ Q) X.xe s
def CallR (X:Cx) (f:Value) (r:List V->Hp->VK->Prop):Prop :=
 ∀ (pins:List (Addr × Obj)) (s:Shared) (σ:St) (H:Hp) (xs:List V) (us:List Value) (Q:VK),Inv X pins σ H s->Vals xs us->r xs H Q ->
  wpAny (model X.prog X.w) X.A (call f us) (EP X pins σ Q) X.xe s
def tOp (r:R2) (ta tb:TE):TE:=fun σ H Q=>ta σ H fun x H1=>tb σ H1 fun y H2=>r x y H2 Q
def tUn (r:V->Hp->VK->Prop) (ta:TE):TE:=fun σ H Q=>ta σ H fun x H1=>r x H1 Q
def rI (C:Int->Int->Prop) (g:Int->Int->V):R2:=fun x y H Q=>∃ i j,x=.int i/\y=.int j/\C i j/\Q (g i j) H
def rI0 (g:Int->Int->V):R2:=fun x y H Q=>∃ i j,x=.int i/\y=.int j/\Q (g i j) H
def rU (g:Int->V):V->Hp->VK->Prop:=fun x H Q=>∃ i,x=.int i/\Q (g i) H
section
variable {X:Cx} {a b c:Expr} {ta tb tc:TE} {pos:Pos}
def binT (ha:PE X a ta) (hb:PE X b tb) {pins:List (Addr × Obj)} {s:Shared} {σ:St} {H:Hp} {R:V->V->Hp->Prop} (I:Inv X pins σ H s)
  (h:ta σ H fun x H1=>tb σ H1 fun y H2=>R x y H2) {Q:Value->Shared->Prop} {f:Value->Value->Sem Value}
  (hf:∀ v u s2 x y H2,Inv X pins σ H2 s2->RelV x v->RelV y u->R x y H2->wpAny (model X.prog X.w) X.A (f v u) Q X.xe s2) :
  wpAny (model X.prog X.w) X.A (eval a X.env) (fun v s₁=>wpAny (model X.prog X.w) X.A (eval b X.env) (fun u s₂=>wpAny (model X.prog X.w) X.A (f v u) Q X.xe s₂) X.xe s₁) X.xe s:=by
 refine thn (ha pins s σ H _ I h) fun v s1 ⟨x,H1,I1,r1,q1⟩=>?_;refine thn (hb pins s1 σ H1 _ I1 q1) fun u s2 ⟨y,H2,I2,r2,q2⟩=>?_;exact hf v u s2 x y H2 I2 r1 r2 q2
def K6 {op:Operator} {r:R2} (ho:OpR X (binaryOp op) r) (ha:PE X a ta) (hb:PE X b tb):PE X (.BinOp a op b pos) (tOp r ta tb):=by
 intro pins s σ H Q I h;exact wpAny_BinOp (binT ha hb I h fun v u s2 x y H2 I2 rx ry q=>ho pins s2 σ H2 x y v u Q I2 rx ry q)
def C2m {op:UnaryOp} {r:V->Hp->VK->Prop} (ho:UnR X (unaryOp op) r) (ha:PE X a ta):PE X (.UnaryOp op a pos) (tUn r ta):=by
 intro pins s σ H Q I h;exact UnaryOp_ (thn (ha pins s σ H _ I h) fun v s1 ⟨x,H1,I1,r1,q1⟩=>ho pins s1 σ H1 x v Q I1 r1 q1)
def opI {f:Value->Value->Sem Value} {C:Int->Int->Prop} {g:Int->Int->Int}
  (rule:∀ (i j:Int) (t u:Tok) (s:Shared) (Q:Value->Shared->Prop) (E:Value->Shared->Prop),C i j->Q (.int (g i j) s.toks) { s with toks:=s.toks + 1 }->wpAny (model X.prog X.w) X.A (f (.int i t) (.int j u)) Q E s) :
  OpR X f (rI C fun i j=>.int (g i j)):=by
 intro pins s σ H x y v u Q I rx ry h;obtain ⟨i,j,rfl,rfl,hc,q⟩:=h;obtain ⟨t,rfl⟩:=rx;obtain ⟨t',rfl⟩:=ry;exact rule i j t t' s _ _ hc ⟨.int (g i j),H,I.tok _,⟨_,rfl⟩,q⟩
def opI0 {f:Value->Value->Sem Value} {g:Int->Int->Int}
  (rule:∀ (i j:Int) (t u:Tok) (s:Shared) (Q:Value->Shared->Prop) (E:Value->Shared->Prop),Q (.int (g i j) s.toks) { s with toks:=s.toks + 1 }->wpAny (model X.prog X.w) X.A (f (.int i t) (.int j u)) Q E s) :
  OpR X f (rI0 fun i j=>.int (g i j)):=by
 intro pins s σ H x y v u Q I rx ry h;obtain ⟨i,j,rfl,rfl,q⟩:=h;obtain ⟨t,rfl⟩:=rx;obtain ⟨t',rfl⟩:=ry;exact rule i j t t' s _ _ ⟨.int (g i j),H,I.tok _,⟨_,rfl⟩,q⟩
def opB0 {f:Value->Value->Sem Value} {g:Int->Int->Bool}
  (rule:∀ (i j:Int) (t u:Tok) (s:Shared) (Q:Value->Shared->Prop) (E:Value->Shared->Prop),Q (.bool (g i j)) s->wpAny (model X.prog X.w) X.A (f (.int i t) (.int j u)) Q E s) :
  OpR X f (rI0 fun i j=>.bl (g i j)):=by
 intro pins s σ H x y v u Q I rx ry h;obtain ⟨i,j,rfl,rfl,q⟩:=h;obtain ⟨t,rfl⟩:=rx;obtain ⟨t',rfl⟩:=ry;exact rule i j t t' s _ _ ⟨.bl (g i j),H,I,rfl,q⟩
def CPow (i j:Int):Prop:=0<=j/\j<=1000000/\i.natAbs < 2 ^ 64
def G4:OpR X (binaryOp .Add) (rI0 fun i j=>.int (i + j)):=opI0 fun _ _ _ _ _ _ _ q=>add_int q
def W4:OpR X (binaryOp .Sub) (rI0 fun i j=>.int (i - j)):=opI0 fun _ _ _ _ _ _ _ q=>sub_int q
def Q4:OpR X (binaryOp .Mod) (rI (fun _ j=>0 < j) fun i j=>.int (i % j)):=opI fun i j _ _ _ _ _ hc q=>by
 have h1:(0:Int) < j:=hc;exact mod_int' (by omega) (by rw [Int.fmod_eq_emod_of_nonneg i (by omega)]; exact q)
def A7l:OpR X (binaryOp .Pow) (rI CPow fun i j=>.int (i ^ j.toNat)):=opI fun _ _ _ _ _ _ _ hc q=>pow_int_small hc.1 hc.2.1 hc.2.2 q
def unI {f:Value->Sem Value} {g:Int->Int}
  (rule:∀ (i:Int) (t:Tok) (s:Shared) (Q:Value->Shared->Prop) (E:Value->Shared->Prop),Q (.int (g i) s.toks) { s with toks:=s.toks + 1 }->wpAny (model X.prog X.w) X.A (f (.int i t)) Q E s) :
  UnR X f (rU fun i=>.int (g i)):=by
 intro pins s σ H x v Q I rx h;obtain ⟨i,rfl,q⟩:=h;obtain ⟨t,rfl⟩:=rx;exact rule i t s _ _ ⟨.int (g i),H,I.tok _,⟨_,rfl⟩,q⟩
def A53:UnR X (unaryOp .USub) (rU fun i=>.int (-i)):=unI fun _ _ _ _ _ q=>neg_int q
def C1q {pins:List (Addr × Obj)} {σ:St} {H:Hp} {s:Shared} {Q:VK} {k k':Bool} (I:Inv X pins σ H s) (q:Q (.bl k) H) (e:k=k'):EP X pins σ Q (.bool k') s:=by
 subst e;exact ⟨.bl k,H,I,rfl,q⟩
def A5c:OpR X (compareOp .Lt) (rI0 fun i j=>.bl (decide (i < j))):=opB0 fun _ _ _ _ _ _ _ q=>lt_int q
def C2s:OpR X (compareOp .LtE) (rI0 fun i j=>.bl (decide (i<=j))):=opB0 fun _ _ _ _ _ _ _ q=>le_int q
def Y3:OpR X (compareOp .Gt) (rI0 fun i j=>.bl (decide (j < i))):=opB0 fun _ _ _ _ _ _ _ q=>gt_int q
def B91:OpR X (compareOp .GtE) (rI0 fun i j=>.bl (decide (j<=i))):=opB0 fun _ _ _ _ _ _ _ q=>ge_int q
def B9z:OpR X (compareOp .Is) (fun x y H Q=>y=.non/\Q (.bl (decide (x=.non))) H):=by
 intro pins s σ H x y v u Q I rx ry h;obtain ⟨rfl,q⟩:=h;cases ry;refine is_none_gen (C1q I q ?_);cases x <;> first
  | (cases rx; rfl)
  | (obtain ⟨t,rfl⟩:=rx; rfl)
def B6 (b:Expr) {op:CmpOp} (h:op≠.In:=by decide) (h2:op≠.NotIn:=by decide):behindInMarks op b=false:=by
 have e1:(op == CmpOp.In)=false:=by cases op <;> first | rfl | exact absurd rfl h
 have e2:(op == CmpOp.NotIn)=false:=by cases op <;> first | rfl | exact absurd rfl h2
 cases b <;> simp [behindInMarks,e1,e2]
def A0q {op:CmpOp} {r:R2} (ho:OpR X (compareOp op) r) (ha:PE X a ta) (hb:PE X b tb) (hm:behindInMarks op b=false):PE X (.Compare a [op] [b] pos) (tOp r ta tb):=by
 intro pins s σ H Q I h;exact wpAny_Compare1 (binT ha hb I h fun v u s2 x y H2 I2 rx ry q=>ho pins s2 σ H2 x y v u Q I2 rx ry q) hm
def B23 (t:TE):TT:=fun σ H Q=>t σ H fun x H'=>∃ k,x=.bl k/\Q k H'
def A6t {op:CmpOp} {r:R2} (ho:OpR X (compareOp op) r) (ha:PE X a ta) (hb:PE X b tb) (hm:behindInMarks op b=false):PT X (.Compare a [op] [b] pos) (B23 (tOp r ta tb)):=by
 intro pins s σ H Q I h;refine wpAny_isTrue_Compare1 (thn (ha pins s σ H _ I h) fun v s1 ⟨x,H1,I1,r1,q1⟩=>thn (hb pins s1 σ H1 _ I1 q1) fun u s2 ⟨y,H2,I2,r2,q2⟩ =>
  thn (ho pins s2 σ H2 x y v u _ I2 r1 r2 q2) fun c s3 ⟨z,H3,I3,r3,k,e,q3⟩=>?_) hm
 subst e;cases r3;exact wpAny_truthy_bool ⟨H3,I3,q3⟩
def A59 (r r':R2) (ta tb tc:TE):TE:=fun σ H Q=>ta σ H fun x H1=>tb σ H1 fun y H2=>r x y H2 fun z H3=>∃ k,z=.bl k /\
 (if k=true then tc σ H3 fun w' H4=>r' y w' H4 Q else Q (.bl false) H3)
def B0a {op op':CmpOp} {r r':R2} (ho:OpR X (compareOp op) r) (ho':OpR X (compareOp op') r') (ha:PE X a ta) (hb:PE X b tb) (hc:PE X c tc)
  (hm:lastMarks [op,op'] [b,c]=false:=by with_unfolding_all rfl):PE X (.Compare a [op,op'] [b,c] pos) (A59 r r' ta tb tc):=by
 intro pins s σ H Q I h;refine Compare_chain (thn (ha pins s σ H _ I h) fun v s1 ⟨x,H1,I1,r1,q1⟩=>chain_link (thn (hb pins s1 σ H1 _ I1 q1) fun u s2 ⟨y,H2,I2,r2,q2⟩ =>
  thn (ho pins s2 σ H2 x y v u _ I2 r1 r2 q2) fun d s3 ⟨z,H3,I3,r3,k,e,q3⟩=>?_)) hm
 subst e;cases r3;refine wpAny_truthy_bool ?_;cases k with
 | false=>exact ite_ff ⟨.bl false,H3,I3,rfl,q3⟩
 | true=>exact ite_tt (chain_last (thn (hc pins s3 σ H3 _ I3 q3) fun w' s4 ⟨z',H4,I4,r4,q4⟩=>ho' pins s4 σ H4 y z' u w' Q I4 r2 r4 q4))
def Z7:(sizeLine:Nat) < 2 ^ 63:=by rw [sizeLine_eq]; decide
def A2n {x:V} {us:List Value} (r:Vals [x] us):∃ u,us=[u]/\RelV x u:=by
 cases r with
 | cons r1 r2=>cases r2; exact ⟨_,rfl,r1⟩
def B7q {x y:V} {us:List Value} (r:Vals [x,y] us):∃ u w',us=[u,w']/\RelV x u/\RelV y w':=by
 cases r with
 | cons r1 r2 =>
  cases r2 with
  | cons r3 r4=>cases r4; exact ⟨_,_,rfl,r1,r3⟩
def B1i:CallR X (.builtin "abs") (fun xs H Q=>∃ i,xs=[.int i]/\Q (.int (if i < 0 then -i else i)) H):=by
 intro pins s σ H xs us Q I r h;obtain ⟨i,rfl,q⟩:=h;obtain ⟨u,rfl,t,rfl⟩:=A2n r;exact call_abs_int fun u tk=>⟨.int (if i < 0 then -i else i),H,I.tok _,⟨_,rfl⟩,q⟩
def A8z (hc:X.calm=true):CallR X (.builtin "max") (fun xs H Q=>∃ i j,xs=[.int i,.int j]/\Q (.int (if j > i then j else i)) H):=by
 intro pins s σ H xs us Q I r h;obtain ⟨i,j,rfl,q⟩:=h;obtain ⟨u,w',rfl,⟨t,rfl⟩,⟨t',rfl⟩⟩:=B7q r;refine max_two_ints (I.ok.hd hc) fun h' tk k=>⟨_,H,I.kept k,?_,q⟩;by_cases hj:j > i
 ·rw [if_pos hj,if_pos hj]; exact ⟨_,rfl⟩
 ·rw [if_neg hj,if_neg hj]; exact ⟨_,rfl⟩
def A8x (hc:X.calm=true):CallR X (.builtin "min") (fun xs H Q=>∃ i j,xs=[.int i,.int j]/\Q (.int (if j < i then j else i)) H):=by
 intro pins s σ H xs us Q I r h;obtain ⟨i,j,rfl,q⟩:=h;obtain ⟨u,w',rfl,⟨t,rfl⟩,⟨t',rfl⟩⟩:=B7q r;refine min_two_ints (I.ok.hd hc) fun h' tk k=>⟨_,H,I.kept k,?_,q⟩;by_cases hj:j < i
 ·rw [if_pos hj,if_pos hj]; exact ⟨_,rfl⟩
 ·rw [if_neg hj,if_neg hj]; exact ⟨_,rfl⟩
def A2e:CallR X (.type "int") (fun xs H Q=>(∃ i,xs=[.int i]/\Q (.int i) H)\/∃ k,xs=[.bl k]/\Q (.int (if k then 1 else 0)) H):=by
 intro pins s σ H xs us Q I r h;rcases h with ⟨i,rfl,q⟩ | ⟨k,rfl,q⟩
 ·obtain ⟨u,rfl,t,rfl⟩:=A2n r;exact call_int_int ⟨.int i,H,I,⟨_,rfl⟩,q⟩
 ·obtain ⟨u,rfl,r1⟩:=A2n r;cases r1;exact call_int_bool ⟨.int (if k then 1 else 0),H,I.tok _,⟨_,rfl⟩,q⟩
end
def A71 {h:Heap} {dx:Addr} {mA:Str->Option Value} (n:h.Ns1 dx mA):∃ od,h.get? dx=some od/\∀ name,W.lookIn name od=some (mA name):=by
 obtain ⟨o,es,ep,ho,hd,hk,_,hm⟩:=n;refine ⟨o,ho,fun name=>?_⟩;have e:=hm name;unfold nsFind findBy at e;rw [<- Array.find?_toList] at e;unfold W.lookIn;rw [hd];dsimp only;split
 ·rename_i y q;rw [q] at e;exact congrArg some e
 ·rename_i q;rw [q] at e;have a:es.toList.any (·.refKey)=false:=by
   rw [List.any_eq_false];intro y hy;obtain ⟨z,t,hkey⟩:=hk y (Array.mem_toList_iff.mp hy);simp [DictEntry.refKey,hkey]
  have a':¬ es.toList.any (·.refKey)=true:=by rw [a]; exact Bool.false_ne_true
  rw [if_neg a'];exact congrArg some e
def RelO.some_of {v:V} {o:Option Value} (r:RelO (some v) o):∃ u,o=some u/\RelV v u:=by
 cases o with
 | none=>exact (show False from r).elim
 | some u=>exact ⟨u,rfl,r⟩
def RelO.none_of {o:Option Value} (r:RelO none o):o=none:=by
 cases o with
 | none=>rfl
 | some u=>exact (show False from r).elim
structure Cls (K:W.Frag) (C:Addr):Prop where
 pg:W.plainGet K C Str.empty=true
 hd:W.hasDictIn K C=true
 po:W.plainOver K C=true
 sa:W.findIn K (.ref C) "__setattr__"=some (some (.builtin "object.__setattr__"))
def Cls.get {K:W.Frag} {C:Addr} (c:Cls K C) (f:Str):W.plainGet K C f=true:=c.pg
section
variable {X:Cx} {pins:List (Addr × Obj)} {σ:St} {H:Hp} {s:Shared} {a C dx:Addr} {fs:List (Str × V)} {f:Str} {v:V} {A:Around} {E:Value->Shared->Prop}
def B7g {prog:Program} {w:World} {env:Env} {e:Expr} {f:Str} {pos:Pos} {s:Shared} {Q:Value->Shared->Prop} (hb:attributeBase e f env (eval e env)=eval e env)
  (h:wpAny (model prog w) A (eval e env) (fun o s₁=>wpAny (model prog w) A (getAttr o f true) Q E s₁) E s):wpAny (model prog w) A (eval (.Attribute e f pos) env) Q E s :=
 Attribute_any_ h (by rw [arm_eval_Attribute,hb])
end
structure Room (k:Nat) (A:Around):Prop where
 hd:A.handled=none
 gd:A.guards=some []
 dp:A.depth + 3 * k + 5 < recursionLimit
 un:A.units + 16 * k + 200 < cLine
def Room.mono {j k:Nat} {A:Around} (r:Room k A) (h:j<=k):Room j A:=⟨r.hd,r.gd,by have:=r.dp; omega,by have:=r.un; omega⟩
def Room.mo {j k:Nat} {A:Around} (r:Room k A) (h:j<=k:=by first | decide | omega):Room j A:=r.mono h
def Room.deeper {k:Nat} {A:Around} (r:Room (k + 1) A) (env:Env):Room k (A.deeper env) :=
 ⟨r.hd,r.gd,by have:=r.dp; show A.depth + 1 + 3 * k + 5 < _; omega,by have:=r.un; show A.units + 3 + 16 * k + 200 < _; omega⟩
def A5m {A:Around} {C:Addr} {us:List Value} {kw:List (Str × Value)}:(A.under (.builtin "type.__call__" ⟨.ref C :: us,kw⟩)).depth=A.depth + 1:=by
 first | rfl | simp [Around.under,Code.weight,Code.isCreation,Code.isGuard,Code.isCaller,Code.frames,Code.isFrame,guardIds]
def A5l {A:Around} {C:Addr} {us:List Value} {kw:List (Str × Value)}:(A.under (.builtin "type.__call__" ⟨.ref C :: us,kw⟩)).units=A.units + 1:=by
 first | rfl | simp [Around.under,Code.cUnits,Code.frames,Code.isFrame]
def Room.make {k:Nat} {A:Around} (r:Room (k + 1) A) (C:Addr) (us:List Value) (kw:List (Str × Value)):Room k (A.under (.builtin "type.__call__" ⟨.ref C :: us,kw⟩)) :=
 ⟨r.hd,r.gd,by have:=r.dp; rw [A5m]; omega,by have:=r.un; rw [A5l]; omega⟩
def Room.depth {k:Nat} {A:Around} (r:Room k A):A.depth < recursionLimit:=by have:=r.dp; omega
def Room.units {k:Nat} {A:Around} (r:Room k A):A.units + 64 < cLine:=by have:=r.un; omega
def tNil:TA:=fun _ H Q=>Q [] H
def F7 (ta:TE) (tr:TA):TA:=fun σ H Q=>ta σ H fun x H1=>tr σ H1 fun xs H2=>Q (x :: xs) H2
section
variable {X:Cx} {e:Expr} {es:List Expr} {te:TE} {t:TA} {pos:Pos}
def pa_nil:PA X [] tNil:=fun _ _ _ _ H Q I h=>Calls.spliced_nil ⟨[],H,I,.nil,h⟩
def pa_cons (ha:PE X e te) (hr:PA X es t) (hs:starEach (e :: es) X.env=(false,eval e X.env) :: starEach es X.env:=by rfl):PA X (e :: es) (F7 te t):=by
 intro pos pins s σ H Q I h;rw [hs];show wpAny _ _ (spliced ((false,eval e X.env) :: backTo pos (starEach es X.env))) _ _ s;refine Calls.spliced_cons (thn (ha pins s σ H _ I h) fun u s1 ⟨x,H1,I1,r1,q1⟩=>?_);exact thn (hr pos pins s1 σ H1 _ I1 q1) fun us s2 ⟨xs,H2,I2,r2,q2⟩=>⟨x :: xs,H2,I2,.cons r1 r2,q2⟩
def tTup (t:TA):TE:=fun σ H Q=>t σ H fun xs H1=>xs.length<=sizeLine/\∀ p,H1 p=none->Q (.ref p) (upd H1 p (.tup xs))
def tLst (t:TA):TE:=fun σ H Q=>t σ H fun xs H1=>xs.length<=sizeLine/\∀ p,H1 p=none->Q (.ref p) (upd H1 p (.lst xs))
def B8p {x1} (h:PA X es t):PE X (.Tuple es x1 pos) (tTup t):=by
 intro pins s σ H Q I hq;refine wpAny_Tuple_spliced (thn (h pos pins s σ H _ I hq) fun us s1 ⟨xs,H1,I1,r,z,q⟩=>⟨by rw [<- r.length]; exact z,?_⟩);have hf:H1 s1.heap.objs.size=none:=I1.hok.fresh (Zv _);refine ⟨.ref s1.heap.objs.size,upd H1 s1.heap.objs.size (.tup xs),I1.laid (t':=s1.toks) (fun b u e=>Heap.get?_push_of_some _ e) (Zv _) ?_,rfl,q _ hf⟩;exact ⟨z,us,r,⟨_,Heap.get?_push_size _ rfl,rfl,_,rfl⟩⟩
def A7a (h:PA X es t):PE X (.List es pos) (tLst t):=by
 intro pins s σ H Q I hq;refine wpAny_List_spliced (thn (h pos pins s σ H _ I hq) fun us s1 ⟨xs,H1,I1,r,z,q⟩=>⟨by rw [<- r.length]; exact z,?_⟩);have hf:H1 s1.heap.objs.size=none:=I1.hok.fresh (Zv _);refine ⟨.ref s1.heap.objs.size,upd H1 s1.heap.objs.size (.lst xs),I1.laid (t':=s1.toks) (fun b u e=>Heap.get?_push_of_some _ e) (Zv _) ?_,rfl,q _ hf⟩;exact ⟨z,us,0,r,Heap.get?_push_size _ rfl⟩
end
abbrev Sp:=List V->Hp->VK->XK->Prop
abbrev CXT:=List Env->Hp->Shared->XK->Value->Shared->Prop
structure Env0 (P:Program) (w:World) (K:W.Frag) (mg:Str->Option Value) (base:Heap) (A:Around) (outer:List Env) (s:Shared) (H:Hp):Prop where
 frames:A.frames=some outer
 mod:Mod K mg base
 bs:∀ b o,base.get? b=some o->s.heap.get? b=some o/\H b=none
 bsz:base.objs.size<=s.heap.objs.size
 funs:s.heap.FunFrames base outer
 frf:∀ b ∈ frs outer,H b=none
 hok:HOk P w H s.heap
 bare:AllBare s.gens
def CE (outer:List Env) (P:Program) (w:World) (H:Hp) (s:Shared) (Q:VK) (u:Value) (s':Shared):Prop :=
 ∃ v H',s'.os=s.os/\AllBare s'.gens/\Un (frs outer) [] H H' s.heap s'.heap/\HOk P w H' s'.heap/\RelV v u/\Q v H'
def CR (CX:CXT) (outer:List Env) (P:Program) (w:World) (H:Hp) (s:Shared) (Q:VK) (E:XK) (r:Result) (s':Shared):Prop :=
 match r with
 | .ok (.ret u)=>CE outer P w H s Q u s'
 | .ok _=>False
 | .error e=>CX outer H s E e s'
structure FnOk (P:Program) (w:World) (K:W.Frag) (mg:Str->Option Value) (base:Heap) (CX:CXT) (k:Nat) (f:Addr) (fd:FuncData) (ps:List Str) (sp:Sp):Prop where
 len:∀ vs H Q E,sp vs H Q E->vs.length=ps.length
 run:∀ (A:Around) (outer:List Env) (s:Shared) (H:Hp) (args:Args) (us:List Value) (vs:List V) (Q:VK) (E:XK),Room k A->Env0 P w K mg base A outer s H->BindsTo s fd args (ps.zip us)->Vals vs us->sp vs H Q E ->
  codeAny (model P w) A (.call (.ref f) args) (CR CX outer P w H s Q E) s
def FnOk.imp {P:Program} {w:World} {K:W.Frag} {mg:Str->Option Value} {base:Heap} {CX:CXT} {k:Nat} {f:Addr} {fd:FuncData} {ps:List Str} {sp sp':Sp} (F:FnOk P w K mg base CX k f fd ps sp)
  (h:∀ vs H Q E,sp' vs H Q E->sp vs H Q E):FnOk P w K mg base CX k f fd ps sp' :=
 ⟨fun vs H Q E q=>F.len vs H Q E (h _ _ _ _ q),fun A outer s H args us vs Q E hr he hb hv hs=>F.run A outer s H args us vs Q E hr he hb hv (h _ _ _ _ hs)⟩
def Env0.make {P:Program} {w:World} {K:W.Frag} {mg:Str->Option Value} {base:Heap} {A:Around} {outer:List Env} {s:Shared} {H:Hp} (e:Env0 P w K mg base A outer s H) (C:Addr) (us:List Value) (kw:List (Str × Value)) :
  Env0 P w K mg base (A.under (.builtin "type.__call__" ⟨.ref C :: us,kw⟩)) outer s H:=⟨by first | exact e.frames | (simpa [Around.under,Code.envs,Code.isFrame,pushEnvs] using e.frames),e.mod,e.bs,e.bsz,e.funs,e.frf,e.hok,e.bare⟩
section
variable {X:Cx} {pins:List (Addr × Obj)} {σ:St} {H:Hp} {s s':Shared}
def Inv.env0 (I:Inv X pins σ H s):Env0 X.prog X.w X.K X.mg X.base X.A X.stack s H :=
 ⟨I.ok.frames,I.ok.mod,I.bs,Zx I.ok.bsz I.sz,I.stack,I.stkFree,I.hok,I.bare⟩
def Inv.after {Q:VK} {u:Value} (I:Inv X pins σ H s) (h:CE X.stack X.prog X.w H s Q u s'):EP X pins σ Q u s':=by
 obtain ⟨v,H',os,bare,un,hok,r,q⟩:=h;obtain ⟨hh,g,d,t,os'⟩:=s';obtain rfl:os'=s.os:=os;exact ⟨v,H',I.call (h':=hh) (g':=g) (d':=d) (t':=t) (ch:=[]) un hok bare (fun b z=>absurd z (by simp)),r,q⟩
end
def A4v (sp:Sp) (dvs:List V) (E:XK) (t:TA):TE:=fun σ H Q=>t σ H fun vs H1=>sp (vs++dvs) H1 Q E
def Binds (K:W.Frag) (fd:FuncData) (ps:List Str) (ds:List Value):Prop :=
 ∀ (s:Shared) (us:List Value),K.In s.heap->(us++ds).length=ps.length->BindsTo s fd ⟨us,[]⟩ (ps.zip (us++ds))
def Binds.all {K:W.Frag} {fd:FuncData} {ps:List Str} (h:∀ us:List Value,us.length=ps.length->bindArgs fd ⟨us,[]⟩=pure (ps.zip us)):Binds K fd ps []:=fun s us _ hl=>by
 rw [List.append_nil] at hl ⊢;exact .of_eq (h us hl)
def A2m (CX:CXT) (X:Cx) (E:XK):Prop:=∀ (pins:List (Addr × Obj)) (σ:St) (H:Hp) (s:Shared) (e:Value) (s':Shared),Inv X pins σ H s->CX X.stack H s E e s'->X.xe e s'
section
variable {X:Cx} {CX:CXT} {k:Nat} {f C:Addr} {fd:FuncData} {ps:List Str} {sp:Sp} {dvs:List V} {ds:List Value} {E:XK} {x m:Str} {p pos apos:Pos} {e o:Expr} {es:List Expr} {ta:TE} {t:TA}
def B10 {pins:List (Addr × Obj)} {σ:St} {H:Hp} {s:Shared} {Q:VK} {us:List Value} {vs:List V} (F:FnOk X.prog X.w X.K X.mg X.base CX k f fd ps sp) (hr:Room k X.A) (hb:Binds X.K fd ps ds) (hd:Vals dvs ds) (hx:A2m CX X E)
  (I:Inv X pins σ H s) (r:Vals vs us) (h:sp (vs++dvs) H Q E):wpAny (model X.prog X.w) X.A (call (.ref f) us) (EP X pins σ Q) X.xe s:=by
 have r2:Vals (vs++dvs) (us++ds):=r.append hd;have hl:(us++ds).length=ps.length:=by rw [<- r2.length]; exact F.len _ _ _ _ h
 refine wpAny_call (codeAny_mono (F.run X.A X.stack s H ⟨us,[]⟩ (us++ds) (vs++dvs) Q E hr I.env0 (hb s us I.kIn hl) r2 h) fun r s' hq=>?_);cases r with
 | error e=>exact hx pins σ H s e s' I hq
 | ok fl =>
  cases fl with
  | ret u=>exact I.after hq
  | next=>exact False.elim hq
  | brk=>exact False.elim hq
  | cont=>exact False.elim hq
def B4c (F:FnOk X.prog X.w X.K X.mg X.base CX k f fd ps sp) (hr:Room k X.A) (hg:Gl X x) (hm:X.mg x=some (.ref f)) (hk:W.keepIn X.K (.ref f)=true) (hb:Binds X.K fd ps ds) (hd:Vals dvs ds) (hx:A2m CX X E)
  (ha:PA X (e :: es) t) (hdb:(x == ("__debug__":Str))=false:=by decide) (he:starEach (e :: es) X.env=(false,eval e X.env) :: starEach es X.env:=by rfl) (hpl:(backTo pos (starEach es X.env)).any (·.1)=false:=by rfl) :
  PE X (.Call (.Name x p) (e :: es) [] pos) (A4v sp dvs E t):=by
 intro pins s σ H Q I h;refine wpAny_Call_Name_kw (R3 I hg hm ?_ hdb);refine W.callWith_K (h₀:=X.base) I.ok.mod.kin hk (thn (ha pos pins s σ H _ I h) fun us s1 ⟨vs,H1,I1,r,q⟩=>⟨I1.kIn,?_⟩) he hpl;exact B10 F hr hb hd hx I1 r q
end
structure FnScope (N P:List Str) (sc:Scope):Prop where
 kind:sc.kind=.function
 co:sc.isCoroutine=false
 gen:sc.isGenerator=false
 nd:N.Nodup
 pre:N.take P.length=P
 par:∀ x ∈ P,sc.names.lookup x=some .local\/sc.names.lookup x=some .cell
 nofree:∀ y ∈ sc.names,y.2≠.free
theorem A2h {kindOf:Str->Option NameKind} {x:Str}:∀ {binds:List (Str × Value)} {m:Str->Option Value},(∀ v,(x,v) ∉ binds)->bindL kindOf binds m x=m x
 | [],_,_=>rfl
 | (n,v) :: r,m,h=>by
  unfold bindL;rw [A2h fun w hw=>h w (Zr _ hw)];split
  ·have:x≠n:=by rintro rfl; exact h v Zy
   simp [this]
  ·rfl
theorem A2j {kindOf:Str->Option NameKind} {x:Str}:∀ {binds:List (Str × Value)} {m:Str->Option Value},(∀ v,(x,v) ∉ binds)->bindC kindOf binds m x=m x
 | [],_,_=>rfl
 | (n,v) :: r,m,h=>by
  unfold bindC;rw [A2j fun w hw=>h w (Zr _ hw)];split
  ·rfl
  ·have:x≠n:=by rintro rfl; exact h v Zy
   simp [this]
def A2i {kindOf:Str->Option NameKind} {x:Str} {v:Value}:∀ {P:List Str} {vs:List Value} {i:Nat} {m:Str->Option Value},P.Nodup->P[i]?=some x->vs[i]?=some v->kindOf x=some .local ->
  bindL kindOf (P.zip vs) m x=some v
 | [],_,_,_,_,h,_,_=>by simp at h
 | _ :: _,[],_,_,_,_,h,_=>by simp at h
 | p :: P,w :: vs,0,m,nd,h1,h2,hk=>by
  simp at h1 h2; subst h1; subst h2;show bindL kindOf ((p,w) :: P.zip vs) m p=_;unfold bindL;rw [A2h fun v hv=>(List.nodup_cons.mp nd).1 (List.of_mem_zip hv).1,if_pos hk];simp
 | p :: P,w :: vs,i + 1,m,nd,h1,h2,hk=>by
  show bindL kindOf ((p,w) :: P.zip vs) m x=_;unfold bindL;exact A2i (i:=i) (List.nodup_cons.mp nd).2 (by simpa using h1) (by simpa using h2) hk
def A2k {kindOf:Str->Option NameKind} {x:Str} {v:Value}:∀ {P:List Str} {vs:List Value} {i:Nat} {m:Str->Option Value},P.Nodup->P[i]?=some x->vs[i]?=some v->kindOf x≠some .local ->
  bindC kindOf (P.zip vs) m x=some v
 | [],_,_,_,_,h,_,_=>by simp at h
 | _ :: _,[],_,_,_,_,h,_=>by simp at h
 | p :: P,w :: vs,0,m,nd,h1,h2,hk=>by
  simp at h1 h2; subst h1; subst h2;show bindC kindOf ((p,w) :: P.zip vs) m p=_;unfold bindC;rw [A2j fun v hv=>(List.nodup_cons.mp nd).1 (List.of_mem_zip hv).1,if_neg hk];simp
 | p :: P,w :: vs,i + 1,m,nd,h1,h2,hk=>by
  show bindC kindOf ((p,w) :: P.zip vs) m x=_;unfold bindC;exact A2k (i:=i) (List.nodup_cons.mp nd).2 (by simpa using h1) (by simpa using h2) hk
def start (N:List Str) (vs:List V):St:=vs.map some++List.replicate (N.length - vs.length) none
def cxOf (CX:CXT) (P:Program) (w:World) (K:W.Frag) (mg:Str->Option Value) (base:Heap) (N:List Str) (qual:Str) (scope:Scope) (f:Addr) (cd:Value) (A:Around) (outer:List Env) (s:Shared) (H:Hp) (E:XK):Cx where
 prog:=P
 w:=w
 K:=K
 mg:=mg
 base:=base
 A:=A.deeper (envOfC qual scope s.heap.objs.size f cd)
 N:=N
 s₀:=s
 H₀:=H
 env:=envOfC qual scope s.heap.objs.size f cd
 outer:=outer
 stack:=envOfC qual scope s.heap.objs.size f cd :: outer
 ex:=[]
 calm:=true
 fn:=fun _=>true
 pn:=[]
 xe:=fun e s'=>wpAny (model P w) (A.deeper (envOfC qual scope s.heap.objs.size f cd)) (leaving (envOfC qual scope s.heap.objs.size f cd) e) (fun _ s''=>CX outer H s E e s'') (fun e' s''=>CX outer H s E e' s'') s'
def A4n {sc:Scope} {n:Nat} {x:Str} (h:sc.names.lookup x=some .cell):∃ c,(cellsFrom n sc.names []).lookup x=some c:=by
 have q:=W.cellsFrom_some sc.names n [] (.inl h);exact Option.isSome_iff_exists.mp q
def A12 {CX:CXT} {P:Program} {w:World} {K:W.Frag} {mg:Str->Option Value} {base:Heap} {N ps:List Str} {qual:Str} {scope:Scope} {f:Addr} {cd:Value} {A:Around} {outer:List Env} {s s1:Shared} {H:Hp} {E:XK} {us:List Value} {vs:List V}
  (S:FnScope N ps scope) (hd:A.handled=none) (e0:Env0 P w K mg base A outer s H) (hl:vs.length=ps.length) (r:Vals vs us)
  (x:InCallC s s.heap.objs.size (bindL (envOfC qual scope s.heap.objs.size f cd).kindOf (ps.zip us) fun _=>none) (cellsFrom (s.heap.objs.size + 1) scope.names []) (bindC (envOfC qual scope s.heap.objs.size f cd).kindOf (ps.zip us) fun _=>none) s1) :
  Inv (cxOf CX P w K mg base N qual scope f cd A outer s H E) [] (start N vs) H s1:=by
 have hpl:ps.length<=N.length:=by have:=congrArg List.length S.pre; rw [List.length_take] at this; omega
 obtain ⟨h1,tk,rfl,hk⟩:=x.done;have noA:∀ b:Addr,b ∉ (cxOf CX P w K mg base N qual scope f cd A outer s H E).ex:=fun b z=>absurd (show b ∈ ([]:List Addr) from z) (by simp);refine ⟨⟨e0.mod,S.kind,rfl,rfl,Zv _,fun y z c h1 h2=>?_,fun y hy=>?_,fun y c _ h=>?_,fun _=>hd,Around.frames_deeper e0.frames,.inr ⟨rfl,rfl⟩,fun b z=>absurd z (noA b),e0.bs,e0.bsz,fun b _ _=>noA b,fun b z=>absurd z (noA b),e0.funs,e0.frf⟩,
  rfl,e0.bare,Un.kept hk,⟨_,x.toInCall.ns,fun i y v h1 h2 h3=>?_⟩,fun y c h=>⟨_,x.cell y c h⟩,e0.hok.fresh (Zv _),fun y c h=>?_,fun p hp=>absurd (show p ∈ ([]:List (Addr × Obj)) from hp) (by simp),e0.hok.kept hk,?_⟩
 ·exact name_of_addr x.apart (PySem.mem_of_lookup h1) (PySem.mem_of_lookup h2)
 ·have hy:scope.names.lookup y=some .cell\/scope.names.lookup y=some .free:=hy;rcases hy with hy | hy
  ·exact A4n hy
  ·exact absurd rfl (S.nofree _ (PySem.mem_of_lookup hy))
 ·exact Nat.le_of_lt (x.above y c (PySem.mem_of_lookup h))
 ·have hi:i < vs.length:=by
   unfold start at h2;by_cases hi:i < vs.length
   ·exact hi
   ·rw [List.getElem?_append_right (by simpa using hi)] at h2;rw [List.getElem?_replicate] at h2;split at h2 <;> cases h2
  have ha:vs[i]?=some v:=by
   unfold start at h2;rw [List.getElem?_append_left (by simpa using hi),Zh] at h2;cases e:vs[i]? with
   | none=>rw [e] at h2; cases h2
   | some a=>rw [e] at h2; cases h2; rfl
  obtain ⟨u,hu,rv⟩:=r.get ha;have hp:ps[i]?=some y:=by
   rw [<- S.pre,List.getElem?_take_of_lt (by omega)]; exact h1
  have ndP:ps.Nodup:=by rw [<- S.pre]; exact S.nd.sublist (List.take_sublist _ _)
  refine ⟨u,rv,?_⟩;rcases S.par y (Zm hp) with k | k
  ·exact .inl ⟨k,A2i ndP hp hu k⟩
  ·obtain ⟨c,e⟩:=A4n (n:=s.heap.objs.size + 1) k;refine .inr ⟨.inl k,c,e,?_⟩;have q:=x.cell y c e;rw [A2k ndP hp hu (by show scope.names.lookup y≠_; rw [k]; decide)] at q;exact q
 ·exact e0.hok.fresh (Nat.le_of_lt (x.above y c (PySem.mem_of_lookup h)))
 ·unfold start;show _=N.length;rw [Ze,Zl,List.length_replicate];omega
def B6z {CX:CXT} {P:Program} {w:World} {K:W.Frag} {mg:Str->Option Value} {base:Heap} {k:Nat} {f:Addr} {name qual:Str} {params:Arguments} {body:List Stmt} {scope:Scope} {dV kV doc pm cdv ct oc:Value} {an od:Option Addr}
  {osl:Array (Option Value)} {N ps:List Str} {sp:Sp} (lk:K.lookup f=some ⟨oc,od,.func (W.fnOf name qual params body scope dV kV doc pm an cdv ct),osl⟩) (hcd:W.codeIn K cdv qual=true) (S:FnScope N ps scope)
  (len:∀ vs H Q E,sp vs H Q E->vs.length=ps.length)
  (hbody:∀ (A:Around) (outer:List Env) (s:Shared) (H:Hp) (vs:List V) (Q:VK) (E:XK),Room k (A.deeper (envOfC qual scope s.heap.objs.size f cdv))->sp vs H Q E ->
   ∃ t,PSs (cxOf CX P w K mg base N qual scope f cdv A outer s H E) body t/\t { nx:=fun _ H'=>Q .non H',rt:=Q } (start N vs) H) :
  FnOk P w K mg base CX (k + 1) f (W.fnOf name qual params body scope dV kV doc pm an cdv ct) ps sp:=by
 refine ⟨len,fun A outer s H args us vs Q E hr e0 hb r hsp=>?_⟩;have hl:=len _ _ _ _ hsp;have KX:K.In s.heap:=e0.mod.kin.keeps fun b o e=>(e0.bs b o e).1;have lim:s.heap.NoLimit:=e0.mod.nolimit.keeps fun b o e=>(e0.bs b o e).1;have hkind:∀ y ∈ ps.zip us,scope.names.lookup y.1=some .local\/(scope.names.lookup y.1=some .cell/\((cellsFrom (s.heap.objs.size + 1) scope.names []).lookup y.1).isSome=true):=fun ⟨n,v⟩ hy=>by
  rcases S.par n (List.of_mem_zip hy).1 with q | q
  ·exact .inl q
  ·exact .inr ⟨q,W.cellsFrom_some _ _ _ (.inl q)⟩
 refine codeAny_call_function hr.depth (KX _ _ lk) rfl S.co S.gen rfl (W.codeRec_of KX hcd) (hb _ _ _ _ ?_);refine wpAny_newFunctionEnv_cells S.kind hkind fun env he s1 x=>?_;subst he;refine ⟨lim.keeps x.toInCall.keep,codeAny_func ?_⟩;obtain ⟨t,ht,hq⟩:=hbody A outer s H vs Q E (hr.deeper _) hsp;have I:Inv (cxOf CX P w K mg base N qual scope f cdv A outer s H E) [] (start N vs) H s1:=A12 S hr.hd e0 hl r x;refine wpAny_mono (ht [] s1 (start N vs) H _ I hq) (fun fl s' hs=>?_) fun e s' hs=>hs;have fin:∀ {σ':St} {H':Hp} {v:V} {u:Value},Inv (cxOf CX P w K mg base N qual scope f cdv A outer s H E) [] σ' H' s'->RelV v u->Q v H'->CE outer P w H s Q u s' :=
  fun {σ' H' v u} J rv q=>⟨v,H',J.os,J.bare,J.base,J.hok,rv,q⟩
 cases fl with
 | ret u =>
  obtain ⟨v,σ',H',J,rv,q⟩:=hs;exact fin J rv q
 | next =>
  obtain ⟨σ',H',J,q⟩:=hs;exact fin (v:=V.non) (u:=Value.none) J rfl q
 | brk =>
  obtain ⟨_,_,_,q⟩:=hs;exact False.elim q
 | cont =>
  obtain ⟨_,_,_,q⟩:=hs;exact False.elim q
section
variable {X:Cx} {x:Str} {p pos:Pos} {e:Expr} {es:List Expr} {t:TA} {id T:String} {r:List V->Hp->VK->Prop}
def tCB (r:List V->Hp->VK->Prop) (t:TA):TE:=fun σ H Q=>t σ H fun vs H1=>r vs H1 Q
def A0r (hc:CallR X (.builtin id) r) (hg:Gl X x) (hm:X.mg x=none) (hv:bootBuiltins x=some (.builtin id)) (ha:PA X (e :: es) t) (hn:x≠"__name__":=by decide) (hdb:(x == ("__debug__":Str))=false:=by decide)
  (he:starEach (e :: es) X.env=(false,eval e X.env) :: starEach es X.env:=by rfl) (hpl:(backTo pos (starEach es X.env)).any (·.1)=false:=by rfl):PE X (.Call (.Name x p) (e :: es) [] pos) (tCB r t):=by
 intro pins s σ H Q I h;refine wpAny_Call_Name_kw (Z9 I hg hm hv ?_ hn hdb);exact PyProof.Rows.callWith_builtin1 (thn (ha pos pins s σ H _ I h) fun us s1 ⟨vs,H1,I1,r1,q1⟩=>hc pins s1 σ H1 vs us Q I1 r1 q1) he hpl
def A1p (hc:CallR X (.type T) r) (hg:Gl X x) (hm:X.mg x=none) (hv:bootBuiltins x=some (.type T)) (ha:PA X (e :: es) t) (hn:x≠"__name__":=by decide) (hdb:(x == ("__debug__":Str))=false:=by decide)
  (he:starEach (e :: es) X.env=(false,eval e X.env) :: starEach es X.env:=by rfl) (hpl:(backTo pos (starEach es X.env)).any (·.1)=false:=by rfl):PE X (.Call (.Name x p) (e :: es) [] pos) (tCB r t):=by
 intro pins s σ H Q I h;refine wpAny_Call_Name_kw (Z9 I hg hm hv ?_ hn hdb);exact PyProof.Rows.callWith_type1 (thn (ha pos pins s σ H _ I h) fun us s1 ⟨vs,H1,I1,r1,q1⟩=>hc pins s1 σ H1 vs us Q I1 r1 q1) he hpl
end
end L2
namespace HT
open PySem PyProof.Rows
section
variable {prog:Program} {w:World} {A:Around} {E:Value->Shared->Prop} {s:Shared}
def sIx (n d:Nat):Option Int->Nat
 | none=>d
 | some v=>if v < 0 then (v + (n:Int)).toNat else min v.toNat n
def sIx_none (n d:Nat):sIx n d none=d:=rfl
def sIx_nat (n d k:Nat):sIx n d (some (k:Int))=min k n:=by
 show (if (k:Int) < 0 then ((k:Int) + (n:Int)).toNat else min (k:Int).toNat n)=min k n;rw [if_neg (by omega),Int.toNat_natCast]
def B75 (n d:Nat) (hd:d<=n) (o:Option Int):sIx n d o<=n:=by
 cases o with
 | none=>exact hd
 | some v =>
  show (if v < 0 then (v + (n:Int)).toNat else min v.toNat n)<=n;by_cases hv:v < 0
  ·rw [if_pos hv]; omega
  ·rw [if_neg hv]; exact Nat.min_le_right _ _
def A8v (v:Int) (n d:Nat):(if v < 0 then max (v + (n:Int)) 0 else min v (n:Int))=((sIx n d (some v):Nat):Int):=by
 show (if v < 0 then max (v + (n:Int)) 0 else min v (n:Int))=(((if v < 0 then (v + (n:Int)).toNat else min v.toNat n):Nat):Int);by_cases hv:v < 0
 ·simp only [if_pos hv]; omega
 ·simp only [if_neg hv]; omega
def A5z (lo hi:Option Int) (n:Nat):Builtin.Slice.sliceAdjust lo hi 1 (n:Int)=(((sIx n 0 lo:Nat):Int),((sIx n n hi:Nat):Int)):=by
 have h1:¬ ((1:Int) < 0):=by omega
 unfold Builtin.Slice.sliceAdjust;simp only [h1,if_false];refine Prod.ext ?_ ?_
 ·cases lo with
  | none=>rfl
  | some v=>exact A8v v n 0
 ·cases hi with
  | none=>rfl
  | some v=>exact A8v v n n
def A47 (i j:Nat):Builtin.Slice.slicePlaces (i:Int) (j:Int) 1=j - i:=by
 unfold Builtin.Slice.slicePlaces;have h1:(1:Int) > 0:=by omega
 simp only [h1,if_true,Int.ediv_one];split <;> omega
def Y9 {v:Value} {o:Option Int} {Q:Option Int->Shared->Prop} (p:IsPart v o) (h:Q o s):wpAny (model prog w) A (Builtin.Slice.slicePartIndex v) Q E s:=by
 cases p with
 | none=>exact slicePart_none h
 | int i t=>exact slicePart_int h
def U5 {sl:Addr} {vl vu:Value} {lo hi:Option Int} {n:Nat} {Q:Int × Int × Nat->Shared->Prop} (hs:s.heap.IsSliceOf sl vl vu .none) (pl:IsPart vl lo) (pu:IsPart vu hi)
  (h:Q (((sIx n 0 lo:Nat):Int),1,sIx n n hi - sIx n 0 lo) s):wpAny (model prog w) A (Builtin.Slice.sliceApplied (.ref sl) (pure (n:Int))) Q E s:=by
 obtain ⟨os,hos,hcs,hds⟩:=id hs;unfold Builtin.Slice.sliceApplied Builtin.Slice.sliceFields;refine wpAny_bind (wpAny_bind (wpAny_field hos hds (x:=vl) rfl (wpAny_bind (wpAny_field hos hds (x:=vu) rfl (wpAny_bind (wpAny_field hos hds (x:=.none) rfl (wpAny_pure ?_)))))));refine wpAny_bind (slicePart_none ?_);show wpAny _ _ (if ((1:Int) == 0)=true then _ else _) _ _ s;rw [if_neg (by decide)];refine wpAny_bind (Y9 pl (wpAny_bind (Y9 pu (wpAny_bind (wpAny_pure ?_)))));show wpAny _ _ (match Builtin.Slice.sliceAdjust lo hi 1 (n:Int) with | (lo,hi)=>pure (lo,(1:Int),Builtin.Slice.slicePlaces lo hi 1)) _ _ s;rw [A5z lo hi n];show wpAny _ _ (pure (((sIx n 0 lo:Nat):Int),(1:Int),Builtin.Slice.slicePlaces ((sIx n 0 lo:Nat):Int) ((sIx n n hi:Nat):Int) 1)) _ _ s;rw [A47];exact wpAny_pure h
def A95 (xs:Array Value) (i k:Nat):((List.range k).filterMap fun (m:Nat)=>xs[((i:Int) + (m:Int) * 1).toNat]?).toArray=((xs.toList.drop i).take k).toArray:=by
 have e:(fun (m:Nat)=>xs[((i:Int) + (m:Int) * 1).toNat]?)=fun m=>xs[i + m]?:=by
  funext m
  have:((i:Int) + (m:Int) * 1).toNat=i + m:=by omega
  rw [this]
 rw [e];have:=pick_run xs i k;rw [List.filterMap_map] at this;have e2:((fun x=>xs[x]?) ∘ fun x=>i + x)=fun m=>xs[i + m]?:=rfl;rw [e2] at this;rw [this]
def getItem_tuple_cut {t sl:Addr} {items:Array Value} {vl vu:Value} {lo hi:Option Int} {Q:Value->Shared->Prop} (ht:IsTup s.heap t items) (hs:s.heap.IsSliceOf sl vl vu .none) (pl:IsPart vl lo) (pu:IsPart vu hi)
  (hw:¬ (sIx items.size 0 lo=0/\sIx items.size items.size hi=items.size))
  (h:Q (.ref s.heap.objs.size) { s with heap:=s.heap.push { cls:=.type "tuple",data:=.seq ((items.toList.drop (sIx items.size 0 lo)).take (sIx items.size items.size hi - sIx items.size 0 lo)).toArray } })
  (hsz:items.size<=sizeLine):wpAny (model prog w) A (getItem (.ref t) (.ref sl)) Q E s:=by
 have htake:sizeOk (.seq ((items.toList.drop (sIx items.size 0 lo)).take (sIx items.size items.size hi - sIx items.size 0 lo)).toArray):=by
  show ((items.toList.drop (sIx items.size 0 lo)).take (sIx items.size items.size hi - sIx items.size 0 lo)).toArray.size<=sizeLine;rw [List.size_toArray,List.length_take,List.length_drop,Array.length_toList];omega
 have hj:sIx items.size items.size hi<=items.size:=B75 _ _ (Zv _) hi;obtain ⟨os,hos,hcs,hds⟩:=id hs;have hTs:s.TypeIs (.ref sl) "slice":=⟨os,hos,hcs⟩;unfold getItem;try with_reducible refine wpAny_holding ?_
 first | refine wpAny_bind (wpAny_pure ?_) | skip
 refine wpAny_bind (wpAny_sequenceKey ht.typeIs (by decide) ?_);refine wpAny_bind (wpAny_callSpecial?_slot (name:=Str.ofString "__getitem__") ht.typeIs PyProof.Rows.slot_tuple_getitem
  (wpAny_call_entry PyProof.Rows.slot_tuple_getitem ht.typeIs entry_tuple_getitem ?_ (args_tuple_getitem _ _)))
 show wpAny _ _ (Builtin.Tuple.tupleItemsOf (.ref t) >>= _) _ _ s;refine wpAny_bind (tupleItemsOf_ ht ?_);refine wpAny_bind (wpAny_typeOf hTs ?_);rw [if_pos (by decide)];refine wpAny_bind (U5 hs pl pu ?_);have hno:¬ ((((sIx items.size 0 lo:Nat):Int) == 0 && (1:Int) == 1 && (sIx items.size items.size hi - sIx items.size 0 lo) == items.size)=true):=by
  intro q;rw [Bool.and_eq_true,Bool.and_eq_true] at q;have q1:((sIx items.size 0 lo:Nat):Int)=0:=eq_of_beq q.1.1;have q2:sIx items.size items.size hi - sIx items.size 0 lo=items.size:=eq_of_beq q.2;exact hw ⟨by omega,by omega⟩
 show wpAny _ _ (if (((sIx items.size 0 lo:Nat):Int) == 0 && (1:Int) == 1 && (sIx items.size items.size hi - sIx items.size 0 lo) == items.size)=true then _ else _) _ _ s;rw [if_neg hno,A95];first
  | exact wpAny_bind (m:=Builtin.Tuple.tupleExact _) (wpAny_newObj_type (wpAny_pure ⟨_,rfl,wpAny_pure h⟩) htake)
  | exact wpAny_bind (m:=Builtin.Tuple.tupleExact _) (wpAny_newObj_type (wpAny_bind (wpAny_pure (wpAny_pure ⟨_,rfl,wpAny_pure h⟩))) htake)
  | exact wpAny_bind (wpAny_bind (m:=Builtin.Tuple.tupleExact _) (wpAny_newObj_type (wpAny_pure (wpAny_pure ⟨_,rfl,wpAny_pure h⟩)) htake))
  | exact wpAny_bind (wpAny_bind (m:=Builtin.Tuple.tupleExact _) (wpAny_newObj_type (wpAny_pure ⟨_,rfl,wpAny_pure h⟩) htake))
end
end HT
namespace L2
open PySem PySem.Spec PyProof.Rows
abbrev TO:=St->Hp->(Option Int->Hp->Prop)->Prop
def PO (X:Cx) (e:Option Expr) (t:TO):Prop :=
 ∀ (pins:List (Addr × Obj)) (s:Shared) (σ:St) (H:Hp) (Q:Option Int->Hp->Prop),Inv X pins σ H s->t σ H Q ->
  wpAny (model X.prog X.w) X.A (evalPart e X.env) (fun u s'=>∃ o H',Inv X pins σ H' s'/\IsPart u o/\Q o H') X.xe s
def A2o:TO:=fun _ H Q=>Q none H
def B25 (t:TE):TO:=fun σ H Q=>t σ H fun x H1=>∃ i,x=.int i/\Q (some i) H1
section
variable {X:Cx} {e:Expr} {te:TE} {lo hi:Option Expr} {tl th:TO} {pos p2:Pos}
def B32:PO X none A2o:=by
 intro pins s σ H Q I h;rw [evalPart_none];exact wpAny_pure ⟨none,H,I,.none,h⟩
def B31 (h:PE X e te):PO X (some e) (B25 te):=by
 intro pins s σ H Q I hw;rw [evalPart_some];refine thn (h pins s σ H _ I hw) fun u s1 ⟨x,H1,I1,r1,q1⟩=>?_;obtain ⟨i,rfl,q⟩:=q1;obtain ⟨t,rfl⟩:=r1;exact ⟨some i,H1,I1,.int i t,q⟩
def SlR (X:Cx) (r:V->Option Int->Option Int->Hp->VK->Prop):Prop :=
 ∀ (pins:List (Addr × Obj)) (s:Shared) (σ:St) (H:Hp) (x:V) (v vl vu:Value) (lo hi:Option Int) (sl:Addr) (Q:VK),Inv X pins σ H s->RelV x v->s.heap.IsSliceOf sl vl vu .none->IsPart vl lo->IsPart vu hi->r x lo hi H Q ->
  ∃ T id,typeLookup (.type T) "__getitem__"=pure (some (.builtin id))/\s.TypeIs v T/\wpAny (model X.prog X.w) X.A (getItem v (.ref sl)) (EP X pins σ Q) X.xe s
def SlR.or {r r':V->Option Int->Option Int->Hp->VK->Prop} (h:SlR X r) (h':SlR X r'):SlR X (fun x lo hi H Q=>r x lo hi H Q\/r' x lo hi H Q):=by
 intro pins s σ H x v vl vu lo hi sl Q I rx hs pl pu q;rcases q with q | q
 ·exact h pins s σ H x v vl vu lo hi sl Q I rx hs pl pu q
 ·exact h' pins s σ H x v vl vu lo hi sl Q I rx hs pl pu q
def tSl (r:V->Option Int->Option Int->Hp->VK->Prop) (te:TE) (tl th:TO):TE:=fun σ H Q=>te σ H fun x H1=>tl σ H1 fun l H2=>th σ H2 fun u H3=>r x l u H3 Q
def A98 {r:V->Option Int->Option Int->Hp->VK->Prop} (hr:SlR X r) (he:PE X e te) (hl:PO X lo tl) (hu:PO X hi th):PE X (.Subscript e (.Slice lo hi none p2) pos) (tSl r te tl th):=by
 intro pins s σ H Q I h;refine Subscript_ (thn (he pins s σ H _ I h) fun v s1 ⟨x,H1,I1,r1,q1⟩=>?_);refine wpAny_Slice (thn (hl pins s1 σ H1 _ I1 q1) fun vl s2 ⟨l,H2,I2,pl,q2⟩=>thn (hu pins s2 σ H2 _ I2 q2) fun vu s3 ⟨u,H3,I3,pu,q3⟩=>?_);rw [evalPart_none];refine wpAny_pure ?_;have I4:Inv X pins σ H3 { s3 with heap:=s3.heap.push { cls:=.type "slice",data:=.fields #[vl,vu,.none] } }:=I3.kept (t':=s3.toks) fun b ob q=>Heap.get?_push_of_some _ q;obtain ⟨T,id,hT,ht,hg⟩:=hr pins { s3 with heap:=s3.heap.push { cls:=.type "slice",data:=.fields #[vl,vu,.none] } } σ H3 x v vl vu l u s3.heap.objs.size Q I4 r1 (Heap.IsSliceOf.new ..) pl pu q3;show wpAny (model X.prog X.w) X.A (subscriptTail e (.Slice lo hi none p2) v (.ref s3.heap.objs.size)) (EP X pins σ Q) X.xe { s3 with heap:=s3.heap.push { cls:=.type "slice",data:=.fields #[vl,vu,.none] } };exact tail_any (ops:=[.ref s3.heap.objs.size,v]) ht hT hg (by with_unfolding_all rfl)
def cutV (xs:List V) (lo hi:Option Int):List V:=(xs.drop (HT.sIx xs.length 0 lo)).take (HT.sIx xs.length xs.length hi - HT.sIx xs.length 0 lo)
def X3 (xs:List V) (lo hi:Option Int):(cutV xs lo hi).length<=xs.length:=by
 unfold cutV;rw [List.length_take,List.length_drop];omega
def rSlT (K:W.Frag):V->Option Int->Option Int->Hp->VK->Prop:=fun x lo hi H Q=>∃ a xs,x=.ref a/\SqT K H a xs /\
 ¬ (HT.sIx xs.length 0 lo=0/\HT.sIx xs.length xs.length hi=xs.length)/\∀ p,H p=none->Q (.ref p) (upd H p (.tup (cutV xs lo hi)))
def B71:SlR X (rSlT X.K):=by
 intro pins s σ H x v vl vu lo hi sl Q I rx hs pl pu h;obtain ⟨a,xs,rfl,hx,hw,q⟩:=h;cases rx;obtain ⟨its,r,ht,hz⟩:=I.tuple hx;have hlen:its.toArray.size=xs.length:=by rw [List.size_toArray]; exact r.length.symm
 refine ⟨"tuple",_,PyProof.Rows.slot_tuple_getitem.lookup,ht.typeIs,?_⟩;refine HT.getItem_tuple_cut ht hs pl pu (by rw [hlen]; exact hw) ?_ (by rw [hlen]; exact hz);rw [hlen];refine ⟨.ref s.heap.objs.size,_,I.laid (t':=s.toks) (o:=.tup (cutV xs lo hi)) (fun b ob q=>Heap.get?_push_of_some _ q) (Zv _) ?_,rfl,q _ (I.hok.fresh (Zv _))⟩;exact ⟨Zx (X3 xs lo hi) hz,_,(r.drop (HT.sIx xs.length 0 lo)).take (HT.sIx xs.length xs.length hi - HT.sIx xs.length 0 lo),IsTup.new _ _⟩
def Vals.nil_iff {xs:List V} {us:List Value} (r:Vals xs us):us=[] ↔ xs=[]:=by
 cases r with
 | nil=>simp
 | cons _ _=>simp
end
def ixN (n:Nat) (i:Int):Option Nat:=if 0<=i then (if i < n then some i.toNat else none) else if -(n:Int)<=i then some (i + n).toNat else none
def atI {α:Type} (xs:List α) (i:Int):Option α:=(ixN xs.length i).bind fun j=>xs[j]?
def A8b {n:Nat} {i:Int} {j:Nat} (h:ixN n i=some j):seqIndex? i n=some j/\j < n/\-(n:Int)<=i/\i < n:=by
 unfold ixN at h;by_cases h0:0<=i
 ·rw [if_pos h0] at h;by_cases h1:i < n
  ·rw [if_pos h1] at h;have e:i.toNat=j:=Zj h;exact ⟨by rw [seqIndex_of h0 h1,e],by omega,by omega,h1⟩
  ·rw [if_neg h1] at h; cases h
 ·rw [if_neg h0] at h;by_cases h1:-(n:Int)<=i
  ·rw [if_pos h1] at h;have e:(i + n).toNat=j:=Zj h;exact ⟨by rw [seqIndex_neg (by omega) h1,e],by omega,h1,by omega⟩
  ·rw [if_neg h1] at h; cases h
def A3c {α:Type} {xs:List α} {i:Int} {v:α} (h:atI xs i=some v):∃ j,seqIndex? i xs.length=some j/\xs[j]?=some v/\j < xs.length/\-(xs.length:Int)<=i/\i < xs.length:=by
 unfold atI at h;cases e:ixN xs.length i with
 | none=>rw [e] at h; cases h
 | some j =>
  rw [e] at h;obtain ⟨h1,h2,h3,h4⟩:=A8b e;exact ⟨j,h1,h,h2,h3,h4⟩
def G2 {α:Type} {xs:List α} {j:Nat} {v:α} (h:xs[j]?=some v):atI xs (j:Int)=some v:=by
 have hj:j < xs.length:=(Zs h).1;have e:ixN xs.length (j:Int)=some j:=by
  unfold ixN;rw [if_pos (by omega),if_pos (by omega)]; simp
 unfold atI; rw [e]; exact h
def A3e (b:Expr):Prop:=∀ o i,subscripted b false o i=operate [o,i] (getItem o i)
def IxR (X:Cx) (r:R2):Prop :=
 ∀ (value slice:Expr) (pins:List (Addr × Obj)) (s:Shared) (σ:St) (H:Hp) (x y:V) (v u:Value) (Q:VK),Inv X pins σ H s->RelV x v->RelV y u->r x y H Q ->
  subscripted slice false v u=operate [v,u] (getItem v u)->wpAny (model X.prog X.w) X.A (subscriptTail value slice v u) (EP X pins σ Q) X.xe s
def MtR (X:Cx) (id:String) (r:V->List V->Hp->VK->Prop):Prop :=
 ∀ (pins:List (Addr × Obj)) (s:Shared) (σ:St) (H:Hp) (x:V) (xs:List V) (v:Value) (us:List Value) (Q:VK),Inv X pins σ H s->RelV x v->Vals xs us->r x xs H Q ->
  wpAny (model X.prog X.w) X.A (call (.builtin id) (v :: us)) (EP X pins σ Q) X.xe s
section
variable {X:Cx} {a b:Expr} {ta tb:TE} {pos:Pos}
def IxR.or {r r':R2} (h:IxR X r) (h':IxR X r'):IxR X (fun x y H Q=>r x y H Q\/r' x y H Q):=by
 intro value slice pins s σ H x y v u Q I rx ry q hs;rcases q with q | q
 ·exact h value slice pins s σ H x y v u Q I rx ry q hs
 ·exact h' value slice pins s σ H x y v u Q I rx ry q hs
def A0p {r:R2} (hr:IxR X r) (ha:PE X a ta) (hb:PE X b tb) (hs:A3e b):PE X (.Subscript a b pos) (tOp r ta tb):=by
 intro pins s σ H Q I h;exact Subscript_ (binT ha hb I h fun v u s2 x y H2 I2 rx ry q=>hr a b pins s2 σ H2 x y v u Q I2 rx ry q (hs _ _))
def rIxL (K:W.Frag):R2:=fun x y H Q=>∃ p xs i v,x=.ref p/\y=.int i/\SqL K H p xs/\atI xs i=some v/\Q v H
def rIxT (K:W.Frag):R2:=fun x y H Q=>∃ p xs i v,x=.ref p/\y=.int i/\SqT K H p xs/\atI xs i=some v/\Q v H
def rIxS:R2:=fun x y H Q=>∃ z i c,x=.str z/\y=.int i/\z.length<=sizeLine/\atI z.cps.toList i=some c/\Q (.str ⟨#[c]⟩) H
def ix_list:IxR X (rIxL X.K):=by
 intro value slice pins s σ H x y v u Q I rx ry h hs;obtain ⟨p,xs,i,z,rfl,rfl,hq,he,q⟩:=h;cases rx;obtain ⟨t,rfl⟩:=ry;obtain ⟨its,r,pl,hz⟩:=I.list hq;obtain ⟨j,h1,h2,h3,h4,h5⟩:=A3c he;obtain ⟨w,ew,rw'⟩:=r.get h2;have hl:=r.length;have hn:=Z7;have fin:EP X pins σ Q w s:=⟨z,H,I,rw',q⟩;by_cases h0:0<=i
 ·have hj:i.toNat=j:=by
   rw [seqIndex_of h0 h5] at h1;exact Zj h1
  exact item_listR pl.isList h0 (by omega) (by rw [hj]; simpa using ew) fin hs
 ·have hj:(i + (its.toArray.size:Int)).toNat=j:=by
   rw [seqIndex_neg (by omega) h4] at h1;rw [List.size_toArray,<- hl];exact Zj h1
  exact subscriptTail_builtinR (x:=w) pl.isList.typeIs slot_list_getitem.lookup
   (wpAny_getItem_list_neg (Q:=fun r s'=>r=w/\EP X pins σ Q r s') pl.isList (by omega) (by rw [List.size_toArray] <;> omega) (by omega) (by rw [hj]; simpa using ew) ⟨rfl,fin⟩) hs
def ix_tup:IxR X (rIxT X.K):=by
 intro value slice pins s σ H x y v u Q I rx ry h hs;obtain ⟨p,xs,i,z,rfl,rfl,hq,he,q⟩:=h;cases rx;obtain ⟨t,rfl⟩:=ry;obtain ⟨its,r,pl,hz⟩:=I.tuple hq;obtain ⟨j,h1,h2,h3,h4,h5⟩:=A3c he;obtain ⟨w,ew,rw'⟩:=r.get h2;have hl:=r.length;have hn:=Z7;have fin:EP X pins σ Q w s:=⟨z,H,I,rw',q⟩;exact subscriptTail_builtinR (x:=w) pl.typeIs slot_tuple_getitem.lookup
  (getItem_tuple (j:=j) (Q:=fun r s'=>r=w/\EP X pins σ Q r s') pl (by omega) (by omega) (by rw [List.size_toArray,<- hl]; exact h1) (by simpa using ew) ⟨rfl,fin⟩) hs
def C1h:IxR X rIxS:=by
 intro value slice pins s σ H x y v u Q I rx ry h hs;obtain ⟨z,i,c,rfl,rfl,hz,he,q⟩:=h;obtain ⟨t,rfl⟩:=rx;obtain ⟨t',rfl⟩:=ry;obtain ⟨j,h1,h2,h3,h4,h5⟩:=A3c he;have hl:z.cps.toList.length=z.length:=by simp [Str.length]
 rw [hl] at h1 h4 h5;have hn:=Z7;exact tail_any (typeIs_str s z t) slot_str_getitem.lookup (getItem_str (c:=c) (by
  have e1:decide (i < -(2 ^ 63:Int))=false:=Zd (by omega);have e2:decide (i ≥ 2 ^ 63)=false:=Zd (by omega);rw [e1,e2,Bool.or_false]) (by rw [h1]; simpa using h2) ⟨.str ⟨#[c]⟩,H,I.tok _,⟨_,rfl⟩,q⟩) hs
def rIx (K:W.Frag):R2:=fun x y H Q=>rIxL K x y H Q\/rIxT K x y H Q\/rIxS x y H Q
def C1i:IxR X (rIx X.K):=ix_list.or (ix_tup.or C1h)
def A5k (its:List Value) (n j:Nat) (u:Value):Obj.mapSeq (·.setIfInBounds j u) { cls:=.type "list",data:=.seq its.toArray n }={ cls:=.type "list",data:=.seq (its.set j u).toArray n }:=by
 simp [Obj.mapSeq]
def Inv.lst {pins:List (Addr × Obj)} {σ:St} {H:Hp} {s:Shared} {p:Addr} {xs:List V} (I:Inv X pins σ H s) (h:H p=some (.lst xs)) :
  ∃ (its:List Value) (n:Nat),Vals xs its/\s.heap.get? p=some { cls:=.type "list",data:=.seq its.toArray n }/\xs.length<=sizeLine:=by
 obtain ⟨z,its,n,r,e⟩:=I.hok p _ h;exact ⟨its,n,r,e,z⟩
def Inv.lstUpd {pins:List (Addr × Obj)} {σ:St} {H:Hp} {s:Shared} {p:Addr} {xs ys:List V} {its its':List Value} {n n':Nat} {f:Obj->Obj} (I:Inv X pins σ H s) (h:H p=some (.lst xs))
  (ho:s.heap.get? p=some { cls:=.type "list",data:=.seq its.toArray n }) (hf:f { cls:=.type "list",data:=.seq its.toArray n }={ cls:=.type "list",data:=.seq its'.toArray n' }) (r:Vals ys its') (hz:ys.length<=sizeLine) (t:Nat) :
  Inv X pins σ (upd H p (.lst ys)) { s with heap:=s.heap.update p f,toks:=t }:=by
 have e:(s.heap.update p f).get? p=some { cls:=.type "list",data:=.seq its'.toArray n' }:=by
  rw [Heap.get?_update_self f ho (by rw [hf] <;> rfl),hf]
 refine I.write (x:=p) (e:=p) (by rw [h]; trivial) (.inl rfl) (fun b u hb q=>(Heap.get?_update_other _ _ (Ne.symm hb)).trans q) ⟨_,e⟩ ?_;exact ⟨hz,its',n',r,e⟩
def B3m:V->V->V->Hp->(Hp->Prop)->Prop:=fun o i v H Q=>∃ p xs k j,o=.ref p/\i=.int k/\H p=some (.lst xs)/\ixN xs.length k=some j/\Q (upd H p (.lst (xs.set j v)))
def D0:PSet X B3m:=by
 intro pins s σ H o i v ov iv u Q I ro ri rv h;obtain ⟨p,xs,k,j,rfl,rfl,hp,hj,q⟩:=h;cases ro;obtain ⟨t,rfl⟩:=ri;obtain ⟨its,n,r,ho,hz⟩:=I.lst hp;obtain ⟨h1,h2,h3,h4⟩:=A8b hj;have hl:=r.length;have hn:=Z7;have I':Inv X pins σ (upd H p (.lst (xs.set j v))) { s with heap:=s.heap.update p (Obj.mapSeq (·.setIfInBounds j u)) } :=
  I.lstUpd hp ho (A5k its n j u) (r.set rv j) (by rw [List.length_set]; exact hz) s.toks
 by_cases h0:0<=k
 ·have hk:k.toNat=j:=by
   rw [seqIndex_of h0 h4] at h1;exact Zj h1
  exact W.ki_setAt ho h0 (by omega) (by rw [List.size_toArray,<- hl]; exact h4) (by rw [hk]; exact ⟨_,I',q⟩)
 ·have hk:(k + (its.toArray.size:Int)).toNat=j:=by
   rw [seqIndex_neg (by omega) h3] at h1;rw [List.size_toArray,<- hl];exact Zj h1
  exact W.ki_setBack ho (by omega) (by rw [List.size_toArray,<- hl]; exact h3) (by omega) (by rw [hk]; exact ⟨_,I',q⟩)
def A1c (lo hi:Option Int) (n:Nat):(sliceBounds lo hi none n).1=((HT.sIx n 0 lo:Nat):Int)/\(sliceBounds lo hi none n).2.1=((HT.sIx n n hi:Nat):Int)/\(sliceBounds lo hi none n).2.2=1:=by
 refine ⟨?_,?_,rfl⟩
 ·cases lo with
  | none=>simp [sliceBounds,HT.sIx]
  | some i =>
   simp only [sliceBounds,HT.sIx,Option.getD_none,show (1:Int) > 0 by decide,if_true];by_cases h:i < 0
   ·simp only [h,if_true] <;> omega
   ·simp only [h,if_false] <;> omega
 ·cases hi with
  | none=>simp [sliceBounds,HT.sIx]
  | some i =>
   simp only [sliceBounds,HT.sIx,Option.getD_none,show (1:Int) > 0 by decide,if_true];by_cases h:i < 0
   ·simp only [h,if_true] <;> omega
   ·simp only [h,if_false] <;> omega
def A0l (its:List Value) (lo hi:Option Int):slicePick its.toArray lo hi none=((its.drop (HT.sIx its.length 0 lo)).take (HT.sIx its.length its.length hi - HT.sIx its.length 0 lo)).toArray:=by
 obtain ⟨h1,h2,h3⟩:=A1c lo hi its.toArray.size;unfold slicePick;rw [h1,h2,h3];simp only [sliceRange_one,pick_run,List.size_toArray] <;> rfl
def rSlL (K:W.Frag):V->Option Int->Option Int->Hp->VK->Prop:=fun x lo hi H Q=>∃ a xs,x=.ref a/\SqL K H a xs/\∀ p,H p=none->Q (.ref p) (upd H p (.lst (cutV xs lo hi)))
def B3h:SlR X (rSlL X.K):=by
 intro pins s σ H x v vl vu lo hi sl Q I rx hs pl pu h;obtain ⟨a,xs,rfl,hx,q⟩:=h;cases rx;obtain ⟨its,r,ht,hz⟩:=I.list hx;have hlen:=r.length;refine ⟨"list",_,slot_list_getitem.lookup,ht.isList.typeIs,?_⟩;refine wpAny_getItem_list_slice ht.isList hs pl pu .none (by simp) ?_ (by rw [List.size_toArray] <;> omega)
 rw [A0l,<- hlen];refine ⟨.ref s.heap.objs.size,_,I.laid (t':=s.toks) (o:=.lst (cutV xs lo hi)) (fun b ob q=>Heap.get?_push_of_some _ q) (Zv _) ?_,rfl,q _ (I.hok.fresh (Zv _))⟩;exact ⟨Zx (X3 xs lo hi) hz,_,0,(r.drop (HT.sIx xs.length 0 lo)).take (HT.sIx xs.length xs.length hi - HT.sIx xs.length 0 lo),Heap.get?_push_size _ rfl⟩
def call_len_seq:CallR X (.builtin "len") (fun xs H Q=>∃ p ys,xs=[.ref p]/\(SqL X.K H p ys\/SqT X.K H p ys)/\Q (.int ys.length) H):=by
 intro pins s σ H xs us Q I r h;obtain ⟨p,ys,rfl,hq,q⟩:=h;obtain ⟨u,rfl,rx⟩:=A2n r;cases rx;have hn:=Z7;rcases hq with hq | hq
 ·obtain ⟨its,r',pl,hz⟩:=I.list hq;have hlen:=r'.length;exact Calls.call_len_list pl.isList (by simp only [List.size_toArray] <;> omega) ⟨.int ys.length,H,I.tok _,⟨s.toks + 1,by rw [List.size_toArray,hlen]⟩,q⟩
 ·obtain ⟨its,r',pl,hz⟩:=I.tuple hq;have hlen:=r'.length;exact len_tuple pl (by simp only [List.size_toArray] <;> omega) ⟨.int ys.length,H,I.tok _,⟨s.toks + 1,by rw [List.size_toArray,hlen]⟩,q⟩
def A2c:CallR X (.builtin "len") (fun xs H Q=>∃ z,xs=[.str z]/\z.length<=sizeLine/\Q (.int z.length) H):=by
 intro pins s σ H xs us Q I r h;obtain ⟨z,rfl,hz,q⟩:=h;obtain ⟨u,rfl,t,rfl⟩:=A2n r;have hn:=Z7;exact len_str (by omega) ⟨.int z.length,H,I.tok _,⟨_,rfl⟩,q⟩
def CallR.or {f:Value} {r r':List V->Hp->VK->Prop} (h:CallR X f r) (h':CallR X f r'):CallR X f (fun xs H Q=>r xs H Q\/r' xs H Q):=by
 intro pins s σ H xs us Q I rs q;rcases q with q | q
 ·exact h pins s σ H xs us Q I rs q
 ·exact h' pins s σ H xs us Q I rs q
def A02:CallR X (.type "tuple") (fun xs H Q=>∃ p ys,xs=[.ref p]/\((SqL X.K H p ys/\∀ l,H l=none->Q (.ref l) (upd H l (.tup ys)))\/(SqT X.K H p ys/\Q (.ref p) H))):=by
 intro pins s σ H xs us Q I r h;obtain ⟨p,ys,rfl,h⟩:=h;obtain ⟨u,rfl,rx⟩:=A2n r;cases rx;rcases h with ⟨hq,q⟩ | ⟨hq,q⟩
 ·obtain ⟨its,r',pl,hz⟩:=I.list hq;have hlen:=r'.length;refine call_tuple_list pl.isList (fun h' kp=>?_) (by simp only [List.size_toArray] <;> omega)
  have I1:Inv X pins σ H { s with heap:=h' }:=I.kept (t':=s.toks) kp;have I2:Inv X pins σ (upd H h'.objs.size (.tup ys)) { s with heap:=h'.push { cls:=.type "tuple",data:=.seq its.toArray } } :=
   I1.laid (t':=s.toks) (fun b o e=>Heap.get?_push_of_some _ e) (Zv _) (show ObjOk X.prog X.w _ _ _ (.tup ys) from ⟨hz,its,r',IsTup.new _ _⟩)
  exact ⟨.ref h'.objs.size,_,I2,rfl,q _ (I1.hok.fresh (Zv _))⟩
 ·obtain ⟨its,r',pl,hz⟩:=I.tuple hq;exact call_tuple_same pl ⟨.ref p,H,I,rfl,q⟩
def tyV (K:W.Frag) (T:String) (x:V) (H:Hp):Prop:=match x with
 | .str _=>T="str"
 | .int _=>T="int"
 | .ref p=>(T="list"/\∃ xs,SqL K H p xs)\/(T="tuple"/\∃ o,K.lookup p=some o/\o.cls=.type "tuple"/\o.dict=none) \/
   (T="dict"/\((∃ kvs,H p=some (.dK kvs))\/∃ kvs,H p=some (.dT kvs)))\/(T="set"/\∃ S n,H p=some (.set S n))
 | _=>False
def B1w {pins:List (Addr × Obj)} {σ:St} {H:Hp} {s:Shared} {T:String} {x:V} {v:Value} (I:Inv X pins σ H s) (r:RelV x v) (ty:tyV X.K T x H) :
  s.TypeIs v T/\∀ a,v=.ref a->∃ ob,s.heap.get? a=some ob/\ob.dict=none:=by
 cases x with
 | str z =>
  obtain ⟨t,rfl⟩:=r;cases (show T="str" from ty);exact ⟨typeIs_str s z t,fun _ e=>nomatch e⟩
 | int i =>
  obtain ⟨t,rfl⟩:=r;cases (show T="int" from ty);exact ⟨typeIs_int s i t,fun _ e=>nomatch e⟩
 | ref p =>
  cases r;rcases ty with ⟨rfl,xs,hq⟩ | ⟨rfl,o,hk,hc,hd⟩ | ⟨rfl,hk⟩ | ⟨rfl,S,n,hk⟩
  ·obtain ⟨its,_,pl,_⟩:=I.list hq;refine ⟨pl.isList.typeIs,fun a e=>?_⟩;cases e;obtain ⟨o,n,e,c,hd,_⟩:=pl;exact ⟨o,e,hd⟩
  ·refine ⟨⟨o,I.kIn p o hk,hc⟩,fun a e=>?_⟩;cases e;exact ⟨o,I.kIn _ o hk,hd⟩
  ·have z:∃ o,s.heap.get? p=some o/\o.ExactDict:=by
    rcases hk with ⟨kvs,hk⟩ | ⟨kvs,hk⟩
    ·obtain ⟨_,_,_,_,o,_,_,e,ex,_⟩:=I.hok p _ hk;exact ⟨o,e,ex⟩
    ·obtain ⟨_,_,_,_,o,_,_,e,ex,_⟩:=I.hok p _ hk;exact ⟨o,e,ex⟩
   obtain ⟨o,e,ex⟩:=z;refine ⟨⟨o,e,ex.1⟩,fun a e2=>?_⟩;cases e2;exact ⟨o,e,ex.2.1⟩
  ·obtain ⟨o,_,_,_,e,ex,_⟩:=I.hok p _ hk;refine ⟨⟨o,e,ex.1⟩,fun a e2=>?_⟩;cases e2;exact ⟨o,e,ex.2.1⟩
 | _=>exact False.elim ty
def tBM0 (K:W.Frag) (T:String) (r:V->List V->Hp->VK->Prop) (to:TE):TE:=fun σ H Q=>to σ H fun x H1=>tyV K T x H1/\r x [] H1 Q
def tBM (K:W.Frag) (T:String) (r:V->List V->Hp->VK->Prop) (to:TE) (t:TA):TE:=fun σ H Q=>to σ H fun x H1=>tyV K T x H1/\t σ H1 fun xs H2=>r x xs H2 Q
variable {o e:Expr} {es:List Expr} {to:TE} {t:TA} {name:Str} {apos cpos:Pos} {T id:String} {r:V->List V->Hp->VK->Prop}
def B8t (pa:PlainAttrs T) (slot:Slot T name id) (hty:typeOf (.builtin id)=pure (.type "method_descriptor")) (hm:MtR X id r) (ho:PE X o to)
  (hbase:attributeBase o name X.env (eval o X.env)=eval o X.env:=by rfl) (hline:(apos.endLine == cpos.line)=true:=by rfl):PE X (.Call (.Attribute o name apos) [] [] cpos) (tBM0 X.K T r to):=by
 intro pins s σ H Q I h;refine wpAny_Call_method0_late hbase hline (thn (ho pins s σ H _ I h) fun v s1 ⟨x,H1,I1,r1,ty,q1⟩=>?_);obtain ⟨h1,h2⟩:=B1w I1 r1 ty;exact ⟨T,id,pa,slot,hty,h1,h2,Calls.callWith_builtin rfl (PySem.evalArgs_none (hm pins s1 σ H1 x [] v [] Q I1 r1 .nil q1))⟩
def C2n (pa:PlainAttrs T) (slot:Slot T name id) (hty:typeOf (.builtin id)=pure (.type "method_descriptor")) (hm:MtR X id r) (ho:PE X o to) (ha:PA X (e :: es) t)
  (hbase:attributeBase o name X.env (eval o X.env)=eval o X.env:=by rfl)
  (hfew:((backTo cpos (starEach (e :: es) X.env)).all (fun x=>!x.1) && (backToKw cpos (keywordEach [] X.env)).all (fun x=>x.1.isSome)
   && decide ((e :: es).length + ([]:List Keyword).length + (if ([]:List Keyword).isEmpty then 0 else 1) < 30))=true:=by rfl)
  (hline:(apos.endLine == cpos.line)=true:=by rfl) (hs:starEach (e :: es) X.env=(false,eval e X.env) :: starEach es X.env:=by rfl) (hplain:(backTo cpos (starEach es X.env)).any (·.1)=false:=by rfl) :
  PE X (.Call (.Attribute o name apos) (e :: es) [] cpos) (tBM X.K T r to t):=by
 intro pins s σ H Q I h;refine wpAny_Call_method_late hbase hfew hline rfl (thn (ho pins s σ H _ I h) fun v s1 ⟨x,H1,I1,r1,ty,q1⟩=>?_);obtain ⟨h1,h2⟩:=B1w I1 r1 ty;refine ⟨T,id,pa,slot,hty,h1,h2,?_⟩;have hA:=ha cpos pins s1 σ H1 _ I1 q1;rw [hs] at hA ⊢;refine Calls.callWith_builtin (by show (false || (backTo cpos (starEach es X.env)).any (·.1))=false; rw [hplain] <;> rfl) (Calls.evalArgs_plain ?_)
 exact thn hA fun us s2 ⟨vs,H2,I2,r2,q2⟩=>hm pins s2 σ H2 x vs v us Q I2 r1 r2 q2
end
def MtM (X:Cx) (id:String) (r:V->List V->Hp->VK->Prop):Prop :=
 ∀ (pins:List (Addr × Obj)) (s:Shared) (σ:St) (H:Hp) (x:V) (xs:List V) (v:Value) (us:List Value) (Q:VK),Inv X pins σ H s->RelV x v->Vals xs us->r x xs H Q ->
  wpAny (model X.prog X.w) X.A (call (.builtin id) (v :: us)) (EP X pins σ Q) X.xe s
def Vals.one:∀ {x:V} {us:List Value},Vals [x] us->∃ u,us=[u]/\RelV x u
 | _,_,.cons r .nil=>⟨_,rfl,r⟩
def Vals.two:∀ {x y:V} {us:List Value},Vals [x,y] us->∃ u v,us=[u,v]/\RelV x u/\RelV y v
 | _,_,_,.cons r (.cons q .nil)=>⟨_,_,rfl,r,q⟩
def Vals.zero:∀ {us:List Value},Vals [] us->us=[]
 | _,.nil=>rfl
def Vals.dropLast {xs:List V} {us:List Value} (h:Vals xs us):Vals xs.dropLast us.dropLast:=by
 induction h with
 | nil=>exact .nil
 | cons r t ih =>
  cases t with
  | nil=>exact .nil
  | cons q t'=>exact .cons r ih
def Vals.eraseIdx:∀ {xs:List V} {us:List Value} (i:Nat),Vals xs us->Vals (xs.eraseIdx i) (us.eraseIdx i)
 | _,_,_,.nil=>.nil
 | _,_,0,.cons _ t=>t
 | _,_,i + 1,.cons r t=>.cons r (Vals.eraseIdx i t)
def Vals.reverse {xs:List V} {us:List Value} (h:Vals xs us):Vals xs.reverse us.reverse:=by
 induction h with
 | nil=>exact .nil
 | cons r t ih=>rw [List.reverse_cons,List.reverse_cons]; exact Vals.append ih (.cons r .nil)
def Vals.rep {xs:List V} {us:List Value} (h:Vals xs us):∀ k:Nat,Vals (List.replicate k xs).flatten (List.replicate k us).flatten
 | 0=>.nil
 | k + 1=>by
  rw [List.replicate_succ,List.replicate_succ,List.flatten_cons,List.flatten_cons];exact Vals.append h (Vals.rep h k)
def A5r {α:Type} (l:List α):l.eraseIdx (l.length - 1)=l.dropLast:=by
 induction l with
 | nil=>rfl
 | cons a r ih =>
  cases r with
  | nil=>rfl
  | cons b r =>
   have e:(a :: b :: r).length - 1=((b :: r).length - 1) + 1:=by
    have h1:(a :: b :: r).length=r.length + 2:=rfl;have h2:(b :: r).length=r.length + 1:=rfl;omega
   rw [e,List.eraseIdx_cons_succ,ih];all_goals rfl
section
variable {X:Cx} {pins:List (Addr × Obj)} {σ:St} {H:Hp} {s:Shared} {l b:Addr} {xs ys zs:List V}
def Inv.lset {its its':List Value} {n:Nat} {f:Array Value->Array Value} {t':Nat} (I:Inv X pins σ H s) (hH:H l=some (.lst xs))
  (e:s.heap.get? l=some { cls:=.type "list",data:=.seq its.toArray n }) (hf:f its.toArray=its'.toArray) (hv:Vals ys its') (hz:ys.length<=sizeLine) :
  Inv X pins σ (upd H l (.lst ys)) { s with heap:=s.heap.update l (Obj.mapSeq f),toks:=t' }:=by
 have q:=PySem.IsL.update e f;rw [hf] at q;refine I.write (x:=l) (e:=l) (by rw [hH]; exact trivial) (.inl rfl) (fun b' u hb hu=>(Heap.get?_update_other s.heap (Obj.mapSeq f) (Ne.symm hb)).trans hu) ⟨_,q⟩ ?_;exact ⟨hz,its',_,hv,q⟩
def Inv.lnew {its:List Value} {t':Nat} (I:Inv X pins σ H s) (hv:Vals ys its) (hz:ys.length<=sizeLine) :
  Inv X pins σ (upd H s.heap.objs.size (.lst ys)) { s with heap:=s.heap.push { cls:=.type "list",data:=.seq its.toArray },toks:=t' } :=
 I.laid (fun _ _ q=>Heap.get?_push_of_some _ q) (Zv _) ⟨hz,its,0,hv,Heap.get?_push_size _ rfl⟩
def Inv.fresh (I:Inv X pins σ H s):H s.heap.objs.size=none:=I.hok.fresh (Zv _)
def Inv.lstM (I:Inv X pins σ H s) (hH:H l=some (.lst xs)):xs.length<=sizeLine/\∃ (its:List Value) (n:Nat),Vals xs its/\xs.length=its.length/\s.heap.get? l=some { cls:=.type "list",data:=.seq its.toArray n }:=by
 obtain ⟨z,its,n,r,e⟩:=I.hok l _ hH;exact ⟨z,its,n,r,r.length,e⟩
end
section
variable {X:Cx}
def A6l:V->List V->Hp->VK->Prop:=fun x vs H Q=>∃ l xs y,x=.ref l/\vs=[y]/\H l=some (.lst xs)/\xs.length < sizeLine/\Q .non (upd H l (.lst (xs++[y])))
def F2:MtM X "list.append" A6l:=by
 intro pins s σ H x vs v us Q I rx rv h;obtain ⟨l,xs,y,rfl,rfl,hH,hz,q⟩:=h;cases rx;obtain ⟨u,rfl,ru⟩:=rv.one;obtain ⟨z,its,n,r,hl,e⟩:=I.lstM hH;refine call_meets F.slot_list_append ⟨_,e,rfl⟩ F.entry_list_append (F.args_list_append_2 _ _) (PySem.list_append l its.toArray n u (by rw [List.size_toArray]; omega)) ⟨e,?_⟩;refine ⟨.non,_,I.lset (its':=its++[u]) hH e (by simp) (r.append (.cons ru .nil)) ?_,rfl,q⟩;rw [Ze,List.length_singleton];omega
def rPop:V->List V->Hp->VK->Prop:=fun x vs H Q=>∃ l xs y,x=.ref l/\vs=[]/\H l=some (.lst xs)/\xs[xs.length - 1]?=some y/\Q y (upd H l (.lst xs.dropLast))
def C3o:MtM X "list.pop" rPop:=by
 intro pins s σ H x vs v us Q I rx rv h;obtain ⟨l,xs,y,rfl,rfl,hH,hy,q⟩:=h;cases rx;have hus:=rv.zero;subst hus;obtain ⟨z,its,n,r,hl,e⟩:=I.lstM hH;obtain ⟨u,hu,ru⟩:=r.get hy;have hy':its.toArray[its.toArray.size - 1]?=some u:=by
  show its.toArray[its.length - 1]?=some u;rw [<- Array.getElem?_toList,<- hl];exact hu
 refine call_meets F.slot_list_pop ⟨_,e,rfl⟩ F.entry_list_pop (F.args_list_pop_1 _) (MeetsSeq.list_pop_last l its.toArray n u hy' (by rw [List.size_toArray]; omega)) ⟨e,?_⟩;refine ⟨y,_,I.lset (its':=its.dropLast) hH e ?_ r.dropLast ?_,ru,q⟩
 ·show its.toArray.eraseIdxIfInBounds (its.toArray.size - 1)=its.dropLast.toArray;rw [List.size_toArray,List.eraseIdxIfInBounds_toArray,A5r]
 ·rw [List.length_dropLast];omega
def B12:V->List V->Hp->VK->Prop:=fun x vs H Q=>∃ l xs,x=.ref l/\vs=[]/\H l=some (.lst xs)/\Q .non (upd H l (.lst []))
def B0s:MtM X "list.clear" B12:=by
 intro pins s σ H x vs v us Q I rx rv h;obtain ⟨l,xs,rfl,rfl,hH,q⟩:=h;cases rx;have hus:=rv.zero;subst hus;obtain ⟨z,its,n,r,hl,e⟩:=I.lstM hH;refine call_meets F.slot_list_clear ⟨_,e,rfl⟩ F.entry_list_clear (F.args_list_clear_1 _) (AutoSeq1.list_clear_list_0 l its.toArray n (by rw [List.size_toArray]; omega)) ⟨e,?_⟩;exact ⟨.non,_,I.lset (its':=[]) (ys:=[]) hH e rfl .nil (Nat.zero_le _),rfl,q⟩
end
end L2
namespace Att
open PySem PySem.W PySem.Calls PyProof.Rows
def X0 {P:Params} {h:Heap}:∀ (ns:List Int) (vs:List Value),WellAll P h vs (ns.map WData.int)->IntsAre vs ns:=by
 intro ns;induction ns with
 | nil =>
  intro vs w;rw [List.map_nil] at w;cases w;exact .nil
 | cons n ns ih =>
  intro vs w;rw [List.map_cons] at w;cases w with
  | cons a b =>
   cases a;exact .cons _ _ (ih _ b)
def A6i {l:OpenLaw} {n:Nat} (hn:l.most=some n) {P:Params} {h:Heap} {args:List WData} {vals:List Value}
  (hpre:l.row.toRowW.claim.pre args=true) (hwl:WellAll P h vals args) :
  ∃ a vs ns,vals=[Value.ref a]/\args=[WData.list (ns.map WData.int)]/\h.get? a=some { cls:=.type "list",data:=.seq vs.toArray }/\IntsAre vs ns/\ns.length<=n:=by
 have hsh:WShape.hasAll [] args [.list .int]=true:=(pre_splitW hpre).1;have hc:l.pre.holds [] { args:=args }=true:=(pre_splitW hpre).2;obtain ⟨d,r,rfl,h1,h2⟩:=hasAllW_cons hsh;obtain rfl:=hasAllW_nil h2;obtain ⟨xs,rfl,h3⟩:=hasW_list h1;obtain ⟨ns,rfl⟩:=items_int h3;have hlen:ns.length<=n:=by
  unfold OpenLaw.pre at hc;have h4:(WTm.not (.lt (.lit (.int (n:Int))) (.len (.arg 0)))).holds [] { args:=[.list (ns.map .int)] }=true:=by
   have h4:=(holds_andW hc).1;rw [hn] at h4;exact h4
  have h5:=condW_of h4 (w_not (w_lt w_lit (w_len_list (w_arg rfl))));rw [Zl] at h5;refine Nat.le_of_not_lt fun q=>?_;have q':(n:Int) < ((ns.length:Nat):Int):=by omega
  first
   | (rw [Zk q'] at h5; exact absurd h5 (by decide))
   | (simp at h5; omega)
 cases hwl with
 | cons w1 w2 =>
  cases w2;cases w1 with
  | list ho hall=>exact ⟨_,_,ns,rfl,rfl,ho,X0 ns _ hall,hlen⟩
def A67 (l:OpenLaw) (args:List WData):l.row.toRowW.claim.post args (.bool true) args=true :=
 postW_of (r:=l.row.toRowW) (X:=(true == true))
  (show WShape.has [] (.bool true) .bool=true by first | rfl | decide | simp [WShape.has,WShape.arms,WShape.armsAll])
  (show (WTm.eq .res (.lit (.bool true))).value [] { args:=args,res:=some (.bool true),after:=args }=some (.bool (true == true)) from w_eq_bool (w_res rfl) w_lit) rfl
def attach_call {l:OpenLaw} {n:Nat} {q:Program} {loose:List Str} {XP:(Str->Option Value)->Heap->Prop} {YP:World->Heap->Prop} {d:DefRec}
  (hn:l.most=some n) (hdf:d.params.defaults=[])
  (call:∀ (w:World) (s₀ s₁:Shared) (mg mb:Str->Option Value) (fa:Addr) (o:Obj) (pm cd doc:Value) (a:Addr) (vs:List Value) (ns:List Int),
   Ground q loose [] XP w s₀ mg mb s₁.heap->YP w s₁.heap ->
   s₁.heap.get? fa=some o->o.data=.func (docDef d.name d.params d.body d.scope pm cd doc)->s₁.heap.CodeRec cd d.name->mg d.name=some (.ref fa) ->
   s₁.heap.get? a=some { cls:=.type "list",data:=.seq vs.toArray }->IntsAre vs ns->ns.length<=n->s₁.gens=#[] ->
   codeAny (model l.prog w) callerA (.call (.ref fa) ⟨[.ref a],[]⟩) (fun r s'=>r=.ok (.ret (.bool true))/\OldK s₁.heap s'.heap/\s'.os=s₁.os/\AllBare s'.gens) s₁) :
  WalkO q loose XP YP l.row.toRowW d [] (fun f vs=>PySem.call f vs):=by
 intro w s₀ s₁ mg mb G Y fa o pm cd doc dV kV ho hd hcd hD hmg hg args vals as hpre hlay hrd hwl hlo;obtain rfl:dV=.none:=Dflts.none hD hdf;obtain rfl:kV=.none:=Dflts.noKw hD;obtain ⟨a,vs,ns,rfl,rfl,hobj,hints,hlen⟩:=A6i hn hpre hwl;refine enter_call (codeAny_mono (call w s₀ s₁ mg mb fa o pm cd doc a vs ns G Y ho (fd_plain hd) hcd hmg hobj hints hlen hg) fun r s' hq=>?_);obtain ⟨rfl,h2,h3,h4⟩:=hq;exact ⟨.inl ⟨.bool true,.bool true,[],rfl,fun _=>rfl,.bool true,A67 l _,fun _=>⟨List.Pairwise.nil,fun _ hm=>(nomatch hm)⟩⟩,h2,h3,h4⟩
end Att
namespace L2
open PySem PySem.Spec PyProof.Rows
def A07:∀ {vs:List Value} {ns:List Int},IntsAre vs ns->Vals (ns.map V.int) vs
 | _,_,.nil=>.nil
 | _,_,.cons n t h=>.cons ⟨t,rfl⟩ (A07 h)
abbrev CX0:CXT:=fun _ _ _ _ _ _=>False
abbrev E0:XK:=fun _ _ _=>False
def C2p {X:Cx}:A2m CX0 X E0:=fun _ _ _ _ _ _ _ h=>h.elim
structure Fun (K:W.Frag) (x qual:Str) (st:Stmt) (f:Addr) (fd:FuncData):Prop where
 ex:∃ (oc:Value) (od:Option Addr) (kV doc pm:Value) (an:Option Addr) (cdv ct:Value) (osl:Array (Option Value)),
  fd=W.fnOf x qual (J2 st) (F6 st) (A7 st) .none kV doc pm an cdv ct/\K.lookup f=some ⟨oc,od,.func fd,osl⟩/\W.codeIn K cdv qual=true
 kp:W.keepIn K (.ref f)=true
section
variable {P:Program} {w:World} {K:W.Frag} {mg:Str->Option Value} {base:Heap}
def Fun.ok {x qual:Str} {st:Stmt} {f:Addr} {fd:FuncData} {N ps:List Str} {k:Nat} {sp:Sp} (F:Fun K x qual st f fd) (S:FnScope N ps (A7 st)) (len:∀ vs H Q E,sp vs H Q E->vs.length=ps.length)
  (hbody:∀ (cdv:Value) (A:Around) (outer:List Env) (s:Shared) (H:Hp) (vs:List V) (Q:VK) (E:XK),Room k (A.deeper (envOfC qual (A7 st) s.heap.objs.size f cdv))->sp vs H Q E ->
   ∃ t,PSs (cxOf CX0 P w K mg base N qual (A7 st) f cdv A outer s H E).nox (F6 st) t/\t { nx:=fun _ H'=>Q .non H',rt:=Q } (start N vs) H):FnOk P w K mg base CX0 (k + 1) f fd ps sp:=by
 obtain ⟨oc,od,kV,doc,pm,an,cdv,ct,osl,rfl,lk,hcd⟩:=F.ex;refine B6z lk hcd S len fun A outer s H vs Q E hr hsp=>?_;obtain ⟨t,h,q⟩:=hbody cdv A outer s H vs Q E hr hsp;exact ⟨t,h.nox,q⟩
def Fun.binds {x qual:Str} {st:Stmt} {f:Addr} {fd:FuncData} {ps:List Str} (F:Fun K x qual st f fd)
  (h:∀ (kV doc pm:Value) (an:Option Addr) (cdv ct:Value) (us:List Value),us.length=ps.length->bindArgs (W.fnOf x qual (J2 st) (F6 st) (A7 st) .none kV doc pm an cdv ct) ⟨us,[]⟩=pure (ps.zip us)):Binds K fd ps []:=by
 obtain ⟨oc,od,kV,doc,pm,an,cdv,ct,osl,rfl,lk,hcd⟩:=F.ex;exact .all (h kV doc pm an cdv ct)
def A4g {x qual:Str} {st:Stmt} {f:Addr} {oc:Value} {od an:Option Addr} {osl:Array (Option Value)} {kV doc pm cdv ct:Value} (l:K.lookup f=some ⟨oc,od,.func (W.fnOf x qual (J2 st) (F6 st) (A7 st) .none kV doc pm an cdv ct),osl⟩)
  (c:W.codeIn K cdv qual=true) (k:W.keepIn K (.ref f)=true):Fun K x qual st f (W.fnOf x qual (J2 st) (F6 st) (A7 st) .none kV doc pm an cdv ct):=⟨⟨oc,od,kV,doc,pm,an,cdv,ct,osl,rfl,l,c⟩,k⟩
end
def R7 {n:Nat} (h:n<=1000):n < sizeLine:=Nat.lt_of_le_of_lt h (by decide)
section
variable {X:Cx}
def pv (i:Nat) {x:Str} {pos:Pos} (hN:X.N[i]?=some x:=by rfl) (hv:Vis X.env.scope x:=by first | exact Or.inl rfl | exact Or.inr (Or.inl rfl) | exact Or.inr (Or.inr rfl)) (hd:(x == ("__debug__":Str))=false:=by decide)
  (hcd:(x == ("__classdict__":Str))=false:=by decide):PE X (.Name x pos) (tVar i):=Z4 hN hv hd hcd
end
def iteF {A B:Prop} (h:B):if false=true then A else B:=by
 rw [if_neg Bool.false_ne_true];exact h
def iteT {A B:Prop} (h:A):if true=true then A else B:=by
 rw [if_pos rfl];exact h
def ite2 {c A B:Prop} [Decidable c] (h1:c->A) (h2:¬ c->B):if c then A else B:=by
 by_cases h:c
 ·rw [if_pos h];exact h1 h
 ·rw [if_neg h];exact h2 h
def Same (H H':Hp):Prop:=∀ b o,H b=some o->H' b=some o
def Same.refl (H:Hp):Same H H:=fun _ _ h=>h
def Same.trans {H H1 H2:Hp} (a:Same H H1) (b:Same H1 H2):Same H H2:=fun c o h=>b c o (a c o h)
def Same.seq {K:W.Frag} {H H':Hp} {a:Addr} {xs:List V} (e:Same H H') (h:SqL K H a xs):SqL K H' a xs:=by
 rcases h with (h | ⟨o,h⟩) | h
 ·exact .inl (.inl (e _ _ h))
 ·exact .inl (.inr ⟨o,e _ _ h⟩)
 ·exact .inr h
end L2
namespace My
def Sm (k:Nat) (x:Int):Prop:=x.natAbs < 2 ^ k
def Sm.mono {k l:Nat} {x:Int} (h:Sm k x) (e:k<=l):Sm l x:=Nat.lt_of_lt_of_le h (Zp (by decide) e)
def Sm.mul {k l:Nat} {x y:Int} (h:Sm k x) (g:Sm l y):Sm (k + l) (x * y):=by
 unfold Sm at *;rw [Int.natAbs_mul,Nat.pow_add];rcases Nat.eq_zero_or_pos y.natAbs with e | e
 ·rw [e,Nat.mul_zero]; exact Nat.mul_pos (Nat.two_pow_pos _) (Nat.two_pow_pos _)
 ·exact Nat.lt_of_lt_of_le (Nat.mul_lt_mul_of_pos_right h e) (Nat.mul_le_mul_left _ (Nat.le_of_lt g))
def Sm.add {k:Nat} {x y:Int} (h:Sm k x) (g:Sm k y):Sm (k + 1) (x + y):=by
 unfold Sm at *;rw [Nat.pow_succ];have:=Int.natAbs_add_le x y;omega
def Sm.neg {k:Nat} {x:Int} (h:Sm k x):Sm k (-x):=by
 unfold Sm at *;rw [Int.natAbs_neg]; exact h
def Sm.sub {k:Nat} {x y:Int} (h:Sm k x) (g:Sm k y):Sm (k + 1) (x - y):=by
 rw [Int.sub_eq_add_neg]; exact h.add g.neg
def Sm.le {k:Nat} {x y:Int} (h:Sm k x) (g:y.natAbs<=x.natAbs):Sm k y:=Nat.lt_of_le_of_lt g h
def Sm.log {k:Nat} {x:Int} (h:Sm k x) (hk:0 < k):x.natAbs.log2 < k:=by
 by_cases h0:x.natAbs=0
 ·rw [h0]; exact hk
 ·exact (Nat.log2_lt h0).mpr h
def A8h (a b:Int):Int.gcd b (a % b)=Int.gcd a b:=by
 have h:a % b=a + b * (-(a / b)):=by
  have:=Int.emod_def a b;rw [this,Int.mul_neg]; omega
 rw [h,Int.gcd_add_mul_left_right,Int.gcd_comm]
def B6u (a b:Int):Int.gcd (if a < 0 then -a else a) (if b < 0 then -b else b)=Int.gcd a b:=by
 unfold Int.gcd;congr 1
 ·split <;> omega
 ·split <;> omega
def A4e (a:Int) (h:0<=a):((Int.gcd a 0:Nat):Int)=a:=by
 rw [Int.gcd_zero_right]; omega
def sh (t b:Int):Int:=if b < 0 then -((Int.gcd t b:Nat):Int) else ((Int.gcd t b:Nat):Int)
def B72 {t b:Int} (h:b≠0):sh t b≠0:=by
 have:Int.gcd t b≠0:=fun e=>h (Int.gcd_eq_zero_iff.mp e).2;unfold sh; split <;> omega
def B73 (t b:Int):(sh t b).natAbs=Int.gcd t b:=by
 unfold sh; split <;> omega
def A3m (t b:Int):sh t b ∣ t:=by
 unfold sh; split
 ·exact Int.neg_dvd.mpr (Int.gcd_dvd_left ..)
 ·exact Int.gcd_dvd_left ..
def A9k (t b:Int):sh t b ∣ b:=by
 unfold sh; split
 ·exact Int.neg_dvd.mpr (Int.gcd_dvd_right ..)
 ·exact Int.gcd_dvd_right ..
def A7z {t b:Int} (h:b≠0):t.fdiv (sh t b)=(Rat.divInt t b).num:=by
 rw [Int.fdiv_eq_ediv_of_dvd (A3m t b),Rat.num_divInt,Int.gcd_comm b t];unfold sh;split
 ·rename_i h1;rw [Int.sign_eq_neg_one_of_neg h1,Int.ediv_neg,Int.neg_one_mul,Int.neg_ediv_of_dvd (Int.gcd_dvd_left ..)]
 ·rename_i h1;rw [Int.sign_eq_one_of_pos (by omega),Int.one_mul]
def B51 {t b:Int} (h:b≠0):b.fdiv (sh t b)=((Rat.divInt t b).den:Int):=by
 rw [Int.fdiv_eq_ediv_of_dvd (A9k t b),Rat.den_divInt,if_neg h,Int.gcd_comm b t];unfold sh;split
 ·rename_i h1;rw [Int.ediv_neg,Int.natCast_ediv];have e:(b.natAbs:Int)=-b:=by omega
  rw [e,Int.neg_ediv_of_dvd (Int.gcd_dvd_right ..)]
 ·rename_i h1;rw [Int.natCast_ediv];have e:(b.natAbs:Int)=b:=by omega
  rw [e]
def C0k (t b:Int):(Rat.divInt t b).num.natAbs<=t.natAbs:=by
 by_cases h:b=0
 ·subst h; simp [Rat.divInt_zero]
 ·rw [<- A7z h,Int.fdiv_eq_ediv_of_dvd (A3m t b)];have:=Int.natAbs_ediv_le_natAbs t (sh t b);exact this
def C10 {t b:Int} (h:b≠0):(Rat.divInt t b).den<=b.natAbs:=by
 rw [Rat.den_divInt,if_neg h];exact Nat.div_le_self _ _
def SmQ (k:Nat) (q:Rat):Prop:=Sm k q.num/\Sm k (q.den:Int)
def den0 (q:Rat):(q.den:Int)≠0:=by have:=q.den_nz; omega
def denp (q:Rat):0 < (q.den:Int):=by have:=q.den_nz; omega
def den2 (p q:Rat):(p.den:Int) * (q.den:Int)≠0:=Int.mul_ne_zero (den0 p) (den0 q)
def B8g (p q:Rat):Rat.divInt (p.num * q.den + q.num * p.den) ((p.den:Int) * q.den)=p + q:=by
 rw [<- Rat.divInt_add_divInt _ _ (den0 p) (den0 q),Rat.num_divInt_den,Rat.num_divInt_den]
def B8d (p q:Rat):Rat.divInt (p.num * q.den - q.num * p.den) ((p.den:Int) * q.den)=p - q:=by
 rw [<- Rat.divInt_sub_divInt _ _ (den0 p) (den0 q),Rat.num_divInt_den,Rat.num_divInt_den]
def B8e (p q:Rat):Rat.divInt (p.num * q.num) ((p.den:Int) * q.den)=p * q:=by
 rw [<- Rat.divInt_mul_divInt,Rat.num_divInt_den,Rat.num_divInt_den]
theorem B8f (p q:Rat):Rat.divInt (p.num * q.den) ((p.den:Int) * q.num)=p / q:=by
 rw [Rat.div_def,Rat.inv_def,<- Rat.divInt_mul_divInt,Rat.num_divInt_den]
def W:LQ->Nat
 | []=>1
 | q :: r=>q.den * W r
def S:LQ->Rat
 | []=>0
 | q :: r=>q + S r
def B7l (a b:LQ):S (a++b)=S a + S b:=by
 induction a with
 | nil=>simp only [List.nil_append,S,Rat.zero_add]
 | cons q r ih=>simp only [List.cons_append,S,ih,Rat.add_assoc]
def SmR (n d:Nat) (q:Rat):Prop:=Sm n q.num/\Sm d (q.den:Int)
def SmR.mono {n d n' d':Nat} {q:Rat} (h:SmR n d q) (h1:n<=n') (h2:d<=d'):SmR n' d' q:=⟨h.1.mono h1,h.2.mono h2⟩
theorem SmR.q {n d:Nat} {q:Rat} (h:SmR n d q) (h1:n<=3900) (h2:d<=3900):SmQ 3900 q:=⟨h.1.mono h1,h.2.mono h2⟩
def SmR.low {n d:Nat} {t b:Int} (h:Sm n t) (g:Sm d b) (hb:b≠0):SmR n d (Rat.divInt t b) :=
 ⟨h.le (C0k t b),g.le (by simpa using C10 hb)⟩
def SmR.add {a b c e:Nat} {p q:Rat} (h:SmR a b p) (g:SmR c e q):SmR (max (a + e) (c + b) + 1) (b + e) (p + q):=by
 rw [<- B8g];exact SmR.low (((h.1.mul g.2).mono (Nat.le_max_left ..)).add ((g.1.mul h.2).mono (Nat.le_max_right ..))) (h.2.mul g.2) (den2 p q)
def SmR.sub {a b c e:Nat} {p q:Rat} (h:SmR a b p) (g:SmR c e q):SmR (max (a + e) (c + b) + 1) (b + e) (p - q):=by
 rw [<- B8d];exact SmR.low (((h.1.mul g.2).mono (Nat.le_max_left ..)).sub ((g.1.mul h.2).mono (Nat.le_max_right ..))) (h.2.mul g.2) (den2 p q)
def SmR.mul {a b c e:Nat} {p q:Rat} (h:SmR a b p) (g:SmR c e q):SmR (a + c) (b + e) (p * q):=by
 rw [<- B8e];exact SmR.low (h.1.mul g.1) (h.2.mul g.2) (den2 p q)
def C0j {q:Rat} (h:q≠0):q.num≠0:=fun e=>h (Rat.num_eq_zero.mp e)
def B5y {q:Rat} (h:0 < q):0 < q.num:=by
 have:=(Rat.lt_iff 0 q).mp h;simpa using this
def SmR.div {a b c e:Nat} {p q:Rat} (h:SmR a b p) (g:SmR c e q) (hq:q≠0):SmR (a + e) (b + c) (p / q):=by
 rw [<- B8f];exact SmR.low (h.1.mul g.2) (h.2.mul g.1) (Int.mul_ne_zero (den0 p) (C0j hq))
def S2 {t b:Int} (h:0<=t) (hb:0 < b):0<=Rat.divInt t b:=(Rat.divInt_nonneg_iff_of_pos_right hb).mpr h
def C2h {t b:Int} (h:0 < t) (hb:0 < b):0 < Rat.divInt t b:=by
 refine Rat.lt_of_le_of_ne (S2 (by omega) hb) fun e=>?_;have h1:Rat.divInt 0 b=Rat.divInt t b:=by rw [Rat.zero_divInt]; exact e
 have:=(Rat.divInt_eq_divInt_iff (by omega) (by omega)).mp h1;have h2:t * b=0:=by simpa using this.symm
 rcases Int.mul_eq_zero.mp h2 with z | z <;> omega
def A39 (p q:Rat):decide (p.num * q.den < q.num * p.den)=decide (p < q):=by
 rw [Bool.eq_iff_iff,decide_eq_true_iff,decide_eq_true_iff,Rat.lt_iff]
def Dec:LR->Prop
 | []=>True
 | [_]=>True
 | c :: d :: r=>d.1 < c.1/\Dec (d :: r)
def Dec.tail {c:Rat × Rat} {r:LR} (h:Dec (c :: r)):Dec r:=by
 cases r with
 | nil=>trivial
 | cons d r=>exact h.2
def Dec.lt {c:Rat × Rat} {r:LR} (h:Dec (c :: r)):∀ d ∈ r,d.1 < c.1:=by
 induction r generalizing c with
 | nil=>intro d hd; exact absurd hd (by simp)
 | cons e r ih =>
  intro d hd;rcases List.mem_cons.mp hd with rfl | hd
  ·exact h.1
  ·have h3:=ih h.2 d hd;have h4:e.1 < c.1:=h.1;grind
def Dec.snoc:∀ {r:LR} {c d:Rat × Rat},Dec (r++[c])->d.1 < c.1->Dec (r++[c]++[d])
 | [],c,d,_,h=>⟨h,trivial⟩
 | [e],c,d,hd,h=>⟨hd.1,h,trivial⟩
 | e :: f :: r,c,d,hd,h=>⟨hd.1,Dec.snoc (r:=f :: r) hd.2 h⟩
def Dec.get:∀ {l:LR} {i j:Nat} {c d:Rat × Rat},Dec l->l[i]?=some c->l[j]?=some d->i < j->d.1 < c.1
 | [],i,j,c,d,_,h,_,_=>by simp at h
 | e :: r,0,j + 1,c,d,hd,h,g,_=>by
  have h':e=c:=by simpa using h
  subst h';exact hd.lt d (Zm (by simpa using g))
 | e :: r,i + 1,j + 1,c,d,hd,h,g,hij=>Dec.get (l:=r) hd.tail (by simpa using h) (by simpa using g) (by omega)
end My
namespace L2
open PySem PySem.Spec PyProof.Rows
section
variable {X:Cx}
def A0d {x:Int} (h:My.Sm 8000 x):Builtin.Int.intBits x<=2 ^ 20:=by
 have e:(2:Nat) ^ 20=1048576:=by decide
 have h2:=h.log (by decide);unfold Builtin.Int.intBits;split <;> omega
def B7n (i j:Int):Prop:=My.Sm 8000 i/\My.Sm 8000 j
def C3m (_ j:Int):Prop:=j≠0/\My.Sm 8000 j
def D9:OpR X (binaryOp .Mult) (rI B7n fun i j=>.int (i * j)):=opI fun _ _ _ _ _ _ _ hc q=>mul_int q (.of_bits (A0d hc.1) (A0d hc.2))
def M4:OpR X (binaryOp .FloorDiv) (rI C3m fun i j=>.int (i.fdiv j)):=opI fun _ _ _ _ _ _ _ hc q =>
 floordiv_int hc.1 q (.inl (PyProof.noPylong_of_log2 (Nat.lt_of_lt_of_le (hc.2.log (by decide)) (by decide))))
def kitB (T c:String):Option Bool:=if (Value.type T == Value.type c)=true then some true else if W.kitMeta c=true then (fastBuiltinMro T).map (·.contains (Value.type c)) else none
def B0z (K:W.Frag) {T c:String} {b:Bool} (h:kitB T c=some b):W.kitOne K (.type T) (.type c)=some b:=h
def TyV (K:W.Frag) (H:Hp) (x:V) (T:String):Prop:=match x with
 | .non=>T="NoneType"
 | .bl _=>T="bool"
 | .int _=>T="int"
 | .str _=>T="str"
 | .ref a=>(T="list"/\∃ xs,SqL K H a xs)\/(T="tuple"/\∃ xs,SqT K H a xs)\/(T="dict"/\∃ kvs,H a=some (.dK kvs))
 | _=>False
def A3a:CallR X (.builtin "isinstance") (fun xs H Q=>∃ x c T b,xs=[x,.ty c]/\TyV X.K H x T/\kitB T c=some b/\Q (.bl b) H):=by
 intro pins s σ H xs us Q I r h;obtain ⟨x,c,T,b,rfl,ty,e,q⟩:=h;obtain ⟨u,v,rfl,ru,rv⟩:=Vals.two r;cases (show v=Value.type c from rv);have fin:∀ tk,EP X pins σ Q (.bool b) { s with toks:=tk }:=fun tk=>⟨.bl b,H,I.tok tk,rfl,q⟩;have e':=B0z X.K e;cases x with
 | non=>cases (show T=_ from ty); cases (show u=Value.none from ru); exact W.kia_one W.kitx_none I.kIn True.intro e' (fun z=>nomatch z) fin
 | bl y=>cases (show T=_ from ty); cases (show u=Value.bool y from ru); exact W.kia_one W.kitx_bool I.kIn True.intro e' (fun z=>nomatch z) fin
 | int i=>cases (show T=_ from ty); obtain ⟨t,q'⟩:=(show ∃ t,u=Value.int i t from ru); cases q'; exact W.kia_one W.kitx_int I.kIn True.intro e' (fun z=>nomatch z) fin
 | str y=>cases (show T=_ from ty); obtain ⟨t,q'⟩:=(show ∃ t,u=Value.str y t from ru); cases q'; exact W.kia_one W.kitx_str I.kIn True.intro e' (fun z=>nomatch z) fin
 | ref a =>
  cases (show u=Value.ref a from ru);rcases (show _\/_\/_ from ty) with ⟨rfl,xs,h⟩ | ⟨rfl,xs,h⟩ | ⟨rfl,kvs,h⟩
  ·obtain ⟨its,_,⟨o,n,h1,h2,_⟩,_⟩:=I.list h;exact W.kia_one W.kitx_list I.kIn ⟨o,h1,h2⟩ e' (fun z=>nomatch z) fin
  ·obtain ⟨its,_,⟨o,h1,h2,_⟩,_⟩:=I.tuple h;exact W.kia_one W.kitx_tuple I.kIn ⟨o,h1,h2⟩ e' (fun z=>nomatch z) fin
  ·obtain ⟨_,_,vs,_,p⟩:=(show ObjOk X.prog X.w H s.heap a (.dK kvs) from I.hok a _ h);obtain ⟨o,es,ep,h1,h2,_⟩:=p;exact W.kia_one W.kitx_dict I.kIn ⟨o,h1,h2.1⟩ e' (fun z=>nomatch z) fin
 | byt _=>exact (show False from ty).elim
 | flt _=>exact (show False from ty).elim
 | ty _=>exact (show False from ty).elim
end
def encV:V->PyData
 | .int i=>.int i
 | .str x=>.str x
 | _=>.none
def encK:Key->PyData
 | .inl i=>.int i
 | .inr x=>.str x
def A5s (p:Key × V):PyData × PyData:=(encK p.1,encV p.2)
def NSI (xs:List V):Prop:=∀ c i,xs≠[V.str c,V.int i]
def SqD (K:W.Frag) (H:Hp) (a:Addr) (xs:List V):Prop:=SqT K H a xs/\(H a=some (.tup xs)\/NSI xs)
def SqD.of {K:W.Frag} {H:Hp} {a:Addr} {xs:List V} (h:H a=some (.tup xs)):SqD K H a xs:=⟨SqT.of h,.inl h⟩
mutual
inductive Den (K:W.Frag) (H:Hp):V->PyData->Prop
 | non:Den K H .non .none
 | bl (b:Bool):Den K H (.bl b) (.bool b)
 | int (i:Int):Den K H (.int i) (.int i)
 | str (x:Str):Den K H (.str x) (.str x)
 | lst {a:Addr} {xs:List V} {ds:LP}:SqL K H a xs->DenAll K H xs ds->Den K H (.ref a) (.list ds)
 | tup {a:Addr} {xs:List V} {ds:LP}:SqD K H a xs->DenAll K H xs ds->Den K H (.ref a) (.tuple ds)
 | dct {a:Addr} {kvs:List (Key × V)}:H a=some (.dK kvs)->Den K H (.ref a) (.dict (kvs.map A5s))
inductive DenAll (K:W.Frag) (H:Hp):List V->LP->Prop
 | nil:DenAll K H [] []
 | cons {x:V} {xs:List V} {d:PyData} {ds:LP}:Den K H x d->DenAll K H xs ds->DenAll K H (x :: xs) (d :: ds)
end
section
variable {X:Cx} {pins:List (Addr × Obj)} {σ:St} {H:Hp} {s:Shared}
mutual
def Den.reads (I:Inv X pins σ H s):∀ {x:V} {d:PyData} {u:Value},Den X.K H x d->RelV x u->d.canLay0=true->∃ as,Reads s.heap u d as
 | _,_,u,.non,r,_=>by cases (show u=Value.none from r); exact ⟨_,.none⟩
 | _,_,u,.bl b,r,_=>by cases (show u=Value.bool b from r); exact ⟨_,.bool b⟩
 | _,_,u,.int i,r,_=>by obtain ⟨t,q⟩:=(show ∃ t,u=Value.int i t from r); cases q; exact ⟨_,.int i t⟩
 | _,_,u,.str x,r,_=>by obtain ⟨t,q⟩:=(show ∃ t,u=Value.str x t from r); cases q; exact ⟨_,.str x t⟩
 | _,_,u,.lst (a:=a) h ds,r,cl=>by
  cases (show u=Value.ref a from r);obtain ⟨its,rv,⟨o,n,h1,h2,_,h3⟩,_⟩:=I.list h;obtain ⟨as,q⟩:=DenAll.reads I ds rv cl;exact ⟨_,.list h1 h2 h3 (by simpa using q)⟩
 | _,_,u,.tup (a:=a) h ds,r,cl=>by
  cases (show u=Value.ref a from r);obtain ⟨its,rv,⟨o,h1,h2,n,h3⟩,_⟩:=I.tuple h.1;obtain ⟨as,q⟩:=DenAll.reads I ds rv cl;exact ⟨_,.tuple h1 h2 h3 (by simpa using q)⟩
 | _,_,_,.dct _,_,cl=>absurd (show false=true from cl) Bool.false_ne_true
def DenAll.reads (I:Inv X pins σ H s):∀ {xs:List V} {ds:LP} {us:List Value},DenAll X.K H xs ds->Vals xs us->PyData.canLayAll0 ds=true->∃ as,ReadsAll s.heap us ds as
 | _,_,_,.nil,.nil,_=>⟨_,.nil⟩
 | _,d :: ds,_,.cons h t,.cons r rs,cl=>by
  have cl':(d.canLay0 && PyData.canLayAll0 ds)=true:=cl;rw [Bool.and_eq_true] at cl';obtain ⟨as,q⟩:=Den.reads I h r cl'.1;obtain ⟨bs,q'⟩:=DenAll.reads I t rs cl'.2;exact ⟨_,.cons q q'⟩
end
end
section
variable {X:Cx}
def rEqD (K:PySem.W.Frag):R2:=fun x y H Q=>∃ dx dy,Den K H x dx/\Den K H y dy/\dx.canLay0=true/\dy.canLay0=true/\dx.depth<=60/\Q (.bl (PyData.eqv dx dy)) H
def rNeD (K:PySem.W.Frag):R2:=fun x y H Q=>∃ dx dy,Den K H x dx/\Den K H y dy/\dx.canLay0=true/\dy.canLay0=true/\dx.depth<=60/\Q (.bl (!PyData.eqv dx dy)) H
def B92 (hu:X.A.units + 64 < cLine):OpR X (compareOp .Eq) (rEqD X.K):=by
 intro pins s σ H x y v u Q I rx ry h;obtain ⟨dx,dy,h1,h2,c1,c2,hd,q⟩:=h;obtain ⟨as,r1⟩:=h1.reads I rx c1;obtain ⟨bs,r2⟩:=h2.reads I ry c2;exact PySem.SeqAt.compareEq_reads r1 r2 c1 c2 (by omega) ⟨.bl _,H,I,rfl,q⟩
def B9y (hu:X.A.units + 64 < cLine):OpR X (compareOp .NotEq) (rNeD X.K):=by
 intro pins s σ H x y v u Q I rx ry h;obtain ⟨dx,dy,h1,h2,c1,c2,hd,q⟩:=h;obtain ⟨as,r1⟩:=h1.reads I rx c1;obtain ⟨bs,r2⟩:=h2.reads I ry c2;exact PySem.SeqAt.compareNe_reads r1 r2 c1 c2 (by omega) ⟨.bl _,H,I,rfl,q⟩
end
def Kp (p:Addr) (H H':Hp):Prop:=∀ b o,b≠p->H b=some o->H' b=some o
def Kp.upd {p:Addr} {H:Hp} {o:HO}:Kp p H (upd H p o):=fun b u n e=>by rw [C4 n]; exact e
def Kp.trans {p:Addr} {H H1 H2:Hp} (a:Kp p H H1) (b:Kp p H1 H2):Kp p H H2:=fun c o n e=>b c o n (a c o n e)
def Kp.refl {p:Addr} {H:Hp}:Kp p H H:=fun _ _ _ e=>e
def Same.kp {p:Addr} {H H':Hp} (a:Same H H'):Kp p H H':=fun b o _ e=>a b o e
def Same.upd {p:Addr} {H:Hp} {o:HO} (h:H p=none):Same H (upd H p o):=fun b u e=>by rw [C4 (E6 e h)]; exact e
def SqT.same {K:PySem.W.Frag} {H H':Hp} {a:Addr} {xs:List V} (e:Same H H') (h:SqT K H a xs):SqT K H' a xs:=by
 rcases h with (h | ⟨o,h⟩) | h
 ·exact .inl (.inl (e _ _ h))
 ·exact .inl (.inr ⟨o,e _ _ h⟩)
 ·exact .inr h
def at0 {α:Type} {x:α} {xs:List α}:atI (x :: xs) 0=some x:=G2 (j:=0) rfl
def at1 {α:Type} {x y:α} {xs:List α}:atI (x :: y :: xs) 1=some y:=G2 (j:=1) rfl
def at2 {α:Type} {x y z:α} {xs:List α}:atI (x :: y :: z :: xs) 2=some z:=G2 (j:=2) rfl
end L2
namespace L2
open PySem PySem.Spec PyProof.Rows
def A17 {prog:Program} {w:World} {A:Around} {R:Result->Shared->Prop} {s:Shared} {elt target iter:Expr} {ifs:List Expr} {scope:Scope} {pos:Pos} {it acc:Value} {env:Env} (I:Nat->Shared->Prop)
    (turn:∀ n s,I n s->wpAny (model prog w) A (pyNext it) (fun r s₁=>match r with
      | none=>R (.ok .next) s₁
      | some v=>wpAny (model prog w) A (letOwnedTupleGo target it v) (fun _ s₁'=>wpAny (model prog w) A (assign target env v) (fun _ s₂ =>
          wpAny (model prog w) A (forIn ifs true fun c r=>if r=true then do let ok <- isTrue c env (eval c env); pure (ForInStep.yield ok) else pure (ForInStep.yield r)) (fun ok s₃ =>
            if ok=true then wpAny (model prog w) A (eval elt env) (fun x s₄ =>
              wpAny (model prog w) A (call (.builtin "list.append") [acc,x]) (fun _ s₅=>∃ m,m < n/\I m s₅) (fun _ _=>False) s₄) (fun _ _=>False) s₃
            else ∃ m,m < n/\I m s₃) (fun _ _=>False) s₂) (fun _ _=>False) s₁') (fun _ _=>False) s₁) (fun _ _=>False) s)
    (n:Nat) (h:I n s):codeAny (model prog w) A (.compLoop (.ListComp elt [⟨target,iter,ifs,0⟩] scope pos) 0 it acc env) R s:=by
  refine codeAny_loop rfl I (fun n s hI=>?_) n h;show wpAny _ A ((compTurn (.ListComp elt [⟨target,iter,ifs,0⟩] scope pos) 0 it acc env).onRaise (fun x=>do noteFrame x env; theTreesLotGoes x)) _ _ s;refine wpAny_noted ?_;rw [compTurn_list];refine wpAny_bind (wpAny_standAt (wpAny_bind (wpAny_mono (turn n s hI) (fun r s₁ h₁=>?_) fun _ _ h'=>h'.elim)));cases r with
  | none=>exact wpAny_pure h₁
  | some v =>
    refine wpAny_bind (wpAny_mono h₁ (fun _ s₁' h₁'=>?_) fun _ _ h'=>h'.elim);refine wpAny_bind (wpAny_mono h₁' (fun _ s₂ h₂=>wpAny_bind (wpAny_mono h₂ (fun ok s₃ h₃=>?_) fun _ _ h'=>h'.elim)) fun _ _ h'=>h'.elim);cases ok with
    | false=>exact wpAny_pure ⟨rfl,h₃⟩
    | true =>
      exact wpAny_bind (wpAny_bind (wpAny_mono h₃ (fun x s₄ h₄=>wpAny_bind (wpAny_mono h₄ (fun _ s₅ h₅=>wpAny_pure (wpAny_pure ⟨rfl,h₅⟩)) fun _ _ h'=>h'.elim)) fun _ _ h'=>h'.elim))
def PTs (X:Cx) (ifs:List Expr) (t:TT):Prop :=
 ∀ (pins:List (Addr × Obj)) (s:Shared) (σ:St) (H:Hp) (Q:Bool->Hp->Prop),Inv X pins σ H s->t σ H Q ->
  wpAny (model X.prog X.w) X.A (forIn ifs true fun c r=>if r=true then do let ok <- isTrue c X.env (eval c X.env); pure (ForInStep.yield ok) else pure (ForInStep.yield r)) (TP X pins σ Q) X.xe s
def tYes:TT:=fun _ H Q=>Q true H
def B3t {X:Cx}:PTs X [] tYes:=fun pins s σ H Q I h=>wpAny_tests_nil ⟨H,I,h⟩
def B3s {X:Cx} {c:Expr} {t:TT} (h:PT X c t):PTs X [c] t:=fun pins s σ H Q I hw=>wpAny_tests_one (h pins s σ H Q I hw)
def Cx.block (X:Cx) (scope:Scope) (cl:List (Str × Addr)) (N':List Str) (s2:Shared) (H2:Hp) (fp:List Addr):Cx where
 prog:=X.prog
 w:=X.w
 K:=X.K
 mg:=X.mg
 base:=X.base
 A:=X.A
 N:=N'
 s₀:=s2
 H₀:=H2
 env:=compEnvC scope cl s2.heap.objs.size X.env
 outer:=X.stack
 stack:=X.stack
 ex:=fp
 fn:=fun _=>false
 calm:=X.calm
 pn:=[]
 xe:=fun _ _=>False
structure CompSc (X:Cx) (scope:Scope) (cl:List (Str × Addr)) (N':List Str) (cap:List (Option Nat)):Prop where
 clos:closureFor scope X.env=pure cl
 sub:∀ x c,cl.lookup x=some c->X.env.cells.lookup x=some c
 has:∀ x,((relabel scope X.env).names.lookup x=some .cell\/(relabel scope X.env).names.lookup x=some .free)->∃ c,cl.lookup x=some c
 kind:scope.kind=.function
 cell:∀ y ∈ scope.names,y.2≠.cell
 names:∀ y ∈ scope.names,y.2=.local->scope.names.lookup y.1=some .local
 nd:N'.Nodup
 len:cap.length=N'.length
 noloc:∀ x c,cl.lookup x=some c->X.env.kindOf x≠some .local
 capt:∀ (i:Nat) (x:Str) (j:Nat),N'[i]?=some x->cap[i]?=some (some j)->X.N[j]?=some x/\((relabel scope X.env).names.lookup x=some .cell\/(relabel scope X.env).names.lookup x=some .free)/\Vis X.env.scope x/\∃ c,cl.lookup x=some c
def capσ (cap:List (Option Nat)) (σ:St):St:=cap.map fun o=>o.bind fun j=>(σ[j]?).join
section
variable {X:Cx} {pins:List (Addr × Obj)} {σ:St} {H:Hp} {s:Shared} {scope:Scope} {cl:List (Str × Addr)} {N':List Str} {cap:List (Option Nat)} {fp:List Addr}
def B1m (I:Inv X pins σ H s) (C:CompSc X scope cl N' cap) (hf:∀ b ∈ fp,FpOk X pins H b) (ho:∀ b ∈ fp,∃ o,s.heap.get? b=some o):(X.block scope cl N' s H fp).Ok where
 mod:=I.ok.mod
 kind:=C.kind
 glob:=I.ok.glob
 blt:=I.ok.blt
 above:=Zv _
 inj:=fun x y c h1 h2=>I.ok.inj x y c (C.sub x c h1) (C.sub y c h2)
 has:=fun x h=>C.has x h
 cab:=fun x c h _=>absurd (show false=true from h) Bool.false_ne_true
 hd:=I.ok.hd
 frames:=I.ok.frames
 stk:=.inl rfl
 exf:=fun b hb=>⟨fun z=>by
  obtain ⟨o,e⟩:=ho b hb;exact absurd (Heap.lt_size e) (by rw [z]; exact Nat.lt_irrefl _),fun x c h=>(hf b hb).2.2.2.2.1 x c (C.sub x c h)⟩
 bs:=I.bs
 bsz:=Zx I.ok.bsz I.sz
 noex:=fun b o e hb=>by
  rcases (hf b hb).2.2.2.1 with z | z
  ·exact I.ok.noex b o e z
  ·exact absurd (Nat.lt_of_lt_of_le (Heap.lt_size e) (Zx I.ok.bsz z)) (Nat.lt_irrefl _)
 exfs:=fun b hb z=>by
  rcases List.mem_cons.mp (I.stkSub b z) with e | e
  ·exact (hf b hb).2.1 e
  ·exact (hf b hb).2.2.1 e
 funs:=I.stack
 frf:=I.stkFree
def A82 {h1:Heap} {tk:Nat} {m:Str->Option Value} (I:Inv X pins σ H s) (C:CompSc X scope cl N' cap) (hf:∀ b ∈ fp,FpOk X pins H b) (ho:∀ b ∈ fp,∃ o,s.heap.get? b=some o)
  (hn:h1.Ns s.heap.objs.size m) (hk:∀ b o,s.heap.get? b=some o->h1.get? b=some o):Inv (X.block scope cl N' s H fp) [] (capσ cap σ) H { s with heap:=h1,toks:=tk } where
 ok:=B1m I C hf ho
 os:=rfl
 bare:=I.bare
 base:=Un.kept hk
 loc:=⟨m,hn,fun i x v h1' h2 h3=>by
  unfold capσ at h2;rw [Zh] at h2;cases e:cap[i]? with
  | none=>rw [e] at h2; cases h2
  | some o =>
   rw [e] at h2;cases o with
   | none=>cases h2
   | some j =>
    obtain ⟨q1,q2,q3,c,q4⟩:=C.capt i x j h1' e;have hv:(σ[j]?).join=some v:=Zj h2;have hσ:σ[j]?=some (some v):=by
     cases z:σ[j]? with
     | none=>rw [z] at hv; cases hv
     | some y=>rw [z] at hv; cases (show y=some v from hv); rfl
    obtain ⟨m0,hn0,hl0⟩:=I.loc;obtain ⟨u,r,l⟩:=hl0 j x v q1 hσ q3;refine ⟨u,r,.inr ⟨q2,c,q4,?_⟩⟩;rcases l with ⟨l1,_⟩ | ⟨_,c',l2,l3⟩
    ·exact absurd l1 (C.noloc x c q4)
    ·have:=C.sub x c q4;rw [l2] at this;cases this;exact l3.keeps hk⟩
 cell:=fun x c h=>by
  obtain ⟨v,z⟩:=I.cell x c (C.sub x c h);exact ⟨v,z.keeps hk⟩
 free:=I.hok.fresh (Zv _)
 freeC:=fun x c h=>I.freeC x c (C.sub x c h)
 pin:=fun p hp=>absurd (show p ∈ ([]:List (Addr × Obj)) from hp) (by simp)
 hok:=I.hok.kept hk
 len:=by unfold capσ; rw [Zl]; exact C.len
def A81 {H':Hp} {s':Shared} {h':Heap} {σ':St} {pl:List (Addr × Obj)} (I:Inv X pins σ H s) (J:Inv (X.block scope cl N' s H fp) pl σ' H' s') (hf:∀ b ∈ fp,FpOk X pins H b) (hs:Heap.SameBut s.heap.objs.size s'.heap h') :
  Inv X pins σ H' { s' with heap:=h' }:=by
 have ne:∀ b o,s.heap.get? b=some o->b≠s.heap.objs.size:=fun b o e=>Nat.ne_of_lt (Heap.lt_size e);have B:Un (frs X.stack) fp H H' s.heap s'.heap:=J.base;refine I.call' (s':={ s' with heap:=h' }) (ch:=fp) J.os ⟨fun b o e n h1 h2=>?_,fun b o e n h1 h2=>?_,B.free,fun b o e h2=>?_,B.tups,B.frzs,B.tbls⟩ ?_ J.bare (fun b hb=>?_)
 ·show h'.get? b=some o;rw [hs.2 b (ne b o e)]; exact B.keep b o e n h1 h2
 ·show ∃ sl,h'.get? b=_;rw [hs.2 b (ne b o e)]; exact B.slot b o e n h1 h2
 ·show ∃ o',h'.get? b=_;rw [hs.2 b (ne b o e)]; exact B.there b o e h2
 ·intro b u e;have hfree:H' s.heap.objs.size=none:=J.free;have nC:∀ c v,H' c=some v->c≠s.heap.objs.size:=fun c v q z=>by rw [z,hfree] at q; cases q
  refine (J.hok b u e).stay (fun c v hc q=>?_) (fun _ q=>q) fun _ _ q=>q;show h'.get? c=some v;have:c≠s.heap.objs.size:=by
   rcases hc with z | z
   ·rw [z]; exact nC b u e
   ·exact nC c _ z
  rw [hs.2 c this]; exact q
 ·obtain ⟨f0,f1,f2,f3,f4,f5⟩:=hf b hb;exact ⟨f3,f1,f4,f5⟩
end
def A18 (J:It) (g:TG) (tt:TT) (te:TE) (D:Addr) (Fin:Hp->Prop) (σ0:St) (H1:Hp):Prop :=
 ∃ W:Nat->Nat->St->Hp->List V->Prop,(∃ m,W 0 m σ0 (upd H1 D (.lst [])) [])/\∀ i m σ' H' ys,W i m σ' H' ys->H' D=some (.lst ys)/\ys.length < sizeLine /\
  ((J.stop i H'/\Fin H')\/(J.go i H'/\∀ x H2,J.yld i H' x H2->g x σ' H2 fun σ2 H3=>tt σ2 H3 fun b H4=>if b=true then
   te σ2 H4 fun y H5=>∃ zs,H5 D=some (.lst zs)/\zs.length < sizeLine/\∃ m',m' < m/\W (i + 1) m' σ2 (upd H5 D (.lst (zs++[y]))) (zs++[y])
   else ∃ m',m' < m/\W (i + 1) m' σ2 H4 ys))
def B3a (wi:TI) (g:TG) (tt:TT) (te:TE) (cap:List (Option Nat)):TE:=fun σ H Q=>wi σ H fun J H1=>∀ D,H1 D=none->A18 J g tt te D (fun H'=>Q (.ref D) H') (capσ cap σ) H1
section
variable {X:Cx} {scope:Scope} {cl:List (Str × Addr)} {N':List Str} {cap:List (Option Nat)} {elt tg iter:Expr} {ifs:List Expr} {wi:TI} {g:TG} {tt:TT} {te:TE} {pos:Pos}
def A2g {pins:List (Addr × Obj)} {σ:St} {H2:Hp} {s2:Shared} {it:Addr} {fp:List Addr} {tn:Nat->Heap->Prop} {J:It} {E:Value->Shared->Prop} {RR:Value->Addr->Result->Shared->Prop} {Fin:Addr->Hp->Prop}
  (hc:X.calm=true) (C:CompSc X scope cl N' cap) (I2:Inv X pins σ H2 s2) (T:Turn X.prog X.w X.K tg J fp it tn) (st2:tn 0 s2.heap) (f2:∀ b ∈ fp,FpOk X pins H2 b)
  (hg:∀ s3 H3 fp,PG (X.block scope cl N' s3 H3 fp) tg g) (ht:∀ s3 H3 fp,PTs (X.block scope cl N' s3 H3 fp) ifs tt) (he:∀ s3 H3 fp,PE (X.block scope cl N' s3 H3 fp) elt te)
  (go:∀ D,H2 D=none->A18 J g tt te D (Fin D) (capσ cap σ) H2)
  (out:∀ (D C:Addr) (s':Shared) (m:Str->Option Value) (H':Hp),s'.heap.Ns C m->C≠X.env.locals->H' C=none->X.s₀.heap.objs.size<=C->(∀ x c,X.env.cells.lookup x=some c->c≠C)->(∀ p ∈ X.pn++pins,p.1≠C)->Fin D H'->Inv X pins σ H' s'->RR (.ref D) C (.ok .next) s') :
  wpAny (model X.prog X.w) X.A (newList []) (fun acc s₃=>wpAny (model X.prog X.w) X.A (newFunctionEnv scope X.env.globals cl [] X.env.qual none .none (some X.env)) (fun cenv s₄ =>
   codeAny (model X.prog X.w) X.A (.compStart (.ListComp elt [⟨tg,iter,ifs,0⟩] scope pos) 0 (.ref it) acc { cenv with scope:=relabel scope X.env }) (RR acc cenv.locals) s₄) E s₃) E s2:=by
 refine wpAny_newObj_type (wpAny_newFunctionEnv C.cell (by intro y hy; simp at hy) (fun h₁ hns₁ hsb₁=>?_) C.kind);have hD:H2 s2.heap.objs.size=none:=I2.hok.fresh (Zv _);obtain ⟨W,⟨m0,w0⟩,turn⟩:=go _ hD;have I3:Inv X pins σ (upd H2 s2.heap.objs.size (.lst [])) { s2 with heap:=s2.heap.push { cls:=.type "list",dict:=none,data:=.seq ([]:List Value).toArray } } :=
  I2.laid (t':=s2.toks) (o:=.lst []) (fun b u e=>Heap.get?_push_of_some _ e) (Zv _) ⟨Nat.zero_le _,[],0,.nil,Heap.get?_push_size _ rfl⟩
 have f3:∀ b ∈ fp,FpOk X pins (upd H2 s2.heap.objs.size (.lst [])) b:=fun b hb=>by
  obtain ⟨f0,fr⟩:=f2 b hb;obtain ⟨o,e,_⟩:=T.obj _ _ st2 b hb;exact ⟨by rw [C4 (Nat.ne_of_lt (Heap.lt_size e))]; exact f0,fr⟩
 generalize hs3:({ s2 with heap:=s2.heap.push { cls:=.type "list",dict:=none,data:=.seq ([]:List Value).toArray } }:Shared)=s3 at hns₁ hsb₁ I3 ⊢;have o3:∀ b o,s2.heap.get? b=some o->s3.heap.get? b=some o:=fun b o e=>by rw [<- hs3]; exact Heap.get?_push_of_some _ e
 have hk:∀ b o,s3.heap.get? b=some o->h₁.get? b=some o:=fun b o e=>by
  rw [hsb₁.2 b (Nat.ne_of_lt (Heap.lt_size e))]; exact Heap.get?_push_of_some _ e
 have st3:tn 0 s3.heap:=T.keep _ _ _ st2 fun b _ o e=>o3 b o e;have ho:∀ b ∈ fp,∃ o,s3.heap.get? b=some o:=fun b hb=>let ⟨o,e,_⟩:=T.obj _ _ st3 b hb; ⟨o,e⟩;have I4:=A82 (tk:=s3.toks + ([]:List (Str × Value)).length) I3 C f3 ho hns₁ hk;have st4:tn 0 h₁:=T.keep _ _ _ st3 fun b _ o e=>hk b o e;have hX:∀ {H':Hp} {pl:List (Addr × Obj)},(∀ b ∈ fp,H' b=none)->(∀ p ∈ pl,p.1 ∉ fp)->∀ b ∈ fp,FpOk (X.block scope cl N' s3 (upd H2 s2.heap.objs.size (.lst [])) fp) pl H' b:=fun {H' pl} hn hp b hb=>by
  refine ⟨hn b hb,I4.ok.exf b hb |>.1,I4.ok.exfs b hb,.inl hb,(I4.ok.exf b hb).2,fun p hp' z=>?_⟩;have hp'':p ∈ pl:=by simpa [Cx.block] using hp'
  exact hp p hp'' (by rw [z]; exact hb)
 have fr3:∀ b ∈ fp,(upd H2 s2.heap.objs.size (.lst [])) b=none:=fun b hb=>(f3 b hb).1;have loop:∀ s₅:Shared,s₅={ s3 with heap:=h₁,toks:=s3.toks + ([]:List (Str × Value)).length } ->
   codeAny (model X.prog X.w) X.A (.compLoop (.ListComp elt [⟨tg,iter,ifs,0⟩] scope pos) 0 (.ref it) (.ref s2.heap.objs.size) (compEnvC scope cl s3.heap.objs.size X.env)) (RR (.ref s2.heap.objs.size) s3.heap.objs.size) s₅:=by
  rintro s₅ rfl;refine A17 (fun n s'=>∃ i σ' H' ys,Inv (X.block scope cl N' s3 (upd H2 s2.heap.objs.size (.lst [])) fp) [] σ' H' s'/\tn i s'.heap/\(∀ b ∈ fp,H' b=none)/\W i n σ' H' ys) ?_ m0 ⟨0,_,_,[],I4,st4,fr3,w0⟩;rintro n s6 ⟨i,σ6,H6,ys,I6,st6,fr6,w6⟩;obtain ⟨hl6,hz6,hgo⟩:=turn i n σ6 H6 ys w6;rcases hgo with ⟨stop,fin⟩ | ⟨go',step⟩
  ·refine wpAny_mono (T.done (X.block scope cl N' s3 (upd H2 s2.heap.objs.size (.lst [])) fp) rfl rfl rfl hc i [] s6 σ6 H6 (fun _ _=>False) I6 (hX fr6 (fun _ z=>nomatch z)) st6 stop) (fun r s7 ⟨hr,I7⟩=>?_) fun _ _ z=>z.elim;subst hr;obtain ⟨m7,hn7,_⟩:=id I7.loc;refine out _ _ s7 m7 H6 hn7 (Nat.ne_of_gt I3.lt) I7.free I3.sz (fun x c e z=>?_) (fun p hp z=>?_) fin (A81 I3 I7 f3 (.refl ..))
   ·obtain ⟨v,q⟩:=I3.cell x c e;exact absurd q.lt (by rw [z]; exact Nat.lt_irrefl _)
   ·exact absurd (Heap.lt_size (I3.pin p hp).1) (by rw [z]; exact Nat.lt_irrefl _)
  ·refine wpAny_mono (T.item (X.block scope cl N' s3 (upd H2 s2.heap.objs.size (.lst [])) fp) rfl rfl rfl hc i [] s6 σ6 H6 (fun _ _=>False) I6 (hX fr6 (fun _ z=>nomatch z)) st6 go') (fun r s7 ⟨u,hr,h7⟩=>?_) fun _ _ z=>z.elim;subst hr;refine wpAny_mono h7 (fun _ s8 ⟨x,H8,I8,r8,y8,st8,fr8⟩=>?_) fun _ _ z=>z.elim;have I8':=I8.pinned (hX fr8 (fun _ z=>nomatch z)) (T.obj _ _ st8);have again:∀ {s9:Shared} {σ9:St} {H9:Hp},Inv (X.block scope cl N' s3 (upd H2 s2.heap.objs.size (.lst [])) fp) ([]++A1n fp s8.heap) σ9 H9 s9->∀ {zs:List V},(∃ m',m' < n/\W (i + 1) m' σ9 H9 zs) ->
     ∃ m,m < n/\∃ i σ' H' ys,Inv (X.block scope cl N' s3 (upd H2 s2.heap.objs.size (.lst [])) fp) [] σ' H' s9/\tn i s9.heap/\(∀ b ∈ fp,H' b=none)/\W i m σ' H' ys:=fun {s9 σ9 H9} I9 {zs} ⟨m',hm,w9⟩=>by
    refine ⟨m',hm,i + 1,σ9,H9,zs,I9.unpinned,T.keep _ _ _ st8 fun b hb o e=>(I9.pin (b,o) (Zw _ (Zw _ (P9 hb e)))).1,fun b hb=>?_,w9⟩;obtain ⟨o,e,d⟩:=T.obj _ _ st8 b hb;exact (I9.pin (b,o) (Zw _ (Zw _ (P9 hb e)))).2.1
   refine wpAny_mono (hg _ _ _ _ s8 σ6 H8 x u _ I8' r8 (step x H8 y8)) (fun _ s9 ⟨σ9,H9,I9,q9⟩=>?_) fun _ _ z=>z.elim;refine wpAny_mono (ht _ _ _ _ s9 σ9 H9 _ I9 q9) (fun ok s10 ⟨H10,I10,q10⟩=>?_) fun _ _ z=>z.elim;cases ok with
   | false=>exact again I10 q10
   | true =>
    rw [if_pos rfl];refine wpAny_mono (he _ _ _ _ s10 σ9 H10 _ I10 q10) (fun yv s11 ⟨y,H11,I11,r11,zs,hz,hlen,q11⟩=>?_) fun _ _ z=>z.elim;refine wpAny_mono (F2 (X:=X.block scope cl N' s3 (upd H2 s2.heap.objs.size (.lst [])) fp) _ s11 σ9 H11 (.ref s2.heap.objs.size) [y] (.ref s2.heap.objs.size) [yv] (fun _ H'=>∃ m',m' < n/\W (i + 1) m' σ9 H' (zs++[y])) I11 rfl (.cons r11 .nil) ⟨_,zs,y,rfl,rfl,hz,hlen,q11⟩) (fun _ s12 ⟨_,H12,I12,_,q12⟩=>?_) fun _ _ z=>z.elim;exact again I12 q12
 exact codeAny_compStart_list (loop _ rfl) (T.self _ 0 _ _ _ st4 (loop _ rfl))
def B4b (hc:X.calm=true) (C:CompSc X scope cl N' cap) (hi:PI X tg iter wi) (hg:∀ s3 H3 fp,PG (X.block scope cl N' s3 H3 fp) tg g) (ht:∀ s3 H3 fp,PTs (X.block scope cl N' s3 H3 fp) ifs tt)
  (he:∀ s3 H3 fp,PE (X.block scope cl N' s3 H3 fp) elt te) (hs:∀ x,foldedSetIterable iter X.env x=pure x:=by intro _; rfl):PE X (.ListComp elt [⟨tg,iter,ifs,0⟩] scope pos) (B3a wi g tt te cap):=by
 intro pins s σ H Q I h;rw [eval_ListComp];refine wpAny_comprehension_free (use:=none) rfl hs C.clos C.kind C.names (thn (hi pins s σ H _ I h) fun v s1 h1=>thn h1 fun itv s2 h2=>?_);obtain ⟨it,fp,tn,J,H2,e,I2,T,st2,f2,go⟩:=h2;subst e;refine A2g (RR:=fun acc C=>compPost (model X.prog X.w) X.A X.xe none (EP X pins σ Q) acc C) (Fin:=fun D H'=>Q (.ref D) H') hc C I2 T st2 f2 hg ht he go ?_;intro D C' s' m H' hn n1 n2 n3 n4 n5 fin inv;exact ⟨m,hn,fun h' hs'=>⟨.ref D,H',inv.turned (t':=s'.toks) (fun b o hb e=>(hs'.2 b hb).trans e) n2 n1 (.inr n3) n4 n5,rfl,fin⟩⟩
end
def A2a (env:Env):List (Str × NameKind)->List (Str × Addr)->List (Str × Addr)
 | [],acc=>acc
 | (n,k) :: r,acc=>A2a env r (if (k == .free)=true then (n,(env.cells.lookup n).getD 0) :: acc else acc)
def A01 {env:Env}:∀ (l:List (Str × NameKind)) (acc:List (Str × Addr)),(∀ p ∈ l,p.2=.free->(env.cells.lookup p.1).isSome=true) ->
  (forIn l acc (fun x s=>match x with
   | (name,kind)=>if (kind == NameKind.free)=true then do
     let a <- cellOf env name
     pure (ForInStep.yield ((name,a) :: s))
    else pure (ForInStep.yield s)):Sem (List (Str × Addr)))=pure (A2a env l acc)
 | [],acc,_=>rfl
 | (n,k) :: r,acc,h=>by
  rw [List.forIn_cons];have hr:=fun p hp=>h p (Zr _ hp);by_cases hk:(k == NameKind.free)=true
  ·have h1:=h (n,k) Zy (by simpa using hk);obtain ⟨c,hc⟩:=Option.isSome_iff_exists.mp h1;have hc:env.cells.lookup n=some c:=hc;have e1:cellOf env n=pure c:=by unfold cellOf; rw [hc]
   simp only [hk,if_true,e1,pure_bind];rw [A01 r _ hr];show _=pure (A2a env r (if (k == .free)=true then (n,(env.cells.lookup n).getD 0) :: acc else acc));rw [if_pos hk,hc];rfl
  ·simp only [hk,Bool.false_eq_true,if_false,pure_bind];rw [A01 r _ hr];show _=pure (A2a env r (if (k == .free)=true then (n,(env.cells.lookup n).getD 0) :: acc else acc));rw [if_neg hk]
def A19 {env:Env}:∀ (l:List (Str × NameKind)) (acc:List (Str × Addr)) (p:Str × Addr),p ∈ A2a env l acc->p ∈ acc\/((p.1,NameKind.free) ∈ l/\p.2=(env.cells.lookup p.1).getD 0)
 | [],acc,p,h=>.inl h
 | (n,k) :: r,acc,p,h=>by
  rcases A19 r _ p h with z | ⟨z,e⟩
  ·by_cases hk:(k == NameKind.free)=true
   ·rw [if_pos hk] at z;rcases List.mem_cons.mp z with rfl | z
    ·right;have:k=.free:=by simpa using hk
     subst this;exact ⟨Zy,rfl⟩
    ·exact .inl z
   ·rw [if_neg hk] at z;exact .inl z
  ·exact .inr ⟨Zr _ z,e⟩
def X4 {env:Env}:∀ (l:List (Str × NameKind)) (acc:List (Str × Addr)) (x:Str),((∃ c,(x,c) ∈ acc)\/(x,NameKind.free) ∈ l)->∃ c,(x,c) ∈ A2a env l acc
 | [],acc,x,h=>by
  rcases h with h | h
  ·exact h
  ·exact absurd h (by simp)
 | (n,k) :: r,acc,x,h=>by
  refine X4 r _ x ?_;rcases h with ⟨c,h⟩ | h
  ·left;by_cases hk:(k == NameKind.free)=true
   ·rw [if_pos hk]; exact ⟨c,Zr _ h⟩
   ·rw [if_neg hk]; exact ⟨c,h⟩
  ·rcases List.mem_cons.mp h with e | h
   ·left;cases e;rw [if_pos (by rfl)];exact ⟨_,Zy⟩
   ·exact .inr h
def O3 {β:Type} {x:Str}:∀ {l:List (Str × β)} {c:β},(x,c) ∈ l->∃ c',l.lookup x=some c'
 | (n,d) :: r,c,h=>by
  by_cases e:x=n
  ·subst e; exact ⟨d,by simp [List.lookup_cons]⟩
  ·rcases List.mem_cons.mp h with z | z
   ·cases z; exact absurd rfl e
   ·obtain ⟨c',q⟩:=O3 z;refine ⟨c',?_⟩;rw [List.lookup_cons];have:(x == n)=false:=by simpa using e
    rw [this]; exact q
def Q3 {scope:Scope} {env:Env} {x:Str} {k:NameKind} (hcell:∀ y ∈ scope.names,y.2≠.cell) (h:(relabel scope env).names.lookup x=some k) (hk:k=.cell\/k=.free):(x,NameKind.free) ∈ scope.names:=by
 have h1:=PySem.mem_of_lookup h;obtain ⟨⟨n,k'⟩,hm,e⟩:=List.mem_map.mp (show (x,k) ∈ scope.names.map _ from h1);dsimp only at e;split at e
 ·rename_i q;cases e;simp only [Bool.and_eq_true] at q;have:k'=.free:=by simpa using q.1.1
  subst this;exact hm
 ·cases e;rcases hk with rfl | rfl
  ·exact absurd rfl (hcell _ hm)
  ·exact hm
def O8 {env:Env} {x:Str}:∀ {l:List (Str × NameKind)},l.lookup x=some .free ->
  (l.map fun (n,k)=>if (k == NameKind.free && env.scope.kind == .function && env.kindOf n == some .cell) then (n,NameKind.cell) else (n,k)).lookup x=some .cell \/
  (l.map fun (n,k)=>if (k == NameKind.free && env.scope.kind == .function && env.kindOf n == some .cell) then (n,NameKind.cell) else (n,k)).lookup x=some .free
 | [],h=>by simp at h
 | (n,k) :: r,h=>by
  rw [List.lookup_cons] at h;rw [List.map_cons];dsimp only;by_cases e:(x == n)=true
  ·rw [e] at h;have hk:k=.free:=by simpa using h
   subst hk;by_cases q:(NameKind.free == NameKind.free && env.scope.kind == .function && env.kindOf n == some .cell)=true
   ·left; rw [if_pos q,List.lookup_cons,e]
   ·right; rw [if_neg q,List.lookup_cons,e]
  ·have e':(x == n)=false:=by simpa using e
   rw [e'] at h;have:=O8 (env:=env) h;by_cases q:(k == NameKind.free && env.scope.kind == .function && env.kindOf n == some .cell)=true
   ·rw [if_pos q,List.lookup_cons,e']; exact this
   ·rw [if_neg q,List.lookup_cons,e']; exact this
def A1e {scope:Scope} {env:Env} {x:Str} (h:scope.names.lookup x=some .free):(relabel scope env).names.lookup x=some .cell\/(relabel scope env).names.lookup x=some .free:=O8 h
def D5 {X:Cx} {scope:Scope} (N':List Str) (cap:List (Option Nat))
  (h1:scope.names.all (fun p=>!(p.2 == .free) || ((X.env.cells.lookup p.1).isSome && !(X.env.kindOf p.1 == some .local)))=true:=by exact rfl)
  (hk:scope.kind=.function:=by exact rfl) (h2:scope.names.all (fun p=>!(p.2 == .cell))=true:=by exact rfl) (h3:scope.names.all (fun p=>!(p.2 == .local) || scope.names.lookup p.1 == some .local)=true:=by exact rfl)
  (nd:N'.Nodup:=by ext) (len:cap.length=N'.length:=by exact rfl)
  (h4:(N'.zip cap).all (fun q=>match q.2 with | none=>true | some j=>(X.N[j]? == some q.1) && (scope.names.lookup q.1 == some .free) && (X.env.scope.names.lookup q.1 == some .cell || X.env.scope.names.lookup q.1 == some .free))=true:=by exact rfl) :
  CompSc X scope (A2a X.env scope.names []) N' cap:=by
 have hfree:∀ p ∈ scope.names,p.2=.free->(X.env.cells.lookup p.1).isSome=true/\X.env.kindOf p.1≠some .local:=fun p hp e=>by
  have:=List.all_eq_true.mp h1 p hp;rw [e] at this;have this:((X.env.cells.lookup p.1).isSome && !(X.env.kindOf p.1 == some .local))=true:=this;rw [Bool.and_eq_true] at this;refine ⟨this.1,fun z=>?_⟩;rw [z] at this;exact absurd this.2 (by decide)
 have hcell:∀ y ∈ scope.names,y.2≠.cell:=fun y hy e=>by
  have:=List.all_eq_true.mp h2 y hy;rw [e] at this;exact absurd this (by decide)
 have memsub:∀ x c,(A2a X.env scope.names []).lookup x=some c->(x,NameKind.free) ∈ scope.names/\X.env.cells.lookup x=some c:=fun x c h=>by
  rcases A19 _ _ _ (PySem.mem_of_lookup h) with z | ⟨z,e⟩
  ·exact absurd z (by simp)
  ·refine ⟨z,?_⟩;obtain ⟨c',hc'⟩:=Option.isSome_iff_exists.mp (hfree _ z rfl).1;have hc':X.env.cells.lookup x=some c':=hc';have e:c=(X.env.cells.lookup x).getD 0:=e;rw [hc'] at e ⊢;exact congrArg some e.symm
 refine ⟨?_,fun x c h=>(memsub x c h).2,fun x h=>?_,hk,hcell,fun y hy e=>?_,nd,len,fun x c h=>(hfree _ (memsub x c h).1 rfl).2,fun i x j hi hc=>?_⟩
 ·unfold closureFor;show (forIn scope.names [] _ >>= fun r=>pure r)=_;rw [A01 scope.names [] fun p hp e=>(hfree p hp e).1];rfl
 ·have hm:(x,NameKind.free) ∈ scope.names:=by
   rcases h with h | h
   ·exact Q3 hcell h (.inl rfl)
   ·exact Q3 hcell h (.inr rfl)
  obtain ⟨c,hc⟩:=X4 (env:=X.env) scope.names [] x (.inr hm);exact O3 hc
 ·have:=List.all_eq_true.mp h3 y hy;rw [e] at this;simpa using this
 ·have hz:(x,some j) ∈ N'.zip cap:=by
   refine List.mem_iff_getElem?.mpr ⟨i,?_⟩;rw [List.getElem?_zip_eq_some];exact ⟨hi,hc⟩
  have:=List.all_eq_true.mp h4 _ hz;simp only [Bool.and_eq_true,Bool.or_eq_true,beq_iff_eq] at this;obtain ⟨⟨q1,q2⟩,q3⟩:=this;refine ⟨q1,A1e q2,?_,?_⟩
  ·rcases q3 with q | q
   ·exact .inr (.inl q)
   ·exact .inr (.inr q)
  ·obtain ⟨c,hc⟩:=X4 (env:=X.env) scope.names [] x (.inr (PySem.mem_of_lookup q2));exact O3 hc
def R6 (wi:TI) (g:TG) (tt:TT) (te:TE) (cap:List (Option Nat)) (i:Nat):TS:=fun D σ H=>wi σ H fun J H1=>∀ l,H1 l=none->A18 J g tt te l (fun H'=>D.nx (σ.set i (some (.ref l))) H') (capσ cap σ) H1
section
variable {X:Cx} {scope:Scope} {cl:List (Str × Addr)} {N':List Str} {cap:List (Option Nat)} {elt tg iter:Expr} {ifs:List Expr} {wi:TI} {g:TG} {tt:TT} {te:TE} {pos spos py:Pos} {y:Str} {i:Nat}
def A40 (hc:X.calm=true) (hN:X.N.Nodup) (hi:X.N[i]?=some y) (hy:X.env.scope.names.lookup y=some .local) (C:CompSc X scope cl N' cap) (hit:PI X tg iter wi) (hg:∀ s3 H3 fp,PG (X.block scope cl N' s3 H3 fp) tg g)
  (ht:∀ s3 H3 fp,PTs (X.block scope cl N' s3 H3 fp) ifs tt) (he:∀ s3 H3 fp,PE (X.block scope cl N' s3 H3 fp) elt te)
  (hsw:swapsWith (.ListComp elt [⟨tg,iter,ifs,0⟩] scope pos) (some (.Name y py)) spos.line X.env=pure true) (hs:∀ x,foldedSetIterable iter X.env x=pure x:=by intro _; rfl) :
  PS X (.Assign [.Name y py] (.ListComp elt [⟨tg,iter,ifs,0⟩] scope pos) spos) (R6 wi g tt te cap i):=by
 intro pins s σ H D I h;rw [exec_Assign_Name_used _ _ _ _ hsw];refine wpAny_bind (wpAny_standAt (wpAny_bind ?_));show wpAny _ X.A (do let _ <- comprehension (.ListComp elt [⟨tg,iter,ifs,0⟩] scope pos) scope X.env _ (newList []) false (eval iter X.env) (some (assign (.Name y py) X.env))) _ _ s;refine wpAny_bind (wpAny_mono (wpAny_comprehension_free (use:=some (assign (.Name y py) X.env)) (Q:=fun _ s'=>SP X pins D .next s') rfl hs C.clos C.kind C.names
  (thn (hit pins s σ H _ I h) fun v s1 h1=>thn h1 fun itv s2 h2=>?_)) (fun _ s' hq=>wpAny_pure (wpAny_pure hq)) fun _ _ e=>e)
 obtain ⟨it,fp,tn,J,H2,e,I2,T,st2,f2,go⟩:=h2;subst e;refine A2g (RR:=fun acc C=>compPost (model X.prog X.w) X.A X.xe (some (assign (.Name y py) X.env)) (fun _ s'=>SP X pins D .next s') acc C) (Fin:=fun l H'=>D.nx (σ.set i (some (.ref l))) H') hc C I2 T st2 f2 hg ht he go ?_;intro l C' s' m H' hn n1 n2 n3 n4 n5 fin inv;show wpAny _ X.A (assign (.Name y py) X.env (.ref l)) _ _ _;refine wpAny_assign_Name (A1b (v:=.ref l) inv hN hi (.inl hy) rfl (fun s'' I'' ⟨a,sb,ha⟩=>?_) (.inr hy));have na:C'≠a:=by
  rcases ha with e | e
  ·rw [e]; exact n1
  ·exact (n4 _ _ e).symm
 exact ⟨m,hn.sameBut sb na,fun h' hs'=>⟨_,H',I''.turned (t':=s''.toks) (fun b o hb e=>(hs'.2 b hb).trans e) n2 n1 (.inr n3) n4 n5,fin⟩⟩
end
section
variable {X:Cx} {K:W.Frag}
def B01 (h:X.K=K):IxR X (rIxL K):=by subst h; exact ix_list
def B36 {pos:Pos} {es:List Expr} {k:Nat} {t:TGs} {n:Nat} (h:X.K=K) (hc:X.calm=true) (hg:PGs X es t)
  (hn:(assignEach es X.env).length=n:=by rfl) (hst:(assignEach es X.env).findIdx? (·.1)=none:=by rfl):PG X (.Tuple es k pos) (gTup K n t):=by subst h; exact B8o hc hg hn hst
end
end L2
namespace Prf
open PySem L2 My
abbrev Hpp:=L2.Hp
structure StAt (H:Hpp) (p:Addr):Prop where
 ex:∃ (c m:Int) (f:Bool),H p=some (.lst [.int c,.int m,.bl f])/\0<=m/\m < 2147483648
def StAt.same {H H':Hpp} {p:Addr} (h:StAt H p) (e:Same H H'):StAt H' p:=by
 obtain ⟨c,m,f,h,r⟩:=h.ex; exact ⟨c,m,f,e _ _ h,r⟩
def StAt.kp {H H':Hpp} {p l:Addr} (h:StAt H p) (n:p≠l) (e:Kp l H H'):StAt H' p:=by
 obtain ⟨c,m,f,h,r⟩:=h.ex; exact ⟨c,m,f,e _ _ n h,r⟩
def A6c:Sp:=fun vs H Q _=>∃ (p:Addr) (n:Int),vs=[.ref p,.int n]/\StAt H p/\0 < n/\Sm 4000 n/\∀ d H',0<=d->d < n->StAt H' p->Kp p H H'->Q (.int d) H'
def sm32 {m:Int} (h0:0<=m) (h1:m < 2147483648):Sm 8000 m:=Sm.mono (k:=32) (by unfold Sm; omega) (by decide)
def Y8 {m:Int} (n:Nat) (h:m.natAbs < 2 ^ 64:=by decide):Sm 8000 m:=Sm.mono (k:=64) h (by decide)
def A6e {k:Nat} {t b:Int} (h:Sm k b) (hb:b≠0):Sm k ((Int.gcd t b:Nat):Int):=by
 have h1:Int.gcd t b ∣ b.natAbs:=Nat.gcd_dvd_right _ _;have h2:=Nat.le_of_dvd (by omega) h1;exact h.le (by simpa using h2)
def B7z {k:Nat} {t b:Int} (h:Sm k b) (hb:b≠0):Sm k (sh t b):=by
 have h1:Int.gcd t b ∣ b.natAbs:=Nat.gcd_dvd_right _ _;have h2:=Nat.le_of_dvd (by omega) h1;exact h.le (by rw [B73]; exact h2)
def A8r (n:Nat) (h:(n:Int)<=1000000:=by decide):CPow 10 (n:Int):=⟨by omega,h,by decide⟩
def sm4 (n:Int) (h:n.natAbs < 2 ^ 64:=by decide):Sm 4000 n:=Sm.mono (k:=64) h (by decide)
def B70 (b:Bool):Sm 8000 (if b=true then (1:Int) else 0):=by cases b <;> exact Y8 0
def C0z:kitB "tuple" "tuple"=some true:=by ext
def C09:kitB "int" "bool"=some false:=by ext
inductive R2L {α:Type} (P:Addr->α->Prop):List V->List α->Prop
 | nil:R2L P [] []
 | cons {a:Addr} {q:α} {rs:List V} {qs:List α}:P a q->R2L P rs qs->R2L P (.ref a :: rs) (q :: qs)
section
variable {α:Type} {P P':Addr->α->Prop}
def R2L.get:∀ {rs qs} {i:Nat} {x:V},R2L P rs qs->rs[i]?=some x->∃ a q,x=.ref a/\qs[i]?=some q/\P a q
 | _,_,_,_,.nil,e=>by simp at e
 | _,_,0,_,.cons h _,e=>by simp at e; subst e; exact ⟨_,_,rfl,rfl,h⟩
 | _,_,i + 1,x,.cons _ t,e=>by
  obtain ⟨a,q,h1,h2,h3⟩:=R2L.get (i:=i) (x:=x) t (by simpa using e);exact ⟨a,q,h1,by simpa using h2,h3⟩
end
structure OfOk (cs:LR) (a b c d:Nat):Prop where
 ne:1<=cs.length
 le:cs.length<=5
 dec:Dec cs
 sm:∀ x ∈ cs,SmR a b x.1/\SmR c d x.2
def dq (q:Rat):PyData:=.tuple [.int q.num,.int q.den]
def B2r (q:Rat):(dq q).canLay0=true:=rfl
def dcn (c:Rat × Rat):PyData:=.tuple [dq c.1,dq c.2]
def J8 {k:Nat} {z:Int} {B:Nat} (h0:-(B:Int)<=z) (h1:z<=B) (hB:B < 2 ^ k):Sm k z:=by
 unfold Sm; omega
end Prf
set_option maxHeartbeats 4000000
namespace L2
open PySem
def SqD.same {K:W.Frag} {F F':Hp} {a:Addr} {xs:List V} (e:Same F F') (h:SqD K F a xs):SqD K F' a xs:=⟨SqT.same e h.1,h.2.imp (e _ _) id⟩
mutual
def Den.same {K:W.Frag} {F F':Hp} (e:Same F F'):∀ {v:V} {x:PyData},Den K F v x->Den K F' v x
 | _,_,.non=>.non
 | _,_,.bl b=>.bl b
 | _,_,.int i=>.int i
 | _,_,.str x=>.str x
 | _,_,.lst h t=>.lst (e.seq h) (DenAll.same e t)
 | _,_,.tup h t=>.tup (SqD.same e h) (DenAll.same e t)
 | _,_,.dct h=>.dct (e _ _ h)
def DenAll.same {K:W.Frag} {F F':Hp} (e:Same F F'):∀ {vs:List V} {xs:LP},DenAll K F vs xs->DenAll K F' vs xs
 | _,_,.nil=>.nil
 | _,_,.cons h t=>.cons (Den.same e h) (DenAll.same e t)
end
section
variable {K:PySem.W.Frag} {F:Hp}
def Den.intE {v:V} {i:Int} (h:Den K F v (.int i)):v=.int i:=by cases h; rfl
def Den.blE {v:V} {b:Bool} (h:Den K F v (.bool b)):v=.bl b:=by cases h; rfl
def Den.strE {v:V} {s:Str} (h:Den K F v (.str s)):v=.str s:=by cases h; rfl
def Den.nonE {v:V} (h:Den K F v .none):v=.non:=by cases h; rfl
def Den.tupE {v:V} {xs:LP} (h:Den K F v (.tuple xs)):∃ a vs,v=.ref a/\SqT K F a vs/\DenAll K F vs xs:=by cases h with | tup h t=>exact ⟨_,_,rfl,h.1,t⟩
def Den.pairE {v:V} {c:Str} {i:Int} (h:Den K F v (.tuple [.str c,.int i])):∃ a,v=.ref a/\F a=some (.tup [.str c,.int i]):=by
 cases h with
 | tup h t =>
  cases t with
  | cons h1 t=>cases t with
   | cons h2 t =>
    cases t; cases h1; cases h2;exact ⟨_,rfl,h.2.resolve_right fun z=>z _ _ rfl⟩
def Den.lstE {v:V} {xs:LP} (h:Den K F v (.list xs)):∃ a vs,v=.ref a/\SqL K F a vs/\DenAll K F vs xs:=by cases h; exact ⟨_,_,rfl,‹_›,‹_›⟩
def DenAll.len:∀ {vs:List V} {xs:LP},DenAll K F vs xs->vs.length=xs.length
 | _,_,.nil=>rfl
 | _,_,.cons _ t=>congrArg (· + 1) (DenAll.len t)
def DenAll.get:∀ {vs:List V} {xs:LP} {i:Nat} {v:V},DenAll K F vs xs->vs[i]?=some v->∃ x,xs[i]?=some x/\Den K F v x
 | _,_,_,_,.nil,e=>by simp at e
 | _,_,0,_,.cons h _,e=>by simp at e; subst e; exact ⟨_,rfl,h⟩
 | _,_,i + 1,v,.cons _ t,e=>by
  obtain ⟨x,h1,h2⟩:=DenAll.get (i:=i) (v:=v) t (by simpa using e);exact ⟨x,by simpa using h1,h2⟩
def DenAll.at:∀ {vs:List V} {xs:LP} {i:Nat} {x:PyData},DenAll K F vs xs->xs[i]?=some x->∃ v,vs[i]?=some v/\Den K F v x
 | _,_,_,_,.nil,e=>by simp at e
 | _,_,0,_,.cons h _,e=>by simp at e; subst e; exact ⟨_,rfl,h⟩
 | _,_,i + 1,x,.cons _ t,e=>by
  obtain ⟨v,h1,h2⟩:=DenAll.at (i:=i) (x:=x) t (by simpa using e);exact ⟨v,by simpa using h1,h2⟩
def DenAll.app:∀ {vs us:List V} {xs ys:LP},DenAll K F vs xs->DenAll K F us ys->DenAll K F (vs++us) (xs++ys)
 | _,_,_,_,.nil,h=>h
 | _,_,_,_,.cons h t,h'=>.cons h (DenAll.app t h')
def DenAll.drop:∀ {vs:List V} {xs:LP} (n:Nat),DenAll K F vs xs->DenAll K F (vs.drop n) (xs.drop n)
 | _,_,0,h=>by simpa using h
 | _,_,_ + 1,.nil=>by simpa using DenAll.nil
 | _,_,n + 1,.cons _ t=>by simpa using DenAll.drop n t
def DenAll.take:∀ {vs:List V} {xs:LP} (n:Nat),DenAll K F vs xs->DenAll K F (vs.take n) (xs.take n)
 | _,_,0,_=>by simpa using DenAll.nil
 | _,_,_ + 1,.nil=>by simpa using DenAll.nil
 | _,_,n + 1,.cons h t=>by simpa using DenAll.cons h (DenAll.take n t)
def DenAll.dropLast {vs:List V} {xs:LP} (h:DenAll K F vs xs):DenAll K F vs.dropLast xs.dropLast:=by
 rw [List.dropLast_eq_take,List.dropLast_eq_take,h.len]; exact h.take _
def DenAll.atIE {vs:List V} {xs:LP} {i:Int} {x:PyData} (h:DenAll K F vs xs) (e:L2.atI xs i=some x):∃ v,L2.atI vs i=some v/\Den K F v x:=by
 unfold L2.atI at *;rw [h.len];cases q:ixN xs.length i with
 | none=>rw [q] at e; cases e
 | some j=>rw [q] at e; exact DenAll.at h e
end
end L2
namespace Pu
open PySem L2 My Prf
abbrev Frag:=W.Frag
inductive OT where
 | leaf (x:PyData) | nd (b:Bool) (a:Addr) (k:OT) | nil | cons (h t:OT)
def OT.fp:OT->List Addr
 | .leaf _=>[]
 | .nd _ a k=>a :: k.fp
 | .nil=>[]
 | .cons h t=>h.fp++t.fp
def OT.dat:OT->LP
 | .leaf x=>[x]
 | .nd true _ k=>[.list k.dat]
 | .nd false _ k=>[.tuple k.dat]
 | .nil=>[]
 | .cons h t=>h.dat++t.dat
def OT.put (a:Addr) (n:OT):OT->OT
 | .leaf x=>.leaf x
 | .nd b a' k=>.nd b a' (if a'=a then n else OT.put a n k)
 | .nil=>.nil
 | .cons h t=>.cons (OT.put a n h) (OT.put a n t)
def dlF (l:Addr) (ks:List (Str × Addr × LP)):List Addr:=l :: ks.map (·.2.1)
inductive SV where
 | d (x:PyData) | own (xs:LP) | bor (xs:LP) | st | tr (t:OT) | bt (t:OT) | al (a:Addr) | dk (ks:List (Str × Int)) | dl (l:Addr) (ks:List (Str × Addr × LP))
def SV.foot (v:V):SV->Addr->Prop
 | .own _,a=>v=.ref a
 | .dk _,a=>v=.ref a
 | .dl l ks,a=>a ∈ dlF l ks
 | .tr t,a=>a ∈ t.fp
 | _,_=>False
def SV.isRes:SV->Bool
 | .bor _=>false
 | .bt _=>false
 | .al _=>false
 | _=>true
abbrev PEnv:=List (Option SV)
structure Wd where
 M:Addr->Prop
 H:Hpp
 F:Hpp
structure Wd.Ok (w:Wd):Prop where
 sub:Same w.F w.H
 st:∀ p,w.M p->StAt w.H p
 nf:∀ p,w.M p->w.F p=none
structure Lw (w w':Wd):Prop where
 f:Same w.F w'.F
 h:∀ b o,w.H b=some o->¬ w.M b->w'.H b=some o
 m:∀ b,w.M b->w'.M b
 mn:∀ b,w'.M b->w.M b\/w.H b=none
 dom:∀ b,w'.H b=none->w.H b=none
structure Le (w w':Wd):Prop extends Lw w w' where
 n:∀ a o,w'.F a=some o->w.F a=some o\/w.H a=none
def Lw.refl (w:Wd):Lw w w:=⟨Same.refl _,fun _ _ h _=>h,fun _ h=>h,fun _ h=>.inl h,fun _ h=>h⟩
def Le.refl (w:Wd):Le w w:=⟨Lw.refl w,fun _ _ h=>.inl h⟩
def Lw.nm {w w':Wd} (a:Lw w w') {b:Addr} (h:w.H b≠none) (n:¬ w.M b):¬ w'.M b:=fun z=>(a.mn b z).elim n h
def Lw.trans {w w1 w2:Wd} (a:Lw w w1) (b:Lw w1 w2):Lw w w2 :=
 ⟨a.f.trans b.f,fun c o h n=>b.h c o (a.h c o h n) (a.nm (by rw [h]; simp) n),fun c h=>b.m c (a.m c h),
  fun c h=>(b.mn c h).elim (a.mn c) fun z=>.inr (a.dom c z),fun c h=>a.dom c (b.dom c h)⟩
def Le.trans {w w1 w2:Wd} (a:Le w w1) (b:Le w1 w2):Le w w2 :=
 ⟨a.toLw.trans b.toLw,fun c o h=>(b.n c o h).elim (a.n c o) fun z=>.inr (a.dom c z)⟩
def Le.fnone {w w':Wd} (a:Le w w') {l:Addr} (h:w.F l=none) (h':w.H l≠none):w'.F l=none:=by
 cases q:w'.F l with
 | none=>rfl
 | some o =>
  rcases a.n l o q with z | z
  ·rw [h] at z; cases z
  ·exact absurd z h'
structure Ct where
 K:Frag
 w0:Wd
 Z:Addr->Prop
def VV (K:Frag) (w:Wd) (v:V) (x:PyData):Prop:=Den K w.F v x\/∃ l vs xs,v=.ref l/\x=.list xs/\w.H l=some (.lst vs)/\¬ w.M l/\DenAll K w.F vs xs
def ho:Bool->List V->HO
 | true,vs=>.lst vs
 | false,vs=>.tup vs
def Tre (K:Frag) (w:Wd):OT->List V->Prop
 | .leaf x,vs=>∃ v,vs=[v]/\Den K w.F v x
 | .nd b a k,vs=>vs=[.ref a]/\∃ us,w.H a=some (ho b us)/\Tre K w k us
 | .nil,vs=>vs=[]
 | .cons h t,vs=>∃ v r,vs=v :: r/\Tre K w h [v]/\Tre K w t r
def Tre.mono {K:Frag} {w w':Wd} (a:Lw w w'):∀ {t:OT} {vs:List V},Tre K w t vs->(∀ a ∈ t.fp,¬ w.M a)->Tre K w' t vs
 | .leaf _,_,⟨v,e,h⟩,_=>⟨v,e,Den.same a.f h⟩
 | .nd _ p _,_,⟨e,us,h,k⟩,n=>⟨e,us,a.h _ _ h (n p (by simp [OT.fp])),Tre.mono a k fun q hq=>n q (by simp [OT.fp,hq])⟩
 | .nil,_,e,_=>e
 | .cons _ _,_,⟨v,r,e,h,t⟩,n=>⟨v,r,e,Tre.mono a h fun q hq=>n q (by simp [OT.fp,hq]),Tre.mono a t fun q hq=>n q (by simp [OT.fp,hq])⟩
def Tre.sameF {K:Frag} {M:Addr->Prop} {H F F':Hpp} (e:Same F F'):∀ {t:OT} {vs:List V},Tre K ⟨M,H,F⟩ t vs->Tre K ⟨M,H,F'⟩ t vs
 | .leaf _,_,⟨v,q,h⟩=>⟨v,q,Den.same e h⟩
 | .nd _ _ _,_,⟨q,us,h,k⟩=>⟨q,us,h,Tre.sameF e k⟩
 | .nil,_,q=>q
 | .cons _ _,_,⟨v,r,q,h,t⟩=>⟨v,r,q,Tre.sameF e h,Tre.sameF e t⟩
def dAt (kvs:List (Key × V)) (s:Str):Option V:=(kvs.find? fun kv=>decide (kv.1=Sum.inr s)).map (·.2)
def DlAt (K:Frag) (w:Wd) (l:Addr) (ks:List (Str × Addr × LP)):Prop :=
 (∃ kvs,w.H l=some (.dK kvs)/\∀ k ∈ ks,dAt kvs k.1=some (.ref k.2.1))/\∀ k ∈ ks,∃ vs,w.H k.2.1=some (.lst vs)/\DenAll K w.F vs k.2.2
def B1c {l:Addr} {ks:List (Str × Addr × LP)}:l ∈ dlF l ks:=Zy
def B1d {l:Addr} {ks:List (Str × Addr × LP)} {k:Str × Addr × LP} (h:k ∈ ks):k.2.1 ∈ dlF l ks:=Zr _ (List.mem_map_of_mem h)
def DlAt.mono {K:Frag} {w w':Wd} {l:Addr} {ks:List (Str × Addr × LP)} (a:Lw w w') (h:DlAt K w l ks) (n:∀ q ∈ dlF l ks,¬ w.M q):DlAt K w' l ks :=
 ⟨let ⟨kvs,e,q⟩:=h.1; ⟨kvs,a.h _ _ e (n l B1c),q⟩,fun k hk=>let ⟨vs,e,d⟩:=h.2 k hk; ⟨vs,a.h _ _ e (n _ (B1d hk)),DenAll.same a.f d⟩⟩
def DlAt.writ {K:Frag} {w:Wd} {l p:Addr} {wo:HO} {ks:List (Str × Addr × LP)} (h:DlAt K w l ks) (n:p ∉ dlF l ks):DlAt K ⟨w.M,upd w.H p wo,w.F⟩ l ks :=
 ⟨let ⟨kvs,e,q⟩:=h.1; ⟨kvs,by show upd w.H p _ l=_; rw [C4 (fun z=>n (by rw [<- z]; exact B1c))]; exact e,q⟩,fun k hk=>let ⟨vs,e,d⟩:=h.2 k hk; ⟨vs,by show upd w.H p _ k.2.1=_; rw [C4 (fun z=>n (by rw [<- z]; exact B1d hk))]; exact e,d⟩⟩
def VR (c:Ct) (w:Wd) (v:V):SV->Prop
 | .d x=>Den c.K w.F v x
 | .own xs=>∃ l vs,v=.ref l/\w.H l=some (.lst vs)/\w.F l=none/\¬ w.M l/\c.w0.H l=none/\DenAll c.K w.F vs xs
 | .bor xs=>Den c.K w.F v (.list xs)\/∃ l vs,v=.ref l/\c.w0.H l=some (.lst vs)/\¬ c.w0.M l/\DenAll c.K w.F vs xs
 | .st=>∃ p,v=.ref p/\w.M p
 | .tr t=>Tre c.K w t [v]/\(∀ a ∈ t.fp,w.H a≠none/\w.F a=none/\¬ w.M a/\c.w0.H a=none)/\t.fp.Nodup
 | .bt t=>Tre c.K ⟨c.w0.M,c.w0.H,w.F⟩ t [v]/\∀ a ∈ t.fp,¬ c.w0.M a
 | .al a=>v=.ref a
 | .dk ks=>∃ l,v=.ref l/\w.H l=some (.dT (ks.map fun k=>([Sum.inr k.1,Sum.inl k.2],V.bl true)))/\w.F l=none/\¬ w.M l/\c.w0.H l=none
 | .dl l ks=>v=.ref l/\DlAt c.K w l ks/\(∀ a ∈ dlF l ks,w.H a≠none/\w.F a=none/\¬ w.M a/\c.w0.H a=none)/\(dlF l ks).Nodup
def A3i {H:Hpp} {p b:Addr} {o:HO} (h:upd H p o b=none):H b=none:=by
 unfold upd at h; split at h
 ·cases h
 ·exact h
def VR.foot {c:Ct} {w:Wd} {v:V} {a:Addr}:∀ {s:SV},VR c w v s->s.foot v a->w.H a≠none/\w.F a=none/\¬ w.M a/\c.w0.H a=none
 | .own _,⟨l,vs,e,h1,h2,h3,h4,_⟩,f=>by
  have:V.ref l=.ref a:=e.symm.trans f;cases this;exact ⟨by rw [h1]; simp,h2,h3,h4⟩
 | .dk _,⟨l,e,h1,h2,h3,h4⟩,f=>by
  have:V.ref l=.ref a:=e.symm.trans f;cases this;exact ⟨by rw [h1]; simp,h2,h3,h4⟩
 | .tr _,h,f=>h.2.1 a f
 | .dl _ _,h,f=>h.2.2.1 a f
def VV.mono {K:Frag} {w w':Wd} {v:V} {x:PyData} (a:Lw w w') (h:VV K w v x):VV K w' v x:=by
 rcases h with h | ⟨l,vs,xs,e,e',h1,h2,h3⟩
 ·exact .inl (Den.same a.f h)
 ·exact .inr ⟨l,vs,xs,e,e',a.h _ _ h1 h2,a.nm (by rw [h1]; simp) h2,DenAll.same a.f h3⟩
def VV.den {K:Frag} {w:Wd} {v:V} {x:PyData} (o:w.Ok) (h:VV K w v x):Den K w.H v x:=by
 rcases h with h | ⟨l,vs,xs,e,e',h1,h2,h3⟩
 ·exact Den.same o.sub h
 ·rw [e,e']; exact .lst (SqL.of h1) (DenAll.same o.sub h3)
def VR.mono {c:Ct} {w w':Wd} {v:V} (a:Le w w'):∀ {s:SV},VR c w v s->VR c w' v s
 | .d _,h=>Den.same a.f h
 | .own xs,⟨l,vs,e,h1,h2,h3,h4,h5⟩=>⟨l,vs,e,a.h _ _ h1 h3,a.fnone h2 (by rw [h1]; simp),a.nm (by rw [h1]; simp) h3,h4,DenAll.same a.f h5⟩
 | .bor xs,.inl h=>.inl (Den.same a.f h)
 | .bor xs,.inr ⟨l,vs,e,h1,h2,h3⟩=>.inr ⟨l,vs,e,h1,h2,DenAll.same a.f h3⟩
 | .st,⟨p,e,h⟩=>⟨p,e,a.m p h⟩
 | .bt t,⟨h,o⟩=>⟨h.sameF a.f,o⟩
 | .al _,h=>h
 | .dk _,⟨l,e,h1,h2,h3,h4⟩=>⟨l,e,a.h _ _ h1 h3,a.fnone h2 (by rw [h1]; simp),a.nm (by rw [h1]; simp) h3,h4⟩
 | .dl _ _,⟨e,h,o,d⟩=>⟨e,h.mono a.toLw fun q hq=>(o q hq).2.2.1,fun q hq=>let ⟨h1,h2,h3,h4⟩:=o q hq; ⟨fun z=>h1 (a.dom q z),a.fnone h2 h1,a.nm h1 h3,h4⟩,d⟩
 | .tr t,⟨h,o,d⟩=>⟨h.mono a.toLw fun q hq=>(o q hq).2.2.1,fun q hq=>let ⟨h1,h2,h3,h4⟩:=o q hq; ⟨fun z=>h1 (a.dom q z),a.fnone h2 h1,a.nm h1 h3,h4⟩,d⟩
def Tre.writ {K:Frag} {w:Wd} {l:Addr} {wo:HO}:∀ {t:OT} {vs:List V},Tre K w t vs->l ∉ t.fp->Tre K ⟨w.M,upd w.H l wo,w.F⟩ t vs
 | .leaf _,_,h,_=>h
 | .nd _ p _,_,⟨e,ys,h,k⟩,n=>⟨e,ys,by show upd w.H l _ p=_; rw [C4 (fun z=>n (by simp [OT.fp,z]))]; exact h,Tre.writ k fun q=>n (by simp [OT.fp,q])⟩
 | .nil,_,e,_=>e
 | .cons _ _,_,⟨v,r,e,h,t⟩,n=>⟨v,r,e,Tre.writ h fun q=>n (by simp [OT.fp,q]),Tre.writ t fun q=>n (by simp [OT.fp,q])⟩
def VR.writ {c:Ct} {w:Wd} {v:V} {l:Addr} {wo:HO} (hl:w.H l≠none):∀ {s:SV},VR c w v s->¬ s.foot v l->VR c ⟨w.M,upd w.H l wo,w.F⟩ v s
 | .d _,h,_=>h
 | .own _,⟨l',vs,e,k1,k2,k3,k4,k5⟩,n=>⟨l',vs,e,by show upd w.H l _ l'=_; rw [C4 (fun z=>n (by rw [<- z]; exact e))]; exact k1,k2,k3,k4,k5⟩
 | .bor _,h,_=>h
 | .st,h,_=>h
 | .bt _,h,_=>h
 | .al _,h,_=>h
 | .dk _,⟨l',e,k1,k2,k3,k4⟩,n=>⟨l',e,by show upd w.H l _ l'=_; rw [C4 (fun z=>n (by rw [<- z]; exact e))]; exact k1,k2,k3,k4⟩
 | .dl _ _,⟨e,h,o,d⟩,n=>⟨e,h.writ n,fun a ha=>⟨fun z=>(o a ha).1 (A3i z),(o a ha).2⟩,d⟩
 | .tr _,⟨h,o,d⟩,n=>⟨h.writ n,fun a ha=>⟨fun z=>(o a ha).1 (A3i z),(o a ha).2⟩,d⟩
structure EnvOk (c:Ct) (w:Wd) (env:PEnv) (σ:St):Prop where
 wok:w.Ok
 le0:Le c.w0 w
 len:env.length=σ.length
 at':∀ (i:Nat) s,env[i]?=some (some s)->∃ v,σ[i]?=some (some v)/\VR c w v s
 own:∀ (i j:Nat) s t v u a,env[i]?=some (some s)->env[j]?=some (some t)->σ[i]?=some (some v)->σ[j]?=some (some u)->s.foot v a->t.foot u a->i=j
 zf:∀ a,c.Z a->w.F a=none/\w.H a≠none/\¬ w.M a
 zo:∀ a (j:Nat) t u,c.Z a->env[j]?=some (some t)->σ[j]?=some (some u)->¬ t.foot u a
def New (c:Ct) (env:PEnv) (σ:St) (v:V) (s:SV):Prop:=∀ a,s.foot v a->(∀ (j:Nat) t u,env[j]?=some (some t)->σ[j]?=some (some u)->¬ t.foot u a)/\¬ c.Z a
def EnvOk.look {c:Ct} {w:Wd} {env:PEnv} {σ:St} (E:EnvOk c w env σ) {j:Nat} {t:SV} {u:V} (h:env[j]?=some (some t)) (hu:σ[j]?=some (some u)):VR c w u t:=by
 obtain ⟨v,h1,h2⟩:=E.at' j t h;rw [hu] at h1; cases h1; exact h2
def EnvOk.fresh {c:Ct} {w:Wd} {env:PEnv} {σ:St} (E:EnvOk c w env σ) {p:Addr} (hp:w.H p=none):(∀ (j:Nat) t u,env[j]?=some (some t)->σ[j]?=some (some u)->¬ t.foot u p)/\¬ c.Z p :=
 ⟨fun _ _ _ h hu f=>((E.look h hu).foot f).1 hp,fun z=>(E.zf p z).2.1 hp⟩
def Lw.hsome {w w':Wd} (a:Lw w w') {l:Addr} (h:w.H l≠none):w'.H l≠none:=fun z=>h (a.dom l z)
def EnvOk.mono {c:Ct} {w w':Wd} {env:PEnv} {σ:St} (E:EnvOk c w env σ) (ok:w'.Ok) (a:Le w w'):EnvOk c w' env σ :=
 ⟨ok,E.le0.trans a,E.len,fun i s e=>let ⟨v,h1,h2⟩:=E.at' i s e; ⟨v,h1,h2.mono a⟩,E.own,fun b z=>let ⟨h1,h2,h3⟩:=E.zf b z; ⟨a.fnone h1 h2,a.hsome h2,a.nm h2 h3⟩,E.zo⟩
structure Res (c:Ct) (w:Wd) (env:PEnv) (σ:St) (w':Wd) (v:V) (s:SV):Prop where
 ev:EnvOk c w' env σ
 lw:Lw w w'
 val:VR c w' v s
 new:New c env σ v s
 res:s.isRes=true
def Res.data {c:Ct} {w:Wd} {env:PEnv} {σ:St} {v:V} {x:PyData} (E:EnvOk c w env σ) (h:Den c.K w.F v x):Res c w env σ w v (.d x) :=
 ⟨E,Lw.refl w,h,fun _ e=>(nomatch e),rfl⟩
def Wd.tup (w:Wd) (p:Addr) (o:HO):Wd:=⟨w.M,upd w.H p o,upd w.F p o⟩
def Wd.lay (w:Wd) (p:Addr) (o:HO):Wd:=⟨w.M,upd w.H p o,w.F⟩
def Wd.Ok.fnone {w:Wd} (o:w.Ok) {p:Addr} (h:w.H p=none):w.F p=none:=by
 cases q:w.F p with
 | none=>rfl
 | some u=>have:=o.sub p u q; rw [h] at this; cases this
def Wd.Ok.mne {w:Wd} (o:w.Ok) {p q:Addr} (h:w.H p=none) (hq:w.M q):q≠p:=by
 obtain ⟨c,m,f,e,_⟩:=(o.st q hq).ex;exact E6 e h
def M8 {H:Hpp} {p b:Addr} {o:HO} (h:upd H p o b=none):H b=none:=by
 unfold upd at h; split at h
 ·cases h
 ·exact h
def Wd.tup_ok {w:Wd} {p:Addr} {o:HO} (ok:w.Ok) (h:w.H p=none):(w.tup p o).Ok :=
 ⟨fun b u e=>by
  show upd w.H p o b=some u;have e':upd w.F p o b=some u:=e;unfold upd at e' ⊢;split at e'
  ·rename_i z; rw [if_pos z]; exact e'
  ·rename_i z; rw [if_neg z]; exact ok.sub b u e',
  fun q hq=>(ok.st q hq).same (Same.upd h),fun q hq=>by
  show upd w.F p o q=none;rw [C4 (ok.mne h hq)]; exact ok.nf q hq⟩
def Wd.lay_ok {w:Wd} {p:Addr} {o:HO} (ok:w.Ok) (h:w.H p=none):(w.lay p o).Ok :=
 ⟨ok.sub.trans (Same.upd h),fun q hq=>(ok.st q hq).same (Same.upd h),ok.nf⟩
def Wd.tup_le {w:Wd} {p:Addr} {o:HO} (ok:w.Ok) (h:w.H p=none):Le w (w.tup p o) :=
 ⟨⟨Same.upd (ok.fnone h),fun b u e _=>Same.upd h b u e,fun _ z=>z,fun _ z=>.inl z,fun b z=>M8 z⟩,fun a u e=>by
  have e':upd w.F p o a=some u:=e;unfold upd at e';split at e'
  ·rename_i z; rw [z]; exact .inr h
  ·exact .inl e'⟩
def Wd.lay_le {w:Wd} {p:Addr} {o:HO} (h:w.H p=none):Le w (w.lay p o) :=
 ⟨⟨Same.refl _,fun b u e _=>Same.upd h b u e,fun _ z=>z,fun _ z=>.inl z,fun b z=>M8 z⟩,fun a u e=>.inl e⟩
def Res.tup {c:Ct} {w:Wd} {env:PEnv} {σ:St} {p:Addr} {vs:List V} {xs:LP} (E:EnvOk c w env σ) (h:w.H p=none) (hd:DenAll c.K w.F vs xs):Res c w env σ (w.tup p (.tup vs)) (.ref p) (.d (.tuple xs)) :=
 ⟨E.mono (Wd.tup_ok E.wok h) (Wd.tup_le E.wok h),(Wd.tup_le E.wok h).toLw,.tup (SqD.of B7) (DenAll.same (Wd.tup_le E.wok h).f hd),fun _ e=>(nomatch e),rfl⟩
def Res.lst {c:Ct} {w:Wd} {env:PEnv} {σ:St} {p:Addr} {vs:List V} {xs:LP} (E:EnvOk c w env σ) (h:w.H p=none) (hd:DenAll c.K w.F vs xs):Res c w env σ (w.lay p (.lst vs)) (.ref p) (.own xs) :=
 ⟨E.mono (Wd.lay_ok E.wok h) (Wd.lay_le h),(Wd.lay_le h).toLw,⟨p,vs,rfl,B7,E.wok.fnone h,fun z=>E.wok.mne h z rfl,E.le0.dom p h,hd⟩,
  fun a f=>(by
  have:V.ref p=.ref a:=f;cases this;exact E.fresh h),rfl⟩
def Res.frz {c:Ct} {w w1:Wd} {env:PEnv} {σ:St} {v:V} {xs:LP} (R:Res c w env σ w1 v (.own xs)):∃ w',w'.H=w1.H/\EnvOk c w' env σ/\Lw w w'/\Den c.K w'.F v (.list xs):=by
 obtain ⟨E,lw,⟨l,vs,e,h1,h2,h3,h4,h5⟩,new,_⟩:=R;subst e;obtain ⟨n1,n2⟩:=new l rfl;have up:Same w1.F (upd w1.F l (.lst vs)):=Same.upd h2;have lw':Lw w1 ⟨w1.M,w1.H,upd w1.F l (.lst vs)⟩:=⟨up,fun _ _ h _=>h,fun _ h=>h,fun _ h=>.inl h,fun _ h=>h⟩;refine ⟨⟨w1.M,w1.H,upd w1.F l (.lst vs)⟩,rfl,⟨⟨fun b u q=>?_,E.wok.st,fun p hp=>?_⟩,⟨E.le0.toLw.trans lw',fun a u q=>?_⟩,E.len,fun i s q=>?_,E.own,fun a za=>?_,E.zo⟩,lw.trans lw',.lst (SqL.of B7) (DenAll.same up h5)⟩
 ·have q':upd w1.F l (.lst vs) b=some u:=q;unfold upd at q';split at q'
  ·rename_i z; rw [z]; exact h1.trans q'
  ·exact E.wok.sub b u q'
 ·show upd w1.F l (.lst vs) p=none;rw [C4 (fun z=>h3 (by rw [<- z]; exact hp))]; exact E.wok.nf p hp
 ·have q':upd w1.F l (.lst vs) a=some u:=q;unfold upd at q';split at q'
  ·rename_i z; rw [z]; exact .inr h4
  ·exact E.le0.n a u q'
 ·obtain ⟨v,g1,g2⟩:=E.at' i s q;refine ⟨v,g1,?_⟩;cases s with
  | d x=>exact Den.same up g2
  | own ys =>
   obtain ⟨l',us,e',k1,k2,k3,k4,k5⟩:=g2;subst e';refine ⟨l',us,rfl,k1,?_,k3,k4,DenAll.same up k5⟩;show upd w1.F l (.lst vs) l'=none;rw [C4 (fun z=>n1 i _ _ q g1 (by subst z; rfl))]; exact k2
  | bor ys =>
   rcases g2 with g | ⟨l',us,e',k1,k2,k3⟩
   ·exact .inl (Den.same up g)
   ·exact .inr ⟨l',us,e',k1,k2,DenAll.same up k3⟩
  | st=>exact g2
  | bt t=>exact ⟨g2.1.sameF up,g2.2⟩
  | al a=>exact g2
  | dk ks =>
   obtain ⟨l',e',k1,k2,k3,k4⟩:=g2;subst e';refine ⟨l',rfl,k1,?_,k3,k4⟩;show upd w1.F l (.lst vs) l'=none;rw [C4 (fun z=>n1 i _ _ q g1 (by subst z; rfl))]; exact k2
  | dl l1 ks =>
   obtain ⟨k0,k1,k2,k3⟩:=g2;refine ⟨k0,k1.mono lw' fun p hp=>(k2 p hp).2.2.1,fun p hp=>⟨(k2 p hp).1,?_,(k2 p hp).2.2⟩,k3⟩;show upd w1.F l (.lst vs) p=none;rw [C4 (fun z=>n1 i _ _ q g1 (by subst z; exact hp))]; exact (k2 p hp).2.1
  | tr t =>
   obtain ⟨k1,k2,k3⟩:=g2;refine ⟨k1.mono lw' fun p hp=>(k2 p hp).2.2.1,fun p hp=>⟨(k2 p hp).1,?_,(k2 p hp).2.2⟩,k3⟩;show upd w1.F l (.lst vs) p=none;rw [C4 (fun z=>n1 i _ _ q g1 (by subst z; exact hp))]; exact (k2 p hp).2.1
 ·obtain ⟨z1,z2,z3⟩:=E.zf a za;refine ⟨?_,z2,z3⟩;show upd w1.F l (.lst vs) a=none;rw [C4 (fun z=>n2 (by subst z; exact za))]; exact z1
def EnvOk.set {c:Ct} {w:Wd} {env:PEnv} {σ:St} {v:V} {s:SV} {i:Nat} (E:EnvOk c w env σ) (h:VR c w v s) (new:New c env σ v s) :
  EnvOk c w (env.set i (some s)) (σ.set i (some v)):=by
 have hl:=E.len;have hd:∀ {j:Nat} {t:SV} {u:V},(env.set i (some s))[j]?=some (some t)->(σ.set i (some v))[j]?=some (some u)->(i=j/\t=s/\u=v)\/(i≠j/\env[j]?=some (some t)/\σ[j]?=some (some u)):=by
  intro j t u q q';rw [List.getElem?_set] at q q';by_cases e:i=j
  ·subst e;rw [if_pos rfl] at q q';split at q
   ·rename_i z;rw [if_pos (by omega)] at q';cases q; cases q'; exact .inl ⟨rfl,rfl,rfl⟩
   ·cases q
  ·rw [if_neg e] at q q';exact .inr ⟨e,q,q'⟩
 refine ⟨E.wok,E.le0,by simpa using hl,fun j t q=>?_,fun j k s1 t1 v1 u1 a q1 q2 q3 q4 f1 f2=>?_,E.zf,fun a j t u za q q'=>?_⟩
 ·rw [List.getElem?_set] at q ⊢;by_cases e:i=j
  ·subst e;rw [if_pos rfl] at q ⊢;split at q
   ·rename_i z;rw [if_pos (by omega)];cases q;exact ⟨v,rfl,h⟩
   ·cases q
  ·rw [if_neg e] at q ⊢;exact E.at' j t q
 ·rcases hd q1 q3 with ⟨e1,rfl,rfl⟩ | ⟨e1,p1,p3⟩
  ·rcases hd q2 q4 with ⟨e2,rfl,rfl⟩ | ⟨e2,q2,q4⟩
   ·exact e1.symm.trans e2
   ·exact absurd f2 ((new a f1).1 k _ _ q2 q4)
  ·rcases hd q2 q4 with ⟨e2,rfl,rfl⟩ | ⟨e2,p2,p4⟩
   ·exact absurd f1 ((new a f2).1 j _ _ p1 p3)
   ·exact E.own j k _ _ _ _ a p1 p2 p3 p4 f1 f2
 ·rcases hd q q' with ⟨_,rfl,rfl⟩ | ⟨_,q,q'⟩
  ·exact fun f=>(new a f).2 za
  ·exact E.zo a j t u za q q'
abbrev PX:=PEnv->(SV->PEnv->Prop)->Prop
abbrev PDt:=PEnv->(PyData->PEnv->Prop)->Prop
abbrev PTt:=PEnv->(Bool->PEnv->Prop)->Prop
abbrev PAr:=PEnv->(LP->PEnv->Prop)->Prop
abbrev PAs:=PEnv->(List SV->PEnv->Prop)->Prop
def Res.pre {c:Ct} {w w1 w2:Wd} {env:PEnv} {σ:St} {v:V} {s:SV} (a:Lw w w1) (R:Res c w1 env σ w2 v s):Res c w env σ w2 v s:=⟨R.ev,a.trans R.lw,R.val,R.new,R.res⟩
class RE (K:Frag) (te:TE) (pe:outParam PX):Prop where
 ok:∀ (c:Ct) (w:Wd) (env:PEnv) (σ:St) (Qp:SV->PEnv->Prop) (Q:VK),c.K=K->EnvOk c w env σ->pe env Qp->(∀ v s env' w',Res c w env' σ w' v s->Qp s env'->Q v w'.H)->te σ w.H Q
class RD (K:Frag) (te:TE) (pd:outParam PDt):Prop where
 ok:∀ (c:Ct) (w:Wd) (env:PEnv) (σ:St) (Qp:PyData->PEnv->Prop) (Q:VK),c.K=K->EnvOk c w env σ->pd env Qp->(∀ v x env' w',EnvOk c w' env' σ->Lw w w'->Den K w'.F v x->Qp x env'->Q v w'.H)->te σ w.H Q
class RW (K:Frag) (te:TE) (pd:outParam PDt):Prop where
 ok:∀ (c:Ct) (w:Wd) (env:PEnv) (σ:St) (Qp:PyData->PEnv->Prop) (Q:VK),c.K=K->EnvOk c w env σ->pd env Qp->(∀ v x env' w',EnvOk c w' env' σ->Lw w w'->VV K w' v x->Qp x env'->Q v w'.H)->te σ w.H Q
def SV.asD (s:SV) (k:PyData->Prop):Prop:=match s with
 | .d x=>k x
 | .own xs=>k (.list xs)
 | _=>False
def pdat (pe:PX) (env:PEnv) (Q:PyData->PEnv->Prop):Prop:=pe env fun s e=>s.asD fun x=>Q x e
instance B3k {K:Frag} {te:TE} {pe:PX} [h:RE K te pe]:RD K te (pdat pe) where
 ok:=by
  rintro c w env σ Qp Q rfl E p k;refine h.ok c w env σ _ Q rfl E p fun v s env' w' R q=>?_;cases s with
  | d x=>exact k v x env' w' R.ev R.lw R.val q
  | own xs =>
   obtain ⟨w2,e,E2,l2,d2⟩:=R.frz;rw [<- e];exact k v _ env' w2 E2 l2 d2 q
  | bor xs=>exact (show False from q).elim
  | st=>exact (show False from q).elim
  | tr t=>exact (show False from q).elim
  | bt t=>exact (show False from q).elim
  | al t=>exact (show False from q).elim
  | dk t=>exact (show False from q).elim
  | dl t u=>exact (show False from q).elim
instance (priority:=low) rw_of {K:Frag} {te:TE} {pd:PDt} [h:RD K te pd]:RW K te pd where
 ok:=fun c w env σ Qp Q e E p k=>h.ok c w env σ Qp Q e E p fun v x env' w' E' l d q=>k v x env' w' E' l (.inl d) q
def pVar (i:Nat) (env:PEnv) (Q:SV->PEnv->Prop):Prop:=match env[i]? with
 | some (some (.d x))=>Q (.d x) env
 | some (some (.own xs))=>Q (.d (.list xs)) (env.set i (some (.d (.list xs))))
 | some (some .st)=>Q .st env
 | _=>False
def B4i (i:Nat) (env:PEnv) (Q:PyData->PEnv->Prop):Prop:=match env[i]? with
 | some (some (.d x))=>Q x env
 | some (some (.own xs))=>Q (.list xs) env
 | some (some (.bor xs))=>Q (.list xs) env
 | _=>False
def EnvOk.frz {c:Ct} {w:Wd} {env:PEnv} {σ:St} {i:Nat} {xs:LP} (E:EnvOk c w env σ) (h:env[i]?=some (some (.own xs))) :
  ∃ w' v,w'.H=w.H/\σ[i]?=some (some v)/\EnvOk c w' (env.set i (some (.d (.list xs)))) σ/\Lw w w'/\Den c.K w'.F v (.list xs):=by
 obtain ⟨v,hv,hV⟩:=E.at' i _ h;have hV':=hV;obtain ⟨l,vs,e,h1,h2,h3,h4,h5⟩:=hV';have up:∀ {j:Nat} {t:SV},(env.set i none)[j]?=some (some t)->i≠j/\env[j]?=some (some t):=by
  intro j t q;rw [List.getElem?_set] at q;split at q
  ·split at q <;> cases q
  ·rename_i z; exact ⟨z,q⟩
 have E':EnvOk c w (env.set i none) σ:=⟨E.wok,E.le0,by simpa using E.len,fun j s q=>E.at' j s (up q).2,fun j k s t v u a q1 q2=>E.own j k s t v u a (up q1).2 (up q2).2,E.zf,fun a j t u za q=>E.zo a j t u za (up q).2⟩;have R:Res c w (env.set i none) σ w v (.own xs):=⟨E',Lw.refl w,hV,fun a f=>⟨fun j t u q z g=>(up q).1 (E.own i j _ _ _ _ a h (up q).2 hv z f g),fun za=>E.zo a i _ _ za h hv f⟩,rfl⟩;obtain ⟨w',e',E2,l2,d2⟩:=R.frz;refine ⟨w',v,e',hv,?_,l2,d2⟩;have E3:=E2.set (i:=i) (v:=v) (s:=.d (.list xs)) d2 (fun _ z=>nomatch z);rw [List.set_set] at E3;have hi:i < σ.length:=(Zs hv).1
 rwa [show σ.set i (some v)=σ by
  refine List.ext_getElem? fun j=>?_;rw [List.getElem?_set];split
  ·rename_i z; subst z; simp [hv]
  ·rfl] at E3
instance re_var {K:Frag} {i:Nat}:RE K (tVar i) (pVar i) where
 ok:=by
  rintro c w env σ Qp Q rfl E p k;unfold pVar at p;split at p
  ·rename_i x e;obtain ⟨v,h1,h2⟩:=E.at' i _ e;exact ⟨v,h1,k v _ env w (Res.data E h2) p⟩
  ·rename_i xs e;obtain ⟨w',v,e',hv,E',l,d⟩:=E.frz e;refine ⟨v,hv,?_⟩;rw [<- e'];exact k v (.d (.list xs)) _ w' ⟨E',l,d,fun _ z=>(nomatch z),rfl⟩ p
  ·rename_i e;obtain ⟨v,h1,h2⟩:=E.at' i _ e;exact ⟨v,h1,k v _ env w ⟨E,Lw.refl w,h2,fun _ z=>(nomatch z),rfl⟩ p⟩
  ·exact p.elim
def VR.vv {c:Ct} {w:Wd} {v:V} {xs:LP} (l:Le c.w0 w) (h:VR c w v (.bor xs)):VV c.K w v (.list xs):=by
 rcases h with h | ⟨l',vs,e,h1,h2,h3⟩
 ·exact .inl h
 ·exact .inr ⟨l',vs,xs,e,rfl,l.h _ _ h1 h2,l.nm (by rw [h1]; simp) h2,h3⟩
instance rw_var {K:Frag} {i:Nat}:RW K (tVar i) (B4i i) where
 ok:=by
  rintro c w env σ Qp Q rfl E p k;unfold B4i at p;split at p
  ·rename_i x e;obtain ⟨v,h1,h2⟩:=E.at' i _ e;exact ⟨v,h1,k v _ env w E (Lw.refl w) (.inl h2) p⟩
  ·rename_i xs e;obtain ⟨v,h1,l,vs,e',g1,g2,g3,g4,g5⟩:=E.at' i _ e;exact ⟨v,h1,k v _ env w E (Lw.refl w) (.inr ⟨l,vs,xs,e',rfl,g1,g3,g5⟩) p⟩
  ·rename_i xs e;obtain ⟨v,h1,h2⟩:=E.at' i _ e;exact ⟨v,h1,k v _ env w E (Lw.refl w) (h2.vv E.le0) p⟩
  ·exact p.elim
def pC (x:PyData) (env:PEnv) (Q:SV->PEnv->Prop):Prop:=Q (.d x) env
def R8 {K:Frag} {v:V} {x:PyData} (h:∀ F,Den K F v x):RE K (tC v) (pC x) where
 ok:=by
  rintro c w env σ Qp Q rfl E p k;exact k _ _ env w (Res.data E (h _)) p
instance re_int {K:Frag} {i:Int}:RE K (tC (.int i)) (pC (.int i)):=R8 fun _=>.int i
instance re_bl {K:Frag} {b:Bool}:RE K (tC (.bl b)) (pC (.bool b)):=R8 fun _=>.bl b
instance re_non {K:Frag}:RE K (tC .non) (pC .none):=R8 fun _=>.non
instance re_str {K:Frag} {x:Str}:RE K (tC (.str x)) (pC (.str x)):=R8 fun _=>.str x
class GD (K:Frag) (a:Addr) (x:outParam PyData):Prop where
 ok:∀ F,Den K F (.ref a) x
instance re_glob {K:Frag} {a:Addr} {x:PyData} [h:GD K a x]:RE K (tC (.ref a)) (pC x):=R8 h.ok
class RO (K:Frag) (r:R2) (pr:outParam (PyData->PyData->(SV->Prop)->Prop)):Prop where
 ok:∀ (c:Ct) (w:Wd) (env:PEnv) (σ:St) (x y:V) (dx dy:PyData) (Qp:SV->Prop) (Q:VK),c.K=K->EnvOk c w env σ->VV K w x dx->VV K w y dy->pr dx dy Qp->(∀ v s w',Res c w env σ w' v s->Qp s->Q v w'.H)->r x y w.H Q
def pOp (pr:PyData->PyData->(SV->Prop)->Prop) (pa pb:PDt) (env:PEnv) (Q:SV->PEnv->Prop):Prop:=pa env fun x e1=>pb e1 fun y e2=>pr x y fun s=>Q s e2
instance re_op {K:Frag} {r:R2} {ta tb:TE} {pr:PyData->PyData->(SV->Prop)->Prop} {pa pb:PDt} [h:RO K r pr] [ha:RW K ta pa] [hb:RW K tb pb]:RE K (tOp r ta tb) (pOp pr pa pb) where
 ok:=by
  rintro c w env σ Qp Q rfl E p k;refine ha.ok c w env σ _ _ rfl E p fun x dx e1 w1 E1 l1 v1 q1=>?_;refine hb.ok c w1 e1 σ _ _ rfl E1 q1 fun y dy e2 w2 E2 l2 v2 q2=>?_;exact h.ok c w2 e2 σ x y dx dy _ _ rfl E2 (v1.mono l2) v2 q2 fun v s w' R q=>k v s e2 w' (R.pre (l1.trans l2)) q
class SG (g:Int->Int->V) (gd:outParam (Int->Int->PyData)):Prop where
 ok:∀ i j K F,Den K F (g i j) (gd i j)
instance sg_int {f:Int->Int->Int}:SG (fun i j=>.int (f i j)) (fun i j=>.int (f i j)):=⟨fun _ _ _ _=>.int _⟩
instance sg_bl {f:Int->Int->Bool}:SG (fun i j=>.bl (f i j)) (fun i j=>.bool (f i j)):=⟨fun _ _ _ _=>.bl _⟩
def pI (C:Int->Int->Prop) (gd:Int->Int->PyData) (x y:PyData) (Q:SV->Prop):Prop:=match x,y with
 | .int i,.int j=>C i j/\Q (.d (gd i j))
 | _,_=>False
def pI0 (gd:Int->Int->PyData) (x y:PyData) (Q:SV->Prop):Prop:=match x,y with
 | .int i,.int j=>Q (.d (gd i j))
 | _,_=>False
def VV.intE {K:Frag} {w:Wd} {v:V} {i:Int} (h:VV K w v (.int i)):v=.int i:=by
 rcases h with h | ⟨l,vs,xs,e,e',_⟩
 ·exact h.intE
 ·cases e'
def VV.blE {K:Frag} {w:Wd} {v:V} {b:Bool} (h:VV K w v (.bool b)):v=.bl b:=by
 rcases h with h | ⟨l,vs,xs,e,e',_⟩
 ·exact h.blE
 ·cases e'
instance ro_I {K:Frag} {C:Int->Int->Prop} {g:Int->Int->V} {gd:Int->Int->PyData} [s:SG g gd]:RO K (rI C g) (pI C gd) where
 ok:=by
  rintro c w env σ x y dx dy Qp Q rfl E vx vy p k;unfold pI at p;split at p
  ·rename_i i j;exact ⟨i,j,vx.intE,vy.intE,p.1,k _ _ w (Res.data E (s.ok i j _ _)) p.2⟩
  ·exact p.elim
instance ro_I0 {K:Frag} {g:Int->Int->V} {gd:Int->Int->PyData} [s:SG g gd]:RO K (rI0 g) (pI0 gd) where
 ok:=by
  rintro c w env σ x y dx dy Qp Q rfl E vx vy p k;unfold pI0 at p;split at p
  ·rename_i i j;exact ⟨i,j,vx.intE,vy.intE,k _ _ w (Res.data E (s.ok i j _ _)) p⟩
  ·exact p.elim
def pEqD (x y:PyData) (Q:SV->Prop):Prop:=x.canLay0=true/\y.canLay0=true/\x.depth<=60/\Q (.d (.bool (PyData.eqv x y)))
def pNeD (x y:PyData) (Q:SV->Prop):Prop:=x.canLay0=true/\y.canLay0=true/\x.depth<=60/\Q (.d (.bool (!PyData.eqv x y)))
def isNo:PyData->Bool
 | .none=>true
 | _=>false
def rIsN:R2:=fun x y H Q=>y=.non/\Q (.bl (decide (x=.non))) H
def B5a {X:Cx}:OpR X (compareOp .Is) rIsN:=B9z
def Den.no {K:Frag} {F:Hpp} {v:V} {x:PyData} (h:Den K F v x):decide (v=.non)=isNo x:=by cases h <;> rfl
def VV.no {K:Frag} {w:Wd} {v:V} {x:PyData} (h:VV K w v x):decide (v=.non)=isNo x:=by
 rcases h with h | ⟨l,vs,xs,e,e',_⟩
 ·exact Den.no h
 ·subst e; subst e'; rfl
def pIsN (x y:PyData) (Q:SV->Prop):Prop:=y=.none/\Q (.d (.bool (isNo x)))
def VV.nonE {K:Frag} {w:Wd} {v:V} (h:VV K w v .none):v=.non:=by
 rcases h with h | ⟨l,vs,xs,e,e',_⟩
 ·exact h.nonE
 ·cases e'
instance ro_isN {K:Frag}:RO K rIsN pIsN where
 ok:=by
  rintro c w env σ x y dx dy Qp Q rfl E vx vy ⟨rfl,p⟩ k;refine ⟨vy.nonE,k _ _ w (Res.data E ?_) p⟩;rw [vx.no]; exact .bl _
def pGet (xs:LP) (i:Int) (Q:SV->Prop):Prop:=match atI xs i with
 | some z=>Q (.d z)
 | none=>False
def pIx (x y:PyData) (Q:SV->Prop):Prop:=match x,y with
 | .list xs,.int i=>pGet xs i Q
 | .tuple xs,.int i=>pGet xs i Q
 | _,_=>False
def VV.lst {K:Frag} {w:Wd} {v:V} {xs:LP} (o:w.Ok) (h:VV K w v (.list xs)):∃ a vs,v=.ref a/\SqL K w.H a vs/\DenAll K w.F vs xs:=by
 rcases h with h | ⟨l,vs,ys,e,e',h1,h2,h3⟩
 ·obtain ⟨a,vs,e,h1,h2⟩:=h.lstE;exact ⟨a,vs,e,o.sub.seq h1,h2⟩
 ·cases e'; exact ⟨l,vs,e,SqL.of h1,h3⟩
def VV.tup {K:Frag} {w:Wd} {v:V} {xs:LP} (o:w.Ok) (h:VV K w v (.tuple xs)):∃ a vs,v=.ref a/\SqT K w.H a vs/\DenAll K w.F vs xs:=by
 rcases h with h | ⟨l,vs,ys,e,e',h1,h2,h3⟩
 ·obtain ⟨a,vs,e,h1,h2⟩:=h.tupE;exact ⟨a,vs,e,SqT.same o.sub h1,h2⟩
 ·cases e'
instance ro_ix {K:Frag}:RO K (rIx K) pIx where
 ok:=by
  rintro c w env σ x y dx dy Qp Q rfl E vx vy p k;unfold pIx at p;split at p
  ·rename_i xs i;unfold pGet at p;split at p
   ·rename_i z hz;obtain ⟨a,vs,e,h1,h2⟩:=vx.lst E.wok;obtain ⟨v,g1,g2⟩:=h2.atIE hz;exact .inl ⟨a,vs,i,v,e,vy.intE,h1,g1,k _ _ w (Res.data E g2) p⟩
   ·exact p.elim
  ·rename_i xs i;unfold pGet at p;split at p
   ·rename_i z hz;obtain ⟨a,vs,e,h1,h2⟩:=vx.tup E.wok;obtain ⟨v,g1,g2⟩:=h2.atIE hz;exact .inr (.inl ⟨a,vs,i,v,e,vy.intE,h1,g1,k _ _ w (Res.data E g2) p⟩)
   ·exact p.elim
  ·exact p.elim
def B6o {X:Cx} {K:Frag} (h:X.K=K):IxR X (rIx K):=by subst h; exact C1i
def pU (gd:Int->PyData) (x:PyData) (Q:SV->Prop):Prop:=match x with
 | .int i=>Q (.d (gd i))
 | _=>False
def pUn (f:PyData->(SV->Prop)->Prop) (pa:PDt) (env:PEnv) (Q:SV->PEnv->Prop):Prop:=pa env fun x e=>f x fun s=>Q s e
instance re_neg {K:Frag} {ta:TE} {pa:PDt} {f:Int->Int} [ha:RW K ta pa]:RE K (tUn (rU fun i=>.int (f i)) ta) (pUn (pU fun i=>.int (f i)) pa) where
 ok:=by
  rintro c w env σ Qp Q rfl E p k;refine ha.ok c w env σ _ _ rfl E p fun x dx e1 w1 E1 l1 v1 q1=>?_;unfold pU at q1;split at q1
  ·rename_i i;exact ⟨i,v1.intE,k _ _ e1 w1 ((Res.data E1 (.int _)).pre l1) q1⟩
  ·exact q1.elim
inductive VVs (K:Frag) (w:Wd):List V->LP->Prop
 | nil:VVs K w [] []
 | cons {v:V} {x:PyData} {vs:List V} {xs:LP}:VV K w v x->VVs K w vs xs->VVs K w (v :: vs) (x :: xs)
class RAv (K:Frag) (ta:TA) (pa:outParam PAr):Prop where
 ok:∀ (c:Ct) (w:Wd) (env:PEnv) (σ:St) (Qp:LP->PEnv->Prop) (Q:List V->Hpp->Prop),c.K=K->EnvOk c w env σ->pa env Qp->(∀ vs xs env' w',EnvOk c w' env' σ->Lw w w'->VVs K w' vs xs->Qp xs env'->Q vs w'.H)->ta σ w.H Q
class RAd (K:Frag) (ta:TA) (pa:outParam PAr):Prop where
 ok:∀ (c:Ct) (w:Wd) (env:PEnv) (σ:St) (Qp:LP->PEnv->Prop) (Q:List V->Hpp->Prop),c.K=K->EnvOk c w env σ->pa env Qp->(∀ vs xs env' w',EnvOk c w' env' σ->Lw w w'->DenAll K w'.F vs xs->Qp xs env'->Q vs w'.H)->ta σ w.H Q
def pNil (env:PEnv) (Q:LP->PEnv->Prop):Prop:=Q [] env
def T7 (pa:PDt) (pr:PAr) (env:PEnv) (Q:LP->PEnv->Prop):Prop:=pa env fun x e1=>pr e1 fun xs e2=>Q (x :: xs) e2
instance rav_nil {K:Frag}:RAv K tNil pNil:=⟨fun c w env σ Qp Q _ E p k=>k [] [] env w E (Lw.refl w) .nil p⟩
instance rad_nil {K:Frag}:RAd K tNil pNil:=⟨fun c w env σ Qp Q _ E p k=>k [] [] env w E (Lw.refl w) .nil p⟩
instance rav_cons {K:Frag} {ta:TE} {tr:TA} {pa:PDt} {pr:PAr} [ha:RW K ta pa] [hr:RAv K tr pr]:RAv K (F7 ta tr) (T7 pa pr) where
 ok:=by
  rintro c w env σ Qp Q rfl E p k;refine ha.ok c w env σ _ _ rfl E p fun x dx e1 w1 E1 l1 v1 q1=>?_;refine hr.ok c w1 e1 σ _ _ rfl E1 q1 fun vs xs e2 w2 E2 l2 v2 q2=>?_;exact k _ _ e2 w2 E2 (l1.trans l2) (.cons (v1.mono l2) v2) q2
instance rad_cons {K:Frag} {ta:TE} {tr:TA} {pa:PDt} {pr:PAr} [ha:RD K ta pa] [hr:RAd K tr pr]:RAd K (F7 ta tr) (T7 pa pr) where
 ok:=by
  rintro c w env σ Qp Q rfl E p k;refine ha.ok c w env σ _ _ rfl E p fun x dx e1 w1 E1 l1 v1 q1=>?_;refine hr.ok c w1 e1 σ _ _ rfl E1 q1 fun vs xs e2 w2 E2 l2 v2 q2=>?_;exact k _ _ e2 w2 E2 (l1.trans l2) (.cons (Den.same l2.f v1) v2) q2
def pTup (pa:PAr) (env:PEnv) (Q:SV->PEnv->Prop):Prop:=pa env fun xs e=>xs.length<=1000/\Q (.d (.tuple xs)) e
def pLst (pa:PAr) (env:PEnv) (Q:SV->PEnv->Prop):Prop:=pa env fun xs e=>xs.length<=1000/\Q (.own xs) e
instance re_tup {K:Frag} {ta:TA} {pa:PAr} [ha:RAd K ta pa]:RE K (tTup ta) (pTup pa) where
 ok:=by
  rintro c w env σ Qp Q rfl E p k;refine ha.ok c w env σ _ _ rfl E p fun vs xs e1 w1 E1 l1 v1 q1=>⟨?_,fun p hp=>?_⟩
  ·rw [v1.len]; exact Nat.le_of_lt (R7 q1.1)
  ·exact k _ _ e1 _ ((Res.tup E1 hp v1).pre l1) q1.2
instance re_lst {K:Frag} {ta:TA} {pa:PAr} [ha:RAd K ta pa]:RE K (tLst ta) (pLst pa) where
 ok:=by
  rintro c w env σ Qp Q rfl E p k;refine ha.ok c w env σ _ _ rfl E p fun vs xs e1 w1 E1 l1 v1 q1=>⟨?_,fun p hp=>?_⟩
  ·rw [v1.len]; exact Nat.le_of_lt (R7 q1.1)
  ·exact k _ _ e1 _ ((Res.lst E1 hp v1).pre l1) q1.2
class RB (K:Frag) (r:List V->Hpp->VK->Prop) (pr:outParam (LP->(SV->Prop)->Prop)):Prop where
 ok:∀ (c:Ct) (w:Wd) (env:PEnv) (σ:St) (vs:List V) (xs:LP) (Qp:SV->Prop) (Q:VK),c.K=K->EnvOk c w env σ->VVs K w vs xs->pr xs Qp->(∀ v s w',Res c w env σ w' v s->Qp s->Q v w'.H)->r vs w.H Q
def pCB (pr:LP->(SV->Prop)->Prop) (pa:PAr) (env:PEnv) (Q:SV->PEnv->Prop):Prop:=pa env fun xs e=>pr xs fun s=>Q s e
instance re_cb {K:Frag} {r:List V->Hpp->VK->Prop} {ta:TA} {pr:LP->(SV->Prop)->Prop} {pa:PAr} [h:RB K r pr] [ha:RAv K ta pa]:RE K (tCB r ta) (pCB pr pa) where
 ok:=by
  rintro c w env σ Qp Q rfl E p k;refine ha.ok c w env σ _ _ rfl E p fun vs xs e1 w1 E1 l1 v1 q1=>?_;exact h.ok c w1 e1 σ vs xs _ _ rfl E1 v1 q1 fun v s w' R q=>k v s e1 w' (R.pre l1) q
def rAbs:List V->Hpp->VK->Prop:=fun xs H Q=>∃ i,xs=[.int i]/\Q (.int (if i < 0 then -i else i)) H
def rMax:List V->Hpp->VK->Prop:=fun xs H Q=>∃ i j,xs=[.int i,.int j]/\Q (.int (if j > i then j else i)) H
def rMin:List V->Hpp->VK->Prop:=fun xs H Q=>∃ i j,xs=[.int i,.int j]/\Q (.int (if j < i then j else i)) H
def rInt:List V->Hpp->VK->Prop:=fun xs H Q=>(∃ i,xs=[.int i]/\Q (.int i) H)\/∃ k,xs=[.bl k]/\Q (.int (if k then 1 else 0)) H
def rIsi (K:Frag):List V->Hpp->VK->Prop:=fun xs H Q=>∃ x c T b,xs=[x,.ty c]/\TyV K H x T/\kitB T c=some b/\Q (.bl b) H
section
variable {X:Cx}
def A2f:CallR X (.builtin "abs") rAbs:=B1i
def A8y (hc:X.calm=true):CallR X (.builtin "max") rMax:=A8z hc
def A8w (hc:X.calm=true):CallR X (.builtin "min") rMin:=A8x hc
def A2d:CallR X (.type "int") rInt:=A2e
def F9 {K:Frag} (h:X.K=K):CallR X (.builtin "isinstance") (rIsi K):=by subst h; exact A3a
end
def pLen (xs:LP) (Q:SV->Prop):Prop:=match xs with
 | [.list ys]=>Q (.d (.int ys.length))
 | [.tuple ys]=>Q (.d (.int ys.length))
 | _=>False
def pAbs (xs:LP) (Q:SV->Prop):Prop:=match xs with
 | [.int i]=>Q (.d (.int (if i < 0 then -i else i)))
 | _=>False
def pMax (xs:LP) (Q:SV->Prop):Prop:=match xs with
 | [.int i,.int j]=>Q (.d (.int (if j > i then j else i)))
 | _=>False
def pMin (xs:LP) (Q:SV->Prop):Prop:=match xs with
 | [.int i,.int j]=>Q (.d (.int (if j < i then j else i)))
 | _=>False
def pInt (xs:LP) (Q:SV->Prop):Prop:=match xs with
 | [.int i]=>Q (.d (.int i))
 | [.bool k]=>Q (.d (.int (if k then 1 else 0)))
 | _=>False
instance rb_abs {K:Frag}:RB K rAbs pAbs where
 ok:=by
  rintro c w env σ vs xs Qp Q rfl E vv p k;unfold pAbs at p;split at p
  ·cases vv with | cons h t=>cases t; exact ⟨_,by rw [h.intE],k _ _ w (Res.data E (.int _)) p⟩
  ·exact p.elim
instance rb_max {K:Frag}:RB K rMax pMax where
 ok:=by
  rintro c w env σ vs xs Qp Q rfl E vv p k;unfold pMax at p;split at p
  ·cases vv with | cons h t=>cases t with | cons h' t=>cases t; exact ⟨_,_,by rw [h.intE,h'.intE],k _ _ w (Res.data E (.int _)) p⟩
  ·exact p.elim
instance rb_min {K:Frag}:RB K rMin pMin where
 ok:=by
  rintro c w env σ vs xs Qp Q rfl E vv p k;unfold pMin at p;split at p
  ·cases vv with | cons h t=>cases t with | cons h' t=>cases t; exact ⟨_,_,by rw [h.intE,h'.intE],k _ _ w (Res.data E (.int _)) p⟩
  ·exact p.elim
instance rb_int {K:Frag}:RB K rInt pInt where
 ok:=by
  rintro c w env σ vs xs Qp Q rfl E vv p k;unfold pInt at p;split at p
  ·cases vv with | cons h t=>cases t; exact .inl ⟨_,by rw [h.intE],k _ _ w (Res.data E (.int _)) p⟩
  ·cases vv with | cons h t=>cases t; exact .inr ⟨_,by rw [h.blE],k _ _ w (Res.data E (.int _)) p⟩
  ·exact p.elim
def tyD:PyData->String
 | .none=>"NoneType"
 | .bool _=>"bool"
 | .int _=>"int"
 | .str _=>"str"
 | .list _=>"list"
 | .tuple _=>"tuple"
 | .dict _=>"dict"
def Den.ty {K:Frag} {H:Hpp} {v:V} {x:PyData} (h:Den K H v x):TyV K H v (tyD x):=by
 cases h with
 | non=>rfl
 | bl=>rfl
 | int=>rfl
 | str=>rfl
 | lst h _=>exact .inl ⟨rfl,_,h⟩
 | tup h _=>exact .inr (.inl ⟨rfl,_,h.1⟩)
 | dct h=>exact .inr (.inr ⟨rfl,_,h⟩)
def pIsi (c:String) (pa:PDt) (env:PEnv) (Q:SV->PEnv->Prop):Prop:=pa env fun x e=>match kitB (tyD x) c with
 | some b=>Q (.d (.bool b)) e
 | none=>False
instance (priority:=high) re_isi {K:Frag} {ta:TE} {pa:PDt} {c:String} [ha:RW K ta pa]:RE K (tCB (rIsi K) (F7 ta (F7 (tC (.ty c)) tNil))) (pIsi c pa) where
 ok:=by
  rintro ct w env σ Qp Q rfl E p k;refine ha.ok ct w env σ _ _ rfl E p fun x dx e1 w1 E1 l1 v1 q1=>?_;split at q1
  ·rename_i b hb;exact ⟨x,c,_,b,rfl,Den.ty (v1.den E1.wok),hb,k _ _ e1 w1 ((Res.data E1 (.bl _)).pre l1) q1⟩
  ·exact q1.elim
class RT (K:Frag) (tt:TT) (pt:outParam PTt):Prop where
 ok:∀ (c:Ct) (w:Wd) (env:PEnv) (σ:St) (Qp:Bool->PEnv->Prop) (Q:Bool->Hpp->Prop),c.K=K->EnvOk c w env σ->pt env Qp->(∀ b env' w',EnvOk c w' env' σ->Lw w w'->Qp b env'->Q b w'.H)->tt σ w.H Q
def asB (x:PyData) (k:Bool->Prop):Prop:=match x with
 | .bool b=>k b
 | _=>False
def B4l (pa:PDt) (env:PEnv) (Q:Bool->PEnv->Prop):Prop:=pa env fun x e=>asB x fun b=>Q b e
instance rt_test {K:Frag} {ta:TE} {pa:PDt} [ha:RW K ta pa]:RT K (B23 ta) (B4l pa) where
 ok:=by
  rintro c w env σ Qp Q rfl E p k;refine ha.ok c w env σ _ _ rfl E p fun x dx e1 w1 E1 l1 v1 q1=>?_;unfold asB at q1;split at q1
  ·exact ⟨_,v1.blE,k _ e1 w1 E1 l1 q1⟩
  ·exact q1.elim
instance rt_B {K:Frag} {ta:TE} {pa:PDt} [ha:RW K ta pa]:RT K (tB ta) (B4l pa) where
 ok:=by
  rintro c w env σ Qp Q rfl E p k;refine ha.ok c w env σ _ _ rfl E p fun x dx e1 w1 E1 l1 v1 q1=>?_;unfold asB at q1;split at q1
  ·exact ⟨_,v1.blE,k _ e1 w1 E1 l1 q1⟩
  ·exact q1.elim
def pYes (env:PEnv) (Q:Bool->PEnv->Prop):Prop:=Q true env
instance rt_yes {K:Frag}:RT K tYes pYes:=⟨fun c w env σ Qp Q _ E p k=>k true env w E (Lw.refl w) p⟩
def pNot (pa:PTt) (env:PEnv) (Q:Bool->PEnv->Prop):Prop:=pa env fun b e=>Q (!b) e
def pAnd (pa pb:PTt) (env:PEnv) (Q:Bool->PEnv->Prop):Prop:=pa env fun b e=>if b=true then pb e Q else Q false e
def pOr (pa pb:PTt) (env:PEnv) (Q:Bool->PEnv->Prop):Prop:=pa env fun b e=>if b=true then Q true e else pb e Q
instance rt_not {K:Frag} {ta:TT} {pa:PTt} [ha:RT K ta pa]:RT K (tNot ta) (pNot pa) where
 ok:=by
  rintro c w env σ Qp Q rfl E p k;exact ha.ok c w env σ _ _ rfl E p fun b e1 w1 E1 l1 q1=>k _ e1 w1 E1 l1 q1
instance rt_and {K:Frag} {ta tb:TT} {pa pb:PTt} [ha:RT K ta pa] [hb:RT K tb pb]:RT K (tAnd ta tb) (pAnd pa pb) where
 ok:=by
  rintro c w env σ Qp Q rfl E p k;refine ha.ok c w env σ _ _ rfl E p fun b e1 w1 E1 l1 q1=>?_;cases b with
  | true=>exact hb.ok c w1 e1 σ _ _ rfl E1 q1 fun b e2 w2 E2 l2 q2=>k _ e2 w2 E2 (l1.trans l2) q2
  | false=>exact k _ e1 w1 E1 l1 q1
instance rt_or {K:Frag} {ta tb:TT} {pa pb:PTt} [ha:RT K ta pa] [hb:RT K tb pb]:RT K (tOr ta tb) (pOr pa pb) where
 ok:=by
  rintro c w env σ Qp Q rfl E p k;refine ha.ok c w env σ _ _ rfl E p fun b e1 w1 E1 l1 q1=>?_;cases b with
  | false=>exact hb.ok c w1 e1 σ _ _ rfl E1 q1 fun b e2 w2 E2 l2 q2=>k _ e2 w2 E2 (l1.trans l2) q2
  | true=>exact k _ e1 w1 E1 l1 q1
def B84 (pa:PDt) (env:PEnv) (Q:SV->PEnv->Prop):Prop:=pa env fun x e=>asB x fun b=>Q (.d (.bool (!b))) e
def B9u (pa:PDt) (pb:PX) (env:PEnv) (Q:SV->PEnv->Prop):Prop:=pa env fun x e=>asB x fun b=>if b=true then pb e Q else Q (.d (.bool false)) e
instance re_notV {K:Frag} {ta:TE} {pa:PDt} [ha:RW K ta pa]:RE K (B26 ta) (B84 pa) where
 ok:=by
  rintro c w env σ Qp Q rfl E p k;refine ha.ok c w env σ _ _ rfl E p fun x dx e1 w1 E1 l1 v1 q1=>?_;unfold asB at q1;split at q1
  ·exact ⟨_,v1.blE,k _ _ e1 w1 ((Res.data E1 (.bl _)).pre l1) q1⟩
  ·exact q1.elim
instance re_andV {K:Frag} {ta tb:TE} {pa:PDt} {pb:PX} [ha:RW K ta pa] [hb:RE K tb pb]:RE K (B3b ta tb) (B9u pa pb) where
 ok:=by
  rintro c w env σ Qp Q rfl E p k;refine ha.ok c w env σ _ _ rfl E p fun x dx e1 w1 E1 l1 v1 q1=>?_;unfold asB at q1;split at q1
  ·rename_i b;refine ⟨_,v1.blE,?_⟩;cases b with
   | true=>exact hb.ok c w1 e1 σ _ _ rfl E1 q1 fun v s e2 w2 R q2=>k _ _ e2 w2 (R.pre l1) q2
   | false=>exact k _ _ e1 w1 ((Res.data E1 (.bl _)).pre l1) q1
  ·exact q1.elim
inductive Md where
 | dat | vw | st | bt
def TV (K:Frag) (w:Wd) (v:V) (t:OT):Prop:=Tre K w t [v]/\∀ a ∈ t.fp,¬ w.M a
def TV.mono {K:Frag} {w w':Wd} {v:V} {t:OT} (a:Lw w w') (h:TV K w v t) (hs:∀ a ∈ t.fp,w.H a≠none):TV K w' v t :=
 ⟨h.1.mono a h.2,fun b hb=>a.nm (hs b hb) (h.2 b hb)⟩
theorem Tre.has {K:Frag} {w:Wd}:∀ {t:OT} {vs:List V},Tre K w t vs->∀ a ∈ t.fp,w.H a≠none
 | .leaf _,_,_,_,z=>nomatch z
 | .nd _ p _,_,⟨_,_,h,k⟩,a,z=>(List.mem_cons.mp z).elim (fun e=>by rw [e,h]; simp) (Tre.has k a)
 | .nil,_,_,_,z=>nomatch z
 | .cons _ _,_,⟨_,_,_,h,t⟩,a,z=>(Za z).elim (Tre.has h a) (Tre.has t a)
inductive Args (K:Frag) (w:Wd):List Md->List V->List SV->Prop
 | nil:Args K w [] [] []
 | dat {v:V} {x:PyData} {md:List Md} {vs:List V} {as:List SV}:Den K w.F v x->Args K w md vs as->Args K w (.dat :: md) (v :: vs) (.d x :: as)
 | vw {v:V} {xs:LP} {md:List Md} {vs:List V} {as:List SV}:VV K w v (.list xs)->Args K w md vs as->Args K w (.vw :: md) (v :: vs) (.bor xs :: as)
 | bt {v:V} {t:OT} {md:List Md} {vs:List V} {as:List SV}:TV K w v t->Args K w md vs as->Args K w (.bt :: md) (v :: vs) (.bt t :: as)
 | st {v:V} {md:List Md} {vs:List V} {as:List SV}:(∃ p,v=.ref p/\w.M p)->Args K w md vs as->Args K w (.st :: md) (v :: vs) (.st :: as)
theorem Args.len {K:Frag} {w:Wd}:∀ {md vs as},Args K w md vs as->vs.length=md.length
 | _,_,_,.nil=>rfl
 | _,_,_,.dat _ t=>congrArg (· + 1) (Args.len t)
 | _,_,_,.vw _ t=>congrArg (· + 1) (Args.len t)
 | _,_,_,.st _ t=>congrArg (· + 1) (Args.len t)
 | _,_,_,.bt _ t=>congrArg (· + 1) (Args.len t)
abbrev PSp:=List SV->(SV->Prop)->Prop
def noZ:Addr->Prop:=fun _=>False
def spOf (K:Frag) (md:List Md) (psp:PSp):Sp:=fun vs H Q _=>∃ (w:Wd) (as:List SV) (Qp:SV->Prop),w.H=H/\w.Ok/\Args K w md vs as/\psp as Qp /\
 ∀ v s w',w'.Ok->Le w w'->VR ⟨K,w,noZ⟩ w' v s->s.isRes=true->Qp s->Q v w'.H
theorem spOf.len {K:Frag} {md:List Md} {psp:PSp} {n:Nat} (h:md.length=n):∀ vs H Q E,spOf K md psp vs H Q E->vs.length=n:=by
 rintro vs H Q E ⟨w,as,Qp,_,_,a,_⟩;exact a.len.trans h
class RAm (K:Frag) (md:List Md) (ta:TA) (pa:outParam PAs):Prop where
 ok:∀ (c:Ct) (w:Wd) (env:PEnv) (σ:St) (Qp:List SV->PEnv->Prop) (Q:List V->Hpp->Prop),c.K=K->EnvOk c w env σ->pa env Qp->(∀ vs as env' w',EnvOk c w' env' σ->Lw w w'->Args K w' md vs as->Qp as env'->Q vs w'.H)->ta σ w.H Q
def B86 (env:PEnv) (Q:List SV->PEnv->Prop):Prop:=Q [] env
def B2f (pa:PDt) (pr:PAs) (env:PEnv) (Q:List SV->PEnv->Prop):Prop:=pa env fun x e1=>pr e1 fun as e2=>Q (.d x :: as) e2
def asL (x:PyData) (k:LP->Prop):Prop:=match x with
 | .list xs=>k xs
 | _=>False
def B2d (pa:PDt) (pr:PAs) (env:PEnv) (Q:List SV->PEnv->Prop):Prop:=pa env fun x e1=>asL x fun xs=>pr e1 fun as e2=>Q (.bor xs :: as) e2
def isSt (o:Option (Option SV)) (k:Prop):Prop:=match o with
 | some (some .st)=>k
 | _=>False
def A7j (i:Nat) (pr:PAs) (env:PEnv) (Q:List SV->PEnv->Prop):Prop:=isSt env[i]? (pr env fun as e2=>Q (.st :: as) e2)
instance ram_nil {K:Frag}:RAm K [] tNil B86:=⟨fun c w env σ Qp Q _ E p k=>k [] [] env w E (Lw.refl w) .nil p⟩
instance ram_dat {K:Frag} {md:List Md} {ta:TE} {tr:TA} {pa:PDt} {pr:PAs} [ha:RD K ta pa] [hr:RAm K md tr pr]:RAm K (.dat :: md) (F7 ta tr) (B2f pa pr) where
 ok:=by
  rintro c w env σ Qp Q rfl E p k;refine ha.ok c w env σ _ _ rfl E p fun x dx e1 w1 E1 l1 v1 q1=>?_;refine hr.ok c w1 e1 σ _ _ rfl E1 q1 fun vs xs e2 w2 E2 l2 v2 q2=>?_;exact k _ _ e2 w2 E2 (l1.trans l2) (.dat (Den.same l2.f v1) v2) q2
instance ram_vw {K:Frag} {md:List Md} {ta:TE} {tr:TA} {pa:PDt} {pr:PAs} [ha:RW K ta pa] [hr:RAm K md tr pr]:RAm K (.vw :: md) (F7 ta tr) (B2d pa pr) where
 ok:=by
  rintro c w env σ Qp Q rfl E p k;refine ha.ok c w env σ _ _ rfl E p fun x dx e1 w1 E1 l1 v1 q1=>?_;unfold asL at q1;split at q1
  ·refine hr.ok c w1 e1 σ _ _ rfl E1 q1 fun vs xs e2 w2 E2 l2 v2 q2=>?_;exact k _ _ e2 w2 E2 (l1.trans l2) (.vw (v1.mono l2) v2) q2
  ·exact q1.elim
instance ram_st {K:Frag} {md:List Md} {i:Nat} {tr:TA} {pr:PAs} [hr:RAm K md tr pr]:RAm K (.st :: md) (F7 (tVar i) tr) (A7j i pr) where
 ok:=by
  rintro c w env σ Qp Q rfl E p k;unfold A7j isSt at p;split at p
  ·rename_i e;obtain ⟨v,h1,h2⟩:=E.at' i _ e;refine ⟨v,h1,?_⟩;refine hr.ok c w env σ _ _ rfl E p fun vs xs e2 w2 E2 l2 v2 q2=>?_;obtain ⟨q,e',hm⟩:=h2;exact k _ _ e2 w2 E2 l2 (.st ⟨q,e',l2.m _ hm⟩ v2) q2
  ·exact p.elim
def B9s (psp:PSp) (pa:PAs) (env:PEnv) (Q:SV->PEnv->Prop):Prop:=pa env fun as e=>psp as fun s=>Q s e
def Res.called {c:Ct} {w w':Wd} {env:PEnv} {σ:St} {v:V} {s:SV} (E:EnvOk c w env σ) (ok:w'.Ok) (l:Le w w') (h:VR ⟨c.K,w,noZ⟩ w' v s) (r:s.isRes=true):Res c w env σ w' v s:=by
 refine ⟨E.mono ok l,l.toLw,?_,fun a f=>E.fresh (h.foot f).2.2.2,r⟩;cases s with
 | d x=>exact h
 | own xs=>obtain ⟨a,vs,e,h1,h2,h3,h4,h5⟩:=h; exact ⟨a,vs,e,h1,h2,h3,E.le0.dom _ h4,h5⟩
 | bor xs=>cases r
 | bt t=>cases r
 | al t=>cases r
 | dk ks=>obtain ⟨l',e,h1,h2,h3,h4⟩:=h; exact ⟨l',e,h1,h2,h3,E.le0.dom _ h4⟩
 | dl l1 ks=>exact ⟨h.1,h.2.1,fun a f=>⟨(h.2.2.1 a f).1,(h.2.2.1 a f).2.1,(h.2.2.1 a f).2.2.1,E.le0.dom _ (h.2.2.1 a f).2.2.2⟩,h.2.2.2⟩
 | st=>exact h
 | tr t=>exact ⟨h.1,fun a f=>⟨(h.2.1 a f).1,(h.2.1 a f).2.1,(h.2.1 a f).2.2.1,E.le0.dom _ (h.2.1 a f).2.2.2⟩,h.2.2⟩
instance re_call {K:Frag} {md:List Md} {psp:PSp} {E0':XK} {ta:TA} {pa:PAs} [ha:RAm K md ta pa]:RE K (A4v (spOf K md psp) [] E0' ta) (B9s psp pa) where
 ok:=by
  rintro c w env σ Qp Q rfl E p k;refine ha.ok c w env σ _ _ rfl E p fun vs as e1 w1 E1 l1 a1 q1=>?_;rw [List.append_nil];exact ⟨w1,as,_,rfl,E1.wok,a1,q1,fun v s w' ok l h r q=>k v s e1 w' ((Res.called E1 ok l h r).pre l1) q⟩
structure PEnds where
 nx:PEnv->Prop
 rt:SV->PEnv->Prop
 bk:PEnv->Prop
 ct:PEnv->Prop
abbrev PSt:=PEnds->PEnv->Prop
structure EndsOk (c:Ct) (w:Wd) (Dp:PEnds) (D:Ends):Prop where
 nx:∀ env σ w',EnvOk c w' env σ->Same w.F w'.F->Dp.nx env->D.nx σ w'.H
 rt:∀ v s env σ w',EnvOk c w' env σ->VR c w' v s->s.isRes=true->Dp.rt s env->D.rt v w'.H
 bk:∀ env σ w',EnvOk c w' env σ->Same w.F w'.F->Dp.bk env->D.bk σ w'.H
 ct:∀ env σ w',EnvOk c w' env σ->Same w.F w'.F->Dp.ct env->D.ct σ w'.H
def EndsOk.on {c:Ct} {w w1:Wd} {Dp:PEnds} {D:Ends} (h:EndsOk c w Dp D) (s:Same w.F w1.F):EndsOk c w1 Dp D :=
 ⟨fun e σ w' E s'=>h.nx e σ w' E (s.trans s'),h.rt,fun e σ w' E s'=>h.bk e σ w' E (s.trans s'),fun e σ w' E s'=>h.ct e σ w' E (s.trans s')⟩
class RS (K:Frag) (ts:TS) (ps:outParam PSt):Prop where
 ok:∀ (c:Ct) (w:Wd) (env:PEnv) (σ:St) (Dp:PEnds) (D:Ends),c.K=K->EnvOk c w env σ->EndsOk c w Dp D->ps Dp env->ts D σ w.H
def B4s (D:PEnds) (env:PEnv):Prop:=D.nx env
def A7e (_:PEnds) (_:PEnv):Prop:=False
def pSeq (p q:PSt) (D:PEnds) (env:PEnv):Prop:=p { D with nx:=q D } env
instance rs_next {K:Frag}:RS K A9g B4s:=⟨fun c w env σ Dp D _ E h p=>h.nx env σ w E (Same.refl _) p⟩
instance rs_never {K:Frag}:RS K A08 A7e:=⟨fun c w env σ Dp D _ E h p=>p.elim⟩
instance rs_seq {K:Frag} {t u:TS} {p q:PSt} [ht:RS K t p] [hu:RS K u q]:RS K (tSeq t u) (pSeq p q) where
 ok:=by
  rintro c w env σ Dp D rfl E h pr;refine ht.ok c w env σ { Dp with nx:=q Dp } _ rfl E ⟨fun e1 σ1 w1 E1 s1 n1=>?_,h.rt,h.bk,h.ct⟩ pr;exact hu.ok c w1 e1 σ1 Dp D rfl E1 (h.on s1) n1
def B9n (pe:PX) (D:PEnds) (env:PEnv):Prop:=pe env fun _ e=>D.nx e
instance (priority:=low) rs_drop {K:Frag} {te:TE} {pe:PX} [he:RE K te pe]:RS K (A09 te) (B9n pe) where
 ok:=by
  rintro c w env σ Dp D rfl E h p;exact he.ok c w env σ _ _ rfl E p fun v s e1 w1 R q=>h.nx e1 σ w1 R.ev R.lw.f q
def pRet (pe:PX) (D:PEnds) (env:PEnv):Prop:=pe env fun s e=>D.rt s e
instance (priority:=low) rs_ret {K:Frag} {te:TE} {pe:PX} [he:RE K te pe]:RS K (tRet te) (pRet pe) where
 ok:=by
  rintro c w env σ Dp D rfl E h p;exact he.ok c w env σ _ _ rfl E p fun v s e1 w1 R q=>h.rt v s e1 σ w1 R.ev R.val R.res q
def B4q (i:Nat) (D:PEnds) (env:PEnv):Prop:=match env[i]? with
 | some (some (.bor _))=>False
 | some (some (.bt _))=>False
 | some (some (.al _))=>False
 | some (some s)=>D.rt s env
 | _=>False
instance rs_retV {K:Frag} {i:Nat}:RS K (tRet (tVar i)) (B4q i) where
 ok:=by
  rintro c w env σ Dp D rfl E h p;unfold B4q at p;split at p
  ·exact p.elim
  ·exact p.elim
  ·exact p.elim
  ·rename_i s hn hn2 hn3 e;obtain ⟨v,h1,h2⟩:=E.at' i _ e;refine ⟨v,h1,h.rt v s env σ w E h2 ?_ p⟩;cases s with
   | bor xs=>exact absurd rfl (hn xs)
   | bt t=>exact absurd rfl (hn2 t)
   | al t=>exact absurd rfl (hn3 t)
   | _=>rfl
  ·exact p.elim
def pIf (pt:PTt) (p q:PSt) (D:PEnds) (env:PEnv):Prop:=pt env fun b e=>if b=true then p D e else q D e
instance rs_if {K:Frag} {tt:TT} {t u:TS} {pt:PTt} {p q:PSt} [hc:RT K tt pt] [ht:RS K t p] [hu:RS K u q]:RS K (tIfS tt t u) (pIf pt p q) where
 ok:=by
  rintro c w env σ Dp D rfl E h pr;refine hc.ok c w env σ _ _ rfl E pr fun b e1 w1 E1 l1 q1=>?_;cases b with
  | true=>exact ht.ok c w1 e1 σ Dp D rfl E1 (h.on l1.f) q1
  | false=>exact hu.ok c w1 e1 σ Dp D rfl E1 (h.on l1.f) q1
def pAsg (pe:PX) (i:Nat) (D:PEnds) (env:PEnv):Prop:=pe env fun s e=>D.nx (e.set i (some s))
instance rs_asg {K:Frag} {te:TE} {pe:PX} {i:Nat} [he:RE K te pe]:RS K (tAsg te (O6 i)) (pAsg pe i) where
 ok:=by
  rintro c w env σ Dp D rfl E h p;exact he.ok c w env σ _ _ rfl E p fun v s e1 w1 R q=>h.nx _ _ w1 (R.ev.set R.val R.new) R.lw.f q
class RG (K:Frag) (g:TG) (pg:outParam (PyData->PEnv->(PEnv->Prop)->Prop)):Prop where
 ok:∀ (c:Ct) (w:Wd) (env:PEnv) (σ:St) (v:V) (x:PyData) (Qp:PEnv->Prop) (Q:St->Hpp->Prop),c.K=K->EnvOk c w env σ->Den K w.F v x->pg x env Qp->(∀ env' σ',EnvOk c w env' σ'->Qp env'->Q σ' w.H)->g v σ w.H Q
class RGs (K:Frag) (g:TGs) (pg:outParam (LP->PEnv->(PEnv->Prop)->Prop)):Prop where
 ok:∀ (c:Ct) (w:Wd) (env:PEnv) (σ:St) (vs:List V) (xs:LP) (Qp:PEnv->Prop) (Q:St->Hpp->Prop),c.K=K->EnvOk c w env σ->DenAll K w.F vs xs->pg xs env Qp->(∀ env' σ',EnvOk c w env' σ'->Qp env'->Q σ' w.H)->g vs σ w.H Q
def A6r (i:Nat) (x:PyData) (env:PEnv) (Q:PEnv->Prop):Prop:=Q (env.set i (some (.d x)))
instance rg_name {K:Frag} {i:Nat}:RG K (O6 i) (A6r i) where
 ok:=by
  rintro c w env σ v x Qp Q rfl E d p k;exact k _ _ (E.set (s:=.d x) d (fun _ z=>nomatch z)) p
def qNil (xs:LP) (env:PEnv) (Q:PEnv->Prop):Prop:=match xs with
 | []=>Q env
 | _=>False
def A6s (pg:PyData->PEnv->(PEnv->Prop)->Prop) (pr:LP->PEnv->(PEnv->Prop)->Prop) (xs:LP) (env:PEnv) (Q:PEnv->Prop):Prop:=match xs with
 | x :: r=>pg x env fun e=>pr r e Q
 | []=>False
def qTup (n:Nat) (pr:LP->PEnv->(PEnv->Prop)->Prop) (x:PyData) (env:PEnv) (Q:PEnv->Prop):Prop:=match x with
 | .tuple xs=>xs.length=n/\pr xs env Q
 | _=>False
instance rgs_nil {K:Frag}:RGs K gNil qNil where
 ok:=by
  rintro c w env σ vs xs Qp Q rfl E d p k;unfold qNil at p;split at p
  ·cases d; exact ⟨rfl,k env σ E p⟩
  ·exact p.elim
instance rgs_cons {K:Frag} {g:TG} {gs:TGs} {pg:PyData->PEnv->(PEnv->Prop)->Prop} {pr:LP->PEnv->(PEnv->Prop)->Prop} [hg:RG K g pg] [hr:RGs K gs pr]:RGs K (Y5 g gs) (A6s pg pr) where
 ok:=by
  rintro c w env σ vs xs Qp Q rfl E d p k;unfold A6s at p;split at p
  ·cases d with
   | cons h t =>
    refine ⟨_,_,rfl,hg.ok c w env σ _ _ _ _ rfl E h p fun e1 σ1 E1 q1=>?_⟩;exact hr.ok c w e1 σ1 _ _ _ _ rfl E1 t q1 k
  ·exact p.elim
instance rg_tup {K:Frag} {n:Nat} {gs:TGs} {pr:LP->PEnv->(PEnv->Prop)->Prop} [hr:RGs K gs pr]:RG K (gTup K n gs) (qTup n pr) where
 ok:=by
  rintro c w env σ v x Qp Q rfl E d p k;unfold qTup at p;split at p
  ·obtain ⟨a,vs,e,h1,h2⟩:=d.tupE;exact ⟨a,vs,e,SqT.same E.wok.sub h1,h2.len.trans p.1,hr.ok c w env σ _ _ _ _ rfl E h2 p.2 k⟩
  ·exact p.elim
def B9t (pd:PDt) (n:Nat) (pr:LP->PEnv->(PEnv->Prop)->Prop) (D:PEnds) (env:PEnv):Prop:=pd env fun x e=>qTup n pr x e D.nx
instance rs_asgT {K:Frag} {te:TE} {pd:PDt} {n:Nat} {gs:TGs} {pr:LP->PEnv->(PEnv->Prop)->Prop} [he:RD K te pd] [hr:RGs K gs pr]:RS K (tAsg te (gTup K n gs)) (B9t pd n pr) where
 ok:=by
  rintro c w env σ Dp D rfl E h p;refine he.ok c w env σ _ _ rfl E p fun v x e1 w1 E1 l1 d1 q1=>?_;exact rg_tup.ok c w1 e1 σ v x _ _ rfl E1 d1 q1 fun e2 σ2 E2 q2=>h.nx e2 σ2 w1 E2 l1.f q2
def pPar (i j:Nat) (pa:PAr) (D:PEnds) (env:PEnv):Prop:=pa env fun xs e=>match xs with
 | [x,y]=>D.nx ((e.set i (some (.d x))).set j (some (.d y)))
 | _=>False
instance rs_par {K:Frag} {ta:TA} {pa:PAr} {i j:Nat} [ha:RAd K ta pa]:RS K (tPar i j ta) (pPar i j pa) where
 ok:=by
  rintro c w env σ Dp D rfl E h p;refine ha.ok c w env σ _ _ rfl E p fun vs xs e1 w1 E1 l1 d1 q1=>?_;split at q1
  ·cases d1 with
   | cons a t=>cases t with
    | cons b t =>
     cases t;exact ⟨_,_,rfl,h.nx _ _ w1 ((E1.set (s:=.d _) a (fun _ z=>nomatch z)).set (s:=.d _) b (fun _ z=>nomatch z)) l1.f q1⟩
  ·exact q1.elim
def A06 (o:Option (Option SV)) (k:LP->Prop):Prop:=match o with
 | some (some (.own xs))=>k xs
 | _=>False
def EnvOk.writeAt {c:Ct} {w:Wd} {env:PEnv} {σ:St} {i:Nat} {s s':SV} {l:Addr} {wo:HO} {v:V} (E:EnvOk c w env σ) (e:env[i]?=some (some s)) (hσ:σ[i]?=some (some v)) (hf:s.foot v l) (hf':∀ a,s'.foot v a->s.foot v a)
  (hd:VR c ⟨w.M,upd w.H l wo,w.F⟩ v s'):EnvOk c ⟨w.M,upd w.H l wo,w.F⟩ (env.set i (some s')) σ:=by
 obtain ⟨h1,h2,h3,h4⟩:=(E.look e hσ).foot hf;have ne:∀ b,w.M b->b≠l:=fun b hb z=>h3 (z ▸ hb);have hd':∀ {j:Nat} {t:SV},(env.set i (some s'))[j]?=some (some t)->(i=j/\t=s')\/(i≠j/\env[j]?=some (some t)):=by
  intro j t q;rw [List.getElem?_set] at q;split at q
  ·rename_i z;split at q
   ·cases q; exact .inl ⟨z,rfl⟩
   ·cases q
  ·rename_i z; exact .inr ⟨z,q⟩
 have ft:∀ {j:Nat} {t:SV} {u:V} {a:Addr},(env.set i (some s'))[j]?=some (some t)->σ[j]?=some (some u)->t.foot u a->∃ t',env[j]?=some (some t')/\t'.foot u a:=by
  intro j t u a q qu f;rcases hd' q with ⟨rfl,rfl⟩ | ⟨_,q⟩
  ·rw [hσ] at qu; cases qu; exact ⟨s,e,hf' a f⟩
  ·exact ⟨t,q,f⟩
 refine ⟨⟨fun b o q=>?_,fun p hp=>(E.wok.st p hp).kp (ne p hp) Kp.upd,E.wok.nf⟩,⟨⟨E.le0.f,fun b o q n=>?_,E.le0.m,E.le0.mn,fun b q=>E.le0.dom b (M8 q)⟩,E.le0.n⟩,by simpa using E.len,fun j t q=>?_,fun j k s1 t1 v1 u1 a q1 q2 q3 q4 f1 f2=>?_,fun a za=>?_,fun a j t u za q q' f=>?_⟩
 ·show upd w.H l wo b=some o;rw [C4 (fun z=>by rw [z,h2] at q; cases q)]; exact E.wok.sub b o q
 ·show upd w.H l wo b=some o;rw [C4 (fun z=>by rw [z,h4] at q; cases q)]; exact E.le0.h b o q n
 ·rcases hd' q with ⟨rfl,rfl⟩ | ⟨z,q⟩
  ·exact ⟨v,hσ,hd⟩
  ·obtain ⟨u,g1,g2⟩:=E.at' j t q;exact ⟨u,g1,g2.writ h1 fun f=>z (E.own i j _ _ _ _ l e q hσ g1 hf f)⟩
 ·obtain ⟨_,p1,g1⟩:=ft q1 q3 f1;obtain ⟨_,p2,g2⟩:=ft q2 q4 f2;exact E.own j k _ _ _ _ a p1 p2 q3 q4 g1 g2
 ·obtain ⟨z1,z2,z3⟩:=E.zf a za;exact ⟨z1,fun q=>z2 (M8 q),z3⟩
 ·obtain ⟨_,p,g⟩:=ft q q' f;exact E.zo a j _ _ za p q' g
def EnvOk.write {c:Ct} {w:Wd} {env:PEnv} {σ:St} {i:Nat} {xs ys:LP} {l:Addr} {vs us:List V} (E:EnvOk c w env σ) (e:env[i]?=some (some (.own xs))) (hσ:σ[i]?=some (some (.ref l))) (h1:w.H l=some (.lst vs)) (h2:w.F l=none) (h3:¬ w.M l) (h4:c.w0.H l=none)
  (hd:DenAll c.K w.F us ys):EnvOk c ⟨w.M,upd w.H l (.lst us),w.F⟩ (env.set i (some (.own ys))) σ :=
 E.writeAt e hσ rfl (fun _ f=>f) ⟨l,us,rfl,B7,h2,h3,h4,hd⟩
def pApp (i:Nat) (pd:PDt) (D:PEnds) (env:PEnv):Prop:=A06 env[i]? fun _=>pd env fun x e=>A06 e[i]? fun xs=>xs.length < 1000000/\D.nx (e.set i (some (.own (xs++[x]))))
def Y7 {n:Nat} (h:n < 1000000):n < sizeLine:=Nat.lt_of_lt_of_le h (by decide)
instance rs_app {K:Frag} {i:Nat} {te:TE} {pd:PDt} [he:RD K te pd]:RS K (A09 (tBM K "list" A6l (tVar i) (F7 te tNil))) (pApp i pd) where
 ok:=by
  rintro c w env σ Dp D rfl E h p;unfold pApp A06 at p;split at p
  ·rename_i xs0 e0;obtain ⟨v,g0,l,vs,ev,h1,h2,h3,h4,h5⟩:=E.at' i _ e0;subst ev;refine ⟨_,g0,.inl ⟨rfl,_,SqL.of h1⟩,?_⟩;refine he.ok c w env σ _ _ rfl E p fun y x e1 w1 E1 l1 d1 q1=>?_;split at q1
   ·rename_i xs e;obtain ⟨v',g0',l',vs',ev',k1,k2,k3,k4,k5⟩:=E1.at' i _ e;rw [g0] at g0'; cases g0'; cases ev';refine ⟨l,vs',y,rfl,rfl,k1,by rw [k5.len]; exact Y7 q1.1,?_⟩;exact h.nx _ σ ⟨w1.M,upd w1.H l (.lst (vs'++[y])),w1.F⟩ (E1.write e g0 k1 k2 k3 k4 (k5.app (.cons d1 .nil))) l1.f q1.2
   ·exact q1.elim
  ·exact p.elim
end Pu
namespace L2
open PySem PySem.Spec PyProof.Rows
section
variable {X:Cx} {tg:Expr}
def iSq (K:W.Frag) (tl:TE):TI:=fun σ H R=>tl σ H fun x H1=>(∃ a,x=.ref a/\(∃ xs,SqL K H1 a xs)/\R (Itl K a) H1)\/∃ a,x=.ref a/\(∃ xs,SqT K H1 a xs)/\R (Itt K a) H1
def C2l {l:Expr} {tl:TE} (hl:PE X l tl):PI X tg l (iSq X.K tl):=by
 intro pins s σ H R I h;refine thn (hl pins s σ H _ I h) fun v s1 ⟨x,H1,I1,r1,q1⟩=>?_;rcases q1 with ⟨a,e,⟨xs,hq⟩,q⟩ | ⟨a,e,⟨xs,hq⟩,q⟩
 ·subst e;cases r1;obtain ⟨its,rv,p,hz⟩:=I1.list hq;refine wpAny_pyIter_list p.isList ?_;refine ⟨s1.heap.objs.size,[s1.heap.objs.size],_,_,H1,rfl,I1.kept (t':=s1.toks) fun b o e=>Heap.get?_push_of_some _ e,A55 a _,⟨_,Heap.get?_push_size _ rfl,rfl,rfl⟩,fun b hb=>?_,q⟩;have e:b=s1.heap.objs.size:=by simpa using hb
  subst e;exact I1.fpOk (Zv _) (I1.hok.fresh (Zv _))
 ·subst e;cases r1;obtain ⟨its,rv,p,hz⟩:=I1.tuple hq;refine wpAny_pyIter_tuple (show s1.heap.IsTuple a its.toArray from p) ?_;refine ⟨s1.heap.objs.size,[s1.heap.objs.size],_,_,H1,rfl,I1.kept (t':=s1.toks) fun b o e=>Heap.get?_push_of_some _ e,A4t a _,⟨_,Heap.get?_push_size _ rfl,rfl,rfl⟩,fun b hb=>?_,q⟩;have e:b=s1.heap.objs.size:=by simpa using hb
  subst e;exact I1.fpOk (Zv _) (I1.hok.fresh (Zv _))
def B8n {K:W.Frag} {l:Expr} {tl:TE} (h:X.K=K) (hl:PE X l tl):PI X tg l (iSq K tl):=by subst h; exact C2l hl
def C8 {K:W.Frag} (h:X.K=K) (hu:X.A.units + 64 < cLine):OpR X (compareOp .Eq) (rEqD K):=by subst h; exact B92 hu
def K7 {K:W.Frag} (h:X.K=K) (hu:X.A.units + 64 < cLine):OpR X (compareOp .NotEq) (rNeD K):=by subst h; exact B9y hu
def P6 {K:W.Frag} (h:X.K=K):SlR X (rSlL K):=by subst h; exact B3h
end
end L2
namespace Pu
open PySem L2 My Prf
def B2a (pt:PTt) (pb:PSt) (D:PEnds) (env:PEnv):Prop:=∃ Inv:Nat->PEnv->Prop,(∃ m,Inv m env)/\∀ m e,Inv m e->pt e fun b e2=>if b=true then pb ⟨fun e3=>∃ m',m' < m/\Inv m' e3,D.rt,D.nx,fun e3=>∃ m',m' < m/\Inv m' e3⟩ e2 else D.nx e2
instance rs_while {K:Frag} {tt:TT} {tb:TS} {pt:PTt} {pb:PSt} [ht:RT K tt pt] [hb:RS K tb pb]:RS K (A57 tt tb) (B2a pt pb) where
 ok:=by
  rintro c w env σ Dp D rfl E h ⟨Inv,⟨m0,i0⟩,step⟩;refine ⟨fun m σ' H'=>∃ e w',w'.H=H'/\EnvOk c w' e σ'/\Same w.F w'.F/\Inv m e,⟨m0,env,w,rfl,E,Same.refl _,i0⟩,?_⟩;rintro m σ1 _ ⟨e1,w1,rfl,E1,s1,i1⟩;refine ht.ok c w1 e1 σ1 _ _ rfl E1 (step m e1 i1) fun b e2 w2 E2 l2 q2=>?_;cases b with
  | true =>
   refine ⟨fun σ' H'=>∃ e w',w'.H=H'/\EnvOk c w' e σ'/\Same w.F w'.F/\∃ m',m' < m/\Inv m' e,fun σ' H' ⟨e,w',e1,E',s',m',hm,i'⟩=>⟨m',hm,e,w',e1,E',s',i'⟩,?_⟩;refine hb.ok c w2 e2 σ1 ⟨fun e3=>∃ m',m' < m/\Inv m' e3,Dp.rt,Dp.nx,fun e3=>∃ m',m' < m/\Inv m' e3⟩ _ rfl E2 ⟨fun e3 σ3 w3 E3 s3 n3=>⟨e3,w3,rfl,E3,s1.trans (l2.f.trans s3),n3⟩,h.rt,fun e3 σ3 w3 E3 s3 n3=>h.nx e3 σ3 w3 E3 (s1.trans (l2.f.trans s3)) n3,fun e3 σ3 w3 E3 s3 n3=>⟨e3,w3,rfl,E3,s1.trans (l2.f.trans s3),n3⟩⟩ q2
  | false=>exact h.nx e2 σ1 w2 E2 (s1.trans l2.f) q2
def Walk (c:Ct) (w1:Wd) (J:It) (xs:LP):Prop :=
 ∀ w',w'.Ok->Le c.w0 w'->Same w1.F w'.F->(∀ i,i < xs.length->J.go i w'.H)/\J.stop xs.length w'.H/\∀ i v H',J.yld i w'.H v H'->i < xs.length->∃ w2 x,w2.H=H'/\w2.Ok/\Le w' w2/\xs[i]?=some x/\Den c.K w2.F v x
class RI (K:Frag) (wi:TI) (pi:outParam PAr):Prop where
 ok:∀ (c:Ct) (w:Wd) (env:PEnv) (σ:St) (Qp:LP->PEnv->Prop) (R:It->Hpp->Prop),c.K=K->EnvOk c w env σ->pi env Qp->(∀ J xs env' w',EnvOk c w' env' σ->Lw w w'->Walk c w' J xs->Qp xs env'->R J w'.H)->wi σ w.H R
def O7 {c:Ct} {w1:Wd} {a:Addr} {vs:List V} {xs:LP} (d:DenAll c.K w1.F vs xs) (h:∀ w',w'.Ok->Le c.w0 w'->Same w1.F w'.F->SqL c.K w'.H a vs):Walk c w1 (Itl c.K a) xs:=by
 intro w' ok l s;have q:=h w' ok l s;have hl:=d.len;refine ⟨fun i hi=>⟨vs,vs[i]'(by omega),q,Zg _⟩,⟨vs,q,by omega⟩,fun i v H' y hi=>?_⟩;obtain ⟨e,y⟩:=y;obtain ⟨x,g1,g2⟩:=d.get (y vs q);exact ⟨w',x,e.symm,ok,Le.refl w',g1,Den.same s g2⟩
def A3g {c:Ct} {w1:Wd} {a:Addr} {vs:List V} {xs:LP} (d:DenAll c.K w1.F vs xs) (h:∀ w',w'.Ok->Le c.w0 w'->Same w1.F w'.F->SqT c.K w'.H a vs):Walk c w1 (Itt c.K a) xs:=by
 intro w' ok l s;have q:=h w' ok l s;have hl:=d.len;refine ⟨fun i hi=>⟨vs,vs[i]'(by omega),q,Zg _⟩,⟨vs,q,by omega⟩,fun i v H' y hi=>?_⟩;obtain ⟨e,y⟩:=y;obtain ⟨x,g1,g2⟩:=d.get (y vs q);exact ⟨w',x,e.symm,ok,Le.refl w',g1,Den.same s g2⟩
def Y0 (x:PyData) (k:LP->Prop):Prop:=match x with
 | .list xs=>k xs
 | .tuple xs=>k xs
 | _=>False
def B9h (pd:PDt) (env:PEnv) (Q:LP->PEnv->Prop):Prop:=pd env fun x e=>Y0 x fun xs=>Q xs e
instance (priority:=low) ri_sq {K:Frag} {tl:TE} {pd:PDt} [hl:RD K tl pd]:RI K (iSq K tl) (B9h pd) where
 ok:=by
  rintro c w env σ Qp R rfl E p k;refine hl.ok c w env σ _ _ rfl E p fun v x e1 w1 E1 l1 d1 q1=>?_;unfold Y0 at q1;split at q1
  ·obtain ⟨a,vs,e,h1,h2⟩:=d1.lstE;exact .inl ⟨a,e,⟨vs,E1.wok.sub.seq h1⟩,k _ _ e1 w1 E1 l1 (O7 h2 fun w' ok l s=>(s.trans ok.sub).seq h1) q1⟩
  ·obtain ⟨a,vs,e,h1,h2⟩:=d1.tupE;exact .inr ⟨a,e,⟨vs,SqT.same E1.wok.sub h1⟩,k _ _ e1 w1 E1 l1 (A3g h2 fun w' ok l s=>SqT.same (s.trans ok.sub) h1) q1⟩
  ·exact q1.elim
def A7f (i:Nat) (env:PEnv) (Q:LP->PEnv->Prop):Prop:=match env[i]? with
 | some (some (.d x))=>Y0 x fun xs=>Q xs env
 | some (some (.own xs))=>Q xs (env.set i (some (.d (.list xs))))
 | some (some (.bor xs))=>Q xs env
 | _=>False
instance ri_var {K:Frag} {i:Nat}:RI K (iSq K (tVar i)) (A7f i) where
 ok:=by
  rintro c w env σ Qp R rfl E p k;unfold A7f at p;split at p
  ·rename_i x e;obtain ⟨v,h1,h2⟩:=E.at' i _ e;refine ⟨v,h1,?_⟩;unfold Y0 at p;split at p
   ·obtain ⟨a,vs,e,g1,g2⟩:=Den.lstE h2;exact .inl ⟨a,e,⟨vs,E.wok.sub.seq g1⟩,k _ _ env w E (Lw.refl w) (O7 g2 fun w' ok l s=>(s.trans ok.sub).seq g1) p⟩
   ·obtain ⟨a,vs,e,g1,g2⟩:=Den.tupE h2;exact .inr ⟨a,e,⟨vs,SqT.same E.wok.sub g1⟩,k _ _ env w E (Lw.refl w) (A3g g2 fun w' ok l s=>SqT.same (s.trans ok.sub) g1) p⟩
   ·exact p.elim
  ·rename_i xs e;obtain ⟨w',v,e',hv,E',l,d⟩:=E.frz e;refine ⟨v,hv,?_⟩;obtain ⟨a,vs,e,g1,g2⟩:=d.lstE;have:=k _ _ _ w' E' l (O7 g2 fun w' ok l s=>(s.trans ok.sub).seq g1) p;rw [e'] at this;exact .inl ⟨a,e,⟨vs,by rw [<- e']; exact E'.wok.sub.seq g1⟩,this⟩
  ·rename_i xs e;obtain ⟨v,h1,h2⟩:=E.at' i _ e;refine ⟨v,h1,?_⟩;rcases h2 with h2 | ⟨l,vs,ev,g1,g2,g3⟩
   ·obtain ⟨a,vs,e,g1,g2⟩:=Den.lstE h2;exact .inl ⟨a,e,⟨vs,E.wok.sub.seq g1⟩,k _ _ env w E (Lw.refl w) (O7 g2 fun w' ok l s=>(s.trans ok.sub).seq g1) p⟩
   ·exact .inl ⟨l,ev,⟨vs,SqL.of (E.le0.h _ _ g1 g2)⟩,k _ _ env w E (Lw.refl w) (O7 g3 fun w' ok l' s=>SqL.of (l'.h _ _ g1 g2)) p⟩
  ·exact p.elim
def rngD (lo:Int) (n:Nat):LP:=(List.range n).map fun k:Nat=>PyData.int (lo + (k:Int))
def J9 (lo:Int) (n:Nat):(rngD lo n).length=n:=by simp [rngD]
def A3p {lo:Int} {n i:Nat} {x:PyData} (h:(rngD lo n)[i]?=some x):i < n/\x=.int (lo + (i:Int)):=by
 unfold rngD at h;rw [Zh] at h;by_cases hi:i < n
 ·rw [List.getElem?_range hi] at h; cases h; exact ⟨hi,rfl⟩
 ·rw [List.getElem?_eq_none (by simpa using hi)] at h; cases h
def A3h {c:Ct} {w1:Wd} {lo:Int} {n:Nat}:Walk c w1 (Itr lo n) (rngD lo n):=by
 intro w' ok l s;refine ⟨fun i hi=>by rw [J9] at hi; exact hi,by rw [J9]; exact Zv _,fun i v H' y hi=>?_⟩;obtain ⟨e,y⟩:=y;subst y;rw [J9] at hi;refine ⟨w',.int (lo + i),e.symm,ok,Le.refl w',?_,.int _⟩;unfold rngD;rw [Zh,List.getElem?_range hi]; rfl
def B80 (pa:PAr) (env:PEnv) (Q:LP->PEnv->Prop):Prop:=pa env fun xs e=>match xs with
 | [.int j]=>(-(2 ^ 62)<=j/\j < 2 ^ 62)/\Q (rngD 0 j.toNat) e
 | _=>False
def B8z (pa:PAr) (env:PEnv) (Q:LP->PEnv->Prop):Prop:=pa env fun xs e=>match xs with
 | [.int i,.int j]=>(-(2 ^ 62)<=i/\i < 2 ^ 62/\-(2 ^ 62)<=j/\j < 2 ^ 62)/\Q (rngD i (j - i).toNat) e
 | _=>False
instance ri_rng1 {K:Frag} {ta:TA} {pa:PAr} [ha:RAv K ta pa]:RI K (B6r ta) (B80 pa) where
 ok:=by
  rintro c w env σ Qp R rfl E p k;refine ha.ok c w env σ _ _ rfl E p fun vs xs e1 w1 E1 l1 v1 q1=>?_;split at q1
  ·cases v1 with | cons h t=>cases t; exact ⟨_,by rw [h.intE],q1.1.1,q1.1.2,k _ _ e1 w1 E1 l1 A3h q1.2⟩
  ·exact q1.elim
instance ri_rng2 {K:Frag} {ta:TA} {pa:PAr} [ha:RAv K ta pa]:RI K (B6q ta) (B8z pa) where
 ok:=by
  rintro c w env σ Qp R rfl E p k;refine ha.ok c w env σ _ _ rfl E p fun vs xs e1 w1 E1 l1 v1 q1=>?_;split at q1
  ·cases v1 with | cons h t=>cases t with | cons h' t=>cases t; exact ⟨_,_,by rw [h.intE,h'.intE],q1.1,k _ _ e1 w1 E1 l1 A3h q1.2⟩
  ·exact q1.elim
def A1q (xs:LP) (pg:PyData->PEnv->(PEnv->Prop)->Prop) (pb:PSt) (D:PEnds) (env:PEnv):Prop :=
 ∃ Inv:Nat->PEnv->Prop,Inv 0 env/\(∀ i x e,xs[i]?=some x->Inv i e->pg x e fun e2=>pb ⟨Inv (i + 1),D.rt,D.nx,Inv (i + 1)⟩ e2)/\∀ e,Inv xs.length e->D.nx e
def pFor (pi:PAr) (pg:PyData->PEnv->(PEnv->Prop)->Prop) (pb:PSt) (D:PEnds) (env:PEnv):Prop:=pi env fun xs e=>A1q xs pg pb D e
instance rs_for {K:Frag} {wi:TI} {g:TG} {tb:TS} {pi:PAr} {pg:PyData->PEnv->(PEnv->Prop)->Prop} {pb:PSt} [hi:RI K wi pi] [hg:RG K g pg] [hb:RS K tb pb]:RS K (tFor wi g tb) (pFor pi pg pb) where
 ok:=by
  rintro c w env σ Dp D rfl E h p;refine hi.ok c w env σ _ _ rfl E p fun J xs e1 w1 E1 l1 wk ⟨Iv,i0,step,fin⟩=>?_;refine ⟨fun i m σ' H'=>m=xs.length - i/\i<=xs.length/\∃ e w',w'.H=H'/\EnvOk c w' e σ'/\Same w1.F w'.F/\Iv i e,⟨xs.length,rfl,Nat.zero_le _,e1,w1,rfl,E1,Same.refl _,i0⟩,?_⟩;rintro i m σ2 _ ⟨rfl,hle,e2,w2,rfl,E2,s2,i2⟩;obtain ⟨go,stop,yld⟩:=wk w2 E2.wok E2.le0 s2;by_cases hlt:i < xs.length
  ·refine .inr ⟨go i hlt,fun σ' H'=>i + 1<=xs.length/\∃ e w',w'.H=H'/\EnvOk c w' e σ'/\Same w1.F w'.F/\Iv (i + 1) e,fun σ' H' ⟨q0,q⟩=>⟨xs.length - (i + 1),by omega,rfl,q0,q⟩,fun v H' y=>?_⟩;obtain ⟨w2',x,rfl,ok2,le2,hx,dx⟩:=yld i v H' y hlt;replace E2:=E2.mono ok2 le2;replace s2:=s2.trans le2.f;clear yld go stop y le2 ok2;generalize w2'=w2 at E2 s2 dx;refine hg.ok c w2 e2 σ2 v x _ _ rfl E2 dx (step i x e2 hx i2) fun e3 σ3 E3 q3=>?_;refine hb.ok c w2 e3 σ3 ⟨Iv (i + 1),Dp.rt,Dp.nx,Iv (i + 1)⟩ _ rfl E3 ⟨fun e4 σ4 w4 E4 s4 n4=>⟨hlt,e4,w4,rfl,E4,s2.trans s4,n4⟩,h.rt,fun e4 σ4 w4 E4 s4 n4=>h.nx e4 σ4 w4 E4 (l1.f.trans (s2.trans s4)) n4,fun e4 σ4 w4 E4 s4 n4=>⟨hlt,e4,w4,rfl,E4,s2.trans s4,n4⟩⟩ q3
  ·have e:i=xs.length:=by omega
   subst e;exact .inl ⟨stop,h.nx e2 σ2 w2 E2 (l1.f.trans s2) (fin e2 i2)⟩
def U2 {lo:Int} {n:Nat} {pg:PyData->PEnv->(PEnv->Prop)->Prop} {pb:PSt} {D:PEnds} {env:PEnv} (Inv:Nat->PEnv->Prop) (h0:Inv 0 env)
  (hs:∀ (i:Nat) e,i < n->Inv i e->pg (.int (lo + (i:Int))) e fun e2=>pb ⟨Inv (i + 1),D.rt,D.nx,Inv (i + 1)⟩ e2) (hd:∀ e,Inv n e->D.nx e):A1q (rngD lo n) pg pb D env :=
 ⟨Inv,h0,fun i x e hx hi=>by obtain ⟨h1,rfl⟩:=A3p hx; exact hs i e h1 hi,fun e h=>hd e (by rwa [J9] at h)⟩
def B6y {xs:LP} {pg:PyData->PEnv->(PEnv->Prop)->Prop} {pb:PSt} {D:PEnds} {env:PEnv} (Inv:Nat->PEnv->Prop) (h0:Inv 0 env)
  (hs:∀ (i:Nat) x e,xs[i]?=some x->Inv i e->pg x e fun e2=>pb ⟨Inv (i + 1),D.rt,D.nx,Inv (i + 1)⟩ e2) (hd:∀ e,Inv xs.length e->D.nx e):A1q xs pg pb D env:=⟨Inv,h0,hs,hd⟩
def SV.lent:SV->Option SV
 | .own xs=>some (.bor xs)
 | .tr _=>none
 | .bt _=>none
 | .dk _=>none
 | .dl _ _=>none
 | s=>some s
def L5 (cap:List (Option Nat)) (env:PEnv):PEnv:=cap.map fun o=>o.bind fun j=>(env[j]?).join.bind SV.lent
def EnvOk.writeZ {c:Ct} {w:Wd} {env:PEnv} {σ:St} {l:Addr} {us:List V} (E:EnvOk c w env σ) (z:c.Z l) (h4:c.w0.H l=none):EnvOk c ⟨w.M,upd w.H l (.lst us),w.F⟩ env σ:=by
 obtain ⟨h2,h1,h3⟩:=E.zf l z;have ne:∀ b,w.M b->b≠l:=fun b hb z=>h3 (z ▸ hb);refine ⟨⟨fun b o q=>?_,fun p hp=>(E.wok.st p hp).kp (ne p hp) Kp.upd,E.wok.nf⟩,⟨⟨E.le0.f,fun b o q n=>?_,E.le0.m,E.le0.mn,fun b q=>E.le0.dom b (M8 q)⟩,E.le0.n⟩,E.len,fun j s q=>?_,E.own,fun a za=>?_,E.zo⟩
 ·show upd w.H l (.lst us) b=some o;rw [C4 (fun z=>by rw [z,h2] at q; cases q)]; exact E.wok.sub b o q
 ·show upd w.H l (.lst us) b=some o;rw [C4 (fun z=>by rw [z,h4] at q; cases q)]; exact E.le0.h b o q n
 ·obtain ⟨v,g1,g2⟩:=E.at' j s q;exact ⟨v,g1,g2.writ h1 (E.zo l j s v z q g1)⟩
 ·obtain ⟨z1,z2,z3⟩:=E.zf a za;exact ⟨z1,fun q=>z2 (M8 q),z3⟩
def EnvOk.cap {c:Ct} {w:Wd} {env:PEnv} {σ:St} {D:Addr} (cap:List (Option Nat)) (E:EnvOk c w env σ) (hD:w.H D=none):EnvOk ⟨c.K,w,fun a=>a=D⟩ (w.lay D (.lst [])) (L5 cap env) (capσ cap σ):=by
 have nown:∀ (i:Nat) s v a,(L5 cap env)[i]?=some (some s)->¬ s.foot v a:=fun i s0 v a q f=>by
  unfold L5 at q;rw [Zh] at q;cases hc:cap[i]? with
  | none=>rw [hc] at q; cases q
  | some o =>
   rw [hc] at q;cases o with
   | none=>cases q
   | some j =>
    have q':((env[j]?).join.bind SV.lent)=some s0:=Zj q;cases hj:(env[j]?).join with
    | none=>rw [hj] at q'; cases q'
    | some s=>rw [hj] at q'; cases s <;> cases q' <;> exact f
 refine ⟨Wd.lay_ok E.wok hD,Wd.lay_le hD,by simp [L5,capσ],fun i s q=>?_,fun i j s t v u a q _ _ _ f=>absurd f (nown i s v a q),fun a za=>?_,fun a j t u _ q _=>nown j t u a q⟩
 ·unfold L5 at q;unfold capσ;rw [Zh] at q ⊢;cases hc:cap[i]? with
  | none=>rw [hc] at q; cases q
  | some o =>
   rw [hc] at q;cases o with
   | none=>cases q
   | some j =>
    have q':((env[j]?).join.bind SV.lent)=some s:=Zj q;cases hj:env[j]? with
    | none=>rw [hj] at q'; cases q'
    | some t =>
     rw [hj] at q';cases t with
     | none=>cases q'
     | some s0 =>
      have q2:s0.lent=some s:=q';obtain ⟨v,h1,h2⟩:=E.at' j s0 hj;refine ⟨v,by simp [h1],?_⟩;cases s0 with
      | d x=>cases q2; exact h2
      | own xs=>cases q2; obtain ⟨l,vs,e,g1,g2,g3,g4,g5⟩:=h2; exact .inr ⟨l,vs,e,g1,g3,g5⟩
      | bor xs =>
       cases q2;rcases h2.vv E.le0 with g | ⟨l,vs,ys,e,e',g1,g2,g3⟩
       ·exact .inl g
       ·cases e'; exact .inr ⟨l,vs,e,g1,g2,g3⟩
      | st=>cases q2; exact h2
      | tr t=>cases q2
      | bt t=>cases q2
      | al t=>cases q2; exact h2
      | dk t=>cases q2
      | dl t u=>cases q2
 ·have e:a=D:=za;subst e;exact ⟨E.wok.fnone hD,by show upd w.H a (.lst []) a≠none; rw [B7]; simp,fun z=>E.wok.mne hD z rfl⟩
def Walk.up {c:Ct} {w:Wd} {J:It} {xs:LP} (h:Walk c w J xs) (l:Le c.w0 w):Walk ⟨c.K,w,c.Z⟩ w J xs:=fun w' ok l' s=>h w' ok (l.trans l') s
def Q6 (xs:LP) (pg:PyData->PEnv->(PEnv->Prop)->Prop) (pt:PTt) (pd:PDt) (e0:PEnv) (Fin:LP->Prop):Prop :=
 ∃ Pv:Nat->PEnv->LP->Prop,Pv 0 e0 []/\(∀ i x e ys,xs[i]?=some x->Pv i e ys->pg x e fun e2=>pt e2 fun b e3=>if b=true then pd e3 fun y e4=>Pv (i + 1) e4 (ys++[y]) else Pv (i + 1) e3 ys)/\∀ e ys,Pv xs.length e ys->Fin ys
def A8t {K:Frag} {g:TG} {tt:TT} {te:TE} {pg:PyData->PEnv->(PEnv->Prop)->Prop} {pt:PTt} {pd:PDt} [hg:RG K g pg] [ht:RT K tt pt] [he:RD K te pd] {c:Ct} {w:Wd} {env:PEnv} {σ:St} {J:It} {xs:LP} {cap:List (Option Nat)} {D:Addr} {Fp:LP->Prop} {Fin:Hpp->Prop}
  (hK:c.K=K) (E:EnvOk c w env σ) (wk:Walk ⟨c.K,w,c.Z⟩ w J xs) (hn:xs.length < 1000000) (p:Q6 xs pg pt pd (L5 cap env) Fp) (hD:w.H D=none) (k:∀ w' ys,Res c w env σ w' (.ref D) (.own ys)->Fp ys->Fin w'.H):A18 J g tt te D Fin (capσ cap σ) w.H:=by
 subst hK;obtain ⟨Pv,p0,step,fin⟩:=p;have hw0:c.w0.H D=none:=E.le0.dom D hD;refine ⟨fun i m σ' H' vs=>m=xs.length - i/\i<=xs.length/\∃ e w' ys,w'.H=H'/\EnvOk ⟨c.K,w,fun a=>a=D⟩ w' e σ'/\w'.H D=some (.lst vs)/\vs.length<=i/\DenAll c.K w'.F vs ys/\Pv i e ys,
  ⟨xs.length,rfl,Nat.zero_le _,L5 cap env,w.lay D (.lst []),[],rfl,E.cap cap hD,B7,Zv _,.nil,p0⟩,?_⟩
 rintro i m σ1 _ vs ⟨rfl,hle,e1,w1,ys,rfl,E1,h1,hvl,d1,q1⟩;refine ⟨h1,Y7 (by omega),?_⟩;obtain ⟨go,stop,yld⟩:=wk w1 E1.wok E1.le0 E1.le0.f;by_cases hlt:i < xs.length
 ·refine .inr ⟨go i hlt,fun v H' y=>?_⟩;obtain ⟨w1',x,rfl,ok1',le1,hx,dx⟩:=yld i v H' y hlt;replace h1:=le1.h _ _ h1 (E1.zf D rfl).2.2;replace E1:=E1.mono ok1' le1;replace d1:=DenAll.same le1.f d1;clear yld go stop y le1 ok1';generalize w1'=w1 at E1 h1 d1 dx;refine hg.ok ⟨c.K,w,fun a=>a=D⟩ w1 e1 σ1 v x _ _ rfl E1 dx (step i x e1 ys hx q1) fun e2 σ2 E2 q2=>?_;refine ht.ok ⟨c.K,w,fun a=>a=D⟩ w1 e2 σ2 _ _ rfl E2 q2 fun b e3 w3 E3 l3 q3=>?_;have nm:=(E2.zf D rfl).2.2;have h3:=l3.h _ _ h1 nm;cases b with
  | true =>
   refine he.ok ⟨c.K,w,fun a=>a=D⟩ w3 e3 σ2 _ _ rfl E3 q3 fun y' y e4 w4 E4 l4 d4 q4=>?_;have h4:=l4.h _ _ h3 (E3.zf D rfl).2.2;refine ⟨vs,h4,Y7 (by omega),xs.length - (i + 1),by omega,rfl,hlt,e4,⟨w4.M,upd w4.H D (.lst (vs++[y'])),w4.F⟩,ys++[y],rfl,E4.writeZ rfl hD,B7,by rw [Ze]; simp; exact hvl,(DenAll.same (l3.f.trans l4.f) d1).app (.cons d4 .nil),q4⟩
  | false =>
   exact ⟨xs.length - (i + 1),by omega,rfl,hlt,e3,w3,ys,rfl,E3,h3,by omega,DenAll.same l3.f d1,q3⟩
 ·have e:i=xs.length:=by omega
  subst e;obtain ⟨z1,z2,z3⟩:=E1.zf D rfl;refine .inl ⟨stop,k w1 ys ⟨E.mono E1.wok E1.le0,E1.le0.toLw,⟨D,vs,rfl,h1,z1,z3,hw0,d1⟩,fun a f=>?_,rfl⟩ (fin e1 ys q1)⟩;have:V.ref D=.ref a:=f;cases this;exact E.fresh hD
def B9q (pi:PAr) (pg:PyData->PEnv->(PEnv->Prop)->Prop) (pt:PTt) (pd:PDt) (cap:List (Option Nat)) (env:PEnv) (Q:SV->PEnv->Prop):Prop:=pi env fun xs e=>xs.length < 1000000/\Q6 xs pg pt pd (L5 cap e) fun ys=>Q (.own ys) e
instance re_comp {K:Frag} {wi:TI} {g:TG} {tt:TT} {te:TE} {cap:List (Option Nat)} {pi:PAr} {pg:PyData->PEnv->(PEnv->Prop)->Prop} {pt:PTt} {pd:PDt} [hi:RI K wi pi] [hg:RG K g pg] [ht:RT K tt pt] [he:RD K te pd]:RE K (B3a wi g tt te cap) (B9q pi pg pt pd cap) where
 ok:=by
  rintro c w env σ Qp Q rfl E p k;refine hi.ok c w env σ _ _ rfl E p fun J xs e1 w1 E1 l1 wk ⟨hn,q⟩ D hD=>?_;exact A8t (pg:=pg) (pt:=pt) (pd:=pd) rfl E1 (wk.up E1.le0) hn q hD fun w' ys R q'=>k _ _ e1 w' (R.pre l1) q'
def A30 (pi:PAr) (pg:PyData->PEnv->(PEnv->Prop)->Prop) (pt:PTt) (pd:PDt) (cap:List (Option Nat)) (i:Nat) (D:PEnds) (env:PEnv):Prop:=pi env fun xs e=>xs.length < 1000000/\Q6 xs pg pt pd (L5 cap e) fun ys=>D.nx (e.set i (some (.own ys)))
instance rs_setComp {K:Frag} {wi:TI} {g:TG} {tt:TT} {te:TE} {cap:List (Option Nat)} {i:Nat} {pi:PAr} {pg:PyData->PEnv->(PEnv->Prop)->Prop} {pt:PTt} {pd:PDt} [hi:RI K wi pi] [hg:RG K g pg] [ht:RT K tt pt] [he:RD K te pd]:RS K (R6 wi g tt te cap i) (A30 pi pg pt pd cap i) where
 ok:=by
  rintro c w env σ Dp D rfl E h p;refine hi.ok c w env σ _ _ rfl E p fun J xs e1 w1 E1 l1 wk ⟨hn,q⟩ l hl=>?_;exact A8t (pg:=pg) (pt:=pt) (pd:=pd) rfl E1 (wk.up E1.le0) hn q hl fun w' ys R q'=>h.nx _ _ w' (R.ev.set R.val R.new) (l1.f.trans R.lw.f) q'
class RP (K:Frag) (to:TO) (po:outParam (PEnv->(Option Int->PEnv->Prop)->Prop)):Prop where
 ok:∀ (c:Ct) (w:Wd) (env:PEnv) (σ:St) (Qp:Option Int->PEnv->Prop) (Q:Option Int->Hpp->Prop),c.K=K->EnvOk c w env σ->po env Qp->(∀ o env' w',EnvOk c w' env' σ->Lw w w'->Qp o env'->Q o w'.H)->to σ w.H Q
def A7d (env:PEnv) (Q:Option Int->PEnv->Prop):Prop:=Q none env
def asI (x:PyData) (k:Int->Prop):Prop:=match x with
 | .int i=>k i
 | _=>False
def B81 (pa:PDt) (env:PEnv) (Q:Option Int->PEnv->Prop):Prop:=pa env fun x e=>asI x fun i=>Q (some i) e
instance rp_no {K:Frag}:RP K A2o A7d:=⟨fun c w env σ Qp Q _ E p k=>k none env w E (Lw.refl w) p⟩
instance rp_part {K:Frag} {te:TE} {pa:PDt} [ha:RW K te pa]:RP K (B25 te) (B81 pa) where
 ok:=by
  rintro c w env σ Qp Q rfl E p k;refine ha.ok c w env σ _ _ rfl E p fun x dx e1 w1 E1 l1 v1 q1=>?_;unfold asI at q1;split at q1
  ·exact ⟨_,v1.intE,k _ e1 w1 E1 l1 q1⟩
  ·exact q1.elim
def cutD (xs:LP) (lo hi:Option Int):LP:=(xs.drop (HT.sIx xs.length 0 lo)).take (HT.sIx xs.length xs.length hi - HT.sIx xs.length 0 lo)
def pSlL (pa:PDt) (pl ph:PEnv->(Option Int->PEnv->Prop)->Prop) (env:PEnv) (Q:SV->PEnv->Prop):Prop:=pa env fun x e=>asL x fun xs=>pl e fun lo e1=>ph e1 fun hi e2=>Q (.own (cutD xs lo hi)) e2
instance re_sl {K:Frag} {te:TE} {tl th:TO} {pa:PDt} {pl ph:PEnv->(Option Int->PEnv->Prop)->Prop} [ha:RW K te pa] [hl:RP K tl pl] [hh:RP K th ph]:RE K (tSl (rSlL K) te tl th) (pSlL pa pl ph) where
 ok:=by
  rintro c w env σ Qp Q rfl E p k;refine ha.ok c w env σ _ _ rfl E p fun x dx e1 w1 E1 l1 v1 q1=>?_;unfold asL at q1;split at q1
  ·rename_i xs;refine hl.ok c w1 e1 σ _ _ rfl E1 q1 fun lo e2 w2 E2 l2 q2=>?_;refine hh.ok c w2 e2 σ _ _ rfl E2 q2 fun hi e3 w3 E3 l3 q3=>?_;obtain ⟨a,vs,e,g1,g2⟩:=((v1.mono l2).mono l3).lst E3.wok;refine ⟨a,vs,e,g1,fun p hp=>k _ _ e3 _ ((Res.lst E3 hp (xs:=cutD xs lo hi) ?_).pre (l1.trans (l2.trans l3))) q3⟩;unfold cutV cutD;rw [g2.len];exact (g2.drop _).take _
  ·exact q1.elim
theorem L7 {K:Frag} {w:Wd}:∀ {md:List Md} {vs:List V} {as:List SV},Args K w md vs as->as.length=vs.length/\∀ (i:Nat) s,as[i]?=some s->(∃ v,vs[i]?=some v/\VR ⟨K,w,noZ⟩ w v s)/\∀ u a,¬ s.foot u a
 | _,_,_,.nil=>⟨rfl,fun i s h=>by simp at h⟩
 | _,_,_,.dat h t=>⟨by simp [(L7 t).1],fun i s e=>match i,e with
  | 0,e=>by simp at e; subst e; exact ⟨⟨_,rfl,h⟩,fun _ _ z=>z⟩
  | i + 1,e=>by simpa using (L7 t).2 i s (by simpa using e)⟩
 | _,_,_,.vw h t=>⟨by simp [(L7 t).1],fun i s e=>match i,e with
  | 0,e=>by
   simp at e; subst e;refine ⟨⟨_,rfl,?_⟩,fun _ _ z=>z⟩;rcases h with h | ⟨l,vs,ys,e1,e2,h1,h2,h3⟩
   ·exact .inl h
   ·cases e2; exact .inr ⟨l,vs,e1,h1,h2,h3⟩
  | i + 1,e=>by simpa using (L7 t).2 i s (by simpa using e)⟩
 | _,_,_,.bt h t=>⟨by simp [(L7 t).1],fun i s e=>match i,e with
  | 0,e=>by simp at e; subst e; exact ⟨⟨_,rfl,h⟩,fun _ _ z=>z⟩
  | i + 1,e=>by simpa using (L7 t).2 i s (by simpa using e)⟩
 | _,_,_,.st h t=>⟨by simp [(L7 t).1],fun i s e=>match i,e with
  | 0,e=>by simp at e; subst e; exact ⟨⟨_,rfl,h⟩,fun _ _ z=>z⟩
  | i + 1,e=>by simpa using (L7 t).2 i s (by simpa using e)⟩
def G5 {K:Frag} {ts:TS} {ps:PSt} [hs:RS K ts ps] {md:List Md} {psp:PSp} {vs:List V} {H:Hpp} {Q:VK} {E:XK} {N:List Str} (h:spOf K md psp vs H Q E)
  (hb:∀ as Qp,psp as Qp->ps ⟨fun _=>Qp (.d .none),fun s _=>Qp s,fun _=>False,fun _=>False⟩ (as.map some++List.replicate (N.length - md.length) none)):ts { nx:=fun _ H'=>Q .non H',rt:=Q } (L2.start N vs) H:=by
 obtain ⟨w,as,Qp,rfl,ok,a,p,k⟩:=h;obtain ⟨hl,hat⟩:=L7 a;have look:∀ (i:Nat) s,(as.map some++List.replicate (N.length - md.length) none)[i]?=some (some s)->as[i]?=some s:=fun i s e=>by
  rw [List.getElem?_append] at e;split at e
  ·rw [Zh] at e;cases q:as[i]? with
   | none=>rw [q] at e; cases e
   | some t=>rw [q] at e; cases e; rfl
  ·rw [List.getElem?_replicate] at e;split at e <;> cases e
 refine hs.ok ⟨K,w,noZ⟩ w (as.map some++List.replicate (N.length - md.length) none) (L2.start N vs) _ _ rfl ⟨ok,Le.refl w,by simp [L2.start,hl,a.len],fun i s e=>?_,fun i j s t v u a e _ _ _ f=>absurd f ((hat i _ (look i _ e)).2 v a),fun a z=>z.elim,fun a j t u z=>z.elim⟩ ⟨fun env σ w' E' _ q=>?_,fun v s _ _ w' E' h r q=>k v s w' E'.wok E'.le0 h r q,fun _ _ _ _ _ z=>z,fun _ _ _ _ _ z=>z⟩ (hb as Qp p)
 ·obtain ⟨⟨v,h1,h2⟩,_⟩:=hat i s (look i s e);refine ⟨v,?_,h2⟩;unfold L2.start;rw [List.getElem?_append_left (by rw [Zl]; exact (Zs h1).1),Zh,h1]; rfl
 ·exact k .non (.d .none) w' E'.wok E'.le0 (show Den _ _ _ _ from .non) rfl q
def pLaw:PSp:=fun as Q=>∃ ns:List Int,as=[.bor (ns.map .int)]/\ns.length<=63/\Q (.d (.bool true))
def A8o {K:Frag} {F:Hpp}:∀ ns:List Int,DenAll K F (ns.map V.int) (ns.map .int)
 | []=>.nil
 | n :: r=>.cons (.int n) (A8o r)
theorem B42 {q:Rat} {Q:SV->Prop}:pIx (dq q) (.int 0) Q=Q (.d (.int q.num)):=rfl
theorem B41 {q:Rat} {Q:SV->Prop}:pIx (dq q) (.int 1) Q=Q (.d (.int (q.den:Int))):=rfl
theorem B56 {i:Int}:(PyData.int i).canLay0=true:=rfl
theorem B66 {i:Int}:(PyData.int i).depth=0:=rfl
theorem B64 {s:Str}:(PyData.str s).depth=0:=rfl
theorem C0w {q:Rat}:(dq q).canLay0=true:=rfl
theorem C1z {q:Rat}:(dq q).depth=1:=rfl
theorem X2 {i j:Int}:PyData.eqv (.int i) (.int j)=decide (i=j):=by
 show (i == j)=_;by_cases h:i=j <;> simp [h]
def B3l {p q:Rat} (h1:p.num=q.num) (h2:(p.den:Int)=q.den):p=q:=Rat.ext h1 (by omega)
theorem C1t {p q:Rat}:PyData.eqv (dq p) (dq q)=decide (p=q):=by
 show (PyData.eqv (.int p.num) (.int q.num) && (PyData.eqv (.int (p.den:Int)) (.int (q.den:Int)) && true))=_;rw [X2,X2,Bool.and_true];by_cases h:p=q
 ·subst h; simp
 ·rw [Zd h];by_cases h1:p.num=q.num
  ·have h2:¬ (p.den:Int)=(q.den:Int):=fun z=>h (B3l h1 z);rw [Zd h2,Bool.and_false]
  ·rw [Zd h1,Bool.false_and]
theorem B2t:PyData.tuple [.int 0,.int 1]=dq 0:=rfl
theorem B7r {q:Rat}:tyD (dq q)="tuple":=rfl
def C1c:kitB "bool" "bool"=some true:=by ext
def C08:kitB "int" "int"=some true:=by ext
def C1b:kitB "bool" "int"=some true:=by ext
def C02:kitB "str" "str"=some true:=by ext
def C06:kitB "list" "list"=some true:=by ext
def C05:kitB "list" "tuple"=some false:=by ext
def C00:kitB "tuple" "list"=some false:=by ext
def C01:kitB "tuple" "bool"=some false:=by ext
def C03:kitB "NoneType" "tuple"=some false:=by ext
def A8d {K:Frag} {F:Hpp}:∀ {vs:List V} {ns:List Int},DenAll K F vs (ns.map .int)->vs=ns.map V.int
 | _,[],.nil=>rfl
 | _,n :: r,.cons h t=>by rw [h.intE,A8d t]; rfl
def A6u:PSp:=fun as Q=>∃ n:Int,as=[.st,.d (.int n)]/\0 < n/\Sm 4000 n/\∀ d:Int,0<=d->d < n->Q (.d (.int d))
def B22 {K:Frag}:∀ vs H Q E,spOf K [.st,.dat] A6u vs H Q E->A6c vs H Q E:=by
 rintro vs H Q E ⟨w,as,Qp,rfl,ok,a,⟨n,rfl,n0,sn,q⟩,k⟩;cases a with
 | st h t=>cases t with
  | dat h' t =>
   cases t;obtain ⟨p,e,hm⟩:=h;subst e;rw [Den.intE h'];refine ⟨p,n,rfl,ok.st p hm,n0,sn,fun d H' d0 d1 S' kp=>?_⟩;have out:∀ b o,w.H b=some o->b≠p->H' b=some o:=fun b o e ne=>kp b o ne e;have pn:=ok.nf p hm;refine k (.int d) (.d (.int d)) ⟨w.M,H',w.F⟩ ⟨fun b o e=>out b o (ok.sub b o e) (fun z=>by rw [z,pn] at e; cases e),fun r hr=>?_,ok.nf⟩ ⟨⟨Same.refl _,fun b o e nb=>out b o e (fun z=>nb (z ▸ hm)),fun _ z=>z,fun _ z=>.inl z,fun b e=>?_⟩,fun _ _ z=>.inl z⟩ (Den.int d) rfl (q d d0 d1)
   ·by_cases z:r=p
    ·subst z; exact S'
    ·exact (ok.st r hr).kp z kp
   ·cases hb:w.H b with
    | none=>rfl
    | some o =>
     by_cases z:b=p
     ·subst z; obtain ⟨_,_,_,hp,_⟩:=S'.ex; rw [show H' b=none from e] at hp; cases hp
     ·have:=out b o hb z; rw [show H' b=none from e] at this; cases this
def B8m:PSp:=fun as Q=>∃ a b:Int,as=[.d (.int a),.d (.int b)]/\Q (.d (.int ((Int.gcd a b:Nat):Int)))
def B3w:PSp:=fun as Q=>∃ t b:Int,as=[.d (.int t),.d (.int b)]/\0 < b/\Sm 8000 t/\Sm 8000 b/\Q (.d (dq (Rat.divInt t b)))
def A1l (f:Rat->Rat->Rat):PSp:=fun as Q=>∃ p q:Rat,as=[.d (dq p),.d (dq q)]/\SmQ 3900 p/\SmQ 3900 q/\Q (.d (dq (f p q)))
def A6w:PSp:=fun as Q=>∃ p q:Rat,as=[.d (dq p),.d (dq q)]/\SmQ 3900 p/\SmQ 3900 q/\Q (.d (.bool (decide (p < q))))
def A6y:PSp:=fun as Q=>∃ (pl:Bool) (le:Int),as=[.st,.d (.bool pl),.d (.int le)]/\(le=0\/le=1)/\∀ q:Rat,0<=q->(le=1->0 < q)->SmR 41 6 q->(pl=true->SmR 3 1 q/\q.den=1)->Q (.d (dq q))
end Pu
namespace L2
open PySem PySem.Spec PyProof.Rows
section
variable {X:Cx} {tg:Expr}
def B78 (K:W.Frag):R2:=fun x y H Q=>∃ l b xs zs,x=.ref l/\y=.ref b/\SqL K H l xs/\SqL K H b zs/\xs.length + zs.length<=sizeLine/\∀ p,H p=none->Q (.ref p) (upd H p (.lst (xs++zs)))
def O0 {K:W.Frag} (hK:X.K=K):OpR X (binaryOp .Add) (B78 K):=by
 subst hK;intro pins s σ H x y v u Q I rx ry h;obtain ⟨l,b,xs,zs,rfl,rfl,hH,hB,hz,q⟩:=h;cases rx;cases ry;obtain ⟨its,r,hl,z⟩:=I.list hH;obtain ⟨its2,r2,hl2,z2⟩:=I.list hB;have n1:=r.length;have n2:=r2.length;obtain ⟨⟨k1,dd,da,sl⟩,m1,ho,e1,e2,e3⟩:=hl;obtain ⟨⟨k2,dd2,da2,sl2⟩,m2,ho2,e4,e5,e6⟩:=hl2;dsimp only at e1 e2 e3 e4 e5 e6;subst e1 e2 e3 e4 e5 e6;refine concat_meets ⟨_,ho,rfl⟩ ⟨_,ho2,rfl⟩ noFill_list_add seq_list_add F.slot_list_add F.entry_list_add (F.args_list_add_2 _ _) (list_addW l b its.toArray its2.toArray m1 m2 none none sl sl2 (by rw [List.size_toArray,List.size_toArray]; omega)) ⟨ho,ho2,?_⟩;rw [show its.toArray++its2.toArray=(its++its2).toArray by simp];exact ⟨.ref _,_,I.lnew (t':=s.toks) (r.append r2) (by rw [Ze]; omega),rfl,q _ I.fresh⟩
def rAll (K:W.Frag):List V->Hp->VK->Prop:=fun xs H Q=>∃ (p:Addr) (bs:List Bool),xs=[.ref p]/\SqL K H p (bs.map V.bl)/\Q (.bl (bs.all id)) H
def B7a {bs:List Bool}:∀ {us:List Value},Vals (bs.map V.bl) us->us=bs.map Value.bool:=by
 induction bs with
 | nil=>intro us h; cases h; rfl
 | cons b r ih =>
  intro us h;cases h with
  | cons h t=>rw [ih t,show _=Value.bool b from h]; rfl
def A6j (bs:List Bool):(List.range bs.length).all (fun i=>bs.getD i false)=bs.all id:=by
 rw [Bool.eq_iff_iff,List.all_eq_true,List.all_eq_true];constructor
 ·intro h b hb;obtain ⟨i,hi,e⟩:=List.mem_iff_getElem.mp hb;have:=h i (List.mem_range.mpr hi);rw [List.getD_eq_getElem?_getD,Zg hi,e] at this;exact this
 ·intro h i hi;have hi:=List.mem_range.mp hi;rw [List.getD_eq_getElem?_getD,Zg hi];exact h _ (List.getElem_mem hi)
def B2v {pins:List (Addr × Obj)} {σ:St} {H:Hp} {s:Shared} {p:Addr} {bs:List Bool} (hc:X.calm=true) (I:Inv X pins σ H s) (hS:SqL X.K H p (bs.map V.bl)) {A:Around} (hA:A.handled=none) {Qf:Bool->Value->Shared->Prop} {E:Value->Shared->Prop} {g:(Nat->Bool)->Nat->Bool}
  (hQ:∀ h' tk,Inv X pins σ H { s with heap:=h',toks:=tk }->Qf (g (fun i=>bs.getD i false) bs.length) (.bool (g (fun i=>bs.getD i false) bs.length)) { s with heap:=h',toks:=tk }) :
  wpAny (model X.prog X.w) A (pyIter (.ref p)) (fun it s₂=>∃ J fp wr n P St tr,it=.ref J/\Walks X.prog X.w A J fp wr n P St/\St 0 s₂.heap/\TruthOf X.prog X.w A P tr /\
   ∀ h' tk,(∀ b o,b ∉ wr->s₂.heap.get? b=some o->h'.get? b=some o)->Qf (g tr n) (.bool (g tr n)) { s₂ with heap:=h',toks:=tk }) E s:=by
 obtain ⟨its,r,hl,z⟩:=I.list hS;have e:=B7a r;refine wpAny_pyIter_list hl.isList ?_;have hne:p≠s.heap.objs.size:=by
  obtain ⟨o,_,ho,_⟩:=hl;exact Nat.ne_of_lt (Heap.lt_size ho)
 have W:=Walks.list (prog:=X.prog) (w:=X.w) (A:=A) hA s.heap.objs.size p hne its.toArray;have hn:its.toArray.size=bs.length:=by rw [List.size_toArray,e,Zl]
 rw [hn] at W;refine ⟨s.heap.objs.size,_,_,_,_,_,fun i=>bs.getD i false,rfl,W,⟨⟨_,Heap.get?_push_size _ rfl,rfl,rfl⟩,hl.isList.push _⟩,fun i v s' Q' E' hP q=>?_,fun h' tk hk=>hQ h' tk ?_⟩
 ·dsimp only at hP;rw [List.getElem?_toArray,e,Zh] at hP;cases hb:bs[i]? with
  | none=>rw [hb] at hP; cases hP
  | some b =>
   rw [hb] at hP; cases hP;refine wpAny_truthy_bool ?_;dsimp only at q;rw [List.getD_eq_getElem?_getD,hb] at q;exact q
 ·have I1:Inv X pins σ H { s with heap:=s.heap.push { cls:=.type "list_iterator",data:=.fields #[.ref p,.int 0 0] } }:=I.kept (t':=s.toks) fun b o e=>Heap.get?_push_of_some _ e;have f:=I.fpOk (H':=H) (Zv s.heap.objs.size) I.fresh;exact I1.turned (t':=tk) (fun b o hb e=>hk b o (fun z=>hb (Zn z)) e) f.1 f.2.1 f.2.2.2.1 f.2.2.2.2.1 f.2.2.2.2.2
def A80 {K:W.Frag} (hK:X.K=K) (hc:X.calm=true:=by rfl):CallR X (.builtin "all") (rAll K):=by
 subst hK;intro pins s σ H xs us Q I r h;obtain ⟨p,bs,rfl,hS,q⟩:=h;cases r with
 | cons r rr =>
  cases rr;cases r;refine call_all_walk (B2v hc I hS (A:=X.A.in1) (I.ok.hd hc) (g:=fun tr n=>(List.range n).all tr) (Qf:=fun _=>EP X pins σ Q) fun h' tk I'=>⟨.bl _,H,I',rfl,?_⟩);rw [A6j]; exact q
end
end L2
namespace Pu
open PySem L2 My Prf
def dwnD (lo:Int) (n:Nat):LP:=(List.range n).map fun k:Nat=>PyData.int (lo - (k:Int))
def C3r (pa:PAr) (env:PEnv) (Q:LP->PEnv->Prop):Prop:=pa env fun xs e=>match xs with
 | [.int i,.int j,.int k]=>k=-1/\((-(2 ^ 61)<=i/\i < 2 ^ 61)/\-(2 ^ 61)<=j/\j < 2 ^ 61)/\Q (dwnD i (i - j).toNat) e
 | _=>False
def pCat (x y:PyData) (Q:SV->Prop):Prop:=match x,y with
 | .list xs,.list ys=>xs.length + ys.length<=1000000/\Q (.own (xs++ys))
 | _,_=>False
instance ro_cat {K:Frag}:RO K (B78 K) pCat where
 ok:=by
  rintro c w env σ x y dx dy Qp Q rfl E vx vy p k;unfold pCat at p;split at p
  ·obtain ⟨a,vs,e,h1,h2⟩:=vx.lst E.wok;obtain ⟨b,us,e',g1,g2⟩:=vy.lst E.wok;exact ⟨a,b,vs,us,e,e',h1,g1,by rw [h2.len,g2.len]; exact Zx p.1 (by decide),fun q hq=>k _ _ _ (Res.lst E hq (h2.app g2)) p.2⟩
  ·exact p.elim
def blsD:LP->Option (List Bool)
 | []=>some []
 | .bool b :: r=>(blsD r).map (b :: ·)
 | _=>none
def A4p {K:Frag} {F:Hpp}:∀ {vs:List V} {xs:LP} {bs:List Bool},DenAll K F vs xs->blsD xs=some bs->vs=bs.map V.bl
 | _,_,bs,.nil,h=>by cases h; rfl
 | _,_,bs,.cons (x:=x) (xs:=vs) (d:=d) (ds:=ds) h t,e=>by
  cases d with
  | bool b =>
   have e':(blsD ds).map (b :: ·)=some bs:=e;cases q:blsD ds with
   | none=>rw [q] at e'; cases e'
   | some r =>
    rw [q] at e'; cases e';rw [h.blE,A4p t q]; rfl
  | _=>cases e
def pAll (xs:LP) (Q:SV->Prop):Prop:=match xs with
 | [.list ys]=>∃ bs,blsD ys=some bs/\Q (.d (.bool (bs.all id)))
 | _=>False
instance rb_all {K:Frag}:RB K (rAll K) pAll where
 ok:=by
  rintro c w env σ vs xs Qp Q rfl E vv p k;unfold pAll at p;split at p
  ·obtain ⟨bs,e,q⟩:=p;cases vv with | cons h t=>cases t; obtain ⟨a,us,e',h1,h2⟩:=h.lst E.wok; exact ⟨a,bs,by rw [e'],by rw [<- A4p h2 e]; exact h1,k _ _ w (Res.data E (.bl _)) q⟩
  ·exact p.elim
theorem B9l {x:PyData} {xs:LP} {Q:SV->Prop}:pGet (x :: xs) 0 Q=Q (.d x):=by unfold pGet; rw [at0]
theorem B9k {x y:PyData} {xs:LP} {Q:SV->Prop}:pGet (x :: y :: xs) 1 Q=Q (.d y):=by unfold pGet; rw [at1]
theorem C2r {x y z:PyData} {xs:LP} {Q:SV->Prop}:pGet (x :: y :: z :: xs) 2 Q=Q (.d z):=by unfold pGet; rw [at2]
def I0 {xs:LP} {i:Int} {z:PyData} {Q:SV->Prop} (h:atI xs i=some z) (q:Q (.d z)):pGet xs i Q:=by unfold pGet; rw [h]; exact q
def B0t {xs:List Int} {d:Int} (h0:0<=d) (h1:d < xs.length):∃ z,z ∈ xs/\atI (xs.map PyData.int) d=some (.int z):=by
 obtain ⟨n,rfl⟩:=Zi h0;have hn:n < xs.length:=by omega
 refine ⟨xs[n],List.getElem_mem hn,G2 ?_⟩;rw [Zh,Zg hn]; rfl
def A6 {α:Type} {f:α->PyData} {xs:List α} {n:Nat} {a:α} {Q:SV->Prop} (h:xs[n]?=some a) (q:Q (.d (f a))):pGet (xs.map f) (n:Int) Q :=
 I0 (G2 (by rw [Zh,h]; rfl)) q
def A7g {α:Type} {f:α->PyData} {xs:List α} {a:α} {Q:SV->Prop} (h:xs[xs.length - 1]?=some a) (h1:1<=xs.length) (q:Q (.d (f a))):pGet (xs.map f) (-1) Q:=by
 refine I0 (z:=f a) ?_ q;unfold L2.atI ixN;rw [if_neg (by decide),if_pos (by rw [Zl]; omega)];show (xs.map f)[((-1:Int) + ((xs.map f).length:Int)).toNat]?=_;rw [show ((-1:Int) + ((xs.map f).length:Int)).toNat=xs.length - 1 by rw [Zl]; omega,Zh,h]; rfl
def pIxT {xs:LP} {i:Int} {Q:SV->Prop}:pIx (.tuple xs) (.int i) Q=pGet xs i Q:=rfl
end Pu
namespace L2
open PySem PySem.Spec PyProof.Rows
structure QE (X:Cx) (e:Expr) (t:TE):Prop where
 out:PE X e  t
structure QT (X:Cx) (e:Expr) (t:TT):Prop where
 out:PT X e  t
structure QW (X:Cx) (e:Expr) (t:TT):Prop where
 out:PW X e  t
structure QA (X:Cx) (e:List Expr) (t:TA):Prop where
 out:PA X e  t
structure QSs (X:Cx) (e:List Stmt) (t:TS):Prop where
 out:PSs X e  t
structure QS (X:Cx) (e:Stmt) (t:TS):Prop where
 out:PS X e  t
structure QGs (X:Cx) (e:List Expr) (t:TGs):Prop where
 out:PGs X e  t
structure QG (X:Cx) (e:Expr) (t:TG):Prop where
 out:PG X e  t
structure QI (X:Cx) (e e2:Expr) (t:TI):Prop where
 out:PI X e e2  t
structure QTs (X:Cx) (e:List Expr) (t:TT):Prop where
 out:PTs X e  t
structure QO (X:Cx) (e:Option Expr) (t:TO):Prop where
 out:PO X e  t
section
variable {X:Cx}
def qpv (i: Nat) {x:Str} {pos:Pos} (hN: X.N[i]?=some x:=by rfl) (hv: Vis X.env.scope x:=by first | exact Or.inl rfl | exact Or.inr (Or.inl rfl) | exact Or.inr (Or.inr rfl)) (hd: (x == ("__debug__":Str))=false:=by decide) (hcd: (x == ("__classdict__":Str))=false:=by decide):QE X (.Name x pos) (tVar i):=⟨pv i hN hv hd hcd⟩
def A2 {i j pos}:QE X (.Constant (.int i) j pos) (tC (.int i)):=⟨E8 ⟩
def J4 {b j pos}:QE X (.Constant (.bool b) j pos) (tC (.bl b)):=⟨C2o ⟩
def P1 {j pos}:QE X (.Constant .none j pos) (tC .non):=⟨B8r ⟩
def B1 {x j pos}:QE X (.Constant (.str x) j pos) (tC (.str x)):=⟨B8q ⟩
def S1 {x:Str} {v:V} {u:Value} {pos:Pos} (hg: Gl X x) (hm: X.mg x=some u) (r: RelV v u) (hd: (x == ("__debug__":Str))=false:=by decide):QE X (.Name x pos) (tC v):=⟨A7c hg hm r hd⟩
def J0 {x:Str} {v:V} {u:Value} {pos:Pos} (hg: Gl X x) (hm: X.mg x=none) (hv: bootBuiltins x=some u) (r: RelV v u) (hn: x≠"__name__":=by decide) (hd: (x == ("__debug__":Str))=false:=by decide):QE X (.Name x pos) (tC v):=⟨B4d hg hm hv r hn hd⟩
def B2 {op:Operator} {r:R2} (ho: OpR X (binaryOp op) r) (ha: QE X a ta) (hb: QE X b tb):QE X (.BinOp a op b pos) (tOp r ta tb):=⟨K6 ho ha.out hb.out⟩
def A6o {op:UnaryOp} {r:V->Hp->VK->Prop} (ho: UnR X (unaryOp op) r) (ha: QE X a ta):QE X (.UnaryOp op a pos) (tUn r ta):=⟨C2m ho ha.out⟩
def B3o (ha: QE X a ta):QE X (.UnaryOp .Not a pos) (B26 ta):=⟨B17 ha.out⟩
def G6 {op:CmpOp} {r:R2} (ho: OpR X (compareOp op) r) (ha: QE X a ta) (hb: QE X b tb) (hm: behindInMarks op b=false):QE X (.Compare a [op] [b] pos) (tOp r ta tb):=⟨A0q ho ha.out hb.out hm⟩
def A9 {op:CmpOp} {r:R2} (ho: OpR X (compareOp op) r) (ha: QE X a ta) (hb: QE X b tb) (hm: behindInMarks op b=false):QT X (.Compare a [op] [b] pos) (B23 (tOp r ta tb)):=⟨A6t ho ha.out hb.out hm⟩
def A6p {op op':CmpOp} {r r':R2} (ho: OpR X (compareOp op) r) (ho': OpR X (compareOp op') r') (ha: QE X a ta) (hb: QE X b tb) (hc: QE X c tc) (hm: lastMarks [op,op'] [b,c]=false:=by with_unfolding_all rfl):QE X (.Compare a [op,op'] [b,c] pos) (A59 r r' ta tb tc):=⟨B0a ho ho' ha.out hb.out hc.out hm⟩
def N1 {rest:List Expr} (ha: QE X a ta) (hb: QE X (.BoolOp .And (b :: rest) pos) tb):QE X (.BoolOp .And (a :: b :: rest) pos) (B3b ta tb):=⟨B18 ha.out hb.out⟩
def O9 {op} {t:TE} (h: QE X a t):QE X (.BoolOp op [a] pos) t:=⟨B16 h.out⟩
def T4 {rest:List Expr} (ha: QT X a tA) (hb: QW X (.BoolOp .And (b :: rest) pos) tB'):QW X (.BoolOp .And (a :: b :: rest) pos) (tAnd tA tB'):=⟨B8i ha.out hb.out⟩
def M0 {rest:List Expr} (ha: QT X a tA) (hb: QW X (.BoolOp .Or (b :: rest) pos) tB'):QW X (.BoolOp .Or (a :: b :: rest) pos) (tOr tA tB'):=⟨C2k ha.out hb.out⟩
def U9 (ha: QT X a tA):QW X (.BoolOp .And [a] pos) tA:=⟨B3r ha.out⟩
def K4 (ha: QT X a tA):QW X (.BoolOp .Or [a] pos) tA:=⟨B8h ha.out⟩
def G7 (ha: QT X a tA):QT X (.UnaryOp .Not a pos) (tNot tA):=⟨B8j ha.out⟩
def D8 {e:Expr} {t:TE} (h: QE X e t) (he: ∀ whole,isTrue e X.env whole=(do let v <- whole; standAt e.pos; holding [v] (truthy v)):=by intro _; rfl):QT X e (tB t):=⟨B14 h.out he⟩
def N9 (hc: X.calm=true) (C: CompSc X scope cl N' cap) (hi: QI X tg iter wi) (hg: ∀ s3 H3 fp,QG (X.block scope cl N' s3 H3 fp) tg g) (ht: ∀ s3 H3 fp,QTs (X.block scope cl N' s3 H3 fp) ifs tt) (he: ∀ s3 H3 fp,QE (X.block scope cl N' s3 H3 fp) elt te) (hs: ∀ x,foldedSetIterable iter X.env x=pure x:=by intro _; rfl):QE X (.ListComp elt [⟨tg,iter,ifs,0⟩] scope pos) (B3a wi g tt te cap):=⟨B4b hc C hi.out (fun a b c=>(hg a b c).out) (fun a b c=>(ht a b c).out) (fun a b c=>(he a b c).out) hs⟩
def E7 (hc: X.calm=true) (hN: X.N.Nodup) (hi: X.N[i]?=some y) (hy: X.env.scope.names.lookup y=some .local) (C: CompSc X scope cl N' cap) (hit: QI X tg iter wi) (hg: ∀ s3 H3 fp,QG (X.block scope cl N' s3 H3 fp) tg g) (ht: ∀ s3 H3 fp,QTs (X.block scope cl N' s3 H3 fp) ifs tt) (he: ∀ s3 H3 fp,QE (X.block scope cl N' s3 H3 fp) elt te) (hsw: swapsWith (.ListComp elt [⟨tg,iter,ifs,0⟩] scope pos) (some (.Name y py)) spos.line X.env=pure true) (hs: ∀ x,foldedSetIterable iter X.env x=pure x:=by intro _; rfl):QS X (.Assign [.Name y py] (.ListComp elt [⟨tg,iter,ifs,0⟩] scope pos) spos) (R6 wi g tt te cap i):=⟨A40 hc hN hi hy C hit.out (fun a b c=>(hg a b c).out) (fun a b c=>(ht a b c).out) (fun a b c=>(he a b c).out) hsw hs⟩
def A8 {x1} (h: QA X es t):QE X (.Tuple es x1 pos) (tTup t):=⟨B8p h.out⟩
def C7 (h: QA X es t):QE X (.List es pos) (tLst t):=⟨A7a h.out⟩
def K1 {lo hi:Option Expr} {r:V->Option Int->Option Int->Hp->VK->Prop} (hr: SlR X r) (he: QE X e te) (hl: QO X lo tl) (hu: QO X hi th):QE X (.Subscript e (.Slice lo hi none p2) pos) (tSl r te tl th):=⟨A98 hr he.out hl.out hu.out⟩
def M2 :QO X none A2o:=⟨B32 ⟩
def M1 (h: QE X e te):QO X (some e) (B25 te):=⟨B31 h.out⟩
def B79 {r:R2} (hr: IxR X r) (ha: QE X a ta) (hb: QE X b tb) (hs: A3e b):QE X (.Subscript a b pos) (tOp r ta tb):=⟨A0p hr ha.out hb.out hs⟩
def A9u (F: FnOk X.prog X.w X.K X.mg X.base CX k f fd ps sp) (hr: Room k X.A) (hg: Gl X x) (hm: X.mg x=some (.ref f)) (hk: W.keepIn X.K (.ref f)=true) (hb: Binds X.K fd ps ds) (hd: Vals dvs ds) (hx: A2m CX X E) (ha: QA X (e :: es) t) (hdb: (x == ("__debug__":Str))=false:=by decide) (he: starEach (e :: es) X.env=(false,eval e X.env) :: starEach es X.env:=by rfl) (hpl: (backTo pos (starEach es X.env)).any (·.1)=false:=by rfl):QE X (.Call (.Name x p) (e :: es) [] pos) (A4v sp dvs E t):=⟨B4c F hr hg hm hk hb hd hx ha.out hdb he hpl⟩
def D1 {id:String} (hc: CallR X (.builtin id) r) (hg: Gl X x) (hm: X.mg x=none) (hv: bootBuiltins x=some (.builtin id)) (ha: QA X (e :: es) t) (hn: x≠"__name__":=by decide) (hdb: (x == ("__debug__":Str))=false:=by decide) (he: starEach (e :: es) X.env=(false,eval e X.env) :: starEach es X.env:=by rfl) (hpl: (backTo pos (starEach es X.env)).any (·.1)=false:=by rfl):QE X (.Call (.Name x p) (e :: es) [] pos) (tCB r t):=⟨A0r hc hg hm hv ha.out hn hdb he hpl⟩
def P8 (hc: CallR X (.type T) r) (hg: Gl X x) (hm: X.mg x=none) (hv: bootBuiltins x=some (.type T)) (ha: QA X (e :: es) t) (hn: x≠"__name__":=by decide) (hdb: (x == ("__debug__":Str))=false:=by decide) (he: starEach (e :: es) X.env=(false,eval e X.env) :: starEach es X.env:=by rfl) (hpl: (backTo pos (starEach es X.env)).any (·.1)=false:=by rfl):QE X (.Call (.Name x p) (e :: es) [] pos) (tCB r t):=⟨A1p hc hg hm hv ha.out hn hdb he hpl⟩
def G9 {K:W.Frag} (hK:X.K=K) {id:String} (pa: PlainAttrs T) (slot: Slot T name id) (hty: typeOf (.builtin id)=pure (.type "method_descriptor")) (hm: MtR X id r) (ho: QE X o to) (ha: QA X (e :: es) t) (hbase: attributeBase o name X.env (eval o X.env)=eval o X.env:=by rfl) (hfew: ((backTo cpos (starEach (e :: es) X.env)).all (fun x=>!x.1) && (backToKw cpos (keywordEach [] X.env)).all (fun x=>x.1.isSome)
   && decide ((e :: es).length + ([]:List Keyword).length + (if ([]:List Keyword).isEmpty then 0 else 1) < 30))=true:=by rfl) (hline: (apos.endLine == cpos.line)=true:=by rfl) (hs: starEach (e :: es) X.env=(false,eval e X.env) :: starEach es X.env:=by rfl) (hplain: (backTo cpos (starEach es X.env)).any (·.1)=false:=by rfl):QE X (.Call (.Attribute o name apos) (e :: es) [] cpos) (tBM K T r to t):=by subst hK; exact ⟨C2n pa slot hty hm ho.out ha.out hbase hfew hline hs hplain⟩
def A9v {K:W.Frag} (hK:X.K=K) {id:String} (pa: PlainAttrs T) (slot: Slot T name id) (hty: typeOf (.builtin id)=pure (.type "method_descriptor")) (hm: MtR X id r) (ho: QE X o to) (hbase: attributeBase o name X.env (eval o X.env)=eval o X.env:=by rfl) (hline: (apos.endLine == cpos.line)=true:=by rfl):QE X (.Call (.Attribute o name apos) [] [] cpos) (tBM0 K T r to):=by subst hK; exact ⟨B8t pa slot hty hm ho.out hbase hline⟩
def A1 :QA X [] tNil:=⟨pa_nil ⟩
def A0 (ha: QE X e te) (hr: QA X es t) (hs: starEach (e :: es) X.env=(false,eval e X.env) :: starEach es X.env:=by rfl):QA X (e :: es) (F7 te t):=⟨pa_cons ha.out hr.out hs⟩
def C3 :QSs X [] A9g:=⟨A2u ⟩
def A4 {st:Stmt} (h1: QS X st t):QSs X [st] t:=⟨T6 h1.out⟩
def A3 {st:Stmt} {rest:List Stmt} (h1: QS X st t) (h2: QSs X rest u):QSs X (st :: rest) (tSeq t u):=⟨K0 h1.out h2.out⟩
def W3 {st:Stmt}:QS X st A08:=⟨A9z ⟩
def B0 (he: QE X e te):QS X (.Return (some e) pos) (tRet te):=⟨A3w he.out⟩
def D6 (he: QE X e te) (hs: swapsWith e none pos.line X.env=pure false:=by rfl):QS X (.Expr e pos) (A09 te):=⟨B3y he.out hs⟩
def C6 {c:Expr} {a b:List Stmt} {tc:TT} (hc: QT X c tc) (ha: QSs X a t) (hb: QSs X b u):QS X (.If c a b pos) (tIfS tc t u):=⟨B3x hc.out ha.out hb.out⟩
def W1 {c:Expr} {body:List Stmt} {tc:TT} {tb:TS} (hp: PassesOwn (model X.prog X.w) X.A X.env X.xe) (hc: QT X c tc) (hb: QSs X body tb):QS X (.While c body [] pos) (A57 tc tb):=⟨A9y hp hc.out hb.out⟩
def G8 {iter:Expr} {body:List Stmt} {wi:TI} {g:TG} {tb:TS} {pos:Pos} (hp: PassesOwn (model X.prog X.w) X.A X.env X.xe) (hc: X.calm=true) (hi: QI X tg iter wi) (hg: QG X tg g) (hb: QSs X body tb) (hs: ∀ x,foldedSetIterable iter X.env x=pure x:=by intro _; rfl):QS X (.For tg iter body [] pos) (tFor wi g tb):=⟨A6x hp hc hi.out hg.out hb.out hs⟩
def N8 {i:Nat} {x:Str} {e:Expr} {te:TE} {pos':Pos} (hN: X.N.Nodup) (hi: X.N[i]?=some x) (hx: Loc X.env.scope x) (he: QE X e te) (hs: swapsWith e (some (.Name x pos')) pos.line X.env=pure false:=by rfl) (hf: X.fn x=true\/X.env.scope.names.lookup x=some .local:=by first | exact .inl rfl | exact .inr rfl | assumption):QS X (.Assign [.Name x pos'] e pos) (tAsg te (O6 i)):=⟨Z0 hN hi hx he.out hs hf⟩
def W2 {i j:Nat} {x y:Str} {a b:Expr} {ta:TA} {px py pt:Pos} {kt k2 pt2} (hc: X.calm=true) (hN: X.N.Nodup) (hi: X.N[i]?=some x) (hj: X.N[j]?=some y) (hij: i≠j) (hx: X.env.scope.names.lookup x=some .local) (hy: X.env.scope.names.lookup y=some .local) (ha: QA X [a,b] ta) (hw: swappedStores [.Tuple [.Name x px,.Name y py] kt pt] (.Tuple [a,b] k2 pt2) X.env=pure (some [x,y])) (hs: swapsWithSole [.Tuple [.Name x px,.Name y py] kt pt] (.Tuple [a,b] k2 pt2) pos.line X.env=pure false:=by rfl):QS X (.Assign [.Tuple [.Name x px,.Name y py] kt pt] (.Tuple [a,b] k2 pt2) pos) (tPar i j ta):=⟨B8l hc hN hi hj hij hx hy ha.out hw hs⟩
def C0 {tg e:Expr} {te:TE} {g:TG} (he: QE X e te) (hg: QG X tg g) (hs: swapsWithSole [tg] e pos.line X.env=pure false:=by rfl) (hw: swappedStores [tg] e X.env=pure none:=by rfl) (h1: (assignEach [tg] X.env).map (·.2)=[assign tg X.env]:=by rfl):QS X (.Assign [tg] e pos) (tAsg te g):=⟨A3y he.out hg.out hs hw h1⟩
def P7 {i:Nat} {x:Str} (hN: X.N.Nodup) (hi: X.N[i]?=some x) (hx: Loc X.env.scope x) (hf: X.fn x=true\/X.env.scope.names.lookup x=some .local:=by first | exact .inl rfl | exact .inr rfl | assumption):QG X (.Name x pos) (O6 i):=⟨A69 hN hi hx hf⟩
def B8 :QGs X [] gNil:=⟨B35 ⟩
def A5 {e:Expr} {es:List Expr} {t:TG} {u:TGs} (h1: QG X e t) (h2: QGs X es u) (hs: (assignEach (e :: es) X.env).map (·.2)=assign e X.env :: (assignEach es X.env).map (·.2):=by rfl):QGs X (e :: es) (Y5 t u):=⟨A97 h1.out h2.out hs⟩
def B9 {K:W.Frag} {pos:Pos} {es:List Expr} {k:Nat} {t:TGs} {n:Nat} (h: X.K=K) (hc: X.calm=true) (hg: QGs X es t) (hn: (assignEach es X.env).length=n:=by rfl) (hst: (assignEach es X.env).findIdx? (·.1)=none:=by rfl):QG X (.Tuple es k pos) (gTup K n t):=⟨B36 h hc hg.out hn hst⟩
def G0 {a:Expr} {ta:TA} {p pos:Pos} (hg: Gl X "range") (hm: X.mg "range"=none) (ha: QA X [a] ta) (hs: starEach [a] X.env=[(false,eval a X.env)]:=by rfl):QI X tg (.Call (.Name "range" p) [a] [] pos) (B6r ta):=⟨A1o hg hm ha.out hs⟩
def A4y {a b:Expr} {ta:TA} {p pos:Pos} (hg: Gl X "range") (hm: X.mg "range"=none) (ha: QA X [a,b] ta) (hs: starEach [a,b] X.env=[(false,eval a X.env),(false,eval b X.env)]:=by rfl) (hs2: starEach [b] X.env=[(false,eval b X.env)]:=by rfl):QI X tg (.Call (.Name "range" p) [a,b] [] pos) (B6q ta):=⟨A68 hg hm ha.out hs hs2⟩
def F4 {K:W.Frag} {l:Expr} {tl:TE} (h: X.K=K) (hl: QE X l tl):QI X tg l (iSq K tl):=⟨B8n h hl.out⟩
def G3 {X:Cx}:QTs X [] tYes:=⟨B3t ⟩
def V0 {X:Cx} {c:Expr} {t:TT} (h: QT X c t):QTs X [c] t:=⟨B3s h.out⟩
def QW.pt {X:Cx} {e:Expr} {t:TT} (h:QW X e t):QT X e t:=⟨h.out.pt⟩
end
end L2
namespace Pu
open PySem L2 My Prf
def C1w (n:Int):PyData.tuple [.int n,.int 1]=dq (n:Rat):=by
 unfold dq; rw [Rat.num_intCast,Rat.den_intCast]; rfl
def A2q {k:Nat} {n:Int} (h:Sm k n):SmR k 1 (n:Rat):=⟨by rw [Rat.num_intCast]; exact h,by rw [Rat.den_intCast]; unfold Sm; decide⟩
def B3f {k:Nat} {q:Rat} (h:SmR k 1 q):q.den=1:=by
 have h1:(q.den:Int).natAbs < 2 ^ 1:=h.2;have h2:=q.den_nz;omega
def C1n {n:Int} (h:0<=n):(0:Rat)<=(n:Rat):=Rat.intCast_nonneg.mpr h
def C1m {n:Int} (h:0 < n):(0:Rat) < (n:Rat):=Rat.intCast_pos.mpr h
def A6f {z:Int} (h0:0<=z) (h1:z<=1000000000000000000):Sm 4000 z:=Sm.mono (k:=64) (J8 (B:=1000000000000000000) (by omega) (by omega) (by decide)) (by decide)
theorem B0c {c:Rat × Rat} {Q:SV->Prop}:pIx (dcn c) (.int 0) Q=Q (.d (dq c.1)):=by unfold dcn; rw [pIxT,B9l]
theorem B0b {c:Rat × Rat} {Q:SV->Prop}:pIx (dcn c) (.int 1) Q=Q (.d (dq c.2)):=by unfold dcn; rw [pIxT,B9k]
def S9 {lo:Int} {n:Nat} {pg:PyData->PEnv->(PEnv->Prop)->Prop} {pt:PTt} {pd:PDt} {e0:PEnv} {Fin:LP->Prop} (Pv:Nat->PEnv->LP->Prop) (h0:Pv 0 e0 [])
  (hs:∀ (i:Nat) e ys,i < n->Pv i e ys->pg (.int (lo + (i:Int))) e fun e2=>pt e2 fun b e3=>if b=true then pd e3 fun y e4=>Pv (i + 1) e4 (ys++[y]) else Pv (i + 1) e3 ys) (hd:∀ e ys,Pv n e ys->Fin ys):Q6 (rngD lo n) pg pt pd e0 Fin :=
 ⟨Pv,h0,fun i x e ys hx hi=>by obtain ⟨h1,rfl⟩:=A3p hx; exact hs i e ys h1 hi,fun e ys h=>hd e ys (by rwa [J9] at h)⟩
def J6 {α:Type} {f:α->PyData} {xs:List α} {pg:PyData->PEnv->(PEnv->Prop)->Prop} {pt:PTt} {pd:PDt} {e0:PEnv} {Fin:LP->Prop} (Pv:Nat->PEnv->LP->Prop) (h0:Pv 0 e0 [])
  (hs:∀ (i:Nat) a e ys,xs[i]?=some a->Pv i e ys->pg (f a) e fun e2=>pt e2 fun b e3=>if b=true then pd e3 fun y e4=>Pv (i + 1) e4 (ys++[y]) else Pv (i + 1) e3 ys) (hd:∀ e ys,Pv xs.length e ys->Fin ys):Q6 (xs.map f) pg pt pd e0 Fin:=by
 refine ⟨Pv,h0,fun i x e ys hx hi=>?_,fun e ys h=>hd e ys (by rwa [List.length_map] at h)⟩;rw [Zh] at hx;cases ha:xs[i]? with
 | none=>rw [ha] at hx; cases hx
 | some a=>rw [ha] at hx; cases hx; exact hs i a e ys ha hi
def R4 {α:Type} {f:α->PyData} {xs:List α} {pg:PyData->PEnv->(PEnv->Prop)->Prop} {pb:PSt} {D:PEnds} {env:PEnv} (Iv:Nat->PEnv->Prop) (h0:Iv 0 env)
  (hs:∀ (i:Nat) a e,xs[i]?=some a->Iv i e->pg (f a) e fun e2=>pb ⟨Iv (i + 1),D.rt,D.nx,Iv (i + 1)⟩ e2) (hd:∀ e,Iv xs.length e->D.nx e):A1q (xs.map f) pg pb D env:=by
 refine ⟨Iv,h0,fun i x e hx hi=>?_,fun e h=>hd e (by rwa [List.length_map] at h)⟩;rw [Zh] at hx;cases ha:xs[i]? with
 | none=>rw [ha] at hx; cases hx
 | some a=>rw [ha] at hx; cases hx; exact hs i a e ha hi
def A3f {fs:LQ}:∀ {gs:LQ} {f g:Rat},gs[fs.length]?=some g->List.zipWith (· * ·) (fs++[f]) gs=List.zipWith (· * ·) fs gs++[f * g]:=by
 induction fs with
 | nil=>intro gs f g h; cases gs with
  | nil=>simp at h
  | cons x r=>simp at h; subst h; simp
 | cons a r ih=>intro gs f g h; cases gs with
  | nil=>simp at h
  | cons x t=>simp at h; simp [ih h]
def sm_zero:SmR 1 1 (0:Rat):=⟨by unfold Sm; decide,by unfold Sm; decide⟩
theorem B1v {q:Rat} {k:LP->Prop}:Y0 (dq q) k=k [.int q.num,.int (q.den:Int)]:=rfl
def B55:(PyData.list []).canLay0=true:=rfl
theorem B20 {i:Int}:tyD (.int i)="int":=rfl
theorem A9f {b:Bool}:tyD (.bool b)="bool":=rfl
theorem B2z {s:Str}:tyD (.str s)="str":=rfl
def A9c:tyD .none="NoneType":=rfl
theorem A9d {xs:LP}:tyD (.list xs)="list":=rfl
theorem B2y {xs:LP}:tyD (.tuple xs)="tuple":=rfl
theorem A5y {xs:LP} {k:LP->Prop}:Y0 (.list xs) k=k xs:=rfl
theorem A86 {xs:LP} {k:LP->Prop}:Y0 (.tuple xs) k=k xs:=rfl
end Pu
namespace L2
open PySem PySem.Spec PyProof.Rows
section
variable {X:Cx} {pins:List (Addr × Obj)} {σ:St} {H:Hp} {s:Shared} {h':Heap}
def Inv.turnL {t':Nat} {wr:List Addr} (I:Inv X pins σ H s) (k:∀ b o,b ∉ wr->s.heap.get? b=some o->h'.get? b=some o) (hf:∀ b ∈ wr,FpOk X pins H b):Inv X pins σ H { s with heap:=h',toks:=t' }:=by
 have nw:∀ b u,H b=some u->b ∉ wr:=fun b u e z=>by have:=(hf b z).1; rw [e] at this; cases this
 refine I.call (g':=s.gens) (d':=s.drawn) (ch:=wr) ⟨fun b o e _ _ hb=>k b o hb e,fun b o e _ _ hb=>⟨o.slots,k b o hb e⟩,fun _ _ _ n _=>n,fun b o e hb=>⟨o,k b o hb e⟩,fun _ _ e=>e,fun _ _ _ e=>e,fun b ps e=>⟨#[],by rw [e]; simp⟩⟩ (fun b u e=>?_) I.bare fun b hb=>?_
 ·refine (I.hok b u e).stay (fun c v hc q=>k c v ?_ q) (fun _ q=>q) fun _ _ q=>q;rcases hc with z | z
  ·rw [z]; exact nw b u e
  ·exact nw c _ z
 ·have f:=hf b hb;exact ⟨f.2.2.2.1,f.2.1,f.2.2.2.2.1,f.2.2.2.2.2⟩
def Inv.laidL {t':Nat} {wr:List Addr} {T:Addr} {o:HO} (I:Inv X pins σ H s) (k:∀ b u,b ∉ wr->s.heap.get? b=some u->h'.get? b=some u) (hf:∀ b ∈ wr,FpOk X pins H b) (hp:s.heap.objs.size<=T) (new:ObjOk X.prog X.w (upd H T o) h' T o) :
  Inv X pins σ (upd H T o) { s with heap:=h',toks:=t' }:=by
 have hn:=I.hok.fresh hp;have nw:∀ b u,H b=some u->b ∉ wr:=fun b u e z=>by have:=(hf b z).1; rw [e] at this; cases this
 refine I.call (g':=s.gens) (d':=s.drawn) (ch:=wr) ⟨fun b u e _ _ hb=>k b u hb e,fun b u e _ _ hb=>⟨u.slots,k b u hb e⟩,fun b u e n _=>by rw [C4 (Nat.ne_of_lt (Nat.lt_of_lt_of_le (Heap.lt_size e) hp))]; exact n,fun b u e hb=>⟨u,k b u hb e⟩,
  fun b xs e=>by rw [C4 (E6 e hn)]; exact e,fun b u xs e=>by rw [C4 (E6 e hn)]; exact e,fun b ps e=>⟨#[],by rw [C4 (E6 e hn),e]; simp⟩⟩ (fun b u e=>?_) I.bare fun b hb=>?_
 ·by_cases hb:b=T
  ·subst hb; rw [B7] at e; cases e; exact new
  ·rw [C4 hb] at e;refine (I.hok b u e).stay (fun c v hc q=>k c v ?_ q) (fun c q=>by rw [C4 (E6 q hn)]; exact q) fun c xs q=>by rw [C4 (E6 q hn)]; exact q
   rcases hc with z | z
   ·rw [z]; exact nw b u e
   ·exact nw c _ z
 ·have f:=hf b hb;exact ⟨f.2.2.2.1,f.2.1,f.2.2.2.2.1,f.2.2.2.2.2⟩
end
def Itz (K:W.Frag) (l1 l2:Addr):It :=
 ⟨fun i H=>∃ xs ys x y,SqL K H l1 xs/\SqL K H l2 ys/\xs[i]?=some x/\ys[i]?=some y,
  fun i H v H'=>∃ T x y,v=.ref T/\H T=none/\H'=upd H T (.tup [x,y])/\(∀ xs,SqL K H l1 xs->xs[i]?=some x)/\∀ ys,SqL K H l2 ys->ys[i]?=some y,
  fun i H=>∃ xs ys,SqL K H l1 xs/\SqL K H l2 ys/\(xs.length<=i\/ys.length<=i)⟩
def Ite (K:W.Frag) (l:Addr):It :=
 ⟨fun i H=>∃ xs x,SqL K H l xs/\xs[i]?=some x,
  fun i H v H'=>∃ T x,v=.ref T/\H T=none/\H'=upd H T (.tup [.int i,x])/\∀ xs,SqL K H l xs->xs[i]?=some x,
  fun i H=>∃ xs,SqL K H l xs/\xs.length<=i⟩
def U8:∀ {xs:List V} {us:List Value} {i:Nat} {x:V},Vals xs us->xs[i]?=some x->∃ u,us[i]?=some u/\RelV x u
 | _,_,_,_,.nil,e=>by simp at e
 | _,_,0,_,.cons h _,e=>by simp at e; subst e; exact ⟨_,rfl,h⟩
 | _,_,i + 1,x,.cons _ t,e=>by
  obtain ⟨u,h1,h2⟩:=U8 (i:=i) (x:=x) t (by simpa using e);exact ⟨u,by simpa using h1,h2⟩
def C18 {P:Program} {w:World} {K:W.Frag} {es:List Expr} {kk:Nat} {tp:Pos} {z TI TO i1 i2 l1 l2:Addr} (D:ZipApart z TI TO i1 i2 l1 l2) :
    Turn P w K (.Tuple es kk tp) (Itz K l1 l2) [z,TI,TO,i1,i2] z (fun i h=>IsZip h z TI TO .none/\IsPair h TI (.ref i1) (.ref i2)/\(∃ a b,IsPair h TO a b)/\h.IsListIter i1 l1 i/\h.IsListIter i2 l2 i) where
  mem:=Zy
  obj:=fun i h st b hb=>by
    obtain ⟨hz,hTI,⟨a,c,hTO⟩,⟨o1,g1,k1,d1⟩,⟨o2,g2,k2,d2⟩⟩:=st;simp only [List.mem_cons,List.mem_nil_iff,or_false] at hb;rcases hb with rfl | rfl | rfl | rfl | rfl
    · exact ⟨_,hz,fun v q=>Data.noConfusion (show Data.fields _=Data.cell v from q)⟩
    · exact ⟨_,hTI,fun v q=>Data.noConfusion (show Data.seq _ _=Data.cell v from q)⟩
    · exact ⟨_,hTO,fun v q=>Data.noConfusion (show Data.seq _ _=Data.cell v from q)⟩
    · exact ⟨_,g1,fun v q=>by rw [d1] at q; cases q⟩
    · exact ⟨_,g2,fun v q=>by rw [d2] at q; cases q⟩
  keep:=fun i h h' st k=>by
    obtain ⟨hz,hTI,⟨a,c,hTO⟩,h1,h2⟩:=st;exact ⟨k z (by simp) _ hz,k TI (by simp) _ hTI,⟨a,c,k TO (by simp) _ hTO⟩,h1.at fun o e=>k i1 (by simp) o e,h2.at fun o e=>k i2 (by simp) o e⟩
  item:=by
    intro X hP hw hK hc i pins s σ H E I hf st hg;subst hP hw hK;obtain ⟨hz,hTI,⟨a,c,hTO⟩,h1,h2⟩:=st;obtain ⟨xs,ys,x,y,q1,q2,ex,ey⟩:=hg;obtain ⟨its1,r1,p1,_⟩:=I.list q1;obtain ⟨its2,r2,p2,_⟩:=I.list q2;obtain ⟨u1,e1,ru1⟩:=U8 r1 ex;obtain ⟨u2,e2,ru2⟩:=U8 r2 ey;refine wpAny_pyNext_zip_item D hz hTI hTO h1 h2 p1.isList p2.isList (by simpa using e1) (by simpa using e2) fun h' a1 a2 a3 a4 a5 a6 hk=>⟨_,rfl,?_⟩;refine wpAny_letOwnedTupleGo_zip a1 fun h'' b1 sb=>?_;have lt:∀ {b o},s.heap.get? b=some o->s.heap.objs.size≠b:=fun e=>Nat.ne_of_gt (Heap.lt_size e);have k2:∀ b o,b ∉ [z,TO,i1,i2]->s.heap.get? b=some o->h''.get? b=some o:=fun b o hb e=>by
      simp only [List.mem_cons,List.mem_nil_iff,or_false,not_or] at hb;exact (sb.2 b hb.1).trans (hk b o hb.1 hb.2.1 hb.2.2.1 hb.2.2.2 e)
    have I2:Inv X pins σ (upd H s.heap.objs.size (.tup [x,y])) { s with heap:=h'',toks:=s.toks }:=by
      refine I.laidL (wr:=[z,TO,i1,i2]) k2 (fun b hb=>hf b ?_) (Zv _) ⟨by show 2<=sizeLine; decide,[u1,u2],.cons ru1 (.cons ru2 .nil),?_⟩
      · simp only [List.mem_cons,List.mem_nil_iff,or_false] at hb ⊢
        rcases hb with q | q | q | q <;> simp [q]
      · exact ⟨_,(sb.2 _ (lt hz)).trans a5,rfl,_,rfl⟩
    refine ⟨.ref s.heap.objs.size,_,I2,rfl,⟨_,x,y,rfl,I.fresh,rfl,fun zs hzs=>by rw [I.list_inj hzs q1]; exact ex,fun zs hzs=>by rw [I.list_inj hzs q2]; exact ey⟩,⟨b1,(sb.2 _ D.TIz).trans (hk _ _ D.TIz D.TITO D.TIi1 D.TIi2 hTI),⟨_,_,(sb.2 _ D.TOz).trans a2⟩,a3.at fun o e=>(sb.2 _ D.i1z).trans e,a4.at fun o e=>(sb.2 _ D.i2z).trans e⟩,fun b hb=>?_⟩;have:b≠s.heap.objs.size:=by
      simp only [List.mem_cons,List.mem_nil_iff,or_false] at hb;obtain ⟨_,g1,_⟩:=h1;obtain ⟨_,g2,_⟩:=h2;rcases hb with rfl | rfl | rfl | rfl | rfl
      · exact (lt hz).symm
      · exact (lt hTI).symm
      · exact (lt hTO).symm
      · exact (lt g1).symm
      · exact (lt g2).symm
    rw [C4 this]; exact (hf b hb).1
  done:=by
    intro X hP hw hK hc i pins s σ H E I hf st hg;subst hP hw hK;obtain ⟨hz,hTI,⟨a,c,hTO⟩,h1,h2⟩:=st;obtain ⟨xs,ys,q1,q2,hl⟩:=hg;obtain ⟨its1,r1,p1,_⟩:=I.list q1;obtain ⟨its2,r2,p2,_⟩:=I.list q2;have n1:=r1.length;have n2:=r2.length;refine wpAny_pyNext_zip_end (I.ok.hd hc) D hz hTI hTO h1 h2 p1.isList p2.isList (hl.imp (fun q=>by simp; omega) fun q=>by simp; omega) fun h' hk=>⟨rfl,?_⟩;refine I.turnL (t':=s.toks) (wr:=[z,TO,i1,i2]) (fun b o hb e=>?_) (fun b hb=>hf b ?_)
    · simp only [List.mem_cons,List.mem_nil_iff,or_false,not_or] at hb
      exact hk b o hb.1 hb.2.1 hb.2.2.1 hb.2.2.2 e
    · simp only [List.mem_cons,List.mem_nil_iff,or_false] at hb ⊢
      rcases hb with q | q | q | q <;> simp [q]
  self:=fun _ _ _ _ _ st h=>wpAny_pyIter_zip st.1 h
def A56 {P:Program} {w:World} {K:W.Frag} {es:List Expr} {kk:Nat} {tp:Pos} {e it l:Addr} (hei:e≠it) :
    Turn P w K (.Tuple es kk tp) (Ite K l) [e,it] e (fun i h=>(∃ old,IsEnum h e it i old)/\h.IsListIter it l i) where
  mem:=Zy
  obj:=fun i h st b hb=>by
    obtain ⟨⟨old,he⟩,⟨o1,g1,k1,d1⟩⟩:=st;simp only [List.mem_cons,List.mem_nil_iff,or_false] at hb;rcases hb with rfl | rfl
    · exact ⟨_,he,fun v q=>Data.noConfusion (show Data.fields _=Data.cell v from q)⟩
    · exact ⟨_,g1,fun v q=>by rw [d1] at q; cases q⟩
  keep:=fun i h h' st k=>by
    obtain ⟨⟨old,he⟩,h1⟩:=st;exact ⟨⟨old,k e (by simp) _ he⟩,h1.at fun o q=>k it (by simp) o q⟩
  item:=by
    intro X hP hw hK hc i pins s σ H E I hf st hg;subst hP hw hK;obtain ⟨⟨old,he⟩,h1⟩:=st;obtain ⟨xs,x,q1,ex⟩:=hg;obtain ⟨its1,r1,p1,_⟩:=I.list q1;obtain ⟨u1,e1,ru1⟩:=U8 r1 ex;refine wpAny_pyNext_enum_item he h1 p1.isList (x:=u1) (by simpa using e1) hei fun h' a1 a2 a3 a4 hk=>⟨_,rfl,?_⟩;refine wpAny_letOwnedTupleGo_enum a1 fun h'' b1 sb=>?_;have lt:∀ {b o},s.heap.get? b=some o->s.heap.objs.size≠b:=fun e=>Nat.ne_of_gt (Heap.lt_size e);obtain ⟨o1,g1,_⟩:=id h1;have I2:Inv X pins σ (upd H s.heap.objs.size (.tup [.int i,x])) { s with heap:=h'',toks:=s.toks + 1 }:=by
      refine I.laidL (wr:=[e,it]) (fun b o hb q=>?_) (fun b hb=>hf b hb) (Zv _) ⟨by show 2<=sizeLine; decide,[.int i s.toks,u1],.cons ⟨_,rfl⟩ (.cons ru1 .nil),?_⟩
      · simp only [List.mem_cons,List.mem_nil_iff,or_false,not_or] at hb
        exact (sb.2 b hb.1).trans (hk b o hb.1 hb.2 q)
      · exact ⟨_,(sb.2 _ (lt he)).trans a3,rfl,_,rfl⟩
    refine ⟨.ref s.heap.objs.size,_,I2,rfl,⟨_,x,rfl,I.fresh,rfl,fun zs hzs=>by rw [I.list_inj hzs q1]; exact ex⟩,⟨⟨_,by simpa using b1⟩,a2.at fun o q=>(sb.2 _ hei.symm).trans q⟩,fun b hb=>?_⟩;have:b≠s.heap.objs.size:=by
      simp only [List.mem_cons,List.mem_nil_iff,or_false] at hb;rcases hb with rfl | rfl
      · exact (lt he).symm
      · exact (lt g1).symm
    rw [C4 this]; exact (hf b hb).1
  done:=by
    intro X hP hw hK hc i pins s σ H E I hf st hg;subst hP hw hK;obtain ⟨⟨old,he⟩,h1⟩:=st;obtain ⟨xs,q1,hl⟩:=hg;obtain ⟨its1,r1,p1,_⟩:=I.list q1;have n1:=r1.length;refine wpAny_pyNext_enum_end (I.ok.hd hc) he h1 p1.isList (by simp; omega) fun h' hk=>⟨rfl,?_⟩;refine I.turnL (t':=s.toks) (wr:=[e,it]) (fun b o hb q=>?_) (fun b hb=>hf b hb);simp only [List.mem_cons,List.mem_nil_iff,or_false,not_or] at hb;exact hk b o hb.2 q
  self:=fun _ _ _ _ _ st h=>by obtain ⟨⟨old,he⟩,_⟩:=st; exact wpAny_pyIter_enum he h
section
variable {X:Cx}
def B03 (K:W.Frag) (ta:TA):TI:=fun σ H R=>ta σ H fun vs H1=>∃ l xs,vs=[.ref l]/\SqL K H1 l xs/\R (Ite K l) H1
def A96 {K:W.Frag} {a:Expr} {ta:TA} {p pos:Pos} {es:List Expr} {kk:Nat} {tp:Pos} (hK:X.K=K) (hg:Gl X "enumerate") (hm:X.mg "enumerate"=none) (ha:PA X [a] ta)
  (hs:starEach [a] X.env=[(false,eval a X.env)]:=by rfl):PI X (.Tuple es kk tp) (.Call (.Name "enumerate" p) [a] [] pos) (B03 K ta):=by
 subst hK;intro pins s σ H R I h;refine Call_ (Z9 I hg hm boot_enumerate (PyProof.Rows.callWith_type1 (thn (ha pos pins s σ H _ I h) fun us s1 ⟨vs,H1,I1,r1,q1⟩=>?_) hs rfl));obtain ⟨l,xs,e,g1,q⟩:=q1;subst e;cases r1 with
 | cons r rr =>
  cases rr;cases r;obtain ⟨its1,_,p1,_⟩:=I1.list g1;refine call_enumerate_list p1.isList fun h' a1 a2 a3 hk=>wpAny_pyIter_enum a1 ?_;have I2:Inv X pins σ H1 { s1 with heap:=h' }:=I1.kept (t':=s1.toks) hk;refine ⟨_,[s1.heap.objs.size + 1,s1.heap.objs.size],_,_,H1,rfl,I2,A56 (Nat.succ_ne_self _),⟨⟨_,a1⟩,a2⟩,fun b hb=>?_,q⟩;have hb':s1.heap.objs.size<=b:=by
   simp only [List.mem_cons,List.mem_nil_iff,or_false] at hb;rcases hb with rfl | rfl <;> omega
  exact I1.fpOk hb' (I1.hok.fresh hb')
def R9 {K:W.Frag} {a:Expr} {ta:TA} {p pos:Pos} {es:List Expr} {kk:Nat} {tp:Pos} (hK:X.K=K) (hg:Gl X "enumerate") (hm:X.mg "enumerate"=none) (ha:QA X [a] ta)
  (hs:starEach [a] X.env=[(false,eval a X.env)]:=by rfl):QI X (.Tuple es kk tp) (.Call (.Name "enumerate" p) [a] [] pos) (B03 K ta):=⟨A96 hK hg hm ha.out hs⟩
end
end L2
namespace Pu
open PySem L2 My Prf
class RL (K:Frag) (te:TE) (pl:outParam PAr):Prop where
 ok:∀ (c:Ct) (w:Wd) (env:PEnv) (σ:St) (Qp:LP->PEnv->Prop) (Q:VK),c.K=K->EnvOk c w env σ->pl env Qp->(∀ v xs env' w',EnvOk c w' env' σ->Lw w w'->VR c w' v (.bor xs)->Qp xs env'->Q v w'.H)->te σ w.H Q
def B89 (pd:PDt) (env:PEnv) (Q:LP->PEnv->Prop):Prop:=pd env fun x e=>asL x fun xs=>Q xs e
def B4w (i:Nat) (env:PEnv) (Q:LP->PEnv->Prop):Prop:=match env[i]? with
 | some (some (.d x))=>asL x fun xs=>Q xs env
 | some (some (.own xs))=>Q xs (env.set i (some (.d (.list xs))))
 | some (some (.bor xs))=>Q xs env
 | _=>False
instance (priority:=low) rl_of {K:Frag} {te:TE} {pd:PDt} [h:RD K te pd]:RL K te (B89 pd) where
 ok:=by
  rintro c w env σ Qp Q rfl E p k;refine h.ok c w env σ _ _ rfl E p fun v x e1 w1 E1 l1 d1 q1=>?_;unfold asL at q1;split at q1
  ·exact k v _ e1 w1 E1 l1 (.inl d1) q1
  ·exact q1.elim
instance rl_var {K:Frag} {i:Nat}:RL K (tVar i) (B4w i) where
 ok:=by
  rintro c w env σ Qp Q rfl E p k;unfold B4w at p;split at p
  ·rename_i x e;obtain ⟨v,h1,h2⟩:=E.at' i _ e;unfold asL at p;split at p
   ·exact ⟨v,h1,k v _ env w E (Lw.refl w) (.inl h2) p⟩
   ·exact p.elim
  ·rename_i xs e;obtain ⟨w',v,e',hv,E',l,d⟩:=E.frz e;refine ⟨v,hv,?_⟩;rw [<- e'];exact k v _ _ w' E' l (.inl d) p
  ·rename_i xs e;obtain ⟨v,h1,h2⟩:=E.at' i _ e;exact ⟨v,h1,k v _ env w E (Lw.refl w) h2 p⟩
  ·exact p.elim
inductive Brs (c:Ct) (w:Wd):List V->List LP->Prop
 | nil:Brs c w [] []
 | cons {v:V} {xs:LP} {vs:List V} {xss:List LP}:VR c w v (.bor xs)->Brs c w vs xss->Brs c w (v :: vs) (xs :: xss)
def B1j {c:Ct} {w w':Wd} {v:V} {xs:LP} (s:Same w.F w'.F) (h:VR c w v (.bor xs)):VR c w' v (.bor xs):=by
 rcases h with h | ⟨l,vs,e,h1,h2,h3⟩
 ·exact .inl (Den.same s h)
 ·exact .inr ⟨l,vs,e,h1,h2,DenAll.same s h3⟩
class RLs (K:Frag) (ta:TA) (pa:outParam (PEnv->(List LP->PEnv->Prop)->Prop)):Prop where
 ok:∀ (c:Ct) (w:Wd) (env:PEnv) (σ:St) (Qp:List LP->PEnv->Prop) (Q:List V->Hpp->Prop),c.K=K->EnvOk c w env σ->pa env Qp->(∀ vs xss env' w',EnvOk c w' env' σ->Lw w w'->Brs c w' vs xss->Qp xss env'->Q vs w'.H)->ta σ w.H Q
def pLsN (env:PEnv) (Q:List LP->PEnv->Prop):Prop:=Q [] env
def pLsC (pl:PAr) (pr:PEnv->(List LP->PEnv->Prop)->Prop) (env:PEnv) (Q:List LP->PEnv->Prop):Prop:=pl env fun xs e1=>pr e1 fun xss e2=>Q (xs :: xss) e2
instance rls_nil {K:Frag}:RLs K tNil pLsN:=⟨fun c w env σ Qp Q _ E p k=>k [] [] env w E (Lw.refl w) .nil p⟩
instance rls_cons {K:Frag} {te:TE} {tr:TA} {pl:PAr} {pr:PEnv->(List LP->PEnv->Prop)->Prop} [hl:RL K te pl] [hr:RLs K tr pr]:RLs K (F7 te tr) (pLsC pl pr) where
 ok:=by
  rintro c w env σ Qp Q rfl E p k;refine hl.ok c w env σ _ _ rfl E p fun v xs e1 w1 E1 l1 b1 q1=>?_;refine hr.ok c w1 e1 σ _ _ rfl E1 q1 fun vs xss e2 w2 E2 l2 b2 q2=>?_;exact k _ _ e2 w2 E2 (l1.trans l2) (.cons (B1j l2.f b1) b2) q2
def A4o {c:Ct} {w:Wd} {v:V} {xs:LP} (h:VR c w v (.bor xs)):∃ l vs,v=.ref l/\DenAll c.K w.F vs xs/\∀ w',w'.Ok->Le c.w0 w'->Same w.F w'.F->SqL c.K w'.H l vs:=by
 rcases h with h | ⟨l,vs,e,h1,h2,h3⟩
 ·obtain ⟨a,vs,e,g1,g2⟩:=Den.lstE h;exact ⟨a,vs,e,g2,fun w' ok _ s=>(s.trans ok.sub).seq g1⟩
 ·exact ⟨l,vs,e,h3,fun w' _ l' _=>SqL.of (l'.h _ _ h1 h2)⟩
def zipD (xs ys:LP):LP:=List.zipWith (fun x y=>.tuple [x,y]) xs ys
def L4 (xs:LP):LP:=xs.zipIdx.map fun p=>.tuple [.int (p.2:Int),p.1]
def A8k {xs:LP} {i:Nat} {x:PyData} (h:(L4 xs)[i]?=some x):∃ a,xs[i]?=some a/\x=.tuple [.int (i:Int),a]:=by
 unfold L4 at h;rw [Zh,List.getElem?_zipIdx] at h;cases h1:xs[i]? with
 | none=>rw [h1] at h; cases h
 | some a=>rw [h1] at h; cases h; exact ⟨a,rfl,by simp⟩
def S8 {xs:LP}:(L4 xs).length=xs.length:=by unfold L4; rw [Zl,List.length_zipIdx]
def pZip (pa:PEnv->(List LP->PEnv->Prop)->Prop) (env:PEnv) (Q:LP->PEnv->Prop):Prop:=pa env fun xss e=>match xss with
 | [xs,ys]=>Q (zipD xs ys) e
 | _=>False
def B9m (pa:PEnv->(List LP->PEnv->Prop)->Prop) (env:PEnv) (Q:LP->PEnv->Prop):Prop:=pa env fun xss e=>match xss with
 | [xs]=>Q (L4 xs) e
 | _=>False
instance ri_enum {K:Frag} {ta:TA} {pa:PEnv->(List LP->PEnv->Prop)->Prop} [ha:RLs K ta pa]:RI K (B03 K ta) (B9m pa) where
 ok:=by
  rintro c w env σ Qp R rfl E p k;refine ha.ok c w env σ _ _ rfl E p fun vs xss e1 w1 E1 l1 b1 q1=>?_;split at q1
  ·rename_i xs;cases b1 with | cons h t =>
    cases t;obtain ⟨a1,us1,rfl,d1,s1⟩:=A4o h;refine ⟨a1,us1,rfl,s1 w1 E1.wok E1.le0 (Same.refl _),k _ _ e1 w1 E1 l1 ?_ q1⟩;intro w' ok l s;have g1:=s1 w' ok l s;have n1:=d1.len;rw [S8];refine ⟨fun i hi=>⟨us1,us1[i]'(by omega),g1,Zg _⟩,⟨us1,g1,by omega⟩,fun i v H' y hi=>?_⟩;obtain ⟨T,x,rfl,hT,rfl,y1⟩:=y;obtain ⟨dx,x1,x2⟩:=d1.get (y1 us1 g1);refine ⟨w'.tup T (.tup [.int i,x]),.tuple [.int i,dx],rfl,Wd.tup_ok ok hT,Wd.tup_le ok hT,?_,?_⟩
    ·unfold L4; rw [Zh,List.getElem?_zipIdx,x1]; simp
    ·have f:=(Wd.tup_le (o:=.tup [.int i,x]) ok hT).f;exact .tup (SqD.of B7) (.cons (.int _) (.cons (Den.same (s.trans f) x2) .nil))
  ·exact q1.elim
theorem V2 {n:Nat} {pr:LP->PEnv->(PEnv->Prop)->Prop} {xs:LP} {env:PEnv} {Q:PEnv->Prop}:qTup n pr (.tuple xs) env Q=(xs.length=n/\pr xs env Q):=rfl
theorem A9w {pr:LP->PEnv->(PEnv->Prop)->Prop} {c:Rat × Rat} {env:PEnv} {Q:PEnv->Prop}:qTup 2 pr (dcn c) env Q=pr [dq c.1,dq c.2] env Q:=by
 show (2=2/\_)=_; simp
def okA:Nat->PyData->Prop
 | _,.none=>True
 | _,.bool _=>True
 | _,.int _=>True
 | _,.str s=>(PyData.str s).canLay0=true
 | _,.dict _=>False
 | 0,.list _=>False
 | 0,.tuple _=>False
 | n + 1,.list xs=>xs.length < 1000/\∀ x ∈ xs,okA n x
 | n + 1,.tuple xs=>xs.length < 1000/\∀ x ∈ xs,okA n x
def B07 {P:Program} {w:World} {K:Frag} {mg:Str->Option Value} {base:Heap} {k:Nat} {f:Addr} {fd:FuncData} {ps:List Str} {md:List Md} (h:md.length=ps.length):FnOk P w K mg base CX0 k f fd ps (spOf K md fun _ _=>False) :=
 ⟨spOf.len h,fun _ _ _ _ _ _ _ _ _ _ _ _ _ hs=>by obtain ⟨_,_,_,_,_,_,z,_⟩:=hs; exact z.elim⟩
theorem B61 {s:Str}:PyData.eqv (.str s) (.str s)=true:=by show (s == s)=true; simp
def C07:kitB "int" "str"=some false:=by ext
def C1a:kitB "bool" "str"=some false:=by ext
def C04:kitB "NoneType" "str"=some false:=by ext
def A34 (q:Rat) (n:Nat):okA (n + 1) (dq q):=by
 show _ < 1000/\_;refine ⟨by simp,fun x hx=>?_⟩;simp at hx;rcases hx with rfl | rfl <;> (unfold okA; trivial)
def B5e (c:Rat × Rat) (n:Nat):okA (n + 2) (dcn c):=by
 show _ < 1000/\_;refine ⟨by simp,fun x hx=>?_⟩;simp at hx;rcases hx with rfl | rfl <;> exact A34 _ _
def B99 {cs:LR} (h:cs.length < 1000) (n:Nat):okA (n + 3) (.list (cs.map dcn)):=by
 show _ < 1000/\_;refine ⟨by simpa using h,fun x hx=>?_⟩;obtain ⟨c,_,rfl⟩:=List.mem_map.mp hx;exact B5e c n
def B3:LP->OT
 | []=>.nil
 | x :: r=>.cons (.leaf x) (B3 r)
def OT.len:OT->Nat
 | .cons _ t=>t.len + 1
 | .nil=>0
 | _=>1
def OT.kid:OT->Nat->Option OT
 | .cons h _,0=>some h
 | .cons _ t,n + 1=>t.kid n
 | _,_=>none
def K9:∀ xs,(B3 xs).fp=[]
 | []=>rfl
 | _ :: r=>by show []++(B3 r).fp=[]; rw [K9 r]; rfl
def Q2:∀ xs,(B3 xs).dat=xs
 | []=>rfl
 | x :: r=>by show [x]++(B3 r).dat=x :: r; rw [Q2 r]; rfl
def N3 {K:Frag} {w:Wd}:∀ {vs:List V} {xs:LP},DenAll K w.F vs xs->Tre K w (B3 xs) vs
 | _,_,.nil=>rfl
 | _,_,.cons h t=>⟨_,_,rfl,⟨_,rfl,h⟩,N3 t⟩
def J7 {K:Frag} {w:Wd}:∀ {xs:LP} {vs:List V},Tre K w (B3 xs) vs->DenAll K w.F vs xs
 | [],_,e=>by cases (show _=[] from e); exact .nil
 | _ :: _,_,⟨_,_,rfl,⟨_,e,h⟩,t⟩=>by cases e; exact .cons h (J7 t)
theorem Tre.len {K:Frag} {w:Wd}:∀ {t:OT} {vs:List V},Tre K w t vs->vs.length=t.len
 | .leaf _,_,⟨_,e,_⟩=>by rw [e]; rfl
 | .nd _ _ _,_,⟨e,_⟩=>by rw [e]; rfl
 | .nil,_,e=>by rw [show _=[] from e]; rfl
 | .cons _ _,_,⟨_,_,e,_,t⟩=>by rw [e]; show _ + 1=_ + 1; rw [t.len]
def Tre.kid {K:Frag} {w:Wd}:∀ {t:OT} {vs:List V} {n:Nat} {u:OT},Tre K w t vs->t.kid n=some u->∃ v,vs[n]?=some v/\Tre K w u [v]
 | .cons _ _,_,0,_,⟨v,_,e,h,_⟩,q=>by cases q; rw [e]; exact ⟨v,rfl,h⟩
 | .cons _ _,_,n + 1,_,⟨_,_,e,_,t⟩,q=>by rw [e]; exact t.kid (n:=n) q
def A1z:∀ {t:OT} {n:Nat} {u:OT} {a:Addr},t.kid n=some u->a ∈ u.fp->a ∈ t.fp
 | .cons _ _,0,_,_,q,h=>by cases q; simp [OT.fp,h]
 | .cons _ _,n + 1,_,_,q,h=>by simp [OT.fp,A1z (n:=n) q h]
noncomputable def hm (w:Wd):Hpp:=fun a=>open Classical in if w.M a then none else w.H a
def X1 {w:Wd} {a:Addr} {o:HO} (h:w.H a=some o) (n:¬ w.M a):hm w a=some o:=by unfold hm; rw [if_neg n]; exact h
def B2p {w:Wd} {a:Addr} {o:HO} (h:hm w a=some o):w.H a=some o/\¬ w.M a:=by
 unfold hm at h; split at h
 ·cases h
 ·exact ⟨h,‹_›⟩
def hm_F {w:Wd} (ok:w.Ok):Same w.F (hm w):=fun a o h=>X1 (ok.sub a o h) fun z=>by rw [ok.nf a z] at h; cases h
def C1p {w w':Wd} (l:Lw w w'):Same (hm w) (hm w'):=fun a o h=>by
 obtain ⟨h1,h2⟩:=B2p h;exact X1 (l.h _ _ h1 h2) (l.nm (by rw [h1]; simp) h2)
def Tre.den {K:Frag} {w:Wd} (ok:w.Ok):∀ {t:OT} {vs:List V},Tre K w t vs->(∀ a ∈ t.fp,¬ w.M a)->DenAll K (hm w) vs t.dat
 | .leaf _,_,⟨_,e,h⟩,_=>by rw [e]; exact .cons (Den.same (hm_F ok) h) .nil
 | .nd true a _,_,⟨e,_,h,k⟩,n=>by rw [e]; exact .cons (.lst (SqL.of (X1 h (n a (by simp [OT.fp])))) (Tre.den ok k fun q hq=>n q (by simp [OT.fp,hq]))) .nil
 | .nd false a _,_,⟨e,_,h,k⟩,n=>by rw [e]; exact .cons (.tup (SqD.of (X1 h (n a (by simp [OT.fp])))) (Tre.den ok k fun q hq=>n q (by simp [OT.fp,hq]))) .nil
 | .nil,_,e,_=>by rw [show _=[] from e]; exact .nil
 | .cons _ _,_,⟨v,r,e,h,t⟩,n=>by
  rw [e];exact (Tre.den ok h fun q hq=>n q (by simp [OT.fp,hq])).app (vs:=[v]) (us:=r) (Tre.den ok t fun q hq=>n q (by simp [OT.fp,hq]))
def VH (K:Frag) (w:Wd) (v:V) (x:PyData):Prop:=Den K (hm w) v x
def VR.vh {c:Ct} {w:Wd} {v:V} {t:OT} {x:PyData} (ok:w.Ok) (h:VR c w v (.tr t)) (e:t.dat=[x]):VH c.K w v x:=by
 have:=h.1.den ok fun a ha=>(h.2.1 a ha).2.2.1;rw [e] at this;cases this with | cons a _=>exact a
def VV.vh {K:Frag} {w:Wd} {v:V} {x:PyData} (ok:w.Ok) (h:VV K w v x):VH K w v x:=by
 rcases h with h | ⟨l,vs,xs,rfl,rfl,h1,h2,h3⟩
 ·exact Den.same (hm_F ok) h
 ·exact .lst (SqL.of (X1 h1 h2)) (DenAll.same (hm_F ok) h3)
class RH (K:Frag) (te:TE) (pd:outParam PDt):Prop where
 ok:∀ (c:Ct) (w:Wd) (env:PEnv) (σ:St) (Qp:PyData->PEnv->Prop) (Q:VK),c.K=K->EnvOk c w env σ->pd env Qp->(∀ v x env' w',EnvOk c w' env' σ->Lw w w'->VH K w' v x->Qp x env'->Q v w'.H)->te σ w.H Q
def B4k (i:Nat) (env:PEnv) (Q:PyData->PEnv->Prop):Prop:=match env[i]? with
 | some (some (.d x))=>Q x env
 | some (some (.own xs))=>Q (.list xs) env
 | some (some (.bor xs))=>Q (.list xs) env
 | some (some (.tr t))=>∃ x,t.dat=[x]/\Q x env
 | _=>False
instance rh_var {K:Frag} {i:Nat}:RH K (tVar i) (B4k i) where
 ok:=by
  rintro c w env σ Qp Q rfl E p k;unfold B4k at p;split at p
  ·rename_i x e;obtain ⟨v,h1,h2⟩:=E.at' i _ e;exact ⟨v,h1,k v _ env w E (Lw.refl w) (Den.same (hm_F E.wok) h2) p⟩
  ·rename_i xs e;obtain ⟨v,h1,l,vs,e',g1,g2,g3,g4,g5⟩:=E.at' i _ e;exact ⟨v,h1,k v _ env w E (Lw.refl w) (VV.vh E.wok (.inr ⟨l,vs,xs,e',rfl,g1,g3,g5⟩)) p⟩
  ·rename_i xs e;obtain ⟨v,h1,h2⟩:=E.at' i _ e;exact ⟨v,h1,k v _ env w E (Lw.refl w) ((h2.vv E.le0).vh E.wok) p⟩
  ·rename_i t e;obtain ⟨x,e1,q⟩:=p;obtain ⟨v,h1,h2⟩:=E.at' i _ e;exact ⟨v,h1,k v _ env w E (Lw.refl w) (h2.vh E.wok e1) q⟩
  ·exact p.elim
def Own (c:Ct) (w:Wd) (t:OT):Prop:=(∀ a ∈ t.fp,w.H a≠none/\w.F a=none/\¬ w.M a/\c.w0.H a=none)/\t.fp.Nodup
def NewT (c:Ct) (env:PEnv) (σ:St) (t:OT):Prop:=∀ a ∈ t.fp,(∀ (j:Nat) s u,env[j]?=some (some s)->σ[j]?=some (some u)->¬ s.foot u a)/\¬ c.Z a
def SV.ot (s:SV) (k:OT->Prop):Prop:=match s with
 | .d x=>k (.leaf x)
 | .own xs=>∀ a,k (.nd true a (B3 xs))
 | .tr t=>k t
 | _=>False
def Res.ot {c:Ct} {w w1:Wd} {env:PEnv} {σ:St} {v:V} {s:SV} {k:OT->Prop} (R:Res c w env σ w1 v s) (h:s.ot k):∃ t,Tre c.K w1 t [v]/\Own c w1 t/\NewT c env σ t/\k t:=by
 obtain ⟨E,lw,val,new,_⟩:=R;cases s with
 | d x=>exact ⟨.leaf x,⟨v,rfl,val⟩,⟨fun a z=>(nomatch z),List.nodup_nil⟩,fun a z=>(nomatch z),h⟩
 | own xs =>
  obtain ⟨l,vs,rfl,h1,h2,h3,h4,h5⟩:=val;have one:∀ a,a ∈ (OT.nd true l (B3 xs)).fp->a=l:=fun a ha=>by
   rw [show (OT.nd true l (B3 xs)).fp=l :: (B3 xs).fp from rfl,K9] at ha;simpa using ha
  refine ⟨.nd true l (B3 xs),⟨rfl,vs,h1,N3 h5⟩,⟨fun a ha=>?_,by show (l :: (B3 xs).fp).Nodup; rw [K9]; simp⟩,fun a ha=>?_,h l⟩
  ·rw [one a ha]; exact ⟨by rw [h1]; simp,h2,h3,h4⟩
  ·rw [one a ha]; exact new l rfl
 | bor xs=>exact (show False from h).elim
 | st=>exact (show False from h).elim
 | tr t=>exact ⟨t,val.1,val.2,new,h⟩
 | bt t=>exact (show False from h).elim
 | al t=>exact (show False from h).elim
 | dk t=>exact (show False from h).elim
 | dl t u=>exact (show False from h).elim
def VR.reZ {K:Frag} {w0 w:Wd} {Z Z':Addr->Prop} {v:V}:∀ {s:SV},VR ⟨K,w0,Z⟩ w v s->VR ⟨K,w0,Z'⟩ w v s
 | .d _,h=>h
 | .own _,h=>h
 | .bor _,h=>h
 | .st,h=>h
 | .tr _,h=>h
 | .bt _,h=>h
 | .al _,h=>h
 | .dk _,h=>h
 | .dl _ _,h=>h
def Ct.with (c:Ct) (t:OT):Ct:=⟨c.K,c.w0,fun a=>c.Z a\/a ∈ t.fp⟩
def EnvOk.hold {c:Ct} {w:Wd} {env:PEnv} {σ:St} {t:OT} (E:EnvOk c w env σ) (o:Own c w t) (n:NewT c env σ t):EnvOk (c.with t) w env σ :=
 ⟨E.wok,E.le0,E.len,fun i s q=>let ⟨v,h1,h2⟩:=E.at' i s q; ⟨v,h1,h2.reZ⟩,E.own,fun a z=>z.elim (E.zf a) fun ha=>let ⟨h1,h2,h3,_⟩:=o.1 a ha; ⟨h2,h1,h3⟩,fun a j s u z q q'=>z.elim (fun z=>E.zo a j s u z q q') fun ha=>(n a ha).1 j s u q q'⟩
def EnvOk.letgo {c:Ct} {w:Wd} {env:PEnv} {σ:St} {t:OT} (E:EnvOk (c.with t) w env σ):EnvOk c w env σ :=
 ⟨E.wok,E.le0,E.len,fun i s q=>let ⟨v,h1,h2⟩:=E.at' i s q; ⟨v,h1,h2.reZ⟩,E.own,fun a z=>E.zf a (.inl z),fun a j s u z q q'=>E.zo a j s u (.inl z) q q'⟩
class RAt (K:Frag) (ta:TA) (pa:outParam (PEnv->(OT->PEnv->Prop)->Prop)):Prop where
 ok:∀ (c:Ct) (w:Wd) (env:PEnv) (σ:St) (Qp:OT->PEnv->Prop) (Q:List V->Hpp->Prop),c.K=K->EnvOk c w env σ->pa env Qp->(∀ vs t env' w',EnvOk c w' env' σ->Lw w w'->Tre K w' t vs->Own c w' t->NewT c env' σ t->Qp t env'->Q vs w'.H)->ta σ w.H Q
def B85 (env:PEnv) (Q:OT->PEnv->Prop):Prop:=Q .nil env
def B2e (pe:PX) (pr:PEnv->(OT->PEnv->Prop)->Prop) (env:PEnv) (Q:OT->PEnv->Prop):Prop:=pe env fun s e1=>s.ot fun t=>pr e1 fun r e2=>(∀ a ∈ r.fp,a ∉ t.fp)->Q (.cons t r) e2
instance rat_nil {K:Frag}:RAt K tNil B85:=⟨fun c w env σ Qp Q _ E p k=>k [] .nil env w E (Lw.refl w) rfl ⟨fun a z=>(nomatch z),List.nodup_nil⟩ (fun a z=>nomatch z) p⟩
instance rat_cons {K:Frag} {ta:TE} {tr:TA} {pe:PX} {pr:PEnv->(OT->PEnv->Prop)->Prop} [ha:RE K ta pe] [hr:RAt K tr pr]:RAt K (F7 ta tr) (B2e pe pr) where
 ok:=by
  rintro c w env σ Qp Q rfl E p k;refine ha.ok c w env σ _ _ rfl E p fun v s e1 w1 R q1=>?_;obtain ⟨t,ht,ho,hn,q⟩:=R.ot q1;refine hr.ok (c.with t) w1 e1 σ _ _ rfl (R.ev.hold ho hn) q fun vs r e2 w2 E2 l2 hr' ho' hn' q2=>?_;refine k (v :: vs) (.cons t r) e2 w2 E2.letgo (R.lw.trans l2) ⟨v,vs,rfl,ht.mono l2 fun a ha=>(ho.1 a ha).2.2.1,hr'⟩ ⟨fun a ha=>?_,List.nodup_append.mpr ⟨ho.2,ho'.2,fun a ha b hb e=>(hn' b hb).2 (.inr (e ▸ ha))⟩⟩ (fun a ha=>?_) (q2 fun a ha z=>(hn' a ha).2 (.inr z))
  ·rcases Za (show a ∈ t.fp++r.fp from ha) with z | z
   ·obtain ⟨z1,z2,z3⟩:=E2.zf a (.inr z);exact ⟨z2,z1,z3,(ho.1 a z).2.2.2⟩
   ·exact ho'.1 a z
  ·rcases Za (show a ∈ t.fp++r.fp from ha) with z | z
   ·exact ⟨fun j s u q q'=>E2.zo a j s u (.inr z) q q',(hn a z).2⟩
   ·exact ⟨(hn' a z).1,fun y=>(hn' a z).2 (.inl y)⟩
def Res.laid {c:Ct} {w:Wd} {env:PEnv} {σ:St} {p:Addr} {vs:List V} {t:OT} {b:Bool} (E:EnvOk c w env σ) (h:w.H p=none) (ht:Tre c.K w t vs) (o:Own c w t) (n:NewT c env σ t):Res c w env σ (w.lay p (ho b vs)) (.ref p) (.tr (.nd b p t)):=by
 have le:=Wd.lay_le (o:=ho b vs) h;refine ⟨E.mono (Wd.lay_ok E.wok h) le,le.toLw,⟨⟨rfl,vs,B7,ht.mono le.toLw fun a ha=>(o.1 a ha).2.2.1⟩,fun a ha=>?_,List.nodup_cons.mpr ⟨fun z=>(o.1 p z).1 h,o.2⟩⟩,fun a f=>?_,rfl⟩
 ·rcases List.mem_cons.mp (show a ∈ p :: t.fp from ha) with rfl | z
  ·exact ⟨by show upd w.H a _ a≠none; rw [B7]; simp,E.wok.fnone h,fun z=>E.wok.mne h z rfl,E.le0.dom a h⟩
  ·obtain ⟨h1,h2,h3,h4⟩:=o.1 a z;exact ⟨fun y=>h1 (M8 y),h2,h3,h4⟩
 ·rcases List.mem_cons.mp (show a ∈ p :: t.fp from f) with rfl | z
  ·exact E.fresh h
  ·exact n a z
def B7w (ta:TA):TE:=tLst ta
def B7t (ta:TA):TE:=tTup ta
def B4m (b:Bool) (pa:PEnv->(OT->PEnv->Prop)->Prop) (env:PEnv) (Q:SV->PEnv->Prop):Prop:=pa env fun t e=>t.len<=1000/\∀ a,a ∉ t.fp->Q (.tr (.nd b a t)) e
instance re_lstT {K:Frag} {ta:TA} {pa:PEnv->(OT->PEnv->Prop)->Prop} [ha:RAt K ta pa]:RE K (B7w ta) (B4m true pa) where
 ok:=by
  rintro c w env σ Qp Q rfl E p k;refine ha.ok c w env σ _ _ rfl E p fun vs t e1 w1 E1 l1 ht ho hn q1=>⟨?_,fun p hp=>?_⟩
  ·rw [ht.len]; exact Nat.le_of_lt (R7 q1.1)
  ·exact k _ _ e1 _ ((Res.laid (b:=true) E1 hp ht ho hn).pre l1) (q1.2 p fun z=>(ho.1 p z).1 hp)
instance re_tupT {K:Frag} {ta:TA} {pa:PEnv->(OT->PEnv->Prop)->Prop} [ha:RAt K ta pa]:RE K (B7t ta) (B4m false pa) where
 ok:=by
  rintro c w env σ Qp Q rfl E p k;refine ha.ok c w env σ _ _ rfl E p fun vs t e1 w1 E1 l1 ht ho hn q1=>⟨?_,fun p hp=>?_⟩
  ·rw [ht.len]; exact Nat.le_of_lt (R7 q1.1)
  ·exact k _ _ e1 _ ((Res.laid (b:=false) E1 hp ht ho hn).pre l1) (q1.2 p fun z=>(ho.1 p z).1 hp)
def asTr (o:Option (Option SV)) (k:OT->Prop):Prop:=match o with
 | some (some (.tr t))=>k t
 | _=>False
end Pu
namespace L2
open PySem PySem.Spec PyProof.Rows
section
variable {X:Cx} {e:Expr}
def C2j {t:TA} (h:QE X e (tLst t)):QE X e (Pu.B7w t):=h
def C2i {t:TA} (h:QE X e (tTup t)):QE X e (Pu.B7t t):=h
end
end L2
namespace Pu
open PySem L2 My Prf
def SV.asH (s:SV) (k:PyData->Prop):Prop:=match s with
 | .d x=>k x
 | .own xs=>k (.list xs)
 | .tr t=>∃ x,t.dat=[x]/\k x
 | _=>False
def B8u (pe:PX) (env:PEnv) (Q:PyData->PEnv->Prop):Prop:=pe env fun s e=>s.asH fun x=>Q x e
instance (priority:=200) rh_re {K:Frag} {te:TE} {pe:PX} [h:RE K te pe]:RH K te (B8u pe) where
 ok:=by
  rintro c w env σ Qp Q rfl E p k;refine h.ok c w env σ _ Q rfl E p fun v s env' w' R q=>?_;have E':=R.ev;cases s with
  | d x=>exact k v x env' w' E' R.lw (Den.same (hm_F E'.wok) R.val) q
  | own xs =>
   obtain ⟨l,vs,e',g1,g2,g3,g4,g5⟩:=R.val;exact k v _ env' w' E' R.lw (VV.vh E'.wok (.inr ⟨l,vs,xs,e',rfl,g1,g3,g5⟩)) q
  | tr t =>
   obtain ⟨x,e,q⟩:=q;exact k v x env' w' E' R.lw (VR.vh E'.wok R.val e) q
  | bor xs=>exact (show False from q).elim
  | bt t=>exact (show False from q).elim
  | al t=>exact (show False from q).elim
  | dk t=>exact (show False from q).elim
  | dl t u=>exact (show False from q).elim
  | st=>exact (show False from q).elim
def VR.btv {c:Ct} {w:Wd} {v:V} {t:OT} (l:Le c.w0 w) (h:VR c w v (.bt t)):TV c.K w v t:=by
 have lw:Lw ⟨c.w0.M,c.w0.H,w.F⟩ w:=⟨Same.refl _,l.h,l.m,l.mn,l.dom⟩;exact ⟨h.1.mono lw h.2,fun a ha=>l.nm (h.1.has a ha) (h.2 a ha)⟩
class RTr (K:Frag) (te:TE) (pb:outParam (PEnv->(OT->PEnv->Prop)->Prop)):Prop where
 ok:∀ (c:Ct) (w:Wd) (env:PEnv) (σ:St) (Qp:OT->PEnv->Prop) (Q:VK),c.K=K->EnvOk c w env σ->pb env Qp->(∀ v t env' w',EnvOk c w' env' σ->Lw w w'->TV K w' v t->Qp t env'->Q v w'.H)->te σ w.H Q
def pTrV (i:Nat) (env:PEnv) (Q:OT->PEnv->Prop):Prop:=match env[i]? with
 | some (some (.d x))=>Q (.leaf x) env
 | some (some (.tr t))=>Q t env
 | some (some (.bt t))=>Q t env
 | _=>False
instance rtr_var {K:Frag} {i:Nat}:RTr K (tVar i) (pTrV i) where
 ok:=by
  rintro c w env σ Qp Q rfl E p k;unfold pTrV at p;split at p
  ·rename_i x e;obtain ⟨v,h1,h2⟩:=E.at' i _ e;exact ⟨v,h1,k v (.leaf x) env w E (Lw.refl w) ⟨⟨v,rfl,h2⟩,fun a z=>nomatch z⟩ p⟩
  ·rename_i t e;obtain ⟨v,h1,h2⟩:=E.at' i _ e;exact ⟨v,h1,k v _ env w E (Lw.refl w) ⟨h2.1,fun a ha=>(h2.2.1 a ha).2.2.1⟩ p⟩
  ·rename_i t e;obtain ⟨v,h1,h2⟩:=E.at' i _ e;exact ⟨v,h1,k v _ env w E (Lw.refl w) (h2.btv E.le0) p⟩
  ·exact p.elim
def OT.lvs:OT->Option LP
 | .nil=>some []
 | .cons (.leaf x) t=>t.lvs.map (x :: ·)
 | _=>none
def U1:∀ xs,(B3 xs).lvs=some xs
 | []=>rfl
 | x :: r=>by show (B3 r).lvs.map _=_; rw [U1 r]; rfl
def Q0:∀ {t:OT} {xs:LP},t.lvs=some xs->t=B3 xs
 | .nil,_,h=>by cases h; rfl
 | .cons (.leaf x) t,xs,h=>by
  have h':t.lvs.map (x :: ·)=some xs:=h;cases q:t.lvs with
  | none=>rw [q] at h'; cases h'
  | some ys=>rw [q] at h'; cases h'; rw [Q0 q]; rfl
def OT.sv:OT->SV
 | .leaf (.list xs)=>.bor xs
 | .leaf x=>.d x
 | .nd true a k=>match k.lvs with
  | some xs=>.bor xs
  | none=>.bt (.nd true a k)
 | t=>.bt t
def A6a {a:Addr} {xs:LP}:OT.sv (.nd true a (B3 xs))=.bor xs:=by show (match (B3 xs).lvs with | some xs=>SV.bor xs | none=>_)=_; rw [U1]
def VR.sv {c:Ct} {w:Wd} {v:V} {u:OT} (h:VR c w v (.bt u)):VR c w v u.sv:=by
 unfold OT.sv;split
 ·obtain ⟨⟨v',e,h⟩,_⟩:=h;cases e; exact .inl h
 ·obtain ⟨⟨v',e,h⟩,_⟩:=h;cases e; exact h
 ·rename_i a k;split
  ·rename_i xs q;obtain ⟨⟨e,us,h1,h2⟩,h3⟩:=h;cases e;rw [Q0 q] at h2;exact .inr ⟨a,us,rfl,h1,h3 a (by simp [OT.fp]),J7 (w:=⟨c.w0.M,c.w0.H,w.F⟩) h2⟩
  ·exact h
 ·exact h
def B1x {c:Ct} {env:PEnv} {σ:St} {v:V}:∀ {u:OT},New c env σ v u.sv:=by
 intro u a f;unfold OT.sv at f;split at f
 ·exact f.elim
 ·exact f.elim
 ·split at f
  ·exact f.elim
  ·exact f.elim
 ·exact f.elim
def OT.pair:OT->Option (OT × OT)
 | .nd false _ (.cons u (.cons v .nil))=>some (u,v)
 | .leaf (.tuple [x,y])=>some (.leaf x,.leaf y)
 | _=>none
def pUnp (i a b:Nat) (pr:LP->PEnv->(PEnv->Prop)->Prop) (D:PEnds) (env:PEnv):Prop:=match env[i]? with
 | some (some (.bt t))=>∃ u v,t.pair=some (u,v)/\D.nx ((env.set a (some u.sv)).set b (some v.sv))
 | some (some (.d x))=>qTup 2 pr x env D.nx
 | _=>False
def B7s {c:Ct} {w:Wd} {v:V} {t u1 u2:OT} (ok:w.Ok) (l:Le c.w0 w) (h:VR c w v (.bt t)) (e:t.pair=some (u1,u2)):∃ p x y,v=.ref p/\SqT c.K w.H p [x,y]/\VR c w x (.bt u1)/\VR c w y (.bt u2):=by
 unfold OT.pair at e;split at e
 ·rename_i a k1 k2;cases e;obtain ⟨⟨ev,us,h1,x,r,e1,hx,y,r2,e2,hy,e3⟩,h3⟩:=h;cases ev;have e3':r2=[]:=e3;subst e1; subst e2; subst e3';exact ⟨a,x,y,rfl,SqT.of (l.h _ _ h1 (h3 a (by simp [OT.fp]))),⟨hx,fun q hq=>h3 q (by simp [OT.fp,hq])⟩,⟨hy,fun q hq=>h3 q (by simp [OT.fp,hq])⟩⟩
 ·cases e;obtain ⟨⟨v',ev,h⟩,_⟩:=h;cases ev;obtain ⟨p,vs,rfl,h1,h2⟩:=Den.tupE h;cases h2 with
  | cons hx t=>cases t with
   | cons hy t =>
    cases t;exact ⟨p,_,_,rfl,SqT.same ok.sub h1,⟨⟨_,rfl,hx⟩,fun q hq=>nomatch hq⟩,⟨⟨_,rfl,hy⟩,fun q hq=>nomatch hq⟩⟩
 ·cases e
instance (priority:=high) rs_unp {K:Frag} {i a b:Nat} {pr:LP->PEnv->(PEnv->Prop)->Prop} [hr:RGs K (Y5 (O6 a) (Y5 (O6 b) gNil)) pr]:RS K (tAsg (tVar i) (gTup K 2 (Y5 (O6 a) (Y5 (O6 b) gNil)))) (pUnp i a b pr) where
 ok:=by
  rintro c w env σ Dp D rfl E h p;unfold pUnp at p;split at p
  ·rename_i t e;obtain ⟨u1,u2,hp,q⟩:=p;obtain ⟨v,h1,h2⟩:=E.at' i _ e;obtain ⟨p,x,y,rfl,hs,hx,hy⟩:=B7s E.wok E.le0 h2 hp;refine ⟨_,h1,p,[x,y],rfl,hs,rfl,x,[y],rfl,y,[],rfl,rfl,?_⟩;have E1:=E.set (i:=a) hx.sv B1x;have E2:=E1.set (i:=b) hy.sv B1x;exact h.nx _ _ w E2 (Same.refl _) q
  ·rename_i x e;obtain ⟨v,h1,h2⟩:=E.at' i _ e;refine ⟨v,h1,?_⟩;exact rg_tup.ok c w env σ v x _ _ rfl E h2 p fun e2 σ2 E2 q2=>h.nx e2 σ2 w E2 (Same.refl _) q2
  ·exact p.elim
def fdE {a:Int} {n:Nat} (h:(n:Int) ∣ a):a.fdiv n=a / n:=Int.fdiv_eq_ediv_of_dvd h
theorem fdN (a n:Nat):(a:Int).fdiv (n:Int)=((a / n:Nat):Int):=by
 rw [Int.fdiv_eq_ediv_of_nonneg _ (Int.natCast_nonneg n)]; rfl
def B34 (p q:Rat) (g t:Int) (hg:g=((Int.gcd (p.den:Int) (q.den:Int):Nat):Int)) (ht:t=p.num * (q.den:Int).fdiv g + q.num * (p.den:Int).fdiv g) :
  t.fdiv ((Int.gcd t g:Nat):Int)=(p + q).num/\(p.den:Int).fdiv g * (q.den:Int).fdiv ((Int.gcd t g:Nat):Int)=((p + q).den:Int):=by
 have e:p + q=Rat.add p q:=rfl;have hgn:Int.gcd (p.den:Int) (q.den:Int)=Nat.gcd p.den q.den:=rfl;rw [hgn] at hg;rw [e]; unfold Rat.add;dsimp only;split
 ·rename_i h1;rw [h1] at hg;subst hg;have ht':t=p.num * q.den + q.num * p.den:=by rw [ht,fdN,fdN]; simp
  have h2:Int.gcd t ((1:Nat):Int)=1:=by simp
  rw [h2,ht'];refine ⟨by simp,?_⟩;rw [fdN,fdN]; simp
 ·rename_i h1;rw [Rat.maybeNormalize_eq];rw [hg,fdN,fdN] at ht;have h3:Int.gcd t g=t.natAbs.gcd (p.den.gcd q.den):=by rw [hg]; rfl
  rw [h3];subst ht;refine ⟨?_,?_⟩
  ·show _=Int.divExact _ _ (Int.gcd_dvd_left _ ((p.den.gcd q.den:Nat):Int));rw [Int.divExact_eq_ediv];exact fdE (Int.gcd_dvd_left _ ((p.den.gcd q.den:Nat):Int))
  ·show _=((_ / _:Nat):Int);rw [hg,fdN,fdN];have hd:(p.num * ((q.den / p.den.gcd q.den:Nat):Int) + q.num * ((p.den / p.den.gcd q.den:Nat):Int)).natAbs.gcd (p.den.gcd q.den) ∣ q.den:=Nat.dvd_trans (Nat.gcd_dvd_right ..) (Nat.gcd_dvd_right ..);rw [Nat.mul_div_assoc _ hd,Int.natCast_mul]
def A5q {t:Int} (q:Rat):((Int.gcd t (q.den:Int):Nat):Int)≠0:=by
 have h:=q.den_nz;intro h0;have h1:Int.gcd t (q.den:Int)=0:=by omega
 have h2:=(Int.gcd_eq_zero_iff.mp h1).2;omega
def A4f {t g:Int} (h:g≠0):((Int.gcd t g:Nat):Int)≠0:=by
 intro h0;have h1:Int.gcd t g=0:=by omega
 exact h (Int.gcd_eq_zero_iff.mp h1).2
def B08 {k:Nat} {a g:Int} (h:Sm k a) (g1:0<=g):Sm k (a.fdiv g):=by
 unfold Sm at *;rw [Int.fdiv_eq_ediv_of_nonneg _ g1];rcases Int.lt_or_le 0 g with h0 | h0
 ·have h2:=Int.natAbs_ediv_le_natAbs a g;omega
 ·have:g=0:=by omega
  subst this;rw [Int.ediv_zero]; exact Nat.two_pow_pos k
def C1v (q:Rat):PyData.tuple [.int (-q.num),.int q.den]=dq (-q):=rfl
section
variable {x y:PyData} {xs ys:LP} {i j:Nat} {env e:PEnv} {s:SV} {t:OT}
theorem C3h {k:PyData->Prop}:(SV.d x).asD k=k x:=rfl
theorem C3g {k:PyData->Prop}:(SV.own xs).asD k=k (.list xs):=rfl
def oVar (o:Option (Option SV)) (i:Nat) (env:PEnv) (Q:SV->PEnv->Prop):Prop:=match o with
 | some (some (.d x))=>Q (.d x) env
 | some (some (.own xs))=>Q (.d (.list xs)) (env.set i (some (.d (.list xs))))
 | some (some .st)=>Q .st env
 | _=>False
theorem B8v {Q:SV->PEnv->Prop}:pVar i env Q=oVar env[i]? i env Q:=rfl
theorem C0b {Q:SV->PEnv->Prop}:oVar (some (some (.d x))) i env Q=Q (.d x) env:=rfl
theorem C0a {Q:SV->PEnv->Prop}:oVar (some (some (.own xs))) i env Q=Q (.d (.list xs)) (env.set i (some (.d (.list xs)))):=rfl
def B0l (o:Option (Option SV)) (env:PEnv) (Q:PyData->PEnv->Prop):Prop:=match o with
 | some (some (.d x))=>Q x env
 | some (some (.own xs))=>Q (.list xs) env
 | some (some (.bor xs))=>Q (.list xs) env
 | _=>False
theorem B4h {Q:PyData->PEnv->Prop}:B4i i env Q=B0l env[i]? env Q:=rfl
theorem B5h {Q:PyData->PEnv->Prop}:B0l (some (some (.d x))) env Q=Q x env:=rfl
theorem B5g {Q:PyData->PEnv->Prop}:B0l (some (some (.own xs))) env Q=Q (.list xs) env:=rfl
theorem B5i {Q:PyData->PEnv->Prop}:B0l (some (some (.bor xs))) env Q=Q (.list xs) env:=rfl
theorem pI_i {C:Int->Int->Prop} {gd:Int->Int->PyData} {i j:Int} {Q:SV->Prop}:pI C gd (.int i) (.int j) Q=(C i j/\Q (.d (gd i j))):=rfl
theorem C2q {gd:Int->Int->PyData} {i j:Int} {Q:SV->Prop}:pI0 gd (.int i) (.int j) Q=Q (.d (gd i j)):=rfl
theorem pU_i {gd:Int->PyData} {i:Int} {Q:SV->Prop}:pU gd (.int i) Q=Q (.d (gd i)):=rfl
theorem B9w {i:Int} {Q:SV->Prop}:pAbs [.int i] Q=Q (.d (.int (if i < 0 then -i else i))):=rfl
theorem B88 {i j:Int} {Q:SV->Prop}:pMax [.int i,.int j] Q=Q (.d (.int (if j > i then j else i))):=rfl
theorem B87 {i j:Int} {Q:SV->Prop}:pMin [.int i,.int j] Q=Q (.d (.int (if j < i then j else i))):=rfl
theorem B9j {b:Bool} {Q:SV->Prop}:pInt [.bool b] Q=Q (.d (.int (if b then 1 else 0))):=rfl
def oKit (o:Option Bool) (Q:SV->Prop):Prop:=match o with
 | some b=>Q (.d (.bool b))
 | none=>False
theorem B9i {c:String} {pa:PDt} {Q:SV->PEnv->Prop}:pIsi c pa env Q=pa env fun x e=>oKit (kitB (tyD x) c) fun s=>Q s e:=rfl
theorem C0h {b:Bool} {Q:SV->Prop}:oKit (some b) Q=Q (.d (.bool b)):=rfl
theorem C3i {b:Bool} {k:Bool->Prop}:asB (.bool b) k=k b:=rfl
theorem C3c {k:LP->Prop}:asL (.list xs) k=k xs:=rfl
theorem C1j {k:Prop}:isSt (some (some .st)) k=k:=rfl
theorem C3d {i:Int} {k:Int->Prop}:asI (.int i) k=k i:=rfl
def B5r (o:Option (Option SV)) (D:PEnds) (env:PEnv):Prop:=match o with
 | some (some (.bor _))=>False
 | some (some (.bt _))=>False
 | some (some (.al _))=>False
 | some (some s)=>D.rt s env
 | _=>False
theorem B4p {D:PEnds}:B4q i D env=B5r env[i]? D env:=rfl
theorem B5q {D:PEnds}:B5r (some (some (.d x))) D env=D.rt (.d x) env:=rfl
theorem B5p {D:PEnds}:B5r (some (some (.own xs))) D env=D.rt (.own xs) env:=rfl
theorem A3u {Q:PEnv->Prop}:qNil [] env Q=Q env:=rfl
theorem A0n {pg:PyData->PEnv->(PEnv->Prop)->Prop} {pr:LP->PEnv->(PEnv->Prop)->Prop} {Q:PEnv->Prop}:A6s pg pr (x :: xs) env Q=pg x env fun e=>pr xs e Q:=rfl
def oPar (i j:Nat) (xs:LP) (D:PEnds) (e:PEnv):Prop:=match xs with
 | [x,y]=>D.nx ((e.set i (some (.d x))).set j (some (.d y)))
 | _=>False
theorem B82 {pa:PAr} {D:PEnds}:pPar i j pa D env=pa env fun xs e=>oPar i j xs D e:=rfl
theorem C0g {D:PEnds}:oPar i j [x,y] D e=D.nx ((e.set i (some (.d x))).set j (some (.d y))):=rfl
theorem B7h {k:LP->Prop}:A06 (some (some (.own xs))) k=k xs:=rfl
def A36 (o:Option (Option SV)) (i:Nat) (env:PEnv) (Q:LP->PEnv->Prop):Prop:=match o with
 | some (some (.d x))=>Y0 x fun xs=>Q xs env
 | some (some (.own xs))=>Q xs (env.set i (some (.d (.list xs))))
 | some (some (.bor xs))=>Q xs env
 | _=>False
theorem B0d {Q:LP->PEnv->Prop}:A7f i env Q=A36 env[i]? i env Q:=rfl
theorem B0o {Q:LP->PEnv->Prop}:A36 (some (some (.d x))) i env Q=Y0 x fun xs=>Q xs env:=rfl
theorem B0n {Q:LP->PEnv->Prop}:A36 (some (some (.own xs))) i env Q=Q xs (env.set i (some (.d (.list xs)))):=rfl
theorem B0p {Q:LP->PEnv->Prop}:A36 (some (some (.bor xs))) i env Q=Q xs env:=rfl
def C0f (xs:LP) (Q:LP->Prop):Prop:=match xs with
 | [.int j]=>(-(2 ^ 62)<=j/\j < 2 ^ 62)/\Q (rngD 0 j.toNat)
 | _=>False
theorem B4o {pa:PAr} {Q:LP->PEnv->Prop}:B80 pa env Q=pa env fun xs e=>C0f xs fun ys=>Q ys e:=rfl
theorem B5o {j:Int} {Q:LP->Prop}:C0f [.int j] Q=((-(2 ^ 62)<=j/\j < 2 ^ 62)/\Q (rngD 0 j.toNat)):=rfl
def C0e (xs:LP) (Q:LP->Prop):Prop:=match xs with
 | [.int i,.int j]=>(-(2 ^ 62)<=i/\i < 2 ^ 62/\-(2 ^ 62)<=j/\j < 2 ^ 62)/\Q (rngD i (j - i).toNat)
 | _=>False
theorem B4n {pa:PAr} {Q:LP->PEnv->Prop}:B8z pa env Q=pa env fun xs e=>C0e xs fun ys=>Q ys e:=rfl
theorem B5n {i j:Int} {Q:LP->Prop}:C0e [.int i,.int j] Q=((-(2 ^ 62)<=i/\i < 2 ^ 62/\-(2 ^ 62)<=j/\j < 2 ^ 62)/\Q (rngD i (j - i).toNat)):=rfl
theorem B9r {Q:SV->Prop}:pCat (.list xs) (.list ys) Q=(xs.length + ys.length<=1000000/\Q (.own (xs++ys))):=rfl
theorem B9v {Q:SV->Prop}:pAll [.list ys] Q=∃ bs,blsD ys=some bs/\Q (.d (.bool (bs.all id))):=rfl
def B0m (o:Option (Option SV)) (i:Nat) (env:PEnv) (Q:LP->PEnv->Prop):Prop:=match o with
 | some (some (.d x))=>asL x fun xs=>Q xs env
 | some (some (.own xs))=>Q xs (env.set i (some (.d (.list xs))))
 | some (some (.bor xs))=>Q xs env
 | _=>False
theorem B4v {Q:LP->PEnv->Prop}:B4w i env Q=B0m env[i]? i env Q:=rfl
theorem B5v {Q:LP->PEnv->Prop}:B0m (some (some (.d x))) i env Q=asL x fun xs=>Q xs env:=rfl
theorem B5u {Q:LP->PEnv->Prop}:B0m (some (some (.own xs))) i env Q=Q xs (env.set i (some (.d (.list xs)))):=rfl
theorem B5w {Q:LP->PEnv->Prop}:B0m (some (some (.bor xs))) i env Q=Q xs env:=rfl
def C0i (xss:List LP) (Q:LP->Prop):Prop:=match xss with
 | [xs]=>Q (L4 xs)
 | _=>False
theorem B44 {pa:PEnv->(List LP->PEnv->Prop)->Prop} {Q:LP->PEnv->Prop}:B9m pa env Q=pa env fun xss e=>C0i xss fun ys=>Q ys e:=rfl
theorem B5x {Q:LP->Prop}:C0i [xs] Q=Q (L4 xs):=rfl
def A7w (o:Option (Option SV)) (env:PEnv) (Q:PyData->PEnv->Prop):Prop:=match o with
 | some (some (.d x))=>Q x env
 | some (some (.own xs))=>Q (.list xs) env
 | some (some (.bor xs))=>Q (.list xs) env
 | some (some (.tr t))=>∃ x,t.dat=[x]/\Q x env
 | _=>False
theorem B4j {Q:PyData->PEnv->Prop}:B4k i env Q=A7w env[i]? env Q:=rfl
theorem B5l {Q:PyData->PEnv->Prop}:A7w (some (some (.d x))) env Q=Q x env:=rfl
theorem B5k {Q:PyData->PEnv->Prop}:A7w (some (some (.own xs))) env Q=Q (.list xs) env:=rfl
theorem B5m {Q:PyData->PEnv->Prop}:A7w (some (some (.bor xs))) env Q=Q (.list xs) env:=rfl
theorem B5j {Q:PyData->PEnv->Prop}:A7w (some (some (.tr t))) env Q=∃ x,t.dat=[x]/\Q x env:=rfl
theorem ot_d {k:OT->Prop}:(SV.d x).ot k=k (.leaf x):=rfl
theorem ot_o {k:OT->Prop}:(SV.own xs).ot k=∀ a,k (.nd true a (B3 xs)):=rfl
theorem C15 {k:OT->Prop}:asTr (some (some (.tr t))) k=k t:=rfl
theorem C3f {k:PyData->Prop}:(SV.d x).asH k=k x:=rfl
theorem C3e {k:PyData->Prop}:(SV.own xs).asH k=k (.list xs):=rfl
def oTrV (o:Option (Option SV)) (env:PEnv) (Q:OT->PEnv->Prop):Prop:=match o with
 | some (some (.d x))=>Q (.leaf x) env
 | some (some (.tr t))=>Q t env
 | some (some (.bt t))=>Q t env
 | _=>False
theorem B8x {Q:OT->PEnv->Prop}:pTrV i env Q=oTrV env[i]? env Q:=rfl
theorem C0d {Q:OT->PEnv->Prop}:oTrV (some (some (.tr t))) env Q=Q t env:=rfl
def oUnp (o:Option (Option SV)) (a b:Nat) (pr:LP->PEnv->(PEnv->Prop)->Prop) (D:PEnds) (env:PEnv):Prop:=match o with
 | some (some (.bt t))=>∃ u v,t.pair=some (u,v)/\D.nx ((env.set a (some u.sv)).set b (some v.sv))
 | some (some (.d x))=>qTup 2 pr x env D.nx
 | _=>False
theorem B8w {a b:Nat} {pr:LP->PEnv->(PEnv->Prop)->Prop} {D:PEnds}:pUnp i a b pr D env=oUnp env[i]? a b pr D env:=rfl
theorem C0c {a b:Nat} {pr:LP->PEnv->(PEnv->Prop)->Prop} {D:PEnds}:oUnp (some (some (.d x))) a b pr D env=qTup 2 pr x env D.nx:=rfl
class Box (α:Type) where
 f:α->Prop
def hold {α:Type} [b:Box α] (x:α):Prop:=b.f x
theorem B04 {α:Type} {f:α->Prop} {x:α}:@hold α ⟨f⟩ x=f x:=rfl
theorem B48 {psp:PSp} {pa:PAs} {env:PEnv} {Q:SV->PEnv->Prop}:B9s psp pa env Q=pa env fun as e=>psp as (@hold SV ⟨fun s=>Q s e⟩):=rfl
theorem B9b {xs:LP} {i:Int} {Q:SV->Prop}:pIx (.list xs) (.int i) Q=pGet xs i (@hold SV ⟨Q⟩):=rfl
theorem B9a {xs:LP} {i:Int} {Q:SV->Prop}:pIx (.tuple xs) (.int i) Q=pGet xs i (@hold SV ⟨Q⟩):=rfl
theorem B46 {pi:PAr} {pg:PyData->PEnv->(PEnv->Prop)->Prop} {pt:PTt} {pd:PDt} {cap:List (Option Nat)} {env:PEnv} {Q:SV->PEnv->Prop}:B9q pi pg pt pd cap env Q=pi env fun xs e=>xs.length < 1000000/\Q6 xs pg pt pd (L5 cap e) (@hold LP ⟨fun ys=>Q (.own ys) e⟩):=rfl
theorem A48 {pi:PAr} {pg:PyData->PEnv->(PEnv->Prop)->Prop} {pt:PTt} {pd:PDt} {cap:List (Option Nat)} {i:Nat} {D:PEnds} {env:PEnv}:A30 pi pg pt pd cap i D env=pi env fun xs e=>xs.length < 1000000/\Q6 xs pg pt pd (L5 cap e) (@hold LP ⟨fun ys=>D.nx (e.set i (some (.own ys)))⟩):=rfl
end
end Pu
namespace L2
open PySem PySem.Spec PyProof.Rows
section
variable {X:Cx}
def rInD (K:W.Frag) (neg:Bool):R2:=fun x y H Q=>∃ dx dy xs,Den K H x dx/\Den K H y dy/\(dy=.list xs\/dy=.tuple xs)/\PyData.canLayAll0 xs=true/\dx.canLay0=true/\dx.depth<=60/\Q (.bl (if neg then !(xs.any fun z=>z.eqv dx) else xs.any fun z=>z.eqv dx)) H
def B90 (hu:X.A.units + 64 < cLine):OpR X (compareOp .In) (rInD X.K false):=by
 intro pins s σ H x y v u Q I rx ry h;obtain ⟨dx,dy,xs,h1,h2,h3,c1,c2,hd,q⟩:=h;obtain ⟨as,r1⟩:=h1.reads I rx c2;obtain ⟨bs,r2⟩:=h2.reads I ry (by rcases h3 with rfl | rfl <;> exact c1)
 rcases h3 with rfl | rfl
 ·exact PySem.SeqAt.in_list_reads r2 r1 c1 c2 (by omega) ⟨.bl _,H,I,rfl,q⟩
 ·exact PySem.SeqAt.in_tuple_reads r2 r1 c1 c2 (by omega) ⟨.bl _,H,I,rfl,q⟩
def A7m (hu:X.A.units + 64 < cLine):OpR X (compareOp .NotIn) (rInD X.K true):=by
 intro pins s σ H x y v u Q I rx ry h;obtain ⟨dx,dy,xs,h1,h2,h3,c1,c2,hd,q⟩:=h;obtain ⟨as,r1⟩:=h1.reads I rx c2;obtain ⟨bs,r2⟩:=h2.reads I ry (by rcases h3 with rfl | rfl <;> exact c1)
 rcases h3 with rfl | rfl
 ·exact PySem.SeqAt.notIn_list_reads r2 r1 c1 c2 (by omega) ⟨.bl _,H,I,rfl,q⟩
 ·exact PySem.SeqAt.notIn_tuple_reads r2 r1 c1 c2 (by omega) ⟨.bl _,H,I,rfl,q⟩
def A2w {K:W.Frag} (h:X.K=K) (hu:X.A.units + 64 < cLine):OpR X (compareOp .In) (rInD K false):=by subst h; exact B90 hu
def A5b {K:W.Frag} (h:X.K=K) (hu:X.A.units + 64 < cLine):OpR X (compareOp .NotIn) (rInD K true):=by subst h; exact A7m hu
end
end L2
namespace Pu
open PySem L2 My Prf
def pIn (neg:Bool) (x y:PyData) (Q:SV->Prop):Prop:=Y0 y fun xs=>PyData.canLayAll0 xs=true/\x.canLay0=true/\x.depth<=60/\Q (.d (.bool (if neg then !(xs.any fun z=>z.eqv x) else xs.any fun z=>z.eqv x)))
instance ro_in {K:Frag} {neg:Bool}:RO K (rInD K neg) (pIn neg) where
 ok:=by
  rintro c w env σ x y dx dy Qp Q rfl E vx vy p k;unfold pIn Y0 at p;split at p
  ·rename_i xs;exact ⟨dx,_,xs,vx.den E.wok,vy.den E.wok,.inl rfl,p.1,p.2.1,p.2.2.1,k _ _ w (Res.data E (.bl _)) p.2.2.2⟩
  ·rename_i xs;exact ⟨dx,_,xs,vx.den E.wok,vy.den E.wok,.inr rfl,p.1,p.2.1,p.2.2.1,k _ _ w (Res.data E (.bl _)) p.2.2.2⟩
  ·exact p.elim
def hm_H {w:Wd}:Same (hm w) w.H:=fun _ _ h=>(B2p h).1
instance (priority:=high) re_neH {K:Frag} {ta tb:TE} {pa pb:PDt} [ha:RH K ta pa] [hb:RH K tb pb]:RE K (tOp (rNeD K) ta tb) (pOp pNeD pa pb) where
 ok:=by
  rintro c w env σ Qp Q rfl E p k;refine ha.ok c w env σ _ _ rfl E p fun x dx e1 w1 E1 l1 v1 q1=>?_;refine hb.ok c w1 e1 σ _ _ rfl E1 q1 fun y dy e2 w2 E2 l2 v2 q2=>?_;have v1':VH c.K w2 x dx:=Den.same (C1p l2) v1;exact ⟨dx,dy,Den.same hm_H v1',Den.same hm_H v2,q2.1,q2.2.1,q2.2.2.1,k _ _ e2 w2 ((Res.data E2 (.bl _)).pre (l1.trans l2)) q2.2.2.2⟩
instance (priority:=high) re_eqH {K:Frag} {ta tb:TE} {pa pb:PDt} [ha:RH K ta pa] [hb:RH K tb pb]:RE K (tOp (rEqD K) ta tb) (pOp pEqD pa pb) where
 ok:=by
  rintro c w env σ Qp Q rfl E p k;refine ha.ok c w env σ _ _ rfl E p fun x dx e1 w1 E1 l1 v1 q1=>?_;refine hb.ok c w1 e1 σ _ _ rfl E1 q1 fun y dy e2 w2 E2 l2 v2 q2=>?_;have v1':VH c.K w2 x dx:=Den.same (C1p l2) v1;exact ⟨dx,dy,Den.same hm_H v1',Den.same hm_H v2,q2.1,q2.2.1,q2.2.2.1,k _ _ e2 w2 ((Res.data E2 (.bl _)).pre (l1.trans l2)) q2.2.2.2⟩
def C3n (o:Option (Option SV)) (n:Int) (env:PEnv) (Q:LP->PEnv->Prop):Prop:=match o with
 | some (some (.bt t))=>∃ u v xs,t.pair=some (u,v)/\n=1/\v.sv=.bor xs/\Q xs env
 | _=>False
def EnvOk.take {c:Ct} {w:Wd} {env:PEnv} {σ:St} {i:Nat} {s:SV} (E:EnvOk c w env σ) (h:env[i]?=some (some s)) (hr:s.isRes=true):∃ v,σ[i]?=some (some v)/\Res c w (env.set i none) σ w v s:=by
 obtain ⟨v,hv,hV⟩:=E.at' i _ h;have up:∀ {j:Nat} {t:SV},(env.set i none)[j]?=some (some t)->i≠j/\env[j]?=some (some t):=by
  intro j t q;rw [List.getElem?_set] at q;split at q
  ·split at q <;> cases q
  ·rename_i z; exact ⟨z,q⟩
 have E':EnvOk c w (env.set i none) σ:=⟨E.wok,E.le0,by simpa using E.len,fun j s q=>E.at' j s (up q).2,fun j k s t v u a q1 q2=>E.own j k s t v u a (up q1).2 (up q2).2,E.zf,fun a j t u za q=>E.zo a j t u za (up q).2⟩;exact ⟨v,hv,E',Lw.refl w,hV,fun a f=>⟨fun j t u q z g=>(up q).1 (E.own i j _ _ _ _ a h (up q).2 hv z f g),fun za=>E.zo a i _ _ za h hv f⟩,hr⟩
def B5t (o:Option (Option SV)) (i:Nat) (env:PEnv) (k:OT->PEnv->Prop):Prop:=match o with
 | some (some (.d x))=>k (.leaf x) env
 | some (some (.own xs))=>∀ a,k (.nd true a (B3 xs)) (env.set i none)
 | some (some (.tr t))=>k t (env.set i none)
 | _=>False
theorem B5s {xs:LP} {i:Nat} {env:PEnv} {k:OT->PEnv->Prop}:B5t (some (some (.own xs))) i env k=∀ a,k (.nd true a (B3 xs)) (env.set i none):=rfl
def A7k (i:Nat) (pr:PEnv->(OT->PEnv->Prop)->Prop) (env:PEnv) (Q:OT->PEnv->Prop):Prop:=B5t env[i]? i env fun t e1=>pr e1 fun r e2=>(∀ a ∈ r.fp,a ∉ t.fp)->Q (.cons t r) e2
instance (priority:=high) rat_move {K:Frag} {i:Nat} {tr:TA} {pr:PEnv->(OT->PEnv->Prop)->Prop} [hr:RAt K tr pr]:RAt K (F7 (tVar i) tr) (A7k i pr) where
 ok:=by
  rintro c w env σ Qp Q rfl E p k;have go:∀ (e1:PEnv) (v:V) (s:SV),σ[i]?=some (some v)->Res c w e1 σ w v s->(s.ot fun t=>pr e1 fun r e2=>(∀ a ∈ r.fp,a ∉ t.fp)->Qp (.cons t r) e2)->F7 (tVar i) tr σ w.H Q:=by
   intro e1 v s hv R q1;refine ⟨v,hv,?_⟩;obtain ⟨t,ht,ho,hn,q⟩:=R.ot q1;refine hr.ok (c.with t) w e1 σ _ _ rfl (R.ev.hold ho hn) q fun vs r e2 w2 E2 l2 hr' ho' hn' q2=>?_;refine k (v :: vs) (.cons t r) e2 w2 E2.letgo (R.lw.trans l2) ⟨v,vs,rfl,ht.mono l2 fun a ha=>(ho.1 a ha).2.2.1,hr'⟩ ⟨fun a ha=>?_,List.nodup_append.mpr ⟨ho.2,ho'.2,fun a ha b hb e=>(hn' b hb).2 (.inr (e ▸ ha))⟩⟩ (fun a ha=>?_) (q2 fun a ha z=>(hn' a ha).2 (.inr z))
   ·rcases Za (show a ∈ t.fp++r.fp from ha) with z | z
    ·obtain ⟨z1,z2,z3⟩:=E2.zf a (.inr z);exact ⟨z2,z1,z3,(ho.1 a z).2.2.2⟩
    ·exact ho'.1 a z
   ·rcases Za (show a ∈ t.fp++r.fp from ha) with z | z
    ·exact ⟨fun j s u q q'=>E2.zo a j s u (.inr z) q q',(hn a z).2⟩
    ·exact ⟨(hn' a z).1,fun y=>(hn' a z).2 (.inl y)⟩
  unfold A7k B5t at p;split at p
  ·rename_i x e;obtain ⟨v,h1,h2⟩:=E.at' i _ e;exact go env v (.d x) h1 (Res.data E h2) p
  ·rename_i xs e;obtain ⟨v,h1,R⟩:=E.take e rfl;exact go _ v (.own xs) h1 R p
  ·rename_i t e;obtain ⟨v,h1,R⟩:=E.take e rfl;exact go _ v (.tr t) h1 R p
  ·exact p.elim
end Pu
namespace L2
open PySem PySem.Spec PyProof.Rows
section
variable {X:Cx} {tg:Expr}
def A9n (K:W.Frag):List V->Hp->VK->Prop:=fun xs H Q=>(∃ p ys,xs=[.ref p]/\(SqL K H p ys\/SqT K H p ys)/\Q (.int ys.length) H)\/∃ z,xs=[.str z]/\z.length<=sizeLine/\Q (.int z.length) H
def A5u {K:W.Frag} (h:X.K=K):CallR X (.builtin "len") (A9n K):=by subst h; exact call_len_seq.or A2c
def A72:90000<=sizeLine:=by rw [sizeLine_eq]; decide
end
section
variable {X:Cx} {tg:Expr} {pos:Pos}
def E9 {o i:Expr} {to ti:TE} {t:TSet} (ho:QE X o to) (hi:QE X i ti) (hs:PSet X t)
  (ha:∀ v,assign (.Subscript o i pos) X.env v=(do
   let ov <- holding [v] (eval o X.env)
   let iv <- holding [v,ov] (eval i X.env)
   standAt pos
   holding [v,ov,iv] (setItem ov iv v)
   release [v,ov,iv] []):=by intro _; rfl):QG X (.Subscript o i pos) (gSub to ti t):=⟨A3z ho.out hi.out hs ha⟩
def B28:TE:=fun _ H Q=>∀ p,H p=none->Q (.ref p) (upd H p (.dK []))
def B63 {P:Program} {w:World} {H:Hp} (h:Heap) (hb:sysModules < h.objs.size):ObjOk P w H (h.push { cls:=.type "dict",data:=.dict #[] }) h.objs.size (.dK []) :=
 ⟨Nat.zero_le _,beq_eq_false_iff_ne.mpr (Ne.symm (Nat.ne_of_lt hb)),[],.nil,Heap.DictOf.new h⟩
def B7x {pins:List (Addr × Obj)} {σ:St} {H:Hp} {s:Shared} (I:Inv X pins σ H s):sysModules < s.heap.objs.size :=
 Nat.lt_trans (show sysModules < mainGlobals by decide) (I.mod.glob.keeps I.bk).lt
def B38:PE X (.Dict [] [] pos) B28:=fun pins s σ H Q I h =>
 wpAny_Dict_empty ⟨.ref s.heap.objs.size,_,I.laid (a:=s.heap.objs.size) (o:=.dK []) (t':=s.toks) (fun _ _ q=>Heap.get?_push_of_some _ q) (Zv _) (B63 s.heap (B7x I)),rfl,h _ (I.hok.fresh (Zv _))⟩
def A9r:QE X (.Dict [] [] pos) B28:=⟨B38⟩
end
end L2
namespace Pu
open PySem L2 My Prf
def asS (x:PyData) (k:Str->Prop):Prop:=match x with
 | .str z=>k z
 | _=>False
theorem C3b {z:Str} {k:Str->Prop}:asS (.str z) k=k z:=rfl
def VV.strE {K:Frag} {w:Wd} {v:V} {z:Str} (h:VV K w v (.str z)):v=.str z:=by
 rcases h with h | ⟨l,vs,xs,e,e',_⟩
 ·cases h; rfl
 ·cases e'
def sgn (c:Nat):PyData:=.str ⟨#[c]⟩
def B43 (z:Str) (i:Int) (Q:SV->Prop):Prop:=∃ c,atI z.cps.toList i=some c/\Q (.d (sgn c))
def pIx2 (x y:PyData) (Q:SV->Prop):Prop:=match x with
 | .str z=>asI y fun i=>z.length<=90000/\B43 z i Q
 | x=>pIx x y Q
theorem B9f {xs:LP} {y:PyData} {Q:SV->Prop}:pIx2 (.list xs) y Q=pIx (.list xs) y Q:=rfl
theorem B9c {xs:LP} {y:PyData} {Q:SV->Prop}:pIx2 (.tuple xs) y Q=pIx (.tuple xs) y Q:=rfl
theorem B9e {q:Rat} {y:PyData} {Q:SV->Prop}:pIx2 (dq q) y Q=pIx (dq q) y Q:=rfl
theorem B9g {q:Rat × Rat} {y:PyData} {Q:SV->Prop}:pIx2 (dcn q) y Q=pIx (dcn q) y Q:=rfl
theorem B9d {z:Str} {i:Int} {Q:SV->Prop}:pIx2 (.str z) (.int i) Q=(z.length<=90000/\B43 z i Q):=rfl
instance (priority:=high) ro_ix2 {K:Frag}:RO K (rIx K) pIx2 where
 ok:=by
  rintro c w env σ x y dx dy Qp Q rfl E vx vy p k;unfold pIx2 at p;split at p
  ·unfold asI at p;split at p
   ·obtain ⟨hl,cc,h1,q⟩:=p;exact .inr (.inr ⟨_,_,cc,vx.strE,vy.intE,Zx hl A72,h1,k _ _ w (Res.data E (.str _)) q⟩)
   ·exact p.elim
  ·exact ro_ix.ok c w env σ x y dx dy Qp Q rfl E vx vy p k
def A5a (xs:LP) (Q:SV->Prop):Prop:=match xs with
 | [.list ys]=>Q (.d (.int ys.length))
 | [.tuple ys]=>Q (.d (.int ys.length))
 | [.str z]=>z.length<=90000/\Q (.d (.int z.length))
 | _=>False
theorem B40 {ys:LP} {Q:SV->Prop}:A5a [.list ys] Q=Q (.d (.int ys.length)):=rfl
theorem B4x {ys:LP} {Q:SV->Prop}:A5a [.tuple ys] Q=Q (.d (.int ys.length)):=rfl
theorem B4z {q:Rat} {Q:SV->Prop}:A5a [dq q] Q=Q (.d (.int 2)):=rfl
theorem B4y {z:Str} {Q:SV->Prop}:A5a [.str z] Q=(z.length<=90000/\Q (.d (.int z.length))):=rfl
instance rb_len2 {K:Frag}:RB K (A9n K) A5a where
 ok:=by
  rintro c w env σ vs xs Qp Q rfl E vv p k;unfold A5a at p;split at p
  ·cases vv with | cons h t=>cases t; obtain ⟨a,us,e,h1,h2⟩:=h.lst E.wok; exact .inl ⟨a,us,by rw [e],.inl h1,by rw [h2.len]; exact k _ _ w (Res.data E (.int _)) p⟩
  ·cases vv with | cons h t=>cases t; obtain ⟨a,us,e,h1,h2⟩:=h.tup E.wok; exact .inl ⟨a,us,by rw [e],.inr h1,by rw [h2.len]; exact k _ _ w (Res.data E (.int _)) p⟩
  ·cases vv with | cons h t=>cases t; exact .inr ⟨_,by rw [h.strE],Zx p.1 A72,k _ _ w (Res.data E (.int _)) p.2⟩
  ·exact p.elim
def B8y (pd:PDt) (i:Nat) (pi:PDt) (D:PEnds) (env:PEnv):Prop:=pd env fun x e=>A06 e[i]? fun _=>pi e fun y e2=>asI y fun n=>A06 e2[i]? fun xs=>∃ j,ixN xs.length n=some j/\D.nx (e2.set i (some (.own (xs.set j x))))
def DenAll.setAt {K:Frag} {F:Hpp} {v:V} {x:PyData} (d:Den K F v x):∀ {vs:List V} {xs:LP} (j:Nat),DenAll K F vs xs->DenAll K F (vs.set j v) (xs.set j x)
 | _,_,_,.nil=>.nil
 | _,_,0,.cons _ t=>.cons d t
 | _,_,j + 1,.cons h t=>.cons h (DenAll.setAt d j t)
instance rs_setI {K:Frag} {i:Nat} {te ti:TE} {pd pi:PDt} [he:RD K te pd] [hi:RW K ti pi]:RS K (tAsg te (gSub (tVar i) ti B3m)) (B8y pd i pi) where
 ok:=by
  rintro c w env σ Dp D rfl E h p;refine he.ok c w env σ _ _ rfl E p fun v x e1 w1 E1 l1 d1 q1=>?_;unfold A06 at q1;split at q1
  ·rename_i xs0 e0;obtain ⟨o,g0,l,vs,ev,h1,h2,h3,h4,h5⟩:=E1.at' i _ e0;subst ev;refine ⟨_,g0,hi.ok c w1 e1 σ _ _ rfl E1 q1 fun u y e2 w2 E2 l2 d2 q2=>?_⟩;unfold asI at q2;split at q2
   ·rename_i n;split at q2
    ·rename_i xs e;obtain ⟨j,hj,q2⟩:=q2;obtain ⟨o',g0',l',vs',ev',k1,k2,k3,k4,k5⟩:=E2.at' i _ e;rw [g0] at g0'; cases g0'; cases ev';have hn:=d2.intE;refine ⟨l,vs',n,j,rfl,hn,k1,by rw [k5.len]; exact hj,?_⟩;exact h.nx _ σ ⟨w2.M,upd w2.H l (.lst (vs'.set j v)),w2.F⟩ (E2.write e g0 k1 k2 k3 k4 (DenAll.setAt (Den.same l2.f d1) j k5)) (l1.f.trans l2.f) q2
    ·exact q2.elim
   ·exact q2.elim
  ·exact q1.elim
def B9p (env:PEnv) (Q:SV->PEnv->Prop):Prop:=Q (.d (.dict [])) env
def Res.dct {c:Ct} {w:Wd} {env:PEnv} {σ:St} {p:Addr} {kvs:List (Key × V)} (E:EnvOk c w env σ) (h:w.H p=none):Res c w env σ (w.tup p (.dK kvs)) (.ref p) (.d (.dict (kvs.map A5s))) :=
 ⟨E.mono (Wd.tup_ok E.wok h) (Wd.tup_le E.wok h),(Wd.tup_le E.wok h).toLw,.dct (kvs:=kvs) B7,fun _ e=>(nomatch e),rfl⟩
instance re_dnew {K:Frag}:RE K B28 B9p where
 ok:=by
  rintro c w env σ Qp Q rfl E p k;intro a ha;exact k _ _ env _ (Res.dct (kvs:=[]) E ha) p
def B6i:kitB "int" "tuple"=some false:=by ext
def B6n:kitB "bool" "tuple"=some false:=by ext
def B6d:kitB "NoneType" "int"=some false:=by ext
def B6e:kitB "NoneType" "bool"=some false:=by ext
def B6b:kitB "str" "int"=some false:=by ext
def B6c:kitB "str" "bool"=some false:=by ext
def B6a:kitB "str" "tuple"=some false:=by ext
def B6g:kitB "list" "int"=some false:=by ext
def B6h:kitB "list" "bool"=some false:=by ext
def B6f:kitB "list" "str"=some false:=by ext
def B59:kitB "tuple" "int"=some false:=by ext
def B58:kitB "tuple" "str"=some false:=by ext
def B6l:kitB "dict" "int"=some false:=by ext
def B6m:kitB "dict" "bool"=some false:=by ext
def B6j:kitB "dict" "tuple"=some false:=by ext
def B6k:kitB "dict" "str"=some false:=by ext
theorem A9e {kvs:List (PyData × PyData)}:tyD (.dict kvs)="dict":=rfl
def B2g (pr pr':PyData->PyData->(SV->Prop)->Prop) (pa pb pc:PDt) (env:PEnv) (Q:SV->PEnv->Prop):Prop :=
 pa env fun x e1=>pb e1 fun y e2=>pr x y fun s=>s.asD fun b=>asB b fun k=>if k=true then pc e2 fun z e3=>pr' y z fun s2=>Q s2 e3 else Q (.d (.bool false)) e2
instance re_chain {K:Frag} {r r':R2} {ta tb tc:TE} {pr pr':PyData->PyData->(SV->Prop)->Prop} {pa pb pc:PDt} [h:RO K r pr] [h':RO K r' pr'] [ha:RW K ta pa] [hb:RW K tb pb] [hc:RW K tc pc]:RE K (A59 r r' ta tb tc) (B2g pr pr' pa pb pc) where
 ok:=by
  rintro c w env σ Qp Q rfl E p k;refine ha.ok c w env σ _ _ rfl E p fun x dx e1 w1 E1 l1 v1 q1=>?_;refine hb.ok c w1 e1 σ _ _ rfl E1 q1 fun y dy e2 w2 E2 l2 v2 q2=>?_;refine h.ok c w2 e2 σ x y dx dy _ _ rfl E2 (v1.mono l2) v2 q2 fun v s w3 R q3=>?_;cases s with
  | d b =>
   cases b with
   | bool b =>
    have ev:v=.bl b:=Den.blE R.val;refine ⟨b,ev,?_⟩;cases b with
    | true =>
     refine hc.ok c w3 e2 σ _ _ rfl R.ev q3 fun z dz e3 w4 E4 l4 v4 q4=>?_;exact h'.ok c w4 e3 σ y z dy dz _ _ rfl E4 ((v2.mono R.lw).mono l4) v4 q4 fun v s w' R' q=>k v s e3 w' (R'.pre (l1.trans (l2.trans (R.lw.trans l4)))) q
    | false=>exact k _ _ e2 w3 ((Res.data R.ev (.bl _)).pre (l1.trans (l2.trans R.lw))) q3
   | _=>exact (show False from q3).elim
  | own xs=>exact (show False from q3).elim
  | bor xs=>exact (show False from q3).elim
  | st=>exact (show False from q3).elim
  | tr t=>exact (show False from q3).elim
  | bt t=>exact (show False from q3).elim
  | al t=>exact (show False from q3).elim
  | dk t=>exact (show False from q3).elim
  | dl t u=>exact (show False from q3).elim
end Pu
namespace L2
open PySem PySem.Spec PyProof.Rows
section
variable {prog:Program} {w:World} {A:Around} {E:Value->Shared->Prop} {h:Heap} {g:Array GenState} {d:Drawn} {t:Nat} {os:OsState} {a C:Addr} {o:Obj} {vs:Array Value} {K:W.Frag}
structure ExK (K:W.Frag) (C:Addr):Prop where
 ga:W.findIn K (.ref C) "__getattribute__"=some (some (.builtin "BaseException.__getattribute__"))
 gn:W.findIn K (.ref C) "__getattr__"=some none
 gc:W.findIn K (.ref C) "__class__"=some (some (.builtin "object.__class__"))
 sb:W.subIn K (.ref C) (.type "BaseException")=some true
 so:W.subIn K (.ref C) (.type "object")=some true
def B7p {R:Result->Shared->Prop} (X:K.In h) (k:ExK K C) (hx:h.get? a=some o) (hc:o.cls=.ref C) (hq:R (.ok (.ret (.ref C))) ⟨h,g,d,t,os⟩) :
  codeAny (model prog w) A (.call (.builtin "getset_descriptor.__get__") ⟨[.builtin "object.__class__",.ref a,.ref C],[]⟩) R ⟨h,g,d,t,os⟩:=by
 have yT:(⟨h,g,d,t,os⟩:Shared).TypeIs (.builtin "object.__class__") "getset_descriptor":=F.typeOf_object_class;have LO:=W.looks_subIn (M:=model prog w) X k.so;have ow:(".".intercalate ("object.__class__".cutAt '.').dropLast)="object":=F.owner_object_class;refine codeAny_call_builtin F.slot_gs_get.plain F.entry_gs_get (F.slot_gs_get.check _ _ _ _ _ _ _ _ (yT) (F.args_gs_get _ _ _) ?_)
 repeat (any_goals (first | assumption | (with_reducible refine wpAny_loadPart_at hx ?_; rw [hc]) | (rw [ow]; with_reducible refine LO.at ?_) | with_reducible refine LO.at ?_ | wp_step))
 refine ⟨Code.quiet_builtin _ (by ext),codeAny_builtin (F.entry_object_class) ?_⟩
 repeat (any_goals (first | assumption | (with_reducible refine wpAny_loadPart_at hx ?_; rw [hc]) | wp_step))
def A89 {tk:Tok} {Q:Fin->Shared->Prop} (X:K.In h) (k:ExK K C) (hx:h.get? a=some o) (hc:o.cls=.ref C) (hq:Q (.done (.ret (.ref C))) ⟨h,g,d,t,os⟩) :
  wpAny (model prog w) A (Builtin.«object.__getattribute__» ⟨[.ref a,.str "__class__" tk],[]⟩) Q E ⟨h,g,d,t,os⟩:=by
 have yT:(⟨h,g,d,t,os⟩:Shared).TypeIs (.builtin "object.__class__") "getset_descriptor":=F.typeOf_object_class;have LC:=W.looks_findIn (M:=model prog w) X k.gc;have u5:=F.typeOf_object_class;have u6:=F.slot_gs_get.lookup;have u7:=F.slot_gs_set.lookup
 repeat (any_goals (first | assumption | (with_reducible refine wpAny_loadPart_at hx ?_; rw [hc]) | with_reducible refine LC.at ?_ | wp_step))
 refine B7p X k hx hc ?_
 repeat (any_goals first | assumption | wp_step)
def A9a {M:Model} {nameV:Value} {Q:Unit->Shared->Prop} (X:K.In h) (k:ExK K C) (hx:h.get? a=some o) (hc:o.cls=.ref C) (hq:Q () ⟨h,g,d,t,os⟩) :
  wpAny M A (checkBuiltinCall "BaseException.__getattribute__" ⟨[.ref a,nameV],[]⟩) Q E ⟨h,g,d,t,os⟩:=by
 have k1:builtinKind "BaseException.__getattribute__"=some .slot:=by ext
 have k2:splitId "BaseException.__getattribute__"=some ("BaseException","__getattribute__"):=by ext
 have LB:=W.looks_subIn (M:=M) X k.sb;have u0:=F.args_bexc_ga (.ref a) nameV;simp only [checkBuiltinCall,k1,k2];refine wpAny_bind ?_;unfold isInstance
 repeat (first | (with_reducible refine wpAny_loadPart_at hx ?_; rw [hc]) | with_reducible refine LB.at ?_ | wp_step)
 exact hq
def C2c {tk:Tok} {Q:Value->Shared->Prop} (X:K.In h) (k:ExK K C) (hx:h.get? a=some o) (hc:o.cls=.ref C) (hq:Q (.ref C) ⟨h,g,d,t,os⟩) :
  wpAny (model prog w) A (getAttrBy (.ref a) (.str "__class__" tk) false) Q E ⟨h,g,d,t,os⟩:=by
 have u3:=F.attrBase_ValueError.ga.bind (.ref a);have LG:=W.looks_findIn (M:=model prog w) X k.ga;have LN:=W.looks_findIn (M:=model prog w) X k.gn;have z2:(Value.builtin "BaseException.__getattribute__" == Value.builtin "object.__getattribute__")=false:=by ext
 have z1:(onTheHeap (Value.ref C) && Value.builtin "BaseException.__getattribute__" == Value.builtin "object.__getattribute__")=false:=by rw [z2]; rfl
 repeat (any_goals (first | assumption | (with_reducible refine wpAny_loadPart_at hx ?_; rw [hc]) | with_reducible refine LG.at ?_ | with_reducible refine LN.at ?_ | wp_step))
 refine codeAny_call_builtin F.attrBase_ValueError.ga.plain F.entry_bexc_ga (A9a X k hx hc (A89 X k hx hc ?_))
 repeat (any_goals first | assumption | wp_step)
def B2u {Q:Option Value->Shared->Prop} (X:K.In h) (k:ExK K C) (hx:h.get? a=some o) (hc:o.cls=.ref C) (hq:Q (some (.ref C)) ⟨h,g,d,t + 1,os⟩):wpAny (model prog w) A (getAttr? (.ref a) "__class__") Q E ⟨h,g,d,t,os⟩:=by
 unfold getAttr? getAttrBy?
 repeat (any_goals (first | assumption | with_reducible apply C2c X k hx hc | wp_step))
def ExAt (a C:Addr) (h:Heap):Prop:=∃ o,h.get? a=some o/\o.cls=.ref C
def ExAt.ty {M:Model} (p:ExAt a C h):W.Looks M h (typeOf (.ref a)) (.ref C):=by
 obtain ⟨o,e,q⟩:=p;rw [<- q];exact (W.Looks.ld e).andThen .now
def B0y (k:ExK K C) (it:∀ (M:Model) (h:Heap),K.In h->W.Looks M h (isType (.ref C)) true) (ne:∀ o,K.lookup C=some o->o.cls≠.type "tuple") (hl:(K.lookup C).isSome=true):W.KitX K (.ref a) (.ref C) (ExAt a C) where
 ty:=fun _ _ _ p=>p.ty
 it:=fun M h X _=>it M h X
 ne:=fun h tp dd its n sl X e=>Bool.eq_false_iff.mpr fun q=>by
  have z:C=tp:=Value.ref.inj (beq_iff_eq.mp q);subst z;obtain ⟨o,ho⟩:=Option.isSome_iff_exists.mp hl;have:=X _ _ ho;rw [e] at this; cases this;exact ne _ ho rfl
 ca:=fun {_ _ _ _ _ s} X p q=>by
  obtain ⟨h,g,d,t,os⟩:=s;obtain ⟨o,e,z⟩:=p;exact B2u X k e z q
end
structure Fly (P:Program) (w:World) (outer:List Env) (H:Hp) (s s':Shared) (a:Addr) (cls a0:Value) (H':Hp) (B:Heap):Prop where
 os:s'.os=s.os
 bare:AllBare s'.gens
 fly:Heap.FlyingW B outer a cls a0 s'.heap
 hok:HOk P w H' B
 keep:∀ b o,s.heap.get? b=some o->H b=none->b ∉ frs outer->B.get? b=some o
 slot:∀ b o,s.heap.get? b=some o->H b=none->b ∈ frs outer->∃ sl,s'.heap.get? b=some { o with slots:=sl }
 free:∀ b o,s.heap.get? b=some o->H b=none->H' b=none
 there:∀ b o,s.heap.get? b=some o->b ∉ frs outer->∃ o',B.get? b=some o'
 tups:∀ b xs,H b=some (.tup xs)->H' b=some (.tup xs)
 frzs:∀ b o u,H b=some (.frz o u)->H' b=some (.frz o u)
 tbls:∀ b ps,H b=some (.tbl ps)->∃ more,H' b=some (.tbl (ps++more))
def CX1 (P:Program) (w:World):CXT:=fun outer H s E e s'=>∃ (a:Addr) (cls a0:Value) (H':Hp) (B:Heap),e=.ref a/\Fly P w outer H s s' a cls a0 H' B/\E cls none H'
section
variable {P:Program} {w:World} {outer:List Env} {H H':Hp} {s s':Shared} {a:Addr} {cls a0:Value} {B:Heap}
def Fly.un (F:Fly P w outer H s s' a cls a0 H' B):Un (frs outer) [] H H' s.heap s'.heap where
 keep:=fun b o e n hb _=>F.fly.1 b o (F.keep b o e n hb)
 slot:=fun b o e n hb _=>F.slot b o e n hb
 free:=fun b o e n _=>F.free b o e n
 there:=fun b o e _=>by
  by_cases hb:b ∈ frs outer
  ·obtain ⟨_,o',ho,_⟩:=F.fly.2.2.1.mem hb;exact ⟨o',ho⟩
  ·obtain ⟨o',ho⟩:=F.there b o e hb;exact ⟨o',F.fly.1 b o' ho⟩
 tups:=F.tups
 frzs:=F.frzs
 tbls:=F.tbls
def Fly.step {h':Heap} (F:Fly P w outer H s s' a cls a0 H' B) (hf:Heap.FlyingW B outer a cls a0 h') (hs:s'.heap.UpToSlots h'):Fly P w outer H s { s' with heap:=h' } a cls a0 H' B :=
 ⟨F.os,F.bare,hf,F.hok,F.keep,fun b o e n hb=>by
  obtain ⟨sl,e1⟩:=F.slot b o e n hb;obtain ⟨_,o',ho,hn⟩:=F.fly.2.2.1.mem hb;rw [e1] at ho; cases ho;obtain ⟨sl2,e2⟩:=hs b _ e1 hn;exact ⟨sl2,e2⟩,F.free,F.there,F.tups,F.frzs,F.tbls⟩
def A35 {h:Heap} {o:HO} (x:ObjOk P w H h a o):∃ ob,h.get? a=some ob:=by
 cases o with
 | lst xs=>obtain ⟨_,_,_,_,e⟩:=x; exact ⟨_,e⟩
 | tup xs=>obtain ⟨_,_,_,o,e,_⟩:=x; exact ⟨_,e⟩
 | dK kvs=>obtain ⟨_,_,_,_,o,_,_,e,_⟩:=x; exact ⟨_,e⟩
 | dT kvs=>obtain ⟨_,_,_,_,o,_,_,e,_⟩:=x; exact ⟨_,e⟩
 | set S n=>obtain ⟨o,_,_,_,e,_⟩:=x; exact ⟨_,e⟩
 | ins C dx fs=>obtain ⟨_,_,_,e,_⟩:=x; exact ⟨_,e⟩
 | own y=>exact x
 | xd fs=>obtain ⟨_,⟨_,_,_,e,_⟩,_⟩:=x; exact ⟨_,e⟩
 | rng lo hi=>obtain ⟨_,_,_,e⟩:=x; exact ⟨_,e⟩
 | frz ob u=>obtain ⟨e,_⟩:=x; exact ⟨_,e⟩
 | tbl ps=>exact ⟨_,x⟩
 | met f y=>exact ⟨_,x⟩
 | ext φ=>exact x.2.1
def Fly.new (F:Fly P w outer H s s' a cls a0 H' B):H' a=none:=by
 cases q:H' a with
 | none=>rfl
 | some o =>
  obtain ⟨ob,e⟩:=A35 (F.hok a o q);rw [F.fly.2.1] at e; cases e
end
section
variable {P:Program} {w:World} {K:W.Frag} {mg:Str->Option Value} {base:Heap} {N:List Str} {qual:Str} {scope:Scope} {f:Addr} {cd:Value} {A:Around} {outer:List Env} {s0:Shared} {H0:Hp} {E:XK}
def A1v {X:Cx} {pins:List (Addr × Obj)} {σ:St} {H:Hp} {s:Shared} (I:Inv X pins σ H s) {b:Addr} {o:Obj} (e:X.s₀.heap.get? b=some o) (hb:b ∉ X.fs):b ∉ frs X.stack:=fun z=>by
 rcases List.mem_cons.mp (I.stkSub b z) with q | q
 ·exact Nat.ne_of_lt (Nat.lt_of_lt_of_le (Heap.lt_size e) I.ok.above) q
 ·exact hb q
end
def A52:List Value:=[.type "ValueError",.type "Exception",.type "BaseException",.type "object"]
abbrev Cx.held (X:Cx) (a:Addr) (oe:Obj):Cx:={ X with A:=X.A.mark (some (.ref a)),calm:=false,pn:=(a,oe) :: X.pn,xe:=fun _ _=>False }
section
variable {X:Cx} {pins:List (Addr × Obj)} {σ:St} {H:Hp} {s:Shared} {a:Addr} {oe:Obj}
def Cx.Ok.held (ok:X.Ok):(X.held a oe).Ok :=
 ⟨ok.mod,ok.kind,ok.glob,ok.blt,ok.above,ok.inj,ok.has,ok.cab,fun z=>(by cases z),ok.frames,ok.stk,ok.exf,ok.bs,ok.bsz,ok.noex,ok.exfs,ok.funs,ok.frf⟩
def Inv.hold (I:Inv X pins σ H s) (e:s.heap.get? a=some oe) (n:H a=none) (nl:a≠X.env.locals) (nf:a ∉ X.fs) (nc:∀ v,oe.data≠.cell v):Inv (X.held a oe) pins σ H s :=
 ⟨I.ok.held,I.os,I.bare,I.base,I.loc,I.cell,I.free,I.freeC,fun p hp=>by
  rcases List.mem_cons.mp (show p ∈ (a,oe) :: (X.pn++pins) from hp) with q | q
  ·subst q; exact ⟨e,n,nl,nf,nc⟩
  ·exact I.pin p q,I.hok,I.len⟩
def Inv.loose (I:Inv (X.held a oe) pins σ H s) (ok:X.Ok):Inv X pins σ H s :=
 ⟨ok,I.os,I.bare,I.base,I.loc,I.cell,I.free,I.freeC,fun p hp=>I.pin p (Zr _ hp),I.hok,I.len⟩
def A8g {i:Nat} {n:Str} {pos:Pos} {M:Model} {A:Around} {E:Value->Shared->Prop} {Q:Unit->Shared->Prop} (I:Inv X pins σ H s) (hN:X.N.Nodup) (hi:X.N[i]?=some n) (hk:X.env.scope.names.lookup n=some .local)
  (h:∀ s',Inv X pins (σ.set i none) H s'->Q () s'):wpAny M A (do bindName X.env n .none; unbindBehindTheSuite X.env n pos) Q E s:=by
 obtain ⟨m,hn,hl⟩:=id I.loc;have his:i < σ.length:=by rw [I.len]; exact (Zs hi).1
 refine wpAny_nameGoes_keeps hk hn (by rw [I.ok.kind]; rfl) fun h' v hn' hs=>h _ ?_;obtain ⟨oo,_,_,hoo,_⟩:=id hn;have ne:∀ b o,X.s₀.heap.get? b=some o->b≠X.env.locals:=fun b o e=>Nat.ne_of_lt (Nat.lt_of_lt_of_le (Heap.lt_size e) I.ok.above);refine ⟨I.ok,I.os,I.bare,⟨fun b o e z hb hx=>(hs.2 b (ne b o e)).trans (I.base.keep b o e z hb hx),fun b o e z hb hx=>?_,I.base.free,fun b o e hx=>?_,I.base.tups,I.base.frzs,I.base.tbls⟩,⟨_,hn',fun j y v2 e1 e2 e3=>?_⟩,fun y c e=>?_,I.free,I.freeC,fun p hp=>?_,fun b ob e=>?_,by simpa using I.len⟩
 ·obtain ⟨sl,e1⟩:=I.base.slot b o e z hb hx;exact ⟨sl,(hs.2 b (ne b o e)).trans e1⟩
 ·obtain ⟨o',e1⟩:=I.base.there b o e hx;exact ⟨o',(hs.2 b (ne b o e)).trans e1⟩
 ·by_cases hj:j=i
  ·subst hj;rw [List.getElem?_set_self his] at e2;cases e2
  ·rw [List.getElem?_set_ne (Ne.symm hj)] at e2;obtain ⟨u2,r2,q⟩:=hl j y v2 e1 e2 e3;refine ⟨u2,r2,?_⟩;rcases q with ⟨k,e⟩ | ⟨k,c,e,zz⟩
   ·refine .inl ⟨k,?_⟩;have:y≠n:=fun e=>hj (A0w hN e1 (e ▸ hi));simp [this,e]
   ·exact .inr ⟨k,c,e,zz.sameBut hs (I.cne y c e)⟩
 ·obtain ⟨w2,z⟩:=I.cell y c e;exact ⟨w2,z.sameBut hs (I.cne y c e)⟩
 ·obtain ⟨e,z,nl,nf,d⟩:=I.pin p hp;exact ⟨(hs.2 p.1 nl).trans e,z,nl,nf,d⟩
 ·refine (I.hok b ob e).stay (fun c w2 hc q=>(hs.2 c ?_).trans q) (fun _ q=>q) fun _ _ q=>q;rintro rfl;rcases hc with rfl | hc
  ·rw [I.free] at e; cases e
  ·rw [I.free] at hc; cases hc
end
section
variable {P:Program} {w:World} {outer:List Env} {H H':Hp} {s s':Shared} {a:Addr} {cls a0:Value} {B:Heap}
def Fly.hok2 (F:Fly P w outer H s s' a cls a0 H' B):HOk P w H' s'.heap:=fun b o e=>(F.hok b o e).stay (fun c v _ z=>F.fly.1 c v z) (fun _ z=>z) fun _ _ z=>z
end
section
variable {X:Cx} {pins:List (Addr × Obj)} {σ:St} {H H':Hp} {s s':Shared} {a:Addr} {cls a0:Value} {B:Heap}
def Fly.inv (F:Fly X.prog X.w X.stack H s s' a cls a0 H' B) (I:Inv X pins σ H s):Inv X pins σ H' s' :=
 I.call' (ch:=[]) F.os F.un F.hok2 F.bare fun b z=>absurd z (by simp)
def Fly.hold (F:Fly X.prog X.w X.stack H s s' a cls a0 H' B) (I:Inv X pins σ H s):∃ oe,s'.heap.get? a=some oe/\oe.cls=cls/\Inv (X.held a oe) pins σ H' s':=by
 obtain ⟨oe,vs,e1,e2,e3,_⟩:=F.fly.first;have I2:=F.inv I;refine ⟨oe,e1,e2,I2.hold e1 F.new (fun z=>?_) (fun z=>?_) fun v q=>by rw [e3] at q; cases q⟩
 ·obtain ⟨m,⟨o,es,ep,ho,hd,_⟩,_⟩:=I2.loc;rw [<- z,e1] at ho; cases ho; rw [e3] at hd; cases hd
 ·obtain ⟨_,o',ho,hn⟩:=I2.funs.mem z;rw [e1] at ho; cases ho; exact hn _ e3
end
def tKE (i:Nat) (a:Addr) (b:Bool):TE:=fun σ H Q=>σ[i]?=some (some (.ref a))/\∀ H3,Same H H3->Q (.bl b) H3
structure ExC (K:W.Frag) (C:Addr):Prop where
 k:ExK K C
 hd:W.hasDictIn K C=true
 ne:∀ o,K.lookup C=some o->o.cls≠.type "tuple"
 hl:(K.lookup C).isSome=true
def ExC.kit {K:W.Frag} {C a:Addr} (c:ExC K C):W.KitX K (.ref a) (.ref C) (ExAt a C) :=
 B0y c.k (fun M h X=>W.mc_isType (s:=⟨h,#[],{},0,{}⟩) X c.hd) c.ne c.hl
section
variable {X:Cx} {a C:Addr} {oe:Obj} {i:Nat} {b:Bool}
inductive ClV:V->Value->Prop
 | own (c:Addr):ClV (.ref c) (.ref c)
 | ty (c:String):ClV (.ty c) (.type c)
def ClV.get {c:V} {u cv:Value} (h:ClV c cv) (r:RelV c u):u=cv:=by
 cases h with
 | own c=>exact r
 | ty c=>exact r
inductive ClVs:List V->List Value->Prop
 | nil:ClVs [] []
 | cons {c:V} {cv:Value} {r:List V} {s:List Value}:ClV c cv->ClVs r s->ClVs (c :: r) (cv :: s)
def ClVs.get:∀ {cs:List V} {us cvs:List Value},ClVs cs cvs->Vals cs us->us=cvs
 | [],_,_,.nil,.nil=>rfl
 | _ :: _,_,_,.cons h t,.cons r s=>by rw [h.get r,t.get s]
def Inv.held_at {pins:List (Addr × Obj)} {σ:St} {H:Hp} {s:Shared} (I:Inv (X.held a oe) pins σ H s) (e:oe.cls=.ref C):ExAt a C s.heap :=
 ⟨oe,(I.pin (a,oe) (Zt _ Zy)).1,e⟩
def B1h (e:oe.cls=.ref C) (xc:ExC X.K C):CallR (X.held a oe) (.builtin "isinstance") (fun xs H Q=>∃ c cv b,xs=[.ref a,c]/\ClV c cv/\W.kitOne X.K (.ref C) cv=some b/\Q (.bl b) H):=by
 rintro pins s σ H xs us Q I r ⟨c,cv,b,rfl,hc,hk,q⟩;obtain ⟨u,v,rfl,ru,rv⟩:=Vals.two r;cases (show u=Value.ref a from ru);cases hc.get rv;exact W.kia_one xc.kit I.kIn (I.held_at e) hk (fun z=>nomatch z) fun tk=>⟨.bl b,H,I.tok tk,rfl,q⟩
structure KE (X:Cx) (i:Nat) (a:Addr) (e:Expr) (b:Bool):Prop where
 out:PE X e (tKE i a b)
structure KC (X:Cx) (e:Expr) (cv:Value):Prop where
 out:∃ c,ClV c cv/\PE X e (tC c)
def A4b {x:Str} {D:Addr} {pos:Pos} (hg:Gl X x) (hm:X.mg x=some (.ref D)) (hd:(x == ("__debug__":Str))=false:=by decide):KC X (.Name x pos) (.ref D):=⟨_,.own D,A7c hg hm rfl hd⟩
def A7b {e:Expr} {t t':TE} (h:PE X e t) (k:∀ σ H Q,t' σ H Q->t σ H Q):PE X e t':=fun pins s σ H Q I q=>h pins s σ H Q I (k _ _ _ q)
def B00 {n:Str} {ec:Expr} {cv:Value} {p p1 pos:Pos} (he:oe.cls=.ref C) (xc:ExC X.K C) (hg:Gl X "isinstance") (hm:X.mg "isinstance"=none) (hi:X.N[i]?=some n) (hl:Vis X.env.scope n) (hc:KC (X.held a oe) ec cv) (hk:W.kitOne X.K (.ref C) cv=some b)
  (hd:(n == ("__debug__":Str))=false:=by decide) (hcd:(n == ("__classdict__":Str))=false:=by decide) (hs1:starEach [.Name n p1,ec] X.env=(false,eval (.Name n p1) X.env) :: starEach [ec] X.env:=by rfl) (hs2:starEach [ec] X.env=(false,eval ec X.env) :: starEach [] X.env:=by rfl) (hpl:(backTo pos (starEach [ec] X.env)).any (·.1)=false:=by rfl) :
  KE (X.held a oe) i a (.Call (.Name "isinstance" p) [.Name n p1,ec] [] pos) b:=by
 obtain ⟨c,h1,h2⟩:=hc.out;refine ⟨A7b (A0r (X:=X.held a oe) (B1h he xc) hg hm (by rfl) (pa_cons (Z4 hi hl hd hcd) (pa_cons h2 pa_nil hs2) hs1) (by decide) (by decide) hs1 hpl) fun σ H Q q=>?_⟩;exact ⟨_,q.1,c,cv,b,rfl,h1,hk,q.2 _ fun _ _ z=>z⟩
def B2n {e e2:Expr} {rest:List Expr} {c d:Bool} {pos:Pos} (h:KE X i a e b) (h2:KE X i a (.BoolOp .And (e2 :: rest) pos) c) (hd:(b && c)=d:=by rfl):KE X i a (.BoolOp .And (e :: e2 :: rest) pos) d:=by
 subst hd;exact ⟨A7b (B18 h.out h2.out) fun σ H Q q=>⟨q.1,fun H3 z=>⟨b,rfl,by
  cases b with
  | true=>exact ⟨q.1,fun H4 z4=>q.2 H4 (z.trans z4)⟩
  | false=>exact q.2 H3 z⟩⟩⟩
def B2l {e:Expr} {op} {pos:Pos} (h:KE X i a e b):KE X i a (.BoolOp op [e] pos) b:=⟨B16 h.out⟩
end
section
variable {X:Cx}
def A3r {st:Stmt} {t:TS} (h:QS X.nox st t):QS X st t:=⟨fun pins s σ H D I hw =>
 wpAny_mono (h.out pins s σ H D (I.wish _) hw) (fun _ _ q=>q.unwish) fun _ _ z=>False.elim z⟩
def A6m {e:Expr} {t:TT} (h:QT X.nox e t):QT X e t:=⟨h.out.nox⟩
variable {k i:Nat} {f C CH:Addr} {fd:FuncData} {ps:List Str} {sp:Sp} {x xh n:Str} {p pos pos2 pos3 pos4 pos5:Pos} {e:Expr} {es:List Expr} {t:TA} {b0:Stmt} {suite:List Stmt} {b:Bool}
end
end L2
namespace Pu
open PySem PySem.Spec PyProof.Rows L2 My Prf
class RSX (K:Frag) (w0:Wd) (ts:TS) (ps:outParam PSt):Prop where
 ok:∀ (c:Ct) (w:Wd) (env:PEnv) (σ:L2.St) (Dp:PEnds) (D:Ends),c.K=K->c.w0=w0->EnvOk c w env σ->EndsOk c w Dp D->ps Dp env->ts D σ w.H
instance (priority:=low) rsx_of {K:Frag} {w0:Wd} {ts:TS} {ps:PSt} [h:RS K ts ps]:RSX K w0 ts ps:=⟨fun c w env σ Dp D e _=>h.ok c w env σ Dp D e⟩
instance rsx_seq {K:Frag} {w0:Wd} {t u:TS} {p q:PSt} [ht:RSX K w0 t p] [hu:RSX K w0 u q]:RSX K w0 (tSeq t u) (pSeq p q) where
 ok:=by
  rintro c w env σ Dp D rfl rfl E h pr;refine ht.ok c w env σ { Dp with nx:=q Dp } _ rfl rfl E ⟨fun e1 σ1 w1 E1 s1 n1=>?_,h.rt,h.bk,h.ct⟩ pr;exact hu.ok c w1 e1 σ1 Dp D rfl rfl E1 (h.on s1) n1
instance rsx_if {K:Frag} {w0:Wd} {tt:TT} {t u:TS} {pt:PTt} {p q:PSt} [hc:RT K tt pt] [ht:RSX K w0 t p] [hu:RSX K w0 u q]:RSX K w0 (tIfS tt t u) (pIf pt p q) where
 ok:=by
  rintro c w env σ Dp D rfl rfl E h pr;refine hc.ok c w env σ _ _ rfl E pr fun b e1 w1 E1 l1 q1=>?_;cases b with
  | true=>exact ht.ok c w1 e1 σ Dp D rfl rfl E1 (h.on l1.f) q1
  | false=>exact hu.ok c w1 e1 σ Dp D rfl rfl E1 (h.on l1.f) q1
def C1u {K:Frag} {w:Wd} {ts:TS} {ps:PSt} [hs:RSX K w ts ps] {md:List Md} {vs:List V} {as:List SV} {D:Ends} {N:List Str} (ok:w.Ok) (a:Args K w md vs as)
  (hb:ps ⟨fun _=>False,fun _ _=>False,fun _=>False,fun _=>False⟩ (as.map some++List.replicate (N.length - md.length) none)):ts D (L2.start N vs) w.H:=by
 obtain ⟨hl,hat⟩:=L7 a;have look:∀ (i:Nat) s,(as.map some++List.replicate (N.length - md.length) none)[i]?=some (some s)->as[i]?=some s:=fun i s e=>by
  rw [List.getElem?_append] at e;split at e
  ·rw [Zh] at e;cases q:as[i]? with
   | none=>rw [q] at e; cases e
   | some t=>rw [q] at e; cases e; rfl
  ·rw [List.getElem?_replicate] at e;split at e <;> cases e
 refine hs.ok ⟨K,w,noZ⟩ w (as.map some++List.replicate (N.length - md.length) none) (L2.start N vs) ⟨fun _=>False,fun _ _=>False,fun _=>False,fun _=>False⟩ D rfl rfl ⟨ok,Le.refl w,by simp [L2.start,hl,a.len],fun i s e=>?_,fun i j s t v u a e _ _ _ f=>absurd f ((hat i _ (look i _ e)).2 v a),fun a z=>z.elim,fun a j t u z=>z.elim⟩ ⟨fun _ _ _ _ _ z=>z.elim,fun _ _ _ _ _ _ _ _ z=>z.elim,fun _ _ _ _ _ z=>z.elim,fun _ _ _ _ _ z=>z.elim⟩ hb;obtain ⟨⟨v,h1,h2⟩,_⟩:=hat i s (look i s e);refine ⟨v,?_,h2⟩;unfold L2.start;rw [List.getElem?_append_left (by rw [Zl]; exact (Zs h1).1),Zh,h1]; rfl
end Pu
namespace L2
open PySem PySem.Spec PyProof.Rows
def A1f {X:Cx} {st:List Stmt}:QSs X st A08:=⟨fun _ _ _ _ _ _ q=>q.elim⟩
def ExC.of {K:W.Frag} {C:Addr} (ga:W.findIn K (.ref C) "__getattribute__"=some (some (.builtin "BaseException.__getattribute__"))) (gn:W.findIn K (.ref C) "__getattr__"=some none)
  (gc:W.findIn K (.ref C) "__class__"=some (some (.builtin "object.__class__"))) (sb:W.subIn K (.ref C) (.type "BaseException")=some true) (so:W.subIn K (.ref C) (.type "object")=some true)
  (hd:W.hasDictIn K C=true) (ty:(K.lookup C).map (·.cls)=some (.type "type")):ExC K C :=
 ⟨⟨ga,gn,gc,sb,so⟩,hd,(fun o e z=>by rw [e] at ty; simp only [Option.map_some,Option.some.injEq] at ty; rw [ty] at z; exact absurd (Value.type.inj z) (by decide)),(by
  cases q:K.lookup C with
  | none=>rw [q] at ty; cases ty
  | some o=>rfl)⟩
def us0:∀ {us:List Value},us.length=0->us=[]
 | [],_=>rfl
def usS {n:Nat}:∀ {us:List Value},us.length=n + 1->∃ a r,us=a :: r/\r.length=n
 | a :: r,h=>⟨a,r,rfl,Nat.succ.inj h⟩
def us1 {us:List Value} (h:us.length=1):∃ a,us=[a]:=by
 obtain ⟨a,r,e,k⟩:=usS h;exact ⟨a,by rw [e,us0 k]⟩
def us2 {us:List Value} (h:us.length=2):∃ a b,us=[a,b]:=by
 obtain ⟨a,r,e,k⟩:=usS h; obtain ⟨b,z⟩:=us1 k; exact ⟨a,b,by rw [e,z]⟩
def us3 {us:List Value} (h:us.length=3):∃ a b c,us=[a,b,c]:=by
 obtain ⟨a,r,e,k⟩:=usS h; obtain ⟨b,c,z⟩:=us2 k; exact ⟨a,b,c,by rw [e,z]⟩
def us4 {us:List Value} (h:us.length=4):∃ a b c d,us=[a,b,c,d]:=by
 obtain ⟨a,r,e,k⟩:=usS h; obtain ⟨b,c,d,z⟩:=us3 k; exact ⟨a,b,c,d,by rw [e,z]⟩
def A2s (K:W.Frag):V->List V->Hp->VK->Prop:=fun x vs H Q=>∃ y d xs j,vs=[y]/\Den K H x (.list xs)/\Den K H y d/\PyData.canLayAll0 xs=true/\d.canLay0=true/\d.depth<=60/\xs.length<=1000/\xs.findIdx? (fun z=>z.eqv d)=some j/\Q (.int j) H
section
variable {X:Cx}
def A7y (hu:X.A.units + 64 < cLine):MtR X "list.index" (A2s X.K):=by
 intro pins s σ H x vs v us Q I rx rv h;obtain ⟨y,d,xs,j,rfl,h1,h2,c1,c2,hd,hl,hj,q⟩:=h;obtain ⟨u,rfl,ru⟩:=rv.one;obtain ⟨as,r1⟩:=h1.reads I rx c1;obtain ⟨bs,r2⟩:=h2.reads I ru c2;cases r1 with
 | list e1 e2 e3 e4 =>
  rename_i l o vs n ns;have em:=PySem.SeqAt.readsAll_map xs _ _ c1 e4;have hsz:vs.size=xs.length:=by rw [<- em,Zl,Array.length_toList]
  obtain ⟨hjl,hjt,hjn⟩:=List.findIdx?_eq_some_iff_getElem.mp hj;have at':∀ m (hm:m < vs.size),PySem.SeqAt.readOf s.heap vs[m]=xs[m]'(by omega):=fun m hm=>by
   have:(vs.toList.map (PySem.SeqAt.readOf s.heap))[m]?=xs[m]?:=by rw [em]
   rw [Zh,Array.getElem?_toList,Array.getElem?_eq_getElem hm,Zg (by omega)] at this;exact Zj this
  obtain ⟨cl,dd,dt,sl⟩:=o;have e2':cl=.type "list":=e2;have e3':dt=.seq vs n:=e3;subst e2' e3';refine call_meets PySem.F.slot_list_index ⟨_,e1,rfl⟩ PySem.F.entry_list_index (PySem.F.args_list_index_2 _ _) (PySem.SeqAt.list_indexAt l vs n dd sl u (fun z=>PyData.eqv (PySem.SeqAt.readOf s.heap z) d) j (by omega) (by omega) (by rw [at' j (by omega)]; exact hjt) (fun m hm hlt=>by
   rw [at' m hm];exact Bool.eq_false_iff.mpr (hjn m hlt))) ⟨e1,PySem.SeqAt.items_eqAt e4 r2 c1 c2 (by omega),?_⟩
  exact ⟨.int j,H,I.tok _,⟨_,rfl⟩,q⟩
def U0 {K:W.Frag} (h:X.K=K) (hu:X.A.units + 64 < cLine):MtR X "list.index" (A2s K):=by subst h; exact A7y hu
end
end L2
namespace Pu
open PySem L2 My Prf
def pIdx (po pa:PDt) (env:PEnv) (Q:SV->PEnv->Prop):Prop:=po env fun x e=>asL x fun xs=>pa e fun d e2=>PyData.canLayAll0 xs=true/\d.canLay0=true/\d.depth<=60/\xs.length<=1000/\∃ j:Nat,xs.findIdx? (fun z=>z.eqv d)=some j/\Q (.d (.int (j:Int))) e2
instance re_idx {K:Frag} {to ta:TE} {po pa:PDt} [ho:RW K to po] [ha:RD K ta pa]:RE K (tBM K "list" (A2s K) to (F7 ta tNil)) (pIdx po pa) where
 ok:=by
  rintro c w env σ Qp Q rfl E p k;refine ho.ok c w env σ _ _ rfl E p fun v x e1 w1 E1 l1 d1 q1=>?_;unfold asL at q1;split at q1
  ·rename_i xs;obtain ⟨a,us,e,h1,h2⟩:=d1.lst E1.wok;subst e;refine ⟨.inl ⟨rfl,_,h1⟩,ha.ok c w1 e1 σ _ _ rfl E1 q1 fun u y e2 w2 E2 l2 d2 q2=>?_⟩;obtain ⟨c1,c2,hd,hl,j,hj,q⟩:=q2;exact ⟨u,y,xs,j,rfl,(d1.mono l2).den E2.wok,Den.same E2.wok.sub d2,c1,c2,hd,hl,hj,k _ _ e2 w2 ((Res.data E2 (.int _)).pre (l1.trans l2)) q⟩
  ·exact q1.elim
end Pu
namespace L2
open PySem PySem.Spec PyProof.Rows
def B11 (K:W.Frag):List V->Hp->VK->Prop:=fun xs H Q=>∃ p ys,xs=[.ref p]/\SqL K H p ys/\∀ l,H l=none->Q (.ref l) (upd H l (.tup ys))
def A2b {X:Cx} {K:W.Frag} (h:X.K=K):CallR X (.type "tuple") (B11 K):=by
 subst h;intro pins s σ H xs us Q I r q;obtain ⟨p,ys,e,hq,k⟩:=q;exact A02 pins s σ H xs us Q I r ⟨p,ys,e,.inl ⟨hq,k⟩⟩
end L2
namespace Pu
open PySem L2 My Prf
def B2b (pa:PEnv->(List LP->PEnv->Prop)->Prop) (env:PEnv) (Q:SV->PEnv->Prop):Prop:=pa env fun xss e=>∃ xs,xss=[xs]/\Q (.d (.tuple xs)) e
instance re_tupOf {K:Frag} {ta:TA} {pa:PEnv->(List LP->PEnv->Prop)->Prop} [ha:RLs K ta pa]:RE K (tCB (B11 K) ta) (B2b pa) where
 ok:=by
  rintro c w env σ Qp Q rfl E p k;refine ha.ok c w env σ _ _ rfl E p fun vs xss e1 w1 E1 l1 b1 q1=>?_;obtain ⟨xs,rfl,q⟩:=q1;cases b1 with
  | cons b1 b2 =>
  cases b2;obtain ⟨p1,us1,rfl,d1,s1⟩:=A4o b1;exact ⟨p1,us1,rfl,s1 w1 E1.wok E1.le0 (Same.refl _),fun p hp=>k _ _ e1 _ ((Res.tup E1 hp d1).pre l1) q⟩
def A9i {K:Frag} {F H:Hpp} {a:Addr} {vs:List V} (s:Same F H) (h:SqL K F a vs):SqL K H a vs:=by
 rcases h with (h | ⟨o,h⟩) | h
 ·exact .inl (.inl (s _ _ h))
 ·exact .inl (.inr ⟨o,s _ _ h⟩)
 ·exact .inr h
end Pu
namespace L2
open PySem PySem.Spec PyProof.Rows
section
variable {M:Model} {A:Around} {E:Value->Shared->Prop} {s:Shared}
def B0u {B:Heap} {l:List Env} {x:Addr} {c z fl:Value} {fo:Option Addr} {Q:Unit->Shared->Prop} (m1:B.StaysIn s.heap) (m2:s.heap.FunFrames B l) (m3:s.heap.TracedAtW B x c z fl)
  (k:∀ g,B.StaysIn g->g.FunFrames B l->(∃ fl2,g.TracedAtW B x c z fl2)->s.heap.UpToSlots g->Q () { s with heap:=g }):wpAny M A (setFlight (.ref x) fo) Q E s:=by
 obtain ⟨ox,us,T,ot,ws,e1,e2,e3,e4,e5,e6,e7,e8,e9⟩:=m3;have off:∀ b,b≠T->(s.heap.update T (Obj.mapFields (·.setIfInBounds 3 (fo.elim Value.none fun f=>rawInt f)))).get? b=s.heap.get? b:=fun b q=>Heap.get?_update_other _ _ (Ne.symm q);have nT:∀ b o,s.heap.get? b=some o->(∀ v,o.data≠.fields v)->b≠T:=fun b o q n z=>by
  rw [z,e7] at q; cases q; exact n ws e8
 have i3:3 < ws.size:=(Array.getElem?_eq_some_iff.mp e9).1;unfold setFlight;refine wpAny_bind (wpAny_field e1 e3 e4 ?_);rw [if_pos (by simp:(Value.ref T != Value.none)=true)];refine wpAny_setField e7 e8 i3 (k _ (fun b o q=>(off b fun z=>by rw [z,e5] at q; cases q).trans (m1 b o q)) (m2.of_keeps fun b o q n=>⟨o,(off b (nT b o q n)).trans q,rfl⟩) ?_ fun b o q n=>⟨o.slots,(off b (nT b o q n)).trans q⟩);exact ⟨_,ox,us,T,_,_,(off x (Ne.symm e6)).trans e1,e2,e3,e4,e5,e6,Heap.get?_update_self _ e7 (Obj.isFreed_of_fields (Obj.data_mapFields e8 _)),Obj.data_mapFields e8 _,by simp [i3]; rfl⟩
def A5o {B:Heap} {env:Env} {outer:List Env} {L x:Addr} {c z fl:Value} {Q:Unit->Shared->Prop} (hA:A.frames=some (env :: outer)) (hL:env.frame=some L) (m1:B.StaysIn s.heap) (m0:B.get? x=none) (m2:s.heap.FunFrames B (env :: outer)) (m3:s.heap.TracedAtW B x c z fl)
  (k:∀ g,Heap.FlyingW B outer x c z g->s.heap.UpToSlots g->Q () { s with heap:=g }):wpAny M A (leaving env (.ref x)) Q E s:=by
 by_cases hm:(fl == rawInt L)=true
 ·have hm:fl=rawInt L:=by simpa using hm
  subst hm;unfold leaving;refine wpAny_bind (wpAny_noteFrame_againW hL m3 (wpAny_landsW ⟨m1,m0,m2,m3⟩ fun g ⟨y1,y2,⟨_,_,y3⟩,y4⟩ u=>k g ⟨y1,y2,y3,y4⟩ u))
 ·obtain ⟨ox,us,T,ot,ws,e1,⟨rfl,e2⟩,e3,e4,e5,e6,e7,e8,e9⟩:=m3;have off:∀ b,b≠T->(s.heap.update T (Obj.mapFields (·.setIfInBounds 3 .none))).get? b=s.heap.get? b:=fun b q=>Heap.get?_update_other _ _ (Ne.symm q);have nT:∀ b o,s.heap.get? b=some o->(∀ v,o.data≠.fields v)->b≠T:=fun b o q n z=>by
   rw [z,e7] at q; cases q; exact n ws e8
  unfold leaving noteFrame;simp only [hL];refine wpAny_bind (wpAny_bind (wpAny_field e1 e3 e4 ?_));rw [if_pos (by simp:(Value.ref T != Value.none)=true)];refine wpAny_bind (wpAny_field e7 e8 e9 ?_);rw [if_neg hm];refine wpAny_bind (wpAny_setField e7 e8 (Array.getElem?_eq_some_iff.mp e9).1 ?_);refine wpAny_newEntryW hA (m2.of_keeps fun b o q n=>⟨o,(off b (nT b o q n)).trans q,rfl⟩) hL ((off x (Ne.symm e6)).trans e1) (fun b o q=>(off b fun z=>by rw [z,e5] at q; cases q).trans (m1 b o q)) m0 e3 (Array.getElem?_eq_some_iff.mp e4).1 e2 ?_;rintro g ⟨y1,⟨_,_,y2⟩,y3,y4⟩;exact k g ⟨y1,m0,y2,y3⟩ fun b o q n=>y4 b o ((off b (nT b o q n)).trans q) n
end
def bx (X:Cx) (scope:Scope) (cl:List (Str × Addr)) (N':List Str) (s3:Shared) (H3:Hp) (fp:List Addr) (E0:XK):Value->Shared->Prop:=fun e s'=>∃ pl σ H s,Inv (X.block scope cl N' s3 H3 fp) pl σ H s/\CX1 X.prog X.w X.stack H s E0 e s'
def tEor (t u:TE):TE:=fun σ H Q=>t σ H Q\/u σ H Q
section
variable {X:Cx} {e:Expr} {t u:TE}
def C2f (h:QE X e t) (h2:QE X e u):QE X e (tEor t u):=⟨fun pins s σ H Q I hw=>hw.elim (h.out pins s σ H Q I) (h2.out pins s σ H Q I)⟩
end
def A6k:R2:=fun x y H Q=>∃ i n,x=.str i/\y=.int n/\(0<=n/\n<=100)/\i.length<=100/\Q (.str (Txt.mul i n)) H
def C0o {x:Str} {n:Int} (h0:0<=n) (h1:n<=100) (h:x.length<=100):MulOk x n:=by
 refine ⟨?_,fun hn _=>?_,fun hn _=>?_⟩
 ·rw [Bool.or_eq_false_iff];exact ⟨Zd (by omega),Zd (by omega)⟩
 ·have hp:0 < n:=by omega
  have h2:100 * n<=2 ^ 63 - 1:=by omega
  have h3:(100:Int)<=(2 ^ 63 - 1) / n:=Int.le_ediv_of_mul_le hp h2;omega
 ·have h2:x.length * n.toNat<=100 * 100:=Nat.mul_le_mul h (by omega);have h3:100 * 100<=sizeLine:=by rw [sizeLine_eq]; decide
  show decide _=false;exact Zd (by omega)
def B49 {X:Cx}:OpR X (binaryOp .Mult) A6k:=by
 intro pins s σ H x y v u Q I rx ry h;obtain ⟨i,n,rfl,rfl,⟨h0,h1⟩,h2,q⟩:=h;obtain ⟨t,rfl⟩:=rx;obtain ⟨t2,rfl⟩:=ry;exact PySem.SB.mul (C0o h0 h1 h2) fun t' k=>⟨.str _,H,I.tok _,⟨t',rfl⟩,q⟩
end L2
namespace Pu
open PySem L2 My Prf
def B4u (x y:PyData) (Q:SV->Prop):Prop:=asS x fun i=>asI y fun n=>(0<=n/\n<=100)/\i.length<=100/\Q (.d (.str (Txt.mul i n)))
theorem B4t {i:Str} {n:Int} {Q:SV->Prop}:B4u (.str i) (.int n) Q=((0<=n/\n<=100)/\i.length<=100/\Q (.d (.str (Txt.mul i n)))):=rfl
instance ro_mulS {K:Frag}:RO K A6k B4u where
 ok:=by
  rintro c w env σ x y dx dy Qp Q rfl E vx vy p k;unfold B4u asS at p;split at p
  ·unfold asI at p;split at p
   ·exact ⟨_,_,vx.strE,vy.intE,p.1,p.2.1,k _ _ w (Res.data E (.str _)) p.2.2⟩
   ·exact p.elim
  ·exact p.elim
end Pu
namespace L2
open PySem PySem.Spec PyProof.Rows
def B7k {b n:Nat} (h:n<=b):Builtin.Slice.sliceAdjust none (some (b:Int)) 1 (n:Int)=(0,(n:Int)):=by
 have e1:¬ ((1:Int) < 0):=by decide
 have e2:¬ ((b:Int) < 0):=by omega
 have e3:min (b:Int) (n:Int)=n:=by omega
 simp only [Builtin.Slice.sliceAdjust,e1,e2,if_false,e3]
def B33 (n:Nat):Builtin.Slice.slicePlaces 0 (n:Int) 1=n:=by
 have e1:(1:Int) > 0:=by decide
 simp only [Builtin.Slice.slicePlaces,e1,if_true,Int.ediv_one];split <;> omega
section
variable {pg:Program} {wo:World} {ar:Around} {xe:Value->Shared->Prop} {st:Shared}
def B7i {q:Addr} {b n:Nat} {tk:Tok} {Q:Int × Int × Nat->Shared->Prop} (hs:st.heap.IsSliceOf q .none (.int b tk) .none) (hb:n<=b) (k:Q (0,1,n) st) :
  wpAny (model pg wo) ar (Builtin.Slice.sliceApplied (.ref q) (pure (n:Int))) Q xe st:=by
 obtain ⟨ob,g1,g2,g3⟩:=id hs;unfold Builtin.Slice.sliceApplied Builtin.Slice.sliceFields;refine wpAny_bind (wpAny_bind (wpAny_field g1 g3 (x:=.none) rfl ?_));refine wpAny_bind (wpAny_field g1 g3 (x:=.int b tk) rfl ?_);refine wpAny_bind (wpAny_field g1 g3 (x:=.none) rfl ?_);refine wpAny_pure ?_;refine wpAny_bind (slicePart_none ?_);show wpAny _ _ (if ((1:Int) == 0)=true then _ else _) _ _ st;rw [if_neg (by decide)];refine wpAny_bind (slicePart_none ?_);refine wpAny_bind (slicePart_int ?_);refine wpAny_bind (wpAny_pure ?_);show wpAny _ _ (match Builtin.Slice.sliceAdjust none (some (b:Int)) 1 (n:Int) with | (x,y)=>pure (x,(1:Int),Builtin.Slice.slicePlaces x y 1)) _ _ st;rw [B7k hb];show wpAny _ _ (pure ((0:Int),(1:Int),Builtin.Slice.slicePlaces 0 (n:Int) 1)) _ _ st;rw [B33];exact wpAny_pure k
def B02 {a q:Addr} {its:Array Value} {b:Nat} {tk:Tok} {Q:Value->Shared->Prop} (ht:IsTup st.heap a its) (hs:st.heap.IsSliceOf q .none (.int b tk) .none) (hb:its.size<=b) (k:Q (.ref a) st) :
  wpAny (model pg wo) ar (getItem (.ref a) (.ref q)) Q xe st:=by
 obtain ⟨ob,g1,g2,g3⟩:=id hs;have tq:st.TypeIs (.ref q) "slice":=⟨ob,g1,g2⟩;unfold getItem;try with_reducible refine wpAny_holding ?_
 first | refine wpAny_bind (wpAny_pure ?_) | skip
 refine wpAny_bind (wpAny_sequenceKey ht.typeIs (by decide) ?_);refine wpAny_bind (wpAny_callSpecial?_slot (name:=Str.ofString "__getitem__") ht.typeIs slot_tuple_getitem ?_);refine wpAny_call_entry slot_tuple_getitem ht.typeIs entry_tuple_getitem ?_ (args_tuple_getitem _ _);show wpAny _ _ (Builtin.Tuple.tupleItemsOf (.ref a) >>= _) _ _ st;refine wpAny_bind (tupleItemsOf_ ht ?_);refine wpAny_bind (wpAny_typeOf tq ?_);rw [if_pos (by decide)];refine wpAny_bind (B7i hs hb ?_);show wpAny _ _ (if ((0:Int) == 0 && (1:Int) == 1 && its.size == its.size)=true then _ else _) _ _ st;rw [if_pos (by simp)];unfold Builtin.Tuple.tupleIsExact;refine wpAny_bind (wpAny_bind (wpAny_typeOf ht.typeIs ?_));refine wpAny_pure ?_;rw [if_pos (by decide)];first | exact wpAny_bind (wpAny_rule (wpAny_pure ⟨_,rfl,wpAny_pure k⟩)) | exact wpAny_bind (wpAny_pure (wpAny_pure ⟨_,rfl,wpAny_pure k⟩)) | exact wpAny_pure ⟨_,rfl,wpAny_pure k⟩
end
def rSlW (K:W.Frag):V->Option Int->Option Int->Hp->VK->Prop:=fun x lo hi H Q=>∃ (a:Addr) (xs:List V) (b:Nat),x=.ref a/\SqT K H a xs/\lo=none/\hi=some (b:Int)/\xs.length<=b/\Q (.ref a) H
def A9j {X:Cx}:SlR X (rSlW X.K):=by
 intro pins s σ H x v vl vu lo hi q Q I rx hs pl pu h;obtain ⟨a,xs,b,rfl,hx,rfl,rfl,hb,k⟩:=h;cases rx;obtain ⟨its,r,ht,hz⟩:=I.tuple hx;have hlen:=r.length;cases pl;cases pu;refine ⟨"tuple",_,slot_tuple_getitem.lookup,ht.typeIs,?_⟩;exact B02 ht hs (by rw [List.size_toArray]; omega) ⟨.ref a,H,I,rfl,k⟩
def B77 (K:W.Frag):V->Option Int->Option Int->Hp->VK->Prop:=fun x lo hi H Q=>rSlT K x lo hi H Q\/rSlW K x lo hi H Q
def A6h {X:Cx} {K:W.Frag} (h:X.K=K):SlR X (B77 K):=by
 subst h;exact SlR.or B71 A9j
end L2
namespace Pu
open PySem L2 My Prf
def pSlT (pa:PDt) (pl ph:PEnv->(Option Int->PEnv->Prop)->Prop) (env:PEnv) (Q:SV->PEnv->Prop):Prop:=pa env fun x e=>pl e fun lo e1=>ph e1 fun hi e2=>∃ (xs:LP) (b:Nat),x=.tuple xs/\lo=none/\hi=some (b:Int)/\Q (.d (.tuple (xs.take b))) e2
instance re_slT {K:Frag} {te:TE} {tl th:TO} {pa:PDt} {pl ph:PEnv->(Option Int->PEnv->Prop)->Prop} [ha:RD K te pa] [hl:RP K tl pl] [hh:RP K th ph]:RE K (tSl (B77 K) te tl th) (pSlT pa pl ph) where
 ok:=by
  rintro c w env σ Qp Q rfl E p k;refine ha.ok c w env σ _ _ rfl E p fun v dx e1 w1 E1 l1 d1 q1=>?_;refine hl.ok c w1 e1 σ _ _ rfl E1 q1 fun lo e2 w2 E2 l2 q2=>?_;refine hh.ok c w2 e2 σ _ _ rfl E2 q2 fun hi e3 w3 E3 l3 q3=>?_;obtain ⟨xs,b,rfl,rfl,rfl,q⟩:=q3;have d3:Den c.K w3.F v (.tuple xs):=(d1.same l2.f).same l3.f;obtain ⟨a,vs,e,g1,g2⟩:=VV.tup E3.wok (.inl d3);have hlen:=g2.len;by_cases hb:xs.length<=b
  ·refine .inr ⟨a,vs,b,e,g1,rfl,rfl,by rw [hlen]; exact hb,?_⟩;rw [List.take_of_length_le hb] at q;rw [<- e];exact k _ _ e3 _ ((Res.data E3 d3).pre (l1.trans (l2.trans l3))) q
  ·refine .inl ⟨a,vs,e,g1,fun z=>hb ?_,fun p hp=>?_⟩
   ·have:=z.2;rw [HT.sIx_nat] at this;omega
   ·have ec:cutV vs none (some (b:Int))=vs.take b:=by
     unfold cutV;rw [HT.sIx_none,HT.sIx_nat,List.drop_zero,Nat.sub_zero,Nat.min_eq_left (by omega)]
    rw [ec];exact k _ _ e3 _ ((Res.tup E3 hp (g2.take b)).pre (l1.trans (l2.trans l3))) q
def OT.part:OT->Int->Option OT
 | .leaf (.tuple xs),i=>(L2.atI xs i).map .leaf
 | .leaf (.list xs),i=>(L2.atI xs i).map .leaf
 | .nd _ _ k,i=>(ixN k.len i).bind k.kid
 | _,_=>none
def B4g {c:Ct} {w:Wd} {v:V} {t u:OT} {i:Int} (ok:w.Ok) (l:Le c.w0 w) (h:VR c w v (.bt t)) (e:t.part i=some u):∃ p vs x,v=.ref p/\(SqL c.K w.H p vs\/SqT c.K w.H p vs)/\L2.atI vs i=some x/\VR c w x (.bt u):=by
 unfold OT.part at e;split at e
 ·obtain ⟨⟨v',ev,h⟩,_⟩:=h;cases ev;obtain ⟨x,hx,rfl⟩:=Zo e;obtain ⟨p,vs,rfl,h1,h2⟩:=Den.tupE h;obtain ⟨y,hy,hd⟩:=h2.atIE hx;exact ⟨p,vs,y,rfl,.inr (SqT.same ok.sub h1),hy,⟨_,rfl,hd⟩,fun q hq=>nomatch hq⟩
 ·obtain ⟨⟨v',ev,h⟩,_⟩:=h;cases ev;obtain ⟨x,hx,rfl⟩:=Zo e;obtain ⟨p,vs,rfl,h1,h2⟩:=Den.lstE h;obtain ⟨y,hy,hd⟩:=h2.atIE hx;exact ⟨p,vs,y,rfl,.inl (ok.sub.seq h1),hy,⟨_,rfl,hd⟩,fun q hq=>nomatch hq⟩
 ·rename_i b a k;obtain ⟨⟨ev,us,h1,h2⟩,h3⟩:=h;cases ev;obtain ⟨j,hj,hk⟩:=Option.bind_eq_some_iff.mp e;obtain ⟨x,hx,hu⟩:=h2.kid hk;have hH:=l.h _ _ h1 (h3 a (by simp [OT.fp]));refine ⟨a,us,x,rfl,?_,?_,hu,fun q hq=>h3 q (Zr _ (A1z hk hq))⟩
  ·cases b with
   | true=>exact .inl (SqL.of hH)
   | false=>exact .inr (SqT.of hH)
  ·unfold L2.atI;rw [h2.len,hj]; exact hx
 ·cases e
def C3s (o:Option (Option SV)) (env:PEnv) (Q:OT->PEnv->Prop):Prop:=match o with
 | some (some (.bt t))=>Q t env
 | some (some (.d x))=>Q (.leaf x) env
 | _=>False
def pPth (pb:PEnv->(OT->PEnv->Prop)->Prop) (pi:PDt) (env:PEnv) (Q:OT->PEnv->Prop):Prop:=pb env fun t e1=>pi e1 fun y e2=>asI y fun n=>∃ u,t.part n=some u/\Q u e2
def OT.vw (t:OT) (k:PyData->Prop):Prop:=match t with
 | .leaf x=>k x
 | t=>∃ xs,t.sv=.bor xs/\k (.list xs)
def B2w {a:Addr} {xs:LP} {k:PyData->Prop} (h:k (.list xs)):OT.vw (.nd true a (B3 xs)) k:=⟨xs,A6a,h⟩
def pVw (pb:PEnv->(OT->PEnv->Prop)->Prop) (env:PEnv) (Q:PyData->PEnv->Prop):Prop:=pb env fun t e=>t.vw fun x=>Q x e
def OT.lf (t:OT) (k:PyData->Prop):Prop:=match t with
 | .leaf x=>k x
 | _=>False
def pLf (pb:PEnv->(OT->PEnv->Prop)->Prop) (env:PEnv) (Q:SV->PEnv->Prop):Prop:=pb env fun t e=>t.lf fun x=>Q (.d x) e
def Wd.less (w:Wd) (p q:Addr):Wd:=⟨w.M,fun a=>if a=p\/a=q then none else w.H a,w.F⟩
def Mut (K:Frag) (w:Wd) (l:Addr) (xs:LP):Prop:=∃ vs,w.H l=some (.lst vs)/\w.F l=none/\¬ w.M l/\DenAll K w.F vs xs
abbrev PMu:=LP->LP->LP->(PyData->LP->LP->Prop)->Prop
def spMu (K:Frag) (nd:Nat) (psp:PMu):Sp:=fun vs H Q _=>∃ (w:Wd) (us:List V) (xs ys zs:LP) (p q:Addr) (Qp:PyData->LP->LP->Prop),w.H=H/\w.Ok/\vs=us++[.ref p,.ref q]/\us.length=nd/\p≠q/\DenAll K w.F us xs/\Mut K w p ys/\Mut K w q zs/\psp xs ys zs Qp /\
 ∀ v x ys' zs' w',w'.Ok->Le (w.less p q) w'->Den K w'.F v x->Mut K w' p ys'->Mut K w' q zs'->Qp x ys' zs'->Q v w'.H
theorem spMu.len {K:Frag} {nd:Nat} {psp:PMu} {n:Nat} (h:nd + 2=n):∀ vs H Q E,spMu K nd psp vs H Q E->vs.length=n:=by
 rintro vs H Q E ⟨w,us,xs,ys,zs,p,q,Qp,_,_,rfl,hl,_⟩;simp; omega
def A1x {w:Wd} {p q a:Addr} (h:a=p\/a=q):(w.less p q).H a=none:=if_pos h
def N2 {w:Wd} {p q a:Addr} (h:a≠p) (h':a≠q):(w.less p q).H a=w.H a:=if_neg (fun z=>z.elim h h')
def A1w {w:Wd} {p q a:Addr} {o:HO} (h:(w.less p q).H a=some o):w.H a=some o/\a≠p/\a≠q:=by
 unfold Wd.less at h;dsimp only at h;split at h
 ·cases h
 ·rename_i z; exact ⟨h,fun e=>z (.inl e),fun e=>z (.inr e)⟩
def B52 {w:Wd} {p q:Addr}:Le (w.less p q) w :=
 ⟨⟨Same.refl _,fun b o h _=>(A1w h).1,fun _ h=>h,fun _ h=>.inl h,fun b h=>by
  cases e:(w.less p q).H b with
  | none=>rfl
  | some o=>rw [(A1w e).1] at h; cases h⟩,fun a o h=>.inl h⟩
theorem Mut.fp {K:Frag} {w:Wd} {l:Addr} {xs:LP} (h:Mut K w l xs):Tre K w (.nd true l (B3 xs)) [.ref l]/\w.H l≠none/\w.F l=none/\¬ w.M l:=by
 obtain ⟨vs,h1,h2,h3,h4⟩:=h;exact ⟨⟨rfl,vs,h1,N3 h4⟩,by rw [h1]; simp,h2,h3⟩
def fp_one {l a:Addr} {xs:LP}:a ∈ (OT.nd true l (B3 xs)).fp ↔ a=l:=by
 rw [show (OT.nd true l (B3 xs)).fp=l :: (B3 xs).fp from rfl,K9]; simp
def B6x {l:Addr} {xs:LP}:(OT.nd true l (B3 xs)).fp.Nodup:=by rw [show (OT.nd true l (B3 xs)).fp=l :: (B3 xs).fp from rfl,K9]; simp
def Mut.of {c:Ct} {w:Wd} {v:V} {l:Addr} {xs:LP} (h:VR c w v (.tr (.nd true l (B3 xs)))):Mut c.K w l xs:=by
 obtain ⟨⟨_,us,h1,h2⟩,h3⟩:=h;obtain ⟨_,g2,g3,_⟩:=h3.1 l (fp_one.mpr rfl);exact ⟨us,h1,g2,g3,J7 h2⟩
def B60 (nd:Nat) (p q:Addr) (Qp:PyData->LP->LP->Prop) (x:PyData) (e:PEnv):Prop:=∃ ys zs,e[nd]?=some (some (.tr (.nd true p (B3 ys))))/\e[nd + 1]?=some (some (.tr (.nd true q (B3 zs))))/\Qp x ys zs
def rtMu (nd:Nat) (p q:Addr) (Qp:PyData->LP->LP->Prop) (s:SV) (e:PEnv):Prop:=match s with
 | .d x=>B60 nd p q Qp x e
 | _=>False
def B62 {K:Frag} {ts:TS} {ps:PSt} [hs:RS K ts ps] {nd:Nat} {psp:PMu} {vs:List V} {H:Hpp} {Q:VK} {E:XK} {N:List Str} (h:spMu K nd psp vs H Q E)
  (hb:∀ xs ys zs p q Qp,p≠q->psp xs ys zs Qp->ps ⟨B60 nd p q Qp .none,rtMu nd p q Qp,fun _=>False,fun _=>False⟩ (xs.map (fun x=>some (.d x))++(some (.tr (.nd true p (B3 ys))) :: some (.tr (.nd true q (B3 zs))) :: List.replicate (N.length - (nd + 2)) none))):ts { nx:=fun _ H'=>Q .non H',rt:=Q } (L2.start N vs) H:=by
 obtain ⟨w,us,xs,ys,zs,p,q,Qp,rfl,ok,rfl,hl,hne,hd,m1,m2,hp,k⟩:=h;have hxl:xs.length=nd:=by rw [<- hl]; exact hd.len.symm
 have cas:∀ (i:Nat) s,(xs.map (fun x=>some (SV.d x))++(some (.tr (.nd true p (B3 ys))) :: some (.tr (.nd true q (B3 zs))) :: List.replicate (N.length - (nd + 2)) none))[i]?=some (some s) ->
   (∃ x,xs[i]?=some x/\s=.d x)\/(i=nd/\s=.tr (.nd true p (B3 ys)))\/(i=nd + 1/\s=.tr (.nd true q (B3 zs))):=by
  intro i s e;rw [List.getElem?_append] at e;split at e
  ·rw [Zh] at e;cases q:xs[i]? with
   | none=>rw [q] at e; cases e
   | some t=>rw [q] at e; cases e; exact .inl ⟨t,rfl,rfl⟩
  ·rename_i z;rw [Zl,hxl] at z e;match hi:i - nd,e with
   | 0,e=>cases e; exact .inr (.inl ⟨by omega,rfl⟩)
   | 1,e=>cases e; exact .inr (.inr ⟨by omega,rfl⟩)
   | j + 2,e =>
    rw [List.getElem?_cons_succ,List.getElem?_cons_succ,List.getElem?_replicate] at e;split at e <;> cases e
 have st0:∀ (i:Nat) u,us[i]?=some u->(L2.start N (us++[.ref p,.ref q]))[i]?=some (some u):=fun i u e=>by
  have:=(Zs e).1;unfold L2.start;rw [List.getElem?_append_left (by simp; omega),Zh,List.getElem?_append_left (by omega),e]; rfl
 have st1:(L2.start N (us++[.ref p,.ref q]))[nd]?=some (some (.ref p)):=by
  unfold L2.start;rw [List.getElem?_append_left (by simp; omega),Zh,List.getElem?_append_right (by omega),hl]; simp
 have st2:(L2.start N (us++[.ref p,.ref q]))[nd + 1]?=some (some (.ref q)):=by
  unfold L2.start;rw [List.getElem?_append_left (by simp; omega),Zh,List.getElem?_append_right (by omega),hl]; simp
 have vr1:VR ⟨K,w.less p q,noZ⟩ w (.ref p) (.tr (.nd true p (B3 ys))):=⟨m1.fp.1,fun a ha=>by rw [fp_one.mp ha]; exact ⟨m1.fp.2.1,m1.fp.2.2.1,m1.fp.2.2.2,A1x (.inl rfl)⟩,B6x⟩;have vr2:VR ⟨K,w.less p q,noZ⟩ w (.ref q) (.tr (.nd true q (B3 zs))):=⟨m2.fp.1,fun a ha=>by rw [fp_one.mp ha]; exact ⟨m2.fp.2.1,m2.fp.2.2.1,m2.fp.2.2.2,A1x (.inr rfl)⟩,B6x⟩;have fin:∀ x env σ w',EnvOk ⟨K,w.less p q,noZ⟩ w' env σ->B60 nd p q Qp x env->∀ v,Den K w'.F v x->Q v w'.H:=fun x env σ w' E' ⟨ys',zs',e1,e2,qp⟩ v hv=>by
  obtain ⟨u1,_,g1⟩:=E'.at' _ _ e1;obtain ⟨u2,_,g2⟩:=E'.at' _ _ e2;exact k v x ys' zs' w' E'.wok E'.le0 hv (Mut.of g1) (Mut.of g2) qp
 refine hs.ok ⟨K,w.less p q,noZ⟩ w _ (L2.start N (us++[.ref p,.ref q])) _ { nx:=fun _ H'=>Q .non H',rt:=Q } rfl ⟨ok,B52,by simp [L2.start,hxl,hl],fun i s e=>?_,fun i j s t v u a e e' g g' f f'=>?_,fun a z=>z.elim,fun a j t u z=>z.elim⟩ ⟨fun env σ w' E' _ q=>fin _ env σ w' E' q _ .non,fun v s env σ w' E' h r hq=>?_,fun _ _ _ _ _ z=>False.elim z,fun _ _ _ _ _ z=>False.elim z⟩ (hb xs ys zs p q Qp hne hp)
 ·rcases cas i s e with ⟨x,hx,rfl⟩ | ⟨rfl,rfl⟩ | ⟨rfl,rfl⟩
  ·obtain ⟨u,hu,hx2⟩:=hd.at hx;exact ⟨u,st0 i u hu,hx2⟩
  ·exact ⟨_,st1,vr1⟩
  ·exact ⟨_,st2,vr2⟩
 ·rcases cas i s e with ⟨x,hx,rfl⟩ | ⟨rfl,rfl⟩ | ⟨rfl,rfl⟩
  ·exact f.elim
  ·rcases cas j t e' with ⟨x,hx,rfl⟩ | ⟨rfl,rfl⟩ | ⟨rfl,rfl⟩
   ·exact f'.elim
   ·rfl
   ·exact absurd ((fp_one.mp f).symm.trans (fp_one.mp f')) hne
  ·rcases cas j t e' with ⟨x,hx,rfl⟩ | ⟨rfl,rfl⟩ | ⟨rfl,rfl⟩
   ·exact f'.elim
   ·exact absurd ((fp_one.mp f').symm.trans (fp_one.mp f)) hne
   ·rfl
 ·have hq':rtMu nd p q Qp s env:=hq;unfold rtMu at hq';split at hq'
  ·exact fin _ env σ w' E' hq' v h
  ·exact hq'.elim
def tMu (i:Nat):TE:=tVar i
def oMu (o:Option (Option SV)) (k:Addr->LP->Prop):Prop:=match o with
 | some (some (.tr t))=>∃ a xs,t=.nd true a (B3 xs)/\k a xs
 | _=>False
def C2t {a:Addr} {xs:LP} {k:Addr->LP->Prop} (h:k a xs):oMu (some (some (.tr (.nd true a (B3 xs))))) k:=⟨a,xs,rfl,h⟩
def Z8 {xs ys:LP} (h:B3 xs=B3 ys):xs=ys:=by
 have:=congrArg OT.dat h
 rwa [Q2,Q2] at this
theorem C2u {a:Addr} {xs:LP} {k:Addr->LP->Prop}:oMu (some (some (.tr (.nd true a (B3 xs))))) k=k a xs :=
 propext ⟨fun ⟨_,_,e,h⟩=>by
  have e1:=(OT.nd.inj e).2.1;have e2:=Z8 (OT.nd.inj e).2.2;subst e1; subst e2; exact h,C2t⟩
def pMuV (i:Nat) (env:PEnv) (Q:PyData->PEnv->Prop):Prop:=oMu env[i]? fun _ xs=>Q (.list xs) env
instance (priority:=high) rw_mu {K:Frag} {i:Nat}:RW K (tMu i) (pMuV i) where
 ok:=by
  rintro c w env σ Qp Q rfl E p k;unfold pMuV oMu at p;split at p
  ·rename_i t e;obtain ⟨a,xs,rfl,p⟩:=p;obtain ⟨v,h1,h2⟩:=E.at' i _ e;obtain ⟨vs,g1,g2,g3,g4⟩:=Mut.of h2;have ev:v=.ref a:=List.singleton_inj.mp h2.1.1;exact ⟨v,h1,k v _ env w E (Lw.refl w) (.inr ⟨a,vs,xs,ev,rfl,g1,g3,g4⟩) p⟩
  ·exact p.elim
def B2c (pd:PDt) (i:Nat) (pi:PDt) (D:PEnds) (env:PEnv):Prop:=pd env fun x e=>oMu e[i]? fun _ _=>pi e fun y e2=>asI y fun n=>oMu e2[i]? fun a xs=>∃ j,ixN xs.length n=some j/\D.nx (e2.set i (some (.tr (.nd true a (B3 (xs.set j x))))))
instance (priority:=high) rs_setMu {K:Frag} {i:Nat} {te ti:TE} {pd pi:PDt} [he:RD K te pd] [hi:RW K ti pi]:RS K (tAsg te (gSub (tMu i) ti B3m)) (B2c pd i pi) where
 ok:=by
  rintro c w env σ Dp D rfl E h p;refine he.ok c w env σ _ _ rfl E p fun v x e1 w1 E1 l1 d1 q1=>?_;unfold oMu at q1;split at q1
  ·rename_i t0 e0;obtain ⟨a0,xs0,rfl,q1⟩:=q1;obtain ⟨o,g0,h2⟩:=E1.at' i _ e0;refine ⟨_,g0,hi.ok c w1 e1 σ _ _ rfl E1 q1 fun u y e2 w2 E2 l2 d2 q2=>?_⟩;unfold asI at q2;split at q2
   ·rename_i n;split at q2
    ·rename_i t e;obtain ⟨a,xs,rfl,j,hj,q2⟩:=q2;obtain ⟨o',g0',h2'⟩:=E2.at' i _ e;rw [g0] at g0'; cases g0';obtain ⟨vs',k1,k2,k3,k5⟩:=Mut.of h2';have ev:o=.ref a:=List.singleton_inj.mp h2'.1.1;subst ev;have hn:=d2.intE;refine ⟨a,vs',n,j,rfl,hn,k1,by rw [k5.len]; exact hj,?_⟩;refine h.nx _ σ ⟨w2.M,upd w2.H a (.lst (vs'.set j v)),w2.F⟩ (E2.writeAt (s':=.tr (.nd true a (B3 (xs.set j x)))) e g0 (fp_one.mpr rfl) (fun b hb=>fp_one.mpr (fp_one.mp hb)) ⟨⟨rfl,_,B7,N3 (DenAll.setAt (Den.same l2.f d1) j k5)⟩,fun b hb=>?_,B6x⟩) (l1.f.trans l2.f) q2;rw [fp_one.mp hb];obtain ⟨z1,z2,z3,z4⟩:=h2'.2.1 a (fp_one.mpr rfl);exact ⟨fun z=>z1 (M8 z),z2,z3,z4⟩
    ·exact q2.elim
   ·exact q2.elim
  ·exact q1.elim
class RA2 (K:Frag) (nd:Nat) (ta:TA) (pa:outParam (PEnv->(LP->Nat->Nat->PEnv->Prop)->Prop)):Prop where
 ok:∀ (c:Ct) (w:Wd) (env:PEnv) (σ:St) (Qp:LP->Nat->Nat->PEnv->Prop) (Q:List V->Hpp->Prop),c.K=K->EnvOk c w env σ->pa env Qp->(∀ vs xs i j u v env' w',EnvOk c w' env' σ->Lw w w'->vs.length=nd->DenAll K w'.F vs xs->σ[i]?=some (some u)->σ[j]?=some (some v)->Qp xs i j env'->Q (vs++[u,v]) w'.H)->ta σ w.H Q
def is2 (o o':Option (Option SV)) (k:Prop):Prop:=match o,o' with
 | some (some (.own _)),some (some (.own _))=>k
 | _,_=>False
theorem C22 {xs ys:LP} {k:Prop}:is2 (some (some (.own xs))) (some (some (.own ys))) k=k:=rfl
def pA2 (i j:Nat) (env:PEnv) (Q:LP->Nat->Nat->PEnv->Prop):Prop:=is2 env[i]? env[j]? (Q [] i j env)
instance ra2_nil {K:Frag} {i j:Nat}:RA2 K 0 (F7 (tVar i) (F7 (tVar j) tNil)) (pA2 i j) where
 ok:=by
  rintro c w env σ Qp Q rfl E p k;unfold pA2 is2 at p;split at p
  ·rename_i xs ys e1 e2;obtain ⟨u,h1,_⟩:=E.at' i _ e1;obtain ⟨v,h2,_⟩:=E.at' j _ e2;exact ⟨u,h1,v,h2,k [] [] i j u v env w E (Lw.refl w) rfl .nil h1 h2 p⟩
  ·exact p.elim
def pC2 (pd:PDt) (pr:PEnv->(LP->Nat->Nat->PEnv->Prop)->Prop) (env:PEnv) (Q:LP->Nat->Nat->PEnv->Prop):Prop:=pd env fun x e1=>pr e1 fun xs i j e2=>Q (x :: xs) i j e2
instance ra2_cons {K:Frag} {n:Nat} {ta:TE} {tr:TA} {pd:PDt} {pr:PEnv->(LP->Nat->Nat->PEnv->Prop)->Prop} [ha:RD K ta pd] [hr:RA2 K n tr pr]:RA2 K (n + 1) (F7 ta tr) (pC2 pd pr) where
 ok:=by
  rintro c w env σ Qp Q rfl E p k;refine ha.ok c w env σ _ _ rfl E p fun x dx e1 w1 E1 l1 v1 q1=>?_;refine hr.ok c w1 e1 σ _ _ rfl E1 q1 fun vs xs i j u v e2 w2 E2 l2 hl d h1 h2 q2=>?_;exact k (x :: vs) (dx :: xs) i j u v e2 w2 E2 (l1.trans l2) (by simp [hl]) (.cons (Den.same l2.f v1) d) h1 h2 q2
def Tre.less {K:Frag} {w:Wd} {p q:Addr}:∀ {t:OT} {vs:List V},Tre K w t vs->p ∉ t.fp->q ∉ t.fp->Tre K (w.less p q) t vs
 | .leaf _,_,h,_,_=>h
 | .nd _ a _,_,⟨e,ys,h,k⟩,n,m=>⟨e,ys,by rw [N2 (fun z=>n (by simp [OT.fp,z])) (fun z=>m (by simp [OT.fp,z]))]; exact h,Tre.less k (fun z=>n (by simp [OT.fp,z])) fun z=>m (by simp [OT.fp,z])⟩
 | .nil,_,e,_,_=>e
 | .cons _ _,_,⟨v,r,e,h,t⟩,n,m=>⟨v,r,e,Tre.less h (fun z=>n (by simp [OT.fp,z])) fun z=>m (by simp [OT.fp,z]),Tre.less t (fun z=>n (by simp [OT.fp,z])) fun z=>m (by simp [OT.fp,z])⟩
def DlAt.less {K:Frag} {w:Wd} {l p q:Addr} {ks:List (Str × Addr × LP)} (h:DlAt K w l ks) (n:p ∉ dlF l ks) (m:q ∉ dlF l ks):DlAt K (w.less p q) l ks :=
 ⟨let ⟨kvs,e,z⟩:=h.1; ⟨kvs,by rw [N2 (fun z=>n (by rw [<- z]; exact B1c)) (fun z=>m (by rw [<- z]; exact B1c))]; exact e,z⟩,fun k hk=>let ⟨vs,e,d⟩:=h.2 k hk; ⟨vs,by rw [N2 (fun z=>n (by rw [<- z]; exact B1d hk)) (fun z=>m (by rw [<- z]; exact B1d hk))]; exact e,d⟩⟩
def VR.less {c:Ct} {w:Wd} {v:V} {p q:Addr}:∀ {s:SV},VR c w v s->¬ s.foot v p->¬ s.foot v q->VR c (w.less p q) v s
 | .d _,h,_,_=>h
 | .own _,⟨l',vs,e,k1,k2,k3,k4,k5⟩,n,m=>⟨l',vs,e,by rw [N2 (fun z=>n (by rw [<- z]; exact e)) (fun z=>m (by rw [<- z]; exact e))]; exact k1,k2,k3,k4,k5⟩
 | .bor _,h,_,_=>h
 | .st,h,_,_=>h
 | .bt _,h,_,_=>h
 | .al _,h,_,_=>h
 | .dk _,⟨l',e,k1,k2,k3,k4⟩,n,m=>⟨l',e,by rw [N2 (fun z=>n (by rw [<- z]; exact e)) (fun z=>m (by rw [<- z]; exact e))]; exact k1,k2,k3,k4⟩
 | .dl _ _,⟨e,h,o,d⟩,n,m=>⟨e,h.less n m,fun a ha=>⟨by rw [N2 (fun z=>n (by rw [<- z]; exact ha)) (fun z=>m (by rw [<- z]; exact ha))]; exact (o a ha).1,(o a ha).2⟩,d⟩
 | .tr _,⟨h,o,d⟩,n,m=>⟨h.less n m,fun a ha=>⟨by rw [N2 (fun z=>n (by rw [<- z]; exact ha)) (fun z=>m (by rw [<- z]; exact ha))]; exact (o a ha).1,(o a ha).2⟩,d⟩
def EnvOk.mut {c:Ct} {w w':Wd} {env:PEnv} {σ:St} {i j:Nat} {p q:Addr} {ys zs ys' zs':LP} (E:EnvOk c w env σ) (ei:env[i]?=some (some (.own ys))) (ej:env[j]?=some (some (.own zs))) (si:σ[i]?=some (some (.ref p))) (sj:σ[j]?=some (some (.ref q)))
  (ok:w'.Ok) (l:Le (w.less p q) w') (m1:Mut c.K w' p ys') (m2:Mut c.K w' q zs'):EnvOk c w' ((env.set i (some (.own ys'))).set j (some (.own zs'))) σ:=by
 obtain ⟨v1,hv1,hV1⟩:=E.at' i _ ei;rw [si] at hv1; cases hv1;obtain ⟨v2,hv2,hV2⟩:=E.at' j _ ej;rw [sj] at hv2; cases hv2;obtain ⟨_,_,_,z1⟩:=hV1.foot (a:=p) rfl;obtain ⟨_,_,_,z2⟩:=hV2.foot (a:=q) rfl;have le0:Le c.w0 (w.less p q):=⟨⟨E.le0.f,fun b o h n=>by
   rw [N2 (fun z=>by rw [z,z1] at h; cases h) (fun z=>by rw [z,z2] at h; cases h)]; exact E.le0.h b o h n,E.le0.m,E.le0.mn,fun b h=>by
   by_cases y:b=p\/b=q
   ·rcases y with rfl | rfl
    ·exact z1
    ·exact z2
   ·rw [N2 (fun z=>y (.inl z)) (fun z=>y (.inr z))] at h; exact E.le0.dom b h⟩,E.le0.n⟩
 have hd:∀ {k:Nat} {t:SV},((env.set i (some (.own ys'))).set j (some (.own zs')))[k]?=some (some t)->(k=j/\t=.own zs')\/(k=i/\t=.own ys')\/(k≠i/\k≠j/\env[k]?=some (some t)):=by
  intro k t q;rw [List.getElem?_set] at q;split at q
  ·rename_i e;split at q
   ·cases q; exact .inl ⟨e.symm,rfl⟩
   ·cases q
  ·rename_i e;rw [List.getElem?_set] at q;split at q
   ·rename_i e';split at q
    ·cases q; exact .inr (.inl ⟨e'.symm,rfl⟩)
    ·cases q
   ·rename_i e';exact .inr (.inr ⟨fun z=>e' z.symm,fun z=>e z.symm,q⟩)
 have fo:∀ {k:Nat} {t:SV} {u:V} {a:Addr},((env.set i (some (.own ys'))).set j (some (.own zs')))[k]?=some (some t)->σ[k]?=some (some u)->t.foot u a->∃ s,env[k]?=some (some s)/\s.foot u a:=by
  intro k t u a q g f;rcases hd q with ⟨rfl,rfl⟩ | ⟨rfl,rfl⟩ | ⟨_,_,q⟩
  ·exact ⟨_,ej,f⟩
  ·exact ⟨_,ei,f⟩
  ·exact ⟨_,q,f⟩
 refine ⟨ok,le0.trans l,by simpa using E.len,fun k t q=>?_,fun k k' s t v u a q1 q2 q3 q4 f1 f2=>?_,fun a za=>?_,fun a k t u za q q' f=>?_⟩
 ·rcases hd q with ⟨rfl,rfl⟩ | ⟨rfl,rfl⟩ | ⟨n1,n2,q⟩
  ·obtain ⟨vs,h1,h2,h3,h4⟩:=m2;exact ⟨_,sj,_,vs,rfl,h1,h2,h3,z2,h4⟩
  ·obtain ⟨vs,h1,h2,h3,h4⟩:=m1;exact ⟨_,si,_,vs,rfl,h1,h2,h3,z1,h4⟩
  ·obtain ⟨u,g1,g2⟩:=E.at' k t q;exact ⟨u,g1,(g2.less (fun f=>n1 (E.own k i _ _ _ _ p q ei g1 si f rfl)) (fun f=>n2 (E.own k j _ _ _ _ _ q ej g1 sj f rfl))).mono l⟩
 ·obtain ⟨s',p1,g1⟩:=fo q1 q3 f1;obtain ⟨t',p2,g2⟩:=fo q2 q4 f2;exact E.own k k' _ _ _ _ a p1 p2 q3 q4 g1 g2
 ·obtain ⟨y1,y2,y3⟩:=E.zf a za;have n1:a≠p:=fun z=>E.zo a i _ _ za ei si (by rw [z]; rfl);have n2:a≠q:=fun z=>E.zo a j _ _ za ej sj (by rw [z]; rfl);have y2':(w.less p q).H a≠none:=by rw [N2 n1 n2]; exact y2
  exact ⟨l.fnone y1 y2',l.hsome y2',l.nm y2' y3⟩
 ·obtain ⟨s',p1,g1⟩:=fo q q' f;exact E.zo a k _ _ za p1 q' g1
def own2 (o o':Option (Option SV)) (k:LP->LP->Prop):Prop:=match o,o' with
 | some (some (.own xs)),some (some (.own ys))=>k xs ys
 | _,_=>False
theorem B9x {xs ys:LP} {k:LP->LP->Prop}:own2 (some (some (.own xs))) (some (some (.own ys))) k=k xs ys:=rfl
def pMu (psp:PMu) (pa:PEnv->(LP->Nat->Nat->PEnv->Prop)->Prop) (env:PEnv) (Q:PyData->PEnv->Prop):Prop:=pa env fun xs i j e=>i≠j/\own2 e[i]? e[j]? fun ys zs=>psp xs ys zs fun x ys' zs'=>Q x ((e.set i (some (.own ys'))).set j (some (.own zs')))
def C12 {K:Frag} {nd:Nat} {psp:PMu} {E0:XK} {ta:TA} {pa:PEnv->(LP->Nat->Nat->PEnv->Prop)->Prop} [ha:RA2 K nd ta pa] {c:Ct} {w:Wd} {env:PEnv} {σ:St} {Qp:PyData->PEnv->Prop} {Q:VK} (hK:c.K=K) (E:EnvOk c w env σ) (p:pMu psp pa env Qp)
  (k:∀ v x env' w',EnvOk c w' env' σ->Same w.F w'.F->Den K w'.F v x->Qp x env'->Q v w'.H):A4v (spMu K nd psp) [] E0 ta σ w.H Q:=by
 subst hK;refine ha.ok c w env σ _ _ rfl E p fun vs xs i j u v e1 w1 E1 l1 hl d s1 s2 q1=>?_;rw [List.append_nil];obtain ⟨hij,q1⟩:=q1;unfold own2 at q1;split at q1
 ·rename_i ys zs ei ej;obtain ⟨u',g1,l,vs1,rfl,a1,a2,a3,a4,a5⟩:=E1.at' i _ ei;rw [s1] at g1; cases g1;obtain ⟨v',g2,l',vs2,rfl,b1,b2,b3,b4,b5⟩:=E1.at' j _ ej;rw [s2] at g2; cases g2;refine ⟨w1,vs,xs,ys,zs,l,l',_,rfl,E1.wok,rfl,hl,fun z=>hij (E1.own i j _ _ _ _ l ei ej s1 s2 rfl (by rw [z]; rfl)),d,⟨vs1,a1,a2,a3,a5⟩,⟨vs2,b1,b2,b3,b5⟩,q1,fun v x ys' zs' w' ok le hv m1 m2 q=>?_⟩;exact k v x _ w' (E1.mut ei ej s1 s2 ok le m1 m2) (l1.f.trans le.f) hv q
 ·exact q1.elim
def A7h (psp:PMu) (pa:PEnv->(LP->Nat->Nat->PEnv->Prop)->Prop) (D:PEnds) (env:PEnv):Prop:=pMu psp pa env fun _ e=>D.nx e
instance (priority:=high) rs_dropMu {K:Frag} {nd:Nat} {psp:PMu} {E0:XK} {ta:TA} {pa:PEnv->(LP->Nat->Nat->PEnv->Prop)->Prop} [ha:RA2 K nd ta pa]:RS K (A09 (A4v (spMu K nd psp) [] E0 ta)) (A7h psp pa) where
 ok:=by
  rintro c w env σ Dp D rfl E h p;exact C12 rfl E p fun v x e1 w1 E1 s1 hv q=>h.nx _ _ w1 E1 s1 q
end Pu
namespace L2
open PySem PySem.Spec PyProof.Rows
def qMu {X:Cx} {e:Expr} {i:Nat} (h:QE X e (tVar i)):QE X e (Pu.tMu i):=h
end L2
namespace Pu
open PySem L2 My Prf
def tKp (i:Nat):TE:=tVar i
end Pu
namespace L2
open PySem PySem.Spec PyProof.Rows
def qKp {X:Cx} {e:Expr} {i:Nat} (h:QE X e (tVar i)):QE X e (Pu.tKp i):=h
end L2
namespace Pu
open PySem L2 My Prf
def B4f {K:Frag} {w:Wd} {v:V} {t u:OT} {i:Int} (ok:w.Ok) (h:TV K w v t) (e:t.part i=some u):∃ p vs x,v=.ref p/\(SqL K w.H p vs\/SqT K w.H p vs)/\L2.atI vs i=some x/\TV K w x u:=by
 obtain ⟨p,vs,x,e1,h1,h2,h3⟩:=B4g (c:=⟨K,w,noZ⟩) ok (Le.refl w) (show VR ⟨K,w,noZ⟩ w v (.bt t) from h) e;exact ⟨p,vs,x,e1,h1,h2,h3⟩
def tPo (te:TE):TE:=te
instance (priority:=high) rtr_po {K:Frag} {te ti:TE} {pb:PEnv->(OT->PEnv->Prop)->Prop} {pi:PDt} [hb:RTr K te pb] [hi:RW K ti pi]:RTr K (tPo (tOp (rIx K) te ti)) (pPth pb pi) where
 ok:=by
  rintro c w env σ Qp Q rfl E p k;refine hb.ok c w env σ _ _ rfl E p fun v t e1 w1 E1 l1 v1 q1=>?_;refine hi.ok c w1 e1 σ _ _ rfl E1 q1 fun y dy e2 w2 E2 l2 v2 q2=>?_;unfold asI at q2;split at q2
  ·rename_i n;obtain ⟨u,hu,q⟩:=q2;obtain ⟨p,vs,x,rfl,hs,hx,hv⟩:=B4f E2.wok (v1.mono l2 v1.1.has) hu;have hn:=v2.intE;rcases hs with hs | hs
   ·exact .inl ⟨p,vs,n,x,rfl,hn,hs,hx,k x u e2 w2 E2 (l1.trans l2) hv q⟩
   ·exact .inr (.inl ⟨p,vs,n,x,rfl,hn,hs,hx,k x u e2 w2 E2 (l1.trans l2) hv q⟩)
  ·exact q2.elim
def B7y:∀ {t:OT} {xs:LP},t.sv=.bor xs->t=.leaf (.list xs)\/∃ a,t=.nd true a (B3 xs)
 | .leaf (.list ys),xs,h=>by cases (show SV.bor ys=.bor xs from h); exact .inl rfl
 | .nd true a k,xs,h=>by
  have h':(match k.lvs with | some xs=>SV.bor xs | none=>.bt (.nd true a k))=.bor xs:=h;cases q:k.lvs with
  | none=>rw [q] at h'; cases h'
  | some ys=>rw [q] at h'; cases h'; exact .inr ⟨a,by rw [Q0 q]⟩
def TV.vw {K:Frag} {w:Wd} {v:V} {t:OT} {k:PyData->Prop} (h:TV K w v t) (q:t.vw k):∃ x,VV K w v x/\k x:=by
 have go:∀ {t:OT} {xs:LP},TV K w v t->t.sv=.bor xs->VV K w v (.list xs):=fun {t xs} h e=>by
  rcases B7y e with rfl | ⟨a,rfl⟩
  ·obtain ⟨⟨v',ev,h⟩,_⟩:=h;cases ev; exact .inl h
  ·obtain ⟨⟨ev,us,h1,h2⟩,h3⟩:=h;cases ev;exact .inr ⟨a,us,xs,rfl,rfl,h1,h3 a (by simp [OT.fp]),J7 h2⟩
 unfold OT.vw at q;split at q
 ·obtain ⟨⟨v',ev,h⟩,_⟩:=h;cases ev; exact ⟨_,.inl h,q⟩
 ·obtain ⟨xs,e,q⟩:=q;exact ⟨_,go h e,q⟩
instance (priority:=high) rw_po {K:Frag} {te:TE} {pb:PEnv->(OT->PEnv->Prop)->Prop} [hb:RTr K (tPo te) pb]:RW K (tPo te) (pVw pb) where
 ok:=by
  rintro c w env σ Qp Q rfl E p k;refine hb.ok c w env σ _ _ rfl E p fun v t e1 w1 E1 l1 v1 q1=>?_;obtain ⟨x,hx,q⟩:=v1.vw q1;exact k _ _ e1 w1 E1 l1 hx q
instance re_po {K:Frag} {te:TE} {pb:PEnv->(OT->PEnv->Prop)->Prop} [hb:RTr K (tPo te) pb]:RE K (tPo te) (pLf pb) where
 ok:=by
  rintro c w env σ Qp Q rfl E p k;refine hb.ok c w env σ _ _ rfl E p fun v t e1 w1 E1 l1 v1 q1=>?_;unfold OT.lf at q1;split at q1
  ·obtain ⟨⟨v',ev,h⟩,_⟩:=v1;cases ev;exact k _ _ e1 w1 ((Res.data E1 h).pre l1) q1
  ·exact q1.elim
def OT.setK:OT->Nat->OT->OT
 | .cons _ t,0,x=>.cons x t
 | .cons h t,n + 1,x=>.cons h (t.setK n x)
 | t,_,_=>t
def A77:∀ {ks:OT} {j:Nat} {u:OT},ks.kid j=some u->∃ A B,ks.fp=A++u.fp++B/\∀ x,(ks.setK j x).fp=A++x.fp++B
 | .cons _ t,0,_,q=>by cases q; exact ⟨[],t.fp,rfl,fun x=>rfl⟩
 | .cons h t,n + 1,u,q=>by
  obtain ⟨A,B,e1,e2⟩:=A77 (ks:=t) (j:=n) (u:=u) q;exact ⟨h.fp++A,B,by show h.fp++t.fp=_; rw [e1]; simp,fun x=>by show h.fp++(t.setK n x).fp=_; rw [e2]; simp⟩
def Tre.agree {K:Frag} {w w':Wd} (f:Same w.F w'.F):∀ {t:OT} {vs:List V},Tre K w t vs->(∀ a ∈ t.fp,∀ o,w.H a=some o->w'.H a=some o)->Tre K w' t vs
 | .leaf _,_,⟨v,e,h⟩,_=>⟨v,e,Den.same f h⟩
 | .nd _ p _,_,⟨e,us,h,k⟩,n=>⟨e,us,n p (by simp [OT.fp]) _ h,Tre.agree f k fun q hq=>n q (by simp [OT.fp,hq])⟩
 | .nil,_,e,_=>e
 | .cons _ _,_,⟨v,r,e,h,t⟩,n=>⟨v,r,e,Tre.agree f h fun q hq=>n q (by simp [OT.fp,hq]),Tre.agree f t fun q hq=>n q (by simp [OT.fp,hq])⟩
def Tre.setK {K:Frag} {w w':Wd} {x:OT} {v:V} (f:Same w.F w'.F):∀ {ks:OT} {us:List V} {j:Nat} {u:OT},Tre K w ks us->ks.kid j=some u->us[j]?=some v->ks.fp.Nodup->(∀ a o,w.H a=some o->a ∉ u.fp->w'.H a=some o)->Tre K w' x [v]->Tre K w' (ks.setK j x) us
 | .cons h t,_,0,u,⟨y,r,rfl,hh,ht⟩,q,ev,nd,ag,hx=>by
  cases q;have:y=v:=by simpa using ev
  subst this;have d:=(List.nodup_append.mp nd).2.2;exact ⟨y,r,rfl,hx,ht.agree f fun a ha o ho=>ag a o ho fun z=>d a z a ha rfl⟩
 | .cons h t,_,n + 1,u,⟨y,r,rfl,hh,ht⟩,q,ev,nd,ag,hx=>by
  obtain ⟨_,n2,d⟩:=List.nodup_append.mp nd;have q':t.kid n=some u:=q;refine ⟨y,r,rfl,hh.agree f fun a ha o ho=>ag a o ho fun z=>d a ha a (A1z q' z) rfl,?_⟩;exact Tre.setK f (ks:=t) (j:=n) ht q' (by simpa using ev) n2 ag hx
structure Sub (K:Frag) (w:Wd) (T u:OT) (r:OT->OT) (v0 v:V):Prop where
 tre:Tre K w u [v]
 re:∀ (w':Wd) x,(∀ a o,w.H a=some o->a ∉ u.fp->w'.H a=some o)->Same w.F w'.F->Tre K w' x [v]->Tre K w' (r x) [v0]
 fp:∃ A B,T.fp=A++u.fp++B/\∀ x,(r x).fp=A++x.fp++B
class RRt (K:Frag) (te:TE) (i:outParam Nat) (pm:outParam (OT->(OT->(OT->OT)->Prop)->Prop)):Prop where
 ok:∀ (c:Ct) (w:Wd) (env:PEnv) (σ:St) (T:OT) (v0:V) (P:OT->(OT->OT)->Prop) (Q:VK),c.K=K->EnvOk c w env σ->env[i]?=some (some (.tr T))->σ[i]?=some (some v0)->pm T P->(∀ v u r,P u r->Sub K w T u r v0 v->Q v w.H)->te σ w.H Q
def C0p (T:OT) (k:OT->(OT->OT)->Prop):Prop:=k T fun x=>x
instance rrt_var {K:Frag} {i:Nat}:RRt K (tVar i) i C0p where
 ok:=by
  rintro c w env σ T v0 P Q rfl E e hv p k;obtain ⟨v,h1,h2⟩:=E.at' i _ e;rw [hv] at h1; cases h1;exact ⟨v0,hv,k v0 T _ p ⟨h2.1,fun w' x _ _ h=>h,[],[],by simp,fun x=>by simp⟩⟩
def mIx (pm:OT->(OT->(OT->OT)->Prop)->Prop) (n:Int) (T:OT) (k:OT->(OT->OT)->Prop):Prop:=pm T fun t r=>∃ b a ks j u,t=.nd b a ks/\ixN ks.len n=some j/\ks.kid j=some u/\k u fun x=>r (.nd b a (ks.setK j x))
instance rrt_ix {K:Frag} {te:TE} {i:Nat} {n:Int} {pm:OT->(OT->(OT->OT)->Prop)->Prop} [h:RRt K te i pm]:RRt K (tPo (tOp (rIx K) te (tC (.int n)))) i (mIx pm n) where
 ok:=by
  rintro c w env σ T v0 P Q rfl E e hv p k;obtain ⟨v',hv',VRT⟩:=E.at' i _ e;refine h.ok c w env σ T v0 _ _ rfl E e hv p fun v t r ⟨b,a,ks,j,u,et,hj,hk,q⟩ S=>?_;subst et;obtain ⟨⟨ev,us,hH,hks⟩,re,A,B,eT,er⟩:=S;cases ev;obtain ⟨x,hx,hu⟩:=hks.kid hk;have nT:=VRT.2.2;rw [eT] at nT;have nd:(OT.nd b a ks).fp.Nodup:=(List.nodup_append.mp (List.nodup_append.mp nT).1).2.1;obtain ⟨ha,nk⟩:=List.nodup_cons.mp (show (a :: ks.fp).Nodup from nd);obtain ⟨A',B',e1,e2⟩:=A77 hk;have sub:Sub c.K w T u (fun x=>r (.nd b a (ks.setK j x))) v0 x:=⟨hu,fun w' y ag f hy=>by
    refine re w' _ (fun a' o ho hn=>ag a' o ho fun z=>hn (Zr _ (A1z hk z))) f ⟨rfl,us,ag a _ hH fun z=>ha (A1z hk z),?_⟩;exact Tre.setK f hks hk hx nk ag hy,A++a :: A',B'++B,by
    rw [eT,show (OT.nd b a ks).fp=a :: ks.fp from rfl,e1]; simp,fun y=>by
    rw [er,show (OT.nd b a (ks.setK j y)).fp=a :: (ks.setK j y).fp from rfl,e2]; simp⟩
  have at':L2.atI us n=some x:=by unfold L2.atI; rw [hks.len,hj]; exact hx
  cases b with
  | true=>exact .inl ⟨a,us,n,x,rfl,rfl,SqL.of hH,at',k x u _ q sub⟩
  | false=>exact .inr (.inl ⟨a,us,n,x,rfl,rfl,SqT.of hH,at',k x u _ q sub⟩)
def EnvOk.change {c:Ct} {w:Wd} {env:PEnv} {σ:St} {i:Nat} {T u:OT} {r:OT->OT} {v0 v:V} {a:Addr} {xs ys:LP} {us:List V} (E:EnvOk c w env σ) (e:env[i]?=some (some (.tr T))) (hv:σ[i]?=some (some v0)) (S:Sub c.K w T u r v0 v) (hu:u=.nd true a (B3 xs)) (hd:DenAll c.K w.F us ys) :
  EnvOk c ⟨w.M,upd w.H a (.lst us),w.F⟩ (env.set i (some (.tr (r (.nd true a (B3 ys)))))) σ:=by
 subst hu;obtain ⟨v',hv',VRT⟩:=E.at' i _ e;rw [hv] at hv'; cases hv';obtain ⟨tre,re,A,B,eT,er⟩:=S;obtain ⟨ev,_⟩:=tre;cases ev;have ef:(r (.nd true a (B3 ys))).fp=T.fp:=by
  rw [er,eT,show (OT.nd true a (B3 ys)).fp=a :: (B3 ys).fp from rfl,show (OT.nd true a (B3 xs)).fp=a :: (B3 xs).fp from rfl,K9,K9]
 have haT:a ∈ T.fp:=by rw [eT]; simp [OT.fp]
 refine E.writeAt (s':=.tr (r (.nd true a (B3 ys)))) e hv haT (fun b hb=>by show b ∈ T.fp; rw [<- ef]; exact hb) ⟨re _ _ (fun b o ho hn=>?_) (Same.refl _) ⟨rfl,us,B7,N3 hd⟩,fun b hb=>?_,by rw [ef]; exact VRT.2.2⟩
 ·show upd w.H a _ b=_;rw [C4 (fun z=>hn (by rw [z]; simp [OT.fp]))]; exact ho
 ·rw [ef] at hb;obtain ⟨z1,z2⟩:=VRT.2.1 b hb;exact ⟨fun z=>z1 (M8 z),z2⟩
def Sub.lst {K:Frag} {w:Wd} {T u:OT} {r:OT->OT} {v0 v:V} {a:Addr} {xs:LP} (S:Sub K w T u r v0 v) (hu:u=.nd true a (B3 xs)):v=.ref a/\∃ us,w.H a=some (.lst us)/\DenAll K w.F us xs:=by
 subst hu;obtain ⟨⟨ev,us,h1,h2⟩,_⟩:=S;cases ev;exact ⟨rfl,us,h1,J7 h2⟩
def isLs (u:OT) (k:Addr->LP->Prop):Prop:=∃ a xs,u=.nd true a (B3 xs)/\k a xs
def C1k {a:Addr} {xs:LP} {k:Addr->LP->Prop}:isLs (.nd true a (B3 xs)) k=k a xs :=
 propext ⟨fun ⟨_,_,e,h⟩=>by
  have e1:=(OT.nd.inj e).2.1;have e2:=Z8 (OT.nd.inj e).2.2;subst e1; subst e2; exact h,fun h=>⟨a,xs,rfl,h⟩⟩
def B47 (i:Nat) (pm:OT->(OT->(OT->OT)->Prop)->Prop) (D:PEnds) (env:PEnv):Prop:=asTr env[i]? fun T=>pm T fun u r=>isLs u fun a _=>D.nx (env.set i (some (.tr (r (.nd true a .nil)))))
instance (priority:=high) rs_clrP {K:Frag} {te:TE} {i:Nat} {pm:OT->(OT->(OT->OT)->Prop)->Prop} [h:RRt K (tPo te) i pm]:RS K (A09 (tBM0 K "list" B12 (tPo te))) (B47 i pm) where
 ok:=by
  rintro c w env σ Dp D rfl E hD p;unfold B47 asTr at p;split at p
  ·rename_i T e;obtain ⟨v0,hv,_⟩:=E.at' i _ e;refine h.ok c w env σ T v0 _ _ rfl E e hv p fun v u r ⟨a,xs,eu,q⟩ S=>?_;obtain ⟨rfl,us,h1,h2⟩:=S.lst eu;exact ⟨.inl ⟨rfl,_,SqL.of h1⟩,a,us,rfl,rfl,h1,hD.nx _ σ ⟨w.M,upd w.H a (.lst []),w.F⟩ (E.change (ys:=[]) e hv S eu .nil) (Same.refl _) q⟩
  ·exact p.elim
def OT.slot:OT->SV
 | .leaf x=>.d x
 | .nd true a k=>match k.lvs with
  | some xs=>.own xs
  | none=>.tr (.nd true a k)
 | t=>.tr t
theorem B3g {a:Addr} {xs:LP}:OT.slot (.nd true a (B3 xs))=.own xs:=by show (match (B3 xs).lvs with | some xs=>SV.own xs | none=>_)=_; rw [U1]
def TVo:OT->V->Prop
 | .nd _ p _,v=>v=.ref p
 | _,_=>True
def V8 {v:V} {a:Addr}:∀ {u:OT},TVo u v->u.slot.foot v a->a ∈ u.fp
 | .leaf _,_,f=>f.elim
 | .nd true p k,h,f=>by
  unfold OT.slot at f;dsimp only at f;split at f
  ·have:V.ref p=.ref a:=h.symm.trans f;cases this; simp [OT.fp]
  ·exact f
 | .nd false _ _,_,f=>f
 | .nil,_,f=>f
 | .cons _ _,_,f=>f
def A6g {c:Ct} {w:Wd} {v:V} {u:OT} (h:Tre c.K w u [v]) (o:∀ a ∈ u.fp,w.H a≠none/\w.F a=none/\¬ w.M a/\c.w0.H a=none) (d:u.fp.Nodup):VR c w v u.slot:=by
 unfold OT.slot;split
 ·obtain ⟨v',e,h⟩:=h;cases e; exact h
 ·rename_i a k;split
  ·rename_i xs q;obtain ⟨e,us,h1,h2⟩:=h;cases e;rw [Q0 q] at h2;obtain ⟨o1,o2,o3,o4⟩:=o a (by simp [OT.fp]);exact ⟨a,us,rfl,h1,o2,o3,o4,J7 h2⟩
  ·exact ⟨h,o,d⟩
 ·exact ⟨h,o,d⟩
def A54 {K:Frag} {w:Wd} {v:V}:∀ {u:OT},Tre K w u [v]->TVo u v
 | .nd _ _ _,⟨e,_⟩=>List.singleton_inj.mp e
 | .leaf _,_=>trivial
 | .nil,_=>trivial
 | .cons _ _,_=>trivial
def tUn (te:TE):TE:=te
def unT (s:SV) (a b:Nat) (e:PEnv) (k:PEnv->Prop):Prop:=match s with
 | .d x=>∃ y z,x=.tuple [y,z]/\k ((e.set a (some (.d y))).set b (some (.d z)))
 | .tr t=>∃ p u v,t=.nd false p (.cons u (.cons v .nil))/\k ((e.set a (some u.slot)).set b (some v.slot))
 | _=>False
theorem C2d {p:Addr} {u v:OT} {a b:Nat} {e:PEnv} {k:PEnv->Prop}:unT (.tr (.nd false p (.cons u (.cons v .nil)))) a b e k=k ((e.set a (some u.slot)).set b (some v.slot)) :=
 propext ⟨fun ⟨_,_,_,e,h⟩=>by
  obtain ⟨_,_,e3⟩:=OT.nd.inj e;obtain ⟨e4,e5⟩:=OT.cons.inj e3;obtain ⟨e6,_⟩:=OT.cons.inj e5;subst e4; subst e6; exact h,fun h=>⟨p,u,v,rfl,h⟩⟩
def pUnT (pe:PX) (a b:Nat) (D:PEnds) (env:PEnv):Prop:=pe env fun s e=>unT s a b e D.nx
instance (priority:=high) rs_unT {K:Frag} {te:TE} {a b:Nat} {pe:PX} [he:RE K te pe]:RS K (tAsg (tUn te) (gTup K 2 (Y5 (O6 a) (Y5 (O6 b) gNil)))) (pUnT pe a b) where
 ok:=by
  rintro c w env σ Dp D rfl E h p;refine he.ok c w env σ _ _ rfl E p fun v s e1 w1 R q=>?_;unfold unT at q;split at q
  ·obtain ⟨y,z,rfl,q⟩:=q;obtain ⟨p',vs,rfl,h1,h2⟩:=Den.tupE R.val;cases h2 with
   | cons hy t=>cases t with
    | cons hz t =>
     cases t;refine ⟨p',_,rfl,SqT.same R.ev.wok.sub h1,rfl,_,_,rfl,_,[],rfl,rfl,?_⟩;exact h.nx _ _ w1 ((R.ev.set (i:=a) (s:=.d y) hy (fun _ z=>nomatch z)).set (i:=b) (s:=.d z) hz (fun _ z=>nomatch z)) R.lw.f q
  ·obtain ⟨p',u,v',rfl,q⟩:=q;obtain ⟨⟨ev,us,hH,x,r,e2,hx,y,r2,e3,hy,e4⟩,o,d⟩:=R.val;cases ev;have e4':r2=[]:=e4;subst e4'; subst e3; subst e2;obtain ⟨dp,dk⟩:=List.nodup_cons.mp (show (p' :: (u.fp++(v'.fp++[]))).Nodup from d);rw [List.append_nil] at dk;obtain ⟨d1,d2,d3⟩:=List.nodup_append.mp dk;have mu:∀ q ∈ u.fp,q ∈ (OT.nd false p' (.cons u (.cons v' .nil))).fp:=fun q hq=>by simp [OT.fp,hq]
   have mv:∀ q ∈ v'.fp,q ∈ (OT.nd false p' (.cons u (.cons v' .nil))).fp:=fun q hq=>by simp [OT.fp,hq]
   have E1:=R.ev.set (i:=a) (v:=x) (s:=u.slot) (A6g hx (fun q hq=>o q (mu q hq)) d1) (fun q f=>R.new q (mu q (V8 (A54 hx) f)));have E2:=E1.set (i:=b) (v:=y) (s:=v'.slot) (A6g hy (fun q hq=>o q (mv q hq)) d2) (fun q f=>by
    have hq:=V8 (A54 hy) f;refine ⟨fun j t z ht hz ft=>?_,(R.new q (mv q hq)).2⟩;rw [List.getElem?_set] at ht hz;split at ht
    ·rename_i ej;split at ht
     ·cases ht;rw [if_pos ej,if_pos (by rw [<- R.ev.len]; assumption)] at hz;cases hz;exact d3 q (V8 (A54 hx) ft) q hq rfl
     ·cases ht
    ·rename_i ej;exact (R.new q (mv q hq)).1 j t z ht (by simpa [ej] using hz) ft)
   have hT:SqT c.K w1.H p' [x,y]:=SqT.of hH;exact ⟨p',[x,y],rfl,hT,rfl,x,[y],rfl,y,[],rfl,rfl,h.nx _ _ w1 E2 R.lw.f q⟩
  ·exact q.elim
def kids:List OT->OT
 | []=>.nil
 | t :: r=>.cons t (kids r)
def K2 {t:OT}:∀ {ts:List OT},(kids (ts++[t])).fp=(kids ts).fp++t.fp
 | []=>by show t.fp++[]=[]++t.fp; simp
 | s :: r=>by show s.fp++(kids (r++[t])).fp=(s.fp++(kids r).fp)++t.fp; rw [K2]; simp
def Tre.snoc {K:Frag} {w:Wd} {t:OT} {v:V} (h:Tre K w t [v]):∀ {ts:List OT} {vs:List V},Tre K w (kids ts) vs->Tre K w (kids (ts++[t])) (vs++[v])
 | [],_,e=>by cases (show _=[] from e); exact ⟨v,[],rfl,h,rfl⟩
 | _ :: _,_,⟨x,r,rfl,hx,hr⟩=>⟨x,r++[v],rfl,hx,Tre.snoc h hr⟩
def OT.tup (a:Addr) (k:OT):SV:=match k.lvs with
 | some xs=>.d (.tuple xs)
 | none=>.tr (.nd false a k)
end Pu
namespace L2
open PySem PySem.Spec PyProof.Rows
section
variable {X:Cx} {e:Expr}
def qPo {t:TE} (h:QE X e t):QE X e (Pu.tPo t):=h
def qUn {t:TE} (h:QE X e t):QE X e (Pu.tUn t):=h
end
section
variable {κ:Type} [DecidableEq κ]
def valV (kvs:List (κ × V)) (k:κ):Option V:=(kvs.find? fun kv=>decide (kv.1=k)).map (·.2)
def putK (kvs:List (κ × V)) (k:κ) (v:V):List (κ × V) :=
 if (kvs.any fun kv=>decide (kv.1=k))=true then kvs.map (fun kv=>if kv.1=k then (kv.1,v) else kv) else kvs++[(k,v)]
theorem A0f {p:κ × V} {r:List (κ × V)} {k:κ} (e:p.1=k):valV (p :: r) k=some p.2:=by simp [valV,List.find?_cons,e]
def A0g {p:κ × V} {r:List (κ × V)} {k:κ} (e:¬ p.1=k):valV (p :: r) k=valV r k:=by simp [valV,List.find?_cons,e]
def A0h (k:κ):∀ kvs:List (κ × V),(kvs.any fun kv=>decide (kv.1=k))=(valV kvs k).isSome
 | []=>rfl
 | p :: r=>by
  rw [List.any_cons];by_cases e:p.1=k
  ·simp only [A0f e,Zk e,Bool.true_or,Option.isSome_some]
  ·rw [A0g e,Zd e,Bool.false_or]; exact A0h k r
def R1 (kvs:List (κ × V)) (k:κ) (v:V):(putK kvs k v).length<=kvs.length + 1:=by
 unfold putK;split
 ·rw [Zl]; omega
 ·rw [Ze,List.length_cons,List.length_nil]; omega
def A3v {kvs:List (κ × V)} {k:κ} (v:V) (h:valV kvs k=none):putK kvs k v=kvs++[(k,v)]:=by
 unfold putK;rw [A0h,h];exact if_neg (by decide)
def RelO.isSome_eq {o:Option V} {u:Option Value} (r:RelO o u):o.isSome=u.isSome:=by
 cases o with
 | none=>cases u with
  | none=>rfl
  | some _=>exact (show False from r).elim
 | some _=>cases u with
  | none=>exact (show False from r).elim
  | some _=>rfl
def KV.val {kvs:List (κ × V)} {vs:List (κ × Value)} (r:KV kvs vs) (k:κ):RelO (valV kvs k) (valueAt vs k):=by
 unfold KV at r;induction r with
 | nil=>exact True.intro
 | @cons p q ps qs h t ih =>
  obtain ⟨h1,h2⟩:=h;by_cases e:p.1=k
  ·have e':q.1=k:=h1.symm.trans e;have b:valueAt (q :: qs) k=some q.2:=by simp [valueAt,List.find?_cons,e']
   rw [A0f e,b]; exact h2
  ·have e':¬ q.1=k:=fun z=>e (h1.trans z);have b:valueAt (q :: qs) k=valueAt qs k:=by simp [valueAt,List.find?_cons,e']
   rw [A0g e,b]; exact ih
def KV.any {kvs:List (κ × V)} {vs:List (κ × Value)} (r:KV kvs vs) (k:κ):(kvs.any fun kv=>decide (kv.1=k))=vs.any fun kv=>decide (kv.1=k):=by
 unfold KV at r;induction r with
 | nil=>rfl
 | cons h t ih=>rw [List.any_cons,List.any_cons,ih,h.1]
def KV.repl {kvs:List (κ × V)} {vs:List (κ × Value)} (r:KV kvs vs) (k:κ) {y:V} {u:Value} (ry:RelV y u) :
  KV (kvs.map fun kv=>if kv.1=k then (kv.1,y) else kv) (vs.map fun kv=>if kv.1=k then (kv.1,u) else kv):=by
 unfold KV at r ⊢;induction r with
 | nil=>exact .nil
 | @cons p q ps qs h t ih =>
  rw [List.map_cons,List.map_cons];refine .cons ?_ ih;obtain ⟨h1,h2⟩:=h;by_cases e:p.1=k
  ·rw [if_pos e,if_pos (h1.symm.trans e)]; exact ⟨h1,ry⟩
  ·rw [if_neg e,if_neg (fun z=>e (h1.trans z))]; exact ⟨h1,h2⟩
def KV.put {kvs:List (κ × V)} {vs:List (κ × Value)} (r:KV kvs vs) (k:κ) {y:V} {u:Value} (ry:RelV y u):KV (putK kvs k y) (stored vs k u):=by
 unfold putK stored;rw [r.any k];by_cases e:(vs.any fun kv=>decide (kv.1=k))=true
 ·rw [if_pos e,if_pos e]; exact r.repl k ry
 ·rw [if_neg e,if_neg e]; exact Paired.snoc r ⟨rfl,ry⟩
theorem KV.length {kvs:List (κ × V)} {vs:List (κ × Value)} (r:KV kvs vs):kvs.length=vs.length:=Paired.length r
end
def A8a {P:Program} {w:World} {k:Key} {u:Value} (r:RelV (kV k) u):(J1 P w).is k u=true:=by
 cases k with
 | inl i=>obtain ⟨t,e⟩:=(show ∃ t,u=Value.int i t from r); subst e; exact A20 P w i t
 | inr x=>obtain ⟨t,e⟩:=(show ∃ t,u=Value.str x t from r); subst e; exact A2z P w x t
def A11 {P:Program} {w:World}:∀ {ks:List Key} {us:List Value},Vals (ks.map kV) us->ItemsAre (J1 P w) ks us
 | [],_,r=>by rw [List.map_nil] at r; cases r; exact .nil
 | k :: ks,_,r=>by
  rw [List.map_cons] at r;cases r with
  | cons h t=>exact .cons (A8a h) (A11 t)
abbrev KTb (H:Hp):List (List Key × V)->List (List Key × Addr × Value)->Prop:=Paired fun p q=>p.1=q.1/\H q.2.1=some (.tup (p.1.map kV))/\RelV p.2 q.2.2
def KTb.val {H:Hp} {kvs:List (List Key × V)} {xs:List (List Key × Addr × Value)} (r:KTb H kvs xs) (k:List Key):RelO (valV kvs k) ((atKey xs k).map (·.2)):=by
 induction r with
 | nil=>exact True.intro
 | @cons p q ps qs h t ih =>
  obtain ⟨h1,_,h2⟩:=h;by_cases e:p.1=k
  ·have e':q.1=k:=h1.symm.trans e;have b:atKey (q :: qs) k=some q.2:=by simp [atKey,List.find?_cons,e']
   rw [A0f e,b]; exact h2
  ·have e':¬ q.1=k:=fun z=>e (h1.trans z);have b:atKey (q :: qs) k=atKey qs k:=by simp [atKey,List.find?_cons,e']
   rw [A0g e,b]; exact ih
def KTb.repl {H:Hp} {kvs:List (List Key × V)} {xs:List (List Key × Addr × Value)} (r:KTb H kvs xs) (k:List Key) {y:V} {u:Value} (ry:RelV y u) :
  KTb H (kvs.map fun kv=>if kv.1=k then (kv.1,y) else kv) (xs.map (putAt k u)):=by
 induction r with
 | nil=>exact .nil
 | @cons p q ps qs h t ih =>
  rw [List.map_cons,List.map_cons];refine .cons ?_ ih;obtain ⟨h1,h2,h3⟩:=h;unfold putAt;by_cases e:p.1=k
  ·rw [if_pos e,if_pos (h1.symm.trans e)]; exact ⟨h1,h2,ry⟩
  ·rw [if_neg e,if_neg (fun z=>e (h1.trans z))]; exact ⟨h1,h2,h3⟩
def KTb.put {H:Hp} {kvs:List (List Key × V)} {xs:List (List Key × Addr × Value)} (r:KTb H kvs xs) (k:List Key) {b:Addr} {y:V} {u:Value} (hb:H b=some (.tup (k.map kV))) (ry:RelV y u) :
  KTb H (putK kvs k y) (storedH xs k b u):=by
 have e:(kvs.any fun kv=>decide (kv.1=k))=(atKey xs k).isSome:=by
  rw [A0h,(r.val k).isSome_eq,Option.isSome_map]
 unfold putK storedH;rw [e];by_cases q:(atKey xs k).isSome=true
 ·rw [if_pos q,if_pos q]; exact r.repl k ry
 ·rw [if_neg q,if_neg q]; exact Paired.snoc r ⟨rfl,hb,ry⟩
def KTb.keeps {H H':Hp} {kvs:List (List Key × V)} {xs:List (List Key × Addr × Value)} (r:KTb H kvs xs) (ht:∀ b ys,H b=some (.tup ys)->H' b=some (.tup ys)):KTb H' kvs xs :=
 Paired.mapP r fun _ _ z=>⟨z.1,ht _ _ z.2.1,z.2.2⟩
section
variable {P:Program} {w:World} {H:Hp} {h:Heap} {a:Addr}
def B3k {u:HO} (ok:HOk P w H h) (e:Rd H a u):ObjOk P w H h a u:=e.ok ok
def B1e {kvs:List (Key × V)} (ok:HOk P w H h) (e:Rd H a (.dK kvs)):kvs.length<=sizeLine/\(a == sysModules)=false/\∃ vs,KV kvs vs/\h.DictOf (J1 P w) a vs :=
 show ObjOk P w H h a (.dK kvs) from B3k ok e
def C1y {kvs:List (Key × V)} (ok:HOk P w H h) (e:H a=some (.dK kvs)):kvs.length<=sizeLine/\(a == sysModules)=false/\∃ vs,KV kvs vs/\h.DictOf (J1 P w) a vs:=B1e ok (.inl e)
def A4a {ks:List Key} (ok:HOk P w H h) (e:H a=some (.tup (ks.map kV))):(tupleKind (J1 P w)).is h ks a:=by
 obtain ⟨_,its,r,o,h1,h2,n,h3⟩:=(show ObjOk P w H h a (.tup (ks.map kV)) from ok a _ e);exact ⟨o,its.toArray,n,h1,h2,h3,by simpa using A11 r⟩
def B1a {kvs:List (List Key × V)} (ok:HOk P w H h) (e:Rd H a (.dT kvs)):kvs.length<=sizeLine/\(a == sysModules)=false /\
  ∃ xs,KTb H kvs xs/\h.DictOfH (tupleKind (J1 P w)) a xs:=by
 obtain ⟨z,y,xs,r,o,es,ep,h1,h2,h3,h4,h5⟩:=(show ObjOk P w H h a (.dT kvs) from B3k ok e);refine ⟨z,y,xs,r,o,es,ep,h1,h2,h3,h4,fun x hx=>?_,h5⟩;have all:∀ {l:List (List Key × V)} {m:List (List Key × Addr × Value)},KTb H l m->∀ x ∈ m,(tupleKind (J1 P w)).is h x.1 x.2.1:=by
  intro l m q;induction q with
  | nil=>intro x hx; exact nomatch hx
  | @cons p q ps qs hq t ih =>
   intro x hx;rcases List.mem_cons.mp hx with e | hx
   ·subst e;exact A4a ok (by rw [<- hq.1]; exact hq.2.1)
   ·exact ih x hx
 exact all r x hx
def C29 {kvs:List (List Key × V)} (ok:HOk P w H h) (e:H a=some (.dT kvs)):kvs.length<=sizeLine/\(a == sysModules)=false /\
  ∃ xs,KTb H kvs xs/\h.DictOfH (tupleKind (J1 P w)) a xs:=B1a ok (.inl e)
end
def DGet (H:Hp) (a:Addr) (y:V) (r:Option V):Prop :=
 (∃ kvs k,Rd H a (.dK kvs)/\y=kV k/\r=valV kvs k)\/∃ kvs k b,Rd H a (.dT kvs)/\y=.ref b/\H b=some (.tup (k.map kV))/\r=valV kvs k
def DPut (H:Hp) (a:Addr) (y v:V) (H':Hp):Prop :=
 (∃ kvs k,H a=some (.dK kvs)/\y=kV k/\kvs.length < sizeLine/\H'=upd H a (.dK (putK kvs k v))) \/
 ∃ kvs k b,H a=some (.dT kvs)/\y=.ref b/\H b=some (.tup (k.map kV))/\kvs.length < sizeLine/\H'=upd H a (.dT (putK kvs k v))
def DGet.k {H:Hp} {a:Addr} {kvs:List (Key × V)} {k:Key} (e:H a=some (.dK kvs)):DGet H a (kV k) (valV kvs k):=.inl ⟨kvs,k,.inl e,rfl,rfl⟩
theorem DGet.t {H:Hp} {a b:Addr} {kvs:List (List Key × V)} {k:List Key} (e:H a=some (.dT kvs)) (eb:H b=some (.tup (k.map kV))):DGet H a (.ref b) (valV kvs k):=.inr ⟨kvs,k,b,.inl e,rfl,eb,rfl⟩
theorem DPut.t {H:Hp} {a b:Addr} {kvs:List (List Key × V)} {k:List Key} {v:V} (e:H a=some (.dT kvs)) (eb:H b=some (.tup (k.map kV))) (hl:kvs.length < sizeLine) :
  DPut H a (.ref b) v (upd H a (.dT (putK kvs k v))):=.inr ⟨kvs,k,b,e,rfl,eb,hl,rfl⟩
section
variable {X:Cx} {pins:List (Addr × Obj)} {σ:St} {H:Hp} {s:Shared} {a:Addr} {y v:V} {u r:Value} {o:Option V} {A:Around} {E:Value->Shared->Prop}
def Inv.big (I:Inv X pins σ H s):sysModules < s.heap.objs.size:=by
 have h:mainGlobals < s.heap.objs.size:=(I.mod.glob.keeps I.bk).lt;exact Nat.lt_trans (by decide) h
def A8q {Q:Value->Shared->Prop} (hu:A.units + 1 < cLine) (I:Inv X pins σ H s) (g:DGet H a y (some v)) (ry:RelV y u) (h:∀ w' s',Inv X pins σ H s'->RelV v w'->Q w' s') :
  wpAny (model X.prog X.w) A (getItem (.ref a) u) Q E s:=by
 rcases g with ⟨kvs,k,e,ey,l⟩ | ⟨kvs,k,b,e,ey,eb,l⟩
 ·subst ey;obtain ⟨z,hd,vs,rel,dd⟩:=B1e I.hok e;obtain ⟨w',hw,rw'⟩:=RelO.some_of (v:=v) (o:=valueAt vs k) (by rw [l]; exact rel.val k);exact wpAny_getItem_of (A8a ry) dd.mapOf hw (h w' _ (I.tok _) rw')
 ·subst ey;cases (show u=Value.ref b from ry);obtain ⟨z,hd,xs,rel,dd⟩:=B1a I.hok e;obtain ⟨w',hw,rw'⟩:=RelO.some_of (v:=v) (o:=(atKey xs k).map (·.2)) (by rw [l]; exact rel.val k);obtain ⟨p,hp,hp2⟩:=Zo hw;refine wpAny_getItem_heap (tupleKind_room_in1 hu) (A4a I.hok eb) dd hp ?_;rw [hp2];exact h w' _ (I.tok _) rw'
def d_in {Q:Value->Shared->Prop} (hu:A.units + 1 < cLine) (I:Inv X pins σ H s) (g:DGet H a y o) (ry:RelV y u) (h:∀ s',Inv X pins σ H s'->Q (.bool o.isSome) s') :
  wpAny (model X.prog X.w) A (compareOp .In u (.ref a)) Q E s:=by
 rcases g with ⟨kvs,k,e,ey,l⟩ | ⟨kvs,k,b,e,ey,eb,l⟩
 ·subst ey;obtain ⟨z,hd,vs,rel,dd⟩:=B1e I.hok e;refine wpAny_in_of (A8a ry) hd dd.mapOf ?_;rw [<- (rel.val k).isSome_eq,<- l];exact h _ (I.tok _)
 ·subst ey;cases (show u=Value.ref b from ry);obtain ⟨z,hd,xs,rel,dd⟩:=B1a I.hok e;refine wpAny_in_heap (tupleKind_room_in1 hu) (A4a I.hok eb) hd dd ?_;have q:=(rel.val k).isSome_eq;rw [Option.isSome_map] at q;rw [<- q,<- l];exact h _ (I.tok _)
def A28 {h':Heap} {t':Nat} {ob:HO} (I:Inv X pins σ H s) (mu:Mut (H a)) (hs:Heap.SameBut a s.heap h') (he:∃ q,h'.get? a=some q) (new:ObjOk X.prog X.w (upd H a ob) h' a ob) :
  Inv X pins σ (upd H a ob) { s with heap:=h',toks:=t' } :=
 I.write (x:=a) (e:=a) mu (.inl rfl) (fun b q hb z=>(hs.2 b hb).trans z) he new
def B2s {P:Program} {w:World} {H':Hp} {h':Heap} {kvs:List (Key × V)} {vs:List (Key × Value)} (z:kvs.length<=sizeLine) (hd:(a == sysModules)=false) (rel:KV kvs vs) (dd:h'.DictOf (J1 P w) a vs) :
  ObjOk P w H' h' a (.dK kvs):=⟨z,hd,vs,rel,dd⟩
def A8p {H':Hp} {Q:Unit->Shared->Prop} (hu:A.units + 1 < cLine) (I:Inv X pins σ H s) (g:DPut H a y v H') (ry:RelV y u) (rv:RelV v r) (h:∀ s',Inv X pins σ H' s'->Q () s') :
  wpAny (model X.prog X.w) A (setItem (.ref a) u r) Q E s:=by
 rcases g with ⟨kvs,k,e,ey,l,eH⟩ | ⟨kvs,k,b,e,ey,eb,l,eH⟩
 ·subst ey eH;obtain ⟨z,hd,vs,rel,dd⟩:=C1y I.hok e;have hz:vs.length<=sizeLine:=by rw [<- rel.length]; exact z
  have hl:(putK kvs k v).length<=sizeLine:=by have:=R1 kvs k v; omega
  refine wpAny_setItem_pairs (hsz:=hz) (A8a ry) dd fun h' dd' hs=>h _ ?_;have he:∃ q,h'.get? a=some q:=let ⟨q,_,_,hq,_⟩:=dd'; ⟨q,hq⟩;exact A28 I (by rw [e]; exact True.intro) hs he (B2s hl hd (rel.put k rv) dd')
 ·subst ey eH;cases (show u=Value.ref b from ry);obtain ⟨z,hd,xs,rel,dd⟩:=C29 I.hok e;have hz:xs.length<=sizeLine:=by rw [<- Paired.length rel]; exact z
  have hl:(putK kvs k v).length<=sizeLine:=by have:=R1 kvs k v; omega
  refine wpAny_setItem_heap (hsz:=hz) (tupleKind_room_in1 hu) (A4a I.hok eb) dd fun h' dd' hs=>h _ ?_;obtain ⟨q,es,ep,hq,h2,h3,h4,_,h5⟩:=dd';refine A28 I (by rw [e]; exact True.intro) hs ⟨q,hq⟩ ⟨hl,hd,_,(rel.put k eb rv).keeps fun c ys ec=>?_,q,es,ep,hq,h2,h3,h4,h5⟩;rw [C4 (C2w ec e (fun z=>nomatch z))];exact ec
end
def NoSl (i:Expr):Prop:=∀ ov iv,subscripted i false ov iv=operate [ov,iv] (getItem ov iv)
def B3c {prog:Program} {w:World} {A:Around} {E:Value->Shared->Prop} {s:Shared} {env:Env} {value slice:Expr} {pos:Pos} {T id:String} {Q:Value->Shared->Prop}
  (hl:typeLookup (.type T) "__getitem__"=pure (some (.builtin id))) (hs:NoSl slice)
  (h:wpAny (model prog w) A (eval value env) (fun o s₁=>wpAny (model prog w) A (eval slice env) (fun i s₂=>s₂.TypeIs o T/\wpAny (model prog w) A (getItem o i) Q E s₂) E s₁) E s) :
  wpAny (model prog w) A (eval (.Subscript value slice pos) env) Q E s:=by
 refine Subscript_ (wpAny_mono h (fun o s₁ h₁=>wpAny_mono h₁ (fun i s₂ h₂=>?_) fun _ _ x=>x) fun _ _ x=>x);obtain ⟨hT,h₂⟩:=h₂;unfold subscriptTail;refine wpAny_bind ?_;rw [getitemInPython_of_ne hT.not_modules];refine wpAny_bind (wpAny_specialOf hT hl ?_);have fin:wpAny (model prog w) A (subscripted slice false o i) (fun r s₃=>wpAny (model prog w) A (letTemporaryGo value o r >>= fun _=>pure r) Q E s₃) E s₂:=by
  rw [hs o i];exact wpAny_operating (wpAny_mono h₂ (fun r s₃ h₃=>wpAny_bind (wpAny_letTemporaryGo (wpAny_pure h₃))) fun _ _ x=>x)
 first
  | exact wpAny_pure (wpAny_bind fin)
  | exact wpAny_bind (wpAny_pure (wpAny_bind fin))
  | exact wpAny_bind fin
def A25 {X:Cx} {pins:List (Addr × Obj)} {σ:St} {H:Hp} {s:Shared} {a:Addr} {y:V} {o:Option V} (I:Inv X pins σ H s) (g:DGet H a y o):s.TypeIs (.ref a) "dict":=by
 rcases g with ⟨kvs,k,e,_,_⟩ | ⟨kvs,k,b,e,_,_,_⟩
 ·obtain ⟨_,_,vs,_,dd⟩:=B1e I.hok e;exact dd.typeIs
 ·obtain ⟨_,_,xs,_,dd⟩:=B1a I.hok e;exact dd.typeIs
def B29 (td ty:TE):TE:=fun σ H Q=>td σ H fun x H1=>ty σ H1 fun y H2=>∃ a v,x=.ref a/\DGet H2 a y (some v)/\Q v H2
def tDIn (ty td:TE):TE:=fun σ H Q=>ty σ H fun y H1=>td σ H1 fun x H2=>∃ a o,x=.ref a/\DGet H2 a y o/\Q (.bl o.isSome) H2
def B3j (td ty tv:TE):TS:=fun D σ H=>tv σ H fun v H1=>td σ H1 fun x H2=>ty σ H2 fun y H3=>∃ a H4,x=.ref a/\DPut H3 a y v H4/\D.nx σ H4
section
variable {X:Cx} {o i e value:Expr} {pos pos' tpos:Pos} {td ty tv:TE}
def B4a (hu:X.A.units + 1 < cLine) (ho:PE X o td) (hi:PE X i ty) (hs:NoSl i):PE X (.Subscript o i pos) (B29 td ty):=by
 intro pins s σ H Q I h;refine B3c PySem.F.slot_dict_getitem.lookup hs (thn (ho pins s σ H _ I h) fun u s1 ⟨x,H1,I1,rx,q1⟩=>thn (hi pins s1 σ H1 _ I1 q1) fun iv s2 ⟨y,H2,I2,ry,a,v,ex,g,q2⟩=>?_);subst ex;obtain rfl:u=Value.ref a:=rx;exact ⟨A25 I2 g,A8q hu I2 g ry fun w' s3 I3 rw'=>⟨v,H2,I3,rw',q2⟩⟩
def B19 (hu:X.A.units + 1 < cLine) (hi:PE X i ty) (ho:PE X o td):PC X .In i o (tDIn ty td):=by
 intro pins s σ H Q I h;refine thn (hi pins s σ H _ I h) fun iv s1 ⟨y,H1,I1,ry,q1⟩=>thn (ho pins s1 σ H1 _ I1 q1) fun u s2 ⟨x,H2,I2,rx,a,ov,ex,g,q2⟩=>?_;subst ex;obtain rfl:u=Value.ref a:=rx;exact d_in hu I2 g ry fun s3 I3=>⟨.bl ov.isSome,H2,I3,rfl,q2⟩
def B3z (hu:X.A.units + 1 < cLine) (ho:PE X o td) (hi:PE X i ty) (hv:PE X value tv) (hs:swapsWith value (some (.Subscript o i pos')) pos.line X.env=pure false) :
  PS X (.Assign [.Subscript o i pos'] value pos) (B3j td ty tv):=by
 intro pins s σ H D I h;refine wpAny_Assign_Subscript (thn (hv pins s σ H _ I h) fun r s1 ⟨v,H1,I1,rv,q1⟩=>thn (ho pins s1 σ H1 _ I1 q1) fun u s2 ⟨x,H2,I2,rx,q2⟩=>thn (hi pins s2 σ H2 _ I2 q2) fun iv s3 ⟨y,H3,I3,ry,a,H4,ex,g,q3⟩=>?_) hs;subst ex;obtain rfl:u=Value.ref a:=rx;exact A8p hu I3 g ry rv fun s4 I4=>⟨σ,H4,I4,q3⟩
end
def B1f {P:Program} {w:World} {H:Hp} (h:Heap) (hb:sysModules < h.objs.size):ObjOk P w H (h.push { cls:=.type "dict",data:=.dict #[] }) h.objs.size (.dK []) :=
 ⟨Nat.zero_le _,beq_eq_false_iff_ne.mpr (Ne.symm (Nat.ne_of_lt hb)),[],.nil,Heap.DictOf.new h⟩
def B1b {P:Program} {w:World} {H:Hp} (h:Heap) (hb:sysModules < h.objs.size):ObjOk P w H (h.push { cls:=.type "dict",data:=.dict #[] }) h.objs.size (.dT []) :=
 ⟨Nat.zero_le _,beq_eq_false_iff_ne.mpr (Ne.symm (Nat.ne_of_lt hb)),[],.nil,_,#[],0,Heap.get?_push_size _ rfl,⟨rfl,rfl,rfl⟩,rfl,rfl,List.nodup_nil⟩
def A58:TE:=fun _ H Q=>∀ p,H p=none->Q (.ref p) (upd H p (.dT []))
section
variable {X:Cx} {pos:Pos}
def A99:PE X (.Dict [] [] pos) A58:=fun pins s σ H Q I h =>
 wpAny_Dict_empty ⟨.ref s.heap.objs.size,_,I.laid (a:=s.heap.objs.size) (o:=.dT []) (t':=s.toks) (fun _ _ q=>Heap.get?_push_of_some _ q) (Zv _) (B1b s.heap I.big),rfl,h _ (I.hok.fresh (Zv _))⟩
end
def A3k:List (TE × TE)->St->Hp->(List (V × V)->Hp->Prop)->Prop
 | [],_,H,Q=>Q [] H
 | (tk,tv) :: r,σ,H,Q=>tk σ H fun x H1=>tv σ H1 fun y H2=>A3k r σ H2 fun ps H3=>Q ((x,y) :: ps) H3
abbrev VVd:List (V × V)->List (Value × Value)->Prop:=Paired fun p q=>RelV p.1 q.1/\RelV p.2 q.2
def PPs (X:Cx) (pos:Pos) (keys:List (Option Expr)) (values:List Expr) (trs:List (TE × TE)):Prop :=
 ∀ (pins:List (Addr × Obj)) (s:Shared) (σ:St) (H:Hp) (Q:List (V × V)->Hp->Prop),Inv X pins σ H s->A3k trs σ H Q ->
  wpAny (model X.prog X.w) X.A (evalPairs (pairTrees keys values X.env pos)) (fun vs s'=>∃ ps H',Inv X pins σ H' s'/\VVd ps vs/\Q ps H') X.xe s
def B30 {X:Cx} {pos:Pos}:PPs X pos [] [] []:=fun pins s σ H Q I h=>pairTrees_nil_walk ⟨[],H,I,.nil,h⟩
def A94 {X:Cx} {pos:Pos} {k v:Expr} {ks:List (Option Expr)} {vs:List Expr} {tk tv:TE} {trs:List (TE × TE)} (hk:PE X k tk) (hv:PE X v tv) (hr:PPs X pos ks vs trs) :
  PPs X pos (some k :: ks) (v :: vs) ((tk,tv) :: trs):=fun pins s σ H Q I h =>
 pairTrees_cons_walk (thn (hk pins s σ H _ I h) fun u s1 ⟨x,H1,I1,rx,q1⟩=>thn (hv pins s1 σ H1 _ I1 q1) fun w2 s2 ⟨y,H2,I2,ry,q2⟩ =>
  thn (hr pins s2 σ H2 _ I2 q2) fun ws s3 ⟨ps,H3,I3,rel,q3⟩=>⟨(x,y) :: ps,H3,I3,.cons ⟨rx,ry⟩ rel,q3⟩)
def W9 (kvs more:List (Key × V)):List (Key × V):=more.foldl (fun acc kv=>putK acc kv.1 kv.2) kvs
def KV.merge:∀ {more:List (Key × V)} {rs:List (Key × Value)} {kvs:List (Key × V)} {vs:List (Key × Value)},KV more rs->KV kvs vs->KV (W9 kvs more) (merged vs rs):=by
 intro more rs kvs vs r;unfold KV at r;induction r generalizing kvs vs with
 | nil=>intro q; exact q
 | @cons p q ps qs h t ih =>
  intro r0;have e:KV (putK kvs p.1 p.2) (stored vs q.1 q.2):=by
   have:=r0.put p.1 h.2;rw [<- h.1]; exact this
  exact ih e
def S6:∀ (more kvs:List (Key × V)),(W9 kvs more).length<=kvs.length + more.length
 | [],kvs=>by show kvs.length<=kvs.length + 0; omega
 | p :: r,kvs=>by
  have h1:=S6 r (putK kvs p.1 p.2);have h2:=R1 kvs p.1 p.2;show (W9 (putK kvs p.1 p.2) r).length<=_;rw [List.length_cons]; omega
def A0c {P:Program} {w:World}:∀ {kvs:List (Key × V)} {ws:List (Value × Value)},VVd (kvs.map fun kv=>(kV kv.1,kv.2)) ws->∃ rs,Carries (J1 P w) ws rs/\KV kvs rs
 | [],_,r=>by rw [List.map_nil] at r; cases r; exact ⟨[],True.intro,.nil⟩
 | p :: kvs,_,r=>by
  rw [List.map_cons] at r;cases r with
  | @cons a b as bs h t =>
   obtain ⟨rs,c,q⟩:=A0c (P:=P) (w:=w) t;obtain ⟨b1,b2⟩:=b;exact ⟨(p.1,b2) :: rs,⟨A8a h.1,rfl,c⟩,.cons ⟨rfl,h.2⟩ q⟩
def B27 (trs:List (TE × TE)):TE:=fun σ H Q=>∀ p,H p=none->A3k trs σ (upd H p (.dK [])) fun ps H2=>H2 p=some (.dK [])/\∃ kvs:List (Key × V),ps=kvs.map (fun kv=>(kV kv.1,kv.2))/\kvs.length<=15/\Q (.ref p) (upd H2 p (.dK (W9 [] kvs)))
def B39 {X:Cx} {pos:Pos} {keys:List (Option Expr)} {values:List Expr} {trs:List (TE × TE)} (h:PPs X pos keys values trs) (hall:keys.all (·.isSome)=true) (hl:keys.length=values.length) (h0:keys≠[])
  (h15:keys.length<=15):PE X (.Dict keys values pos) (B27 trs):=by
 intro pins s σ H Q I q;have hn:=I.hok.fresh (Zv s.heap.objs.size);have I1:=I.laid (a:=s.heap.objs.size) (o:=.dK []) (h':=s.heap.push { cls:=.type "dict",data:=.dict #[] }) (t':=s.toks) (fun _ _ q=>Heap.get?_push_of_some _ q) (Zv _) (B1f s.heap I.big);refine wpAny_Dict_walk (knd:=J1 X.prog X.w) hall hl h0 h15 (thn (h pins _ σ _ _ I1 (q _ hn)) fun ws s2 ⟨ps,H2,I2,rel,e,kvs,ep,lk,q2⟩=>?_);subst ep;obtain ⟨rs,c,rk⟩:=A0c (P:=X.prog) (w:=X.w) rel;obtain ⟨z,hd,vs0,r0,dd⟩:=C1y I2.hok e;cases r0;refine ⟨rs,c,dd,fun h' dd' hs=>⟨.ref s.heap.objs.size,_,?_,rfl,q2⟩⟩;have hz:(W9 [] kvs).length<=sizeLine:=by
  have h1:=S6 kvs [];rw [List.length_nil] at h1;rw [sizeLine_eq]; omega
 have he:∃ q,h'.get? s.heap.objs.size=some q:=let ⟨q,_,_,hq,_⟩:=dd'; ⟨q,hq⟩;exact A28 I2 (by rw [e]; exact True.intro) hs he (B2s hz hd (rk.merge .nil) dd')
def C0l {a b:Int}:NSI [V.int a,V.int b]:=fun _ _ z=>nomatch z
def u1 {n:Nat} (h:n + 64 < cLine):n + 1 < cLine:=by omega
def Z6:∀ {more acc:List (Key × V)},((acc++more).map (·.1)).Nodup->W9 acc more=acc++more
 | [],acc,_=>by rw [List.append_nil]; rfl
 | p :: r,acc,h=>by
  have hn:valV acc p.1=none:=by
   unfold valV;rw [Option.map_eq_none_iff,List.find?_eq_none];intro x hx e;have e:x.1=p.1:=of_decide_eq_true e;rw [Zc,List.nodup_append] at h;exact h.2.2 x.1 (List.mem_map.mpr ⟨x,hx,rfl⟩) p.1 (List.mem_map.mpr ⟨p,Zy,rfl⟩) e
  show W9 (putK acc p.1 p.2) r=_;rw [A3v _ hn,show (p.1,p.2)=p from rfl];have h':(((acc++[p])++r).map (·.1)).Nodup:=by rw [List.append_assoc]; exact h
  rw [Z6 h',List.append_assoc]; rfl
def B7v (i j k:Nat) (ta:TA):TS:=fun D σ H=>ta σ H fun vs H1=>∃ v w z,vs=[v,w,z]/\D.nx (((σ.set i (some v)).set j (some w)).set k (some z)) H1
def A9p {X:Cx} {pos:Pos} {i j k:Nat} {x y z:Str} {a b c:Expr} {ta:TA} {px py pz pt:Pos} {kt k2 pt2} (hc:X.calm=true) (hN:X.N.Nodup) (hi:X.N[i]?=some x) (hj:X.N[j]?=some y) (hk:X.N[k]?=some z) (hij:i≠j) (hik:i≠k) (hjk:j≠k)
  (hx:X.env.scope.names.lookup x=some .local) (hy:X.env.scope.names.lookup y=some .local) (hz:X.env.scope.names.lookup z=some .local) (ha:QA X [a,b,c] ta)
  (hw:swappedStores [.Tuple [.Name x px,.Name y py,.Name z pz] kt pt] (.Tuple [a,b,c] k2 pt2) X.env=pure (some [x,y,z]))
  (hs:swapsWithSole [.Tuple [.Name x px,.Name y py,.Name z pz] kt pt] (.Tuple [a,b,c] k2 pt2) pos.line X.env=pure false) :
  QS X (.Assign [.Tuple [.Name x px,.Name y py,.Name z pz] kt pt] (.Tuple [a,b,c] k2 pt2) pos) (B7v i j k ta):=by
 refine ⟨fun pins s σ H D I h=>?_⟩;rw [exec_Assign_arm];apply wpAny_bind; apply wpAny_standAt;rw [hs];apply wpAny_bind; apply wpAny_pure;rw [if_neg Bool.false_ne_true];apply wpAny_bind;apply Tuple_;refine thn (ha.out _ pins s σ H _ I h) ?_;rintro us s1 ⟨vs,H1,I1,r1,v,w,t,rfl,q1⟩;cases r1 with | cons p1 r1=>cases r1 with | cons p2 r1=>cases r1 with | cons p3 r1 =>
 cases r1;rename_i u1 u2 u3;refine wpAny_newObj_type ?_ (by show 3<=sizeLine; decide);have I2:Inv X pins σ H1 { s1 with heap:=s1.heap.push ⟨.type "tuple",none,.seq [u1,u2,u3].toArray 0,#[]⟩ }:=I1.kept (t':=s1.toks) fun _ _ e=>Heap.get?_push_of_some _ e;rw [hw];apply wpAny_bind; apply wpAny_pure;show wpAny (model X.prog X.w) X.A (do rule "assign.swapped-stores"; let its <- unpackItems (.ref s1.heap.objs.size) 3 none; assignInOrder [fun v=>bindName X.env z v,fun v=>bindName X.env y v,fun v=>bindName X.env x v] its.reverse; pure Flow.next) _ _ _;apply wpAny_bind; apply wpAny_rule; apply wpAny_bind;refine unpackItems_tuple (items:=#[u1,u2,u3]) (I.ok.hd hc) (IsTup.new s1.heap _) fun h' hx'=>?_;have I3:=I2.kept (h':=h') (t':=s1.toks) fun b o e=>hx' b o (Nat.ne_of_lt (Heap.lt_size e)) e;show wpAny _ _ (assignInOrder [fun v=>bindName X.env z v,fun v=>bindName X.env y v,fun v=>bindName X.env x v] [u3,u2,u1] >>= fun _=>pure Flow.next) _ _ _;apply wpAny_bind;refine assignInOrder_cons (wpAny_bindName (L8 I3 hN hk (.inl hz) p3 (fun s2 I4=>?_) (.inr hz)));refine assignInOrder_cons (wpAny_bindName (L8 I4 hN hj (.inl hy) p2 (fun s3 I5=>?_) (.inr hy)));refine assignInOrder_cons (wpAny_bindName (L8 I5 hN hi (.inl hx) p1 (fun s4 I6=>assignInOrder_nil (wpAny_pure ?_)) (.inr hx)));have e:((σ.set k (some t)).set j (some w)).set i (some v)=((σ.set i (some v)).set j (some w)).set k (some t):=by
  rw [List.set_comm _ _ (Ne.symm hjk),List.set_comm _ _ (Ne.symm hik),List.set_comm _ _ (Ne.symm hij)]
 rw [e] at I6;exact ⟨_,H1,I6,q1⟩
section
variable {X:Cx} {o i e value:Expr} {pos pos':Pos} {td ty tv:TE}
structure QPs (X:Cx) (pos:Pos) (keys:List (Option Expr)) (values:List Expr) (trs:List (TE × TE)):Prop where
 out:PPs X pos keys values trs
def B3n:QPs X pos [] [] []:=⟨B30⟩
def V1 {k v:Expr} {ks:List (Option Expr)} {vs:List Expr} {tk tv:TE} {trs:List (TE × TE)} (hk:QE X k tk) (hv:QE X v tv) (hr:QPs X pos ks vs trs):QPs X pos (some k :: ks) (v :: vs) ((tk,tv) :: trs):=⟨A94 hk.out hv.out hr.out⟩
def A9s {keys:List (Option Expr)} {values:List Expr} {trs:List (TE × TE)} (h:QPs X pos keys values trs) (hall:keys.all (·.isSome)=true) (hl:keys.length=values.length) (h0:keys≠[]) (h15:keys.length<=15):QE X (.Dict keys values pos) (B27 trs):=⟨B39 h.out hall hl h0 h15⟩
def A1g:QE X (.Dict [] [] pos) A58:=⟨A99⟩
def B3p (hu:X.A.units + 1 < cLine) (hi:QE X i ty) (ho:QE X o td) (h1:behindInMarks .In o=false):QE X (.Compare i [.In] [o] pos) (tDIn ty td):=⟨B8s (B19 hu hi.out ho.out) h1⟩
def A6n (hu:X.A.units + 1 < cLine) (hi:QE X i ty) (ho:QE X o td) (h1:behindInMarks .In o=false):QT X (.Compare i [.In] [o] pos) (tB (tDIn ty td)):=⟨B8k (B19 hu hi.out ho.out) h1⟩
def A9t (hu:X.A.units + 1 < cLine) (ho:QE X o td) (hi:QE X i ty) (hs:NoSl i):QE X (.Subscript o i pos) (B29 td ty):=⟨B4a hu ho.out hi.out hs⟩
def A3t (hu:X.A.units + 1 < cLine) (ho:QE X o td) (hi:QE X i ty) (hv:QE X value tv) (hs:swapsWith value (some (.Subscript o i pos')) pos.line X.env=pure false):QS X (.Assign [.Subscript o i pos'] value pos) (B3j td ty tv):=⟨B3z hu ho.out hi.out hv.out hs⟩
end
end L2
namespace Pu
open PySem L2 My Prf
abbrev dkV (ks:List (Str × Int)):List (List Key × V):=ks.map fun k=>([Sum.inr k.1,Sum.inl k.2],V.bl true)
def A51 {c:Str} {n:Int}:∀ {ks:List (Str × Int)},valV (dkV ks) [Sum.inr c,Sum.inl n]=if (c,n) ∈ ks then some (.bl true) else none
 | []=>rfl
 | k :: r=>by
  unfold valV;rw [dkV,List.map_cons,List.find?_cons];by_cases h:k=(c,n)
  ·subst h;rw [Zk rfl,if_pos Zy]; rfl
  ·have h1:¬ (([Sum.inr k.1,Sum.inl k.2]:List Key)=[Sum.inr c,Sum.inl n]):=fun e=>by
    have e1:=(List.cons.inj e).1;have e2:=(List.cons.inj (List.cons.inj e).2).1;exact h (Prod.ext (Sum.inr.inj e1) (Sum.inl.inj e2))
   rw [Zd h1];have ih:=A51 (c:=c) (n:=n) (ks:=r);unfold valV at ih;refine ih.trans ?_;by_cases hr:(c,n) ∈ r
   ·rw [if_pos hr,if_pos (Zr _ hr)]
   ·rw [if_neg hr,if_neg fun z=>by
     rcases List.mem_cons.mp z with z | z
     ·exact h z.symm
     ·exact hr z]
def pDk0 (env:PEnv) (Q:SV->PEnv->Prop):Prop:=Q (.dk []) env
instance re_dk0 {K:Frag}:RE K A58 pDk0 where
 ok:=by
  rintro c w env σ Qp Q rfl E p k q hq;exact k (.ref q) (.dk []) env (w.lay q (.dT [])) ⟨E.mono (Wd.lay_ok E.wok hq) (Wd.lay_le hq),(Wd.lay_le hq).toLw,⟨q,rfl,B7,E.wok.fnone hq,fun z=>E.wok.mne hq z rfl,E.le0.dom q hq⟩,fun a f=>(by
   have:V.ref q=.ref a:=f;cases this;exact E.fresh hq),rfl⟩ p
def asP (x:PyData) (k:Str->Int->Prop):Prop:=match x with
 | .tuple [.str c,.int n]=>k c n
 | _=>False
def hasD (kvs:List (PyData × PyData)) (c:Str):Bool:=kvs.any fun p=>match p.1 with
 | .str s=>decide (s=c)
 | _=>false
def inD (o:Option (Option SV)) (x:PyData) (k:Bool->Prop):Prop:=match o with
 | some (some (.dk ks))=>asP x fun c n=>k (decide ((c,n) ∈ ks))
 | some (some (.d (.dict kvs)))=>asS x fun c=>k (hasD kvs c)
 | _=>False
theorem C25 {ks:List (Str × Int)} {x:PyData} {k:Bool->Prop}:inD (some (some (.dk ks))) x k=asP x fun c n=>k (decide ((c,n) ∈ ks)):=rfl
theorem C26 {kvs:List (PyData × PyData)} {x:PyData} {k:Bool->Prop}:inD (some (some (.d (.dict kvs)))) x k=asS x fun c=>k (hasD kvs c):=rfl
def A8f {c:Str}:∀ {kvs:List (Key × V)},(valV kvs (.inr c)).isSome=hasD (kvs.map A5s) c
 | []=>rfl
 | p :: r=>by
  have ih:=A8f (c:=c) (kvs:=r);unfold valV hasD at *;rw [List.map_cons,List.any_cons,List.find?_cons];obtain ⟨k,v⟩:=p;cases k with
  | inl i =>
   rw [Zd (show ¬ ((Sum.inl i:Key)=Sum.inr c) from fun z=>nomatch z)];exact ih
  | inr s =>
   by_cases h:s=c
   ·subst h;rw [Zk rfl];show true=(decide (s=s) || _);rw [Zk rfl]; rfl
   ·rw [Zd (show ¬ ((Sum.inr s:Key)=Sum.inr c) from fun z=>h (Sum.inr.inj z))];show _=(decide (s=c) || _);rw [Zd h,Bool.false_or];exact ih
def Den.dctE {K:Frag} {F:Hpp} {v:V} {ds:List (PyData × PyData)} (h:Den K F v (.dict ds)):∃ a kvs,v=.ref a/\F a=some (.dK kvs)/\ds=kvs.map A5s:=by
 cases h with | dct h=>exact ⟨_,_,rfl,h,rfl⟩
def pDIn (pd:PDt) (i:Nat) (env:PEnv) (Q:SV->PEnv->Prop):Prop:=pd env fun x e=>inD e[i]? x fun b=>Q (.d (.bool b)) e
instance re_din {K:Frag} {ty:TE} {i:Nat} {pd:PDt} [hd:RD K ty pd]:RE K (tDIn ty (tVar i)) (pDIn pd i) where
 ok:=by
  rintro c w env σ Qp Q rfl E p k;refine hd.ok c w env σ _ _ rfl E p fun y x e1 w1 E1 l1 d1 q1=>?_;unfold inD at q1;split at q1
  ·rename_i ks ei;unfold asP at q1;split at q1
   ·obtain ⟨v,hv,l,rfl,h1,h2,h3,h4⟩:=E1.at' i _ ei;obtain ⟨b,rfl,hb⟩:=Den.pairE d1;refine ⟨_,hv,l,_,rfl,DGet.t (k:=[Sum.inr _,Sum.inl _]) h1 (E1.wok.sub _ _ hb),?_⟩;rw [A51];rename_i cc nn;have eb:(if (cc,nn) ∈ ks then some (V.bl true) else none).isSome=decide ((cc,nn) ∈ ks):=by
     by_cases z:(cc,nn) ∈ ks
     ·rw [if_pos z,Zk z]; rfl
     ·rw [if_neg z,Zd z]; rfl
    rw [eb];exact k _ _ e1 w1 ((Res.data E1 (.bl _)).pre l1) q1
   ·exact q1.elim
  ·rename_i kvs ei;unfold asS at q1;split at q1
   ·obtain ⟨v,hv,h1⟩:=E1.at' i _ ei;obtain ⟨a,kvs',rfl,h2,rfl⟩:=Den.dctE h1;have ey:=d1.strE;subst ey;refine ⟨_,hv,a,_,rfl,DGet.k (k:=Sum.inr _) (E1.wok.sub _ _ h2),?_⟩;rw [A8f];exact k _ _ e1 w1 ((Res.data E1 (.bl _)).pre l1) q1
   ·exact q1.elim
  ·exact q1.elim
def isDk (o:Option (Option SV)) (k:List (Str × Int)->Prop):Prop:=match o with
 | some (some (.dk ks))=>k ks
 | _=>False
theorem C1l {ks:List (Str × Int)} {k:List (Str × Int)->Prop}:isDk (some (some (.dk ks))) k=k ks:=rfl
def B45 (i:Nat) (pd:PDt) (D:PEnds) (env:PEnv):Prop:=isDk env[i]? fun _=>pd env fun x e=>asP x fun c n=>isDk e[i]? fun ks=>(c,n) ∉ ks/\ks.length < 1000000/\D.nx (e.set i (some (.dk (ks++[(c,n)]))))
instance rs_dput {K:Frag} {i:Nat} {ty:TE} {pd:PDt} [hd:RD K ty pd]:RS K (B3j (tVar i) ty (tC (.bl true))) (B45 i pd) where
 ok:=by
  rintro c w env σ Dp D rfl E h p;unfold B45 isDk at p;split at p
  ·rename_i ks0 e0;obtain ⟨o,g0,l,rfl,_⟩:=E.at' i _ e0;refine ⟨_,g0,hd.ok c w env σ _ _ rfl E p fun y x e1 w1 E1 l1 d1 q1=>?_⟩;unfold asP at q1;split at q1
   ·rename_i cc nn;split at q1
    ·rename_i ks e;obtain ⟨nin,hl,q⟩:=q1;obtain ⟨o',g0',l',ev',k1,k2,k3,k4⟩:=E1.at' i _ e;rw [g0] at g0'; cases g0'; cases ev';obtain ⟨b,rfl,hb⟩:=Den.pairE d1;have hv:valV (dkV ks) [Sum.inr cc,Sum.inl nn]=none:=by rw [A51,if_neg nin]
     refine ⟨l,_,rfl,DPut.t (k:=[Sum.inr cc,Sum.inl nn]) k1 (E1.wok.sub _ _ hb) (by rw [Zl]; exact Y7 hl),?_⟩;rw [A3v _ hv];have e2:dkV ks++[([Sum.inr cc,Sum.inl nn],V.bl true)]=dkV (ks++[(cc,nn)]):=by unfold dkV; rw [Zc]; rfl
     rw [e2];exact h.nx _ σ ⟨w1.M,upd w1.H l (.dT (dkV (ks++[(cc,nn)]))),w1.F⟩ (E1.writeAt (s':=.dk (ks++[(cc,nn)])) e g0 rfl (fun a f=>f) ⟨l,rfl,B7,k2,k3,k4⟩) l1.f q
    ·exact q1.elim
   ·exact q1.elim
  ·exact p.elim
def numD:List (PyData × PyData)->Str->Option Int
 | [],_=>none
 | (.str x,.int n) :: r,s=>if x=s then some n else numD r s
 | _,_=>none
def A7x {s:Str} {n:Int}:∀ {kvs:List (Key × V)},numD (kvs.map A5s) s=some n->valV kvs (.inr s)=some (.int n)
 | [],h=>by cases h
 | (.inl i,v) :: r,h=>by cases v <;> cases h
 | (.inr x,v) :: r,h=>by
  unfold valV;rw [List.find?_cons];cases v with
  | int m =>
   have h:(if x=s then some m else numD (r.map A5s) s)=some n:=h;by_cases e:x=s
   ·subst e;rw [if_pos rfl] at h; cases h;rw [Zk rfl]; rfl
   ·rw [if_neg e] at h;rw [Zd (show ¬ ((Sum.inr x:Key)=Sum.inr s) from fun z=>e (Sum.inr.inj z))];exact A7x (kvs:=r) h
  | _=>cases h
def A8l (o:Option (Option SV)) (k:List (PyData × PyData)->Prop):Prop:=match o with
 | some (some (.d (.dict ds)))=>k ds
 | _=>False
theorem B1g {ds:List (PyData × PyData)} {k:List (PyData × PyData)->Prop}:A8l (some (some (.d (.dict ds)))) k=k ds:=rfl
def B3e (o:Option (Option SV)) (k:Str->Prop):Prop:=match o with
 | some (some (.d (.str s)))=>k s
 | _=>False
theorem B3d {s:Str} {k:Str->Prop}:B3e (some (some (.d (.str s)))) k=k s:=rfl
def A7i (i j:Nat) (env:PEnv) (Q:SV->PEnv->Prop):Prop:=A8l env[i]? fun ds=>B3e env[j]? fun s=>∃ n,numD ds s=some n/\Q (.d (.int n)) env
instance re_dgetN {K:Frag} {i j:Nat}:RE K (B29 (tVar i) (tVar j)) (A7i i j) where
 ok:=by
  rintro c w env σ Qp Q rfl E p k;unfold A7i A8l at p;split at p
  ·rename_i ds ei;unfold B3e at p;split at p
   ·rename_i s ej;obtain ⟨n,hn,q⟩:=p;obtain ⟨v,hv,h1⟩:=E.at' i _ ei;obtain ⟨u,hu,h2⟩:=E.at' j _ ej;obtain ⟨a,kvs,rfl,h3,rfl⟩:=Den.dctE h1;have ey:=Den.strE h2;subst ey;have g:=DGet.k (k:=Sum.inr s) (E.wok.sub _ _ h3);rw [A7x hn] at g;exact ⟨_,hv,_,hu,a,_,rfl,g,k _ _ env w (Res.data E (.int n)) q⟩
   ·exact p.elim
  ·exact p.elim
class RPr (K:Frag) (trs:List (TE × TE)) (pp:outParam (PEnv->(List (Str × Int)->Prop)->Prop)):Prop where
 ok:∀ (c:Ct) (w:Wd) (env:PEnv) (σ:L2.St) (H':Hpp) (Qp:List (Str × Int)->Prop) (Q:List (V × V)->Hpp->Prop),c.K=K->EnvOk c w env σ->Same w.H H'->pp env Qp->(∀ ps,Qp ps->Q (ps.map fun p=>(V.str p.1,V.int p.2)) H')->A3k trs σ H' Q
def pPr0 (_:PEnv) (Q:List (Str × Int)->Prop):Prop:=Q []
instance rpr_nil {K:Frag}:RPr K [] pPr0:=⟨fun _ _ _ _ _ _ _ _ _ _ p k=>k [] p⟩
def B54 (o:Option (Option SV)) (k:Int->Prop):Prop:=match o with
 | some (some (.d (.list xs)))=>k (xs.length:Int)
 | _=>False
theorem B53 {xs:LP} {k:Int->Prop}:B54 (some (some (.d (.list xs)))) k=k (xs.length:Int):=rfl
def pPr (s:Str) (i:Nat) (pp:PEnv->(List (Str × Int)->Prop)->Prop) (env:PEnv) (Q:List (Str × Int)->Prop):Prop:=B54 env[i]? fun n=>pp env fun ps=>Q ((s,n) :: ps)
instance rpr_cons {K:Frag} {s:Str} {i:Nat} {r:List (TE × TE)} {pp:PEnv->(List (Str × Int)->Prop)->Prop} [hr:RPr K r pp]:RPr K ((tC (.str s),tCB (A9n K) (F7 (tVar i) tNil)) :: r) (pPr s i pp) where
 ok:=by
  rintro c w env σ H' Qp Q rfl E sm p k;unfold pPr B54 at p;split at p
  ·rename_i xs e;obtain ⟨v,hv,hd⟩:=E.at' i _ e;obtain ⟨a,vs,rfl,hs,hd⟩:=Den.lstE hd;refine ⟨_,hv,.inl ⟨a,vs,rfl,.inl ((E.wok.sub.trans sm).seq hs),?_⟩⟩;rw [hd.len];exact hr.ok c w env σ H' _ _ rfl E sm p fun ps q=>k _ q
  ·exact p.elim
def B9o (pp:PEnv->(List (Str × Int)->Prop)->Prop) (env:PEnv) (Q:SV->PEnv->Prop):Prop:=pp env fun ps=>(ps.map (·.1)).Nodup/\ps.length<=15/\Q (.d (.dict (ps.map fun p=>(.str p.1,.int p.2)))) env
instance re_disp {K:Frag} {trs:List (TE × TE)} {pp:PEnv->(List (Str × Int)->Prop)->Prop} [h:RPr K trs pp]:RE K (B27 trs) (B9o pp) where
 ok:=by
  rintro c w env σ Qp Q rfl E p k q hq;refine h.ok c w env σ (upd w.H q (.dK [])) _ _ rfl E (Same.upd hq) p fun ps ⟨nd,hl,qq⟩=>?_;refine ⟨B7,ps.map fun p=>(Sum.inr p.1,V.int p.2),by rw [List.map_map]; rfl,by rw [Zl]; exact hl,?_⟩;have nd':((([]:List (Key × V))++ps.map fun p:Str × Int=>((Sum.inr p.1,V.int p.2):Key × V)).map fun x=>x.1).Nodup:=by
   rw [List.nil_append,List.map_map];have:(ps.map fun p=>(Sum.inr p.1:Key))=(ps.map (·.1)).map fun s=>(Sum.inr s:Key):=by rw [List.map_map]; rfl
   show (ps.map fun p=>(Sum.inr p.1:Key)).Nodup;rw [this];exact List.Pairwise.map (fun s=>(Sum.inr s:Key)) (fun a b ne e=>ne (Sum.inr.inj e)) nd
  rw [Z6 nd',List.nil_append,B2x];refine k (.ref q) (.d (.dict (ps.map fun p=>(.str p.1,.int p.2)))) env (w.tup q (.dK (ps.map fun p=>(Sum.inr p.1,V.int p.2)))) ⟨E.mono (Wd.tup_ok E.wok hq) (Wd.tup_le E.wok hq),(Wd.tup_le E.wok hq).toLw,?_,fun _ e=>(show False from e).elim,rfl⟩ qq;have:=Den.dct (K:=c.K) (H:=upd w.F q (.dK (ps.map fun p=>(Sum.inr p.1,V.int p.2)))) B7;rw [List.map_map] at this;exact this
def B83 (i j k:Nat) (pa:PAr) (D:PEnds) (env:PEnv):Prop:=pa env fun xs e=>match xs with
 | [x,y,z]=>D.nx (((e.set i (some (.d x))).set j (some (.d y))).set k (some (.d z)))
 | _=>False
instance rs_par3 {K:Frag} {ta:TA} {pa:PAr} {i j k:Nat} [ha:RAd K ta pa]:RS K (B7v i j k ta) (B83 i j k pa) where
 ok:=by
  rintro c w env σ Dp D rfl E h p;refine ha.ok c w env σ _ _ rfl E p fun vs xs e1 w1 E1 l1 d1 q1=>?_;split at q1
  ·cases d1 with
   | cons a t=>cases t with
    | cons b t=>cases t with
     | cons d t =>
      cases t;exact ⟨_,_,_,rfl,h.nx _ _ w1 (((E1.set (s:=.d _) a (fun _ z=>nomatch z)).set (s:=.d _) b (fun _ z=>nomatch z)).set (s:=.d _) d (fun _ z=>nomatch z)) l1.f q1⟩
  ·exact q1.elim
end Pu
open PySem L2 My
namespace Pu
open PySem L2 My Prf
inductive Fr:OT->OT->Prop
 | same (t:OT):Fr t t
 | all {t:OT} {x:PyData}:t.dat=[x]->Fr t (.leaf x)
 | nd {b:Bool} {a:Addr} {k k':OT}:Fr k k'->Fr (.nd b a k) (.nd b a k')
 | cons {h h' t t':OT}:Fr h h'->Fr t t'->Fr (.cons h t) (.cons h' t')
end Pu
namespace L2
open PySem
def KeptD (h h':Heap):Prop:=∀ b o,h.get? b=some o->∃ o',h'.get? b=some o'/\o'.cls=o.cls/\o'.dict=o.dict
def KeptD.refl (h:Heap):KeptD h h:=fun _ o e=>⟨o,e,rfl,rfl⟩
def KeptD.trans {h1 h2 h3:Heap} (x:KeptD h1 h2) (y:KeptD h2 h3):KeptD h1 h3:=fun b o e =>
 let ⟨o1,e1,c1,d1⟩:=x b o e
 let ⟨o2,e2,c2,d2⟩:=y b o1 e1
 ⟨o2,e2,c2.trans c1,d2.trans d1⟩
def Mild (f:Obj->Obj):Prop:=∀ o,o.isFreed=false->(f o).cls=o.cls/\(f o).dict=o.dict/\(f o).isFreed=false
def A10 {h:Heap} {a:Addr} {f:Obj->Obj} (m:Mild f):KeptD h (h.update a f):=fun b o e=>by
 by_cases q:a=b
 ·subst q;have nf:o.isFreed=false:=(Heap.get?_some_iff.mp e).2;exact ⟨f o,Heap.get?_update_self f e (m o nf).2.2,(m o nf).1,(m o nf).2.1⟩
 ·exact ⟨o,by rw [Heap.get?_update_other h f q]; exact e,rfl,rfl⟩
inductive Still {α:Type}:Sem α->Prop
 | pure (a:α):Still (.pure a)
 | raise (e:Value):Still (.raise e)
 | uns (x:String):Still (.unsupported x)
 | load {a:Addr} {p:Option Value} {k:Obj->Sem α}:(∀ o,Still (k o))->Still (.load a p k)
 | upd {a:Addr} {p:Option Value} {f:Obj->Obj} {k:Unit->Sem α}:Mild f->Still (k ())->Still (.update a p f k)
 | alloc {o:Obj} {k:Addr->Sem α}:(∀ a,Still (k a))->Still (.alloc o k)
 | stack {k:List (Code × Pos)->Sem α}:(∀ x,Still (k x))->Still (.stack k)
 | rule {t:String} {k:Unit->Sem α}:Still (k ())->Still (.rule t k)
def Still.bind' {α β:Type} {t:Sem α} {f:α->Sem β} (h:Still t) (g:∀ a,Still (f a)):Still (t.bind f):=by
 induction h with
 | pure a=>exact g a
 | raise e=>exact .raise e
 | uns x=>exact .uns x
 | load _ ih=>exact .load ih
 | upd m _ ih=>exact .upd m ih
 | alloc _ ih=>exact .alloc ih
 | stack _ ih=>exact .stack ih
 | rule _ ih=>exact .rule ih
def Still.bind {α β:Type} {t:Sem α} {f:α->Sem β} (h:Still t) (g:∀ a,Still (f a)):Still (t >>= f):=h.bind' g
def Still.wp {α:Type} {M:Model} {Γ:Ctx} {t:Sem α} (st:Still t):∀ {Q:α->Pos->Shared->Prop} {E:Value->Pos->Shared->Prop} {p:Pos} {s s0:Shared},KeptD s0.heap s.heap->Sem.wp M Γ t Q E p s ->
  Sem.wp M Γ t (fun a p' s'=>Q a p' s'/\KeptD s0.heap s'.heap) (fun e p' s'=>E e p' s'/\KeptD s0.heap s'.heap) p s:=by
 induction st with
 | pure a=>intro Q E p s s0 k h; rw [Sem.wp] at h ⊢; exact ⟨h,k⟩
 | raise e=>intro Q E p s s0 k h; rw [Sem.wp] at h ⊢; exact ⟨h,k⟩
 | uns x=>intro Q E p s s0 k h; rw [Sem.wp] at h; exact h.elim
 | load _ ih=>intro Q E p s s0 k h; rw [Sem.wp] at h ⊢; obtain ⟨o,e,h⟩:=h; exact ⟨o,e,ih o k h⟩
 | upd m _ ih=>intro Q E p s s0 k h; rw [Sem.wp] at h ⊢; exact ⟨h.1,ih (k.trans (A10 m)) h.2⟩
 | alloc _ ih=>intro Q E p s s0 k h; rw [Sem.wp] at h ⊢; exact ih _ (k.trans fun b o e=>⟨o,Heap.get?_push_of_some _ e,rfl,rfl⟩) h
 | stack _ ih=>intro Q E p s s0 k h; rw [Sem.wp] at h ⊢; exact ih _ k h
 | rule _ ih=>intro Q E p s s0 k h; rw [Sem.wp] at h ⊢; exact ih k h
def Still.any {α:Type} {M:Model} {A:Around} {t:Sem α} (st:Still t) {Q:α->Shared->Prop} {E:Value->Shared->Prop} {s:Shared} (h:wpAny M A t Q E s) :
  wpAny M A t (fun a s'=>Q a s'/\KeptD s.heap s'.heap) (fun e s'=>E e s'/\KeptD s.heap s'.heap) s:=fun Γ p g=>st.wp (KeptD.refl _) (h Γ p g)
def A21 {f:Array Value->Array Value}:Mild (Obj.mapFields f):=fun o nf=>by
 obtain ⟨c,d,da,sl⟩:=o;cases da <;> first | exact ⟨rfl,rfl,rfl⟩ | exact ⟨rfl,rfl,nf⟩
def A5j {g:Obj->Array (Option Value)}:Mild (fun o=>{ o with slots:=g o }):=fun o nf=>⟨rfl,rfl,by obtain ⟨c,d,da,sl⟩:=o; cases da <;> exact nf⟩
def N4 {α:Type} {c:Prop} [Decidable c] {x y:Sem α} (a:Still x) (b:Still y):Still (if c then x else y):=by split <;> assumption
def T3 {a:Addr}:Still (PySem.load a):=.load fun o=>.pure o
def Y1 {v:Value}:Still (fieldsOf v):=by
 unfold fieldsOf;split
 ·refine .bind T3 fun o=>?_;split
  ·exact .pure _
  ·exact .uns _
 ·exact .uns _
def N5 {v:Value} {i:Nat}:Still (field v i):=by
 unfold field;refine .bind Y1 fun o=>?_;split
 ·exact .pure _
 ·exact .uns _
def M9 {v:Value} {i:Nat} {x:Value}:Still (setField v i x):=by
 unfold setField;split
 ·unfold updateField;refine .bind T3 fun o=>?_;split
  ·refine N4 ?_ (.uns _);exact .upd A21 (.pure _)
  ·exact .uns _
 ·exact .uns _
def still_setFlight {e:Value} {f:Option Addr}:Still (setFlight e f):=by
 unfold setFlight;refine .bind N5 fun tb=>?_;exact N4 M9 (.pure _)
def Q5:Still PySem.stack:=.stack fun x=>.pure x
def A2p:∀ l:List Env,Still (readyFrames l):=by
 intro l;induction l with
 | nil=>exact .pure _
 | cons env outer ih =>
  unfold readyFrames;split
  ·refine .bind T3 fun o=>N4 (.pure _) ?_;refine .bind ?_ fun im=>.bind ?_ fun back=>.bind (.upd A5j (.pure _)) fun _=>ih
   ·unfold behindIsImport;refine N4 (.pure _) (N4 (.pure _) (.bind N5 fun _=>.pure _))
   ·cases outer with
    | nil=>unfold keptBack; exact N4 (.pure _) (.bind (.bind Q5 fun _=>.pure _) fun _=>.pure _)
    | cons c r=>exact .pure _
  ·exact .uns _
def A0k {env:Env}:Still (frameOf env):=by
 unfold frameOf;refine .bind (.bind Q5 fun _=>.pure _) fun l=>.bind ?_ fun x=>?_
 ·unfold frameObject;split
  ·exact .pure _
  ·exact .bind (A2p _) fun _=>.pure _
 ·split
  ·exact .pure _
  ·exact .uns _
def V7 {t:String} {l:List Value}:Still (newFields t l):=by
 unfold newFields newObj;have z:∀ u:Unit,Still (newObjAsIs (.type t) (.fields l.toArray) none):=fun _=>.alloc fun a=>.pure _;dsimp only;split
 ·exact .uns _
 ·exact z ()
def still_noteFrame {e:Value} {env:Env}:Still (noteFrame e env):=by
 unfold noteFrame;split
 ·rename_i f _;have r:∀ (hd:Value) (b:Bool),Still (do let a <- frameOf env; let pl <- entryPlaceOf f b; let x <- EntryCells.newEntry hd a .none (rawInt f) .none pl; setField e 1 x):=fun hd b =>
   .bind A0k fun a=>.bind (.bind Q5 fun l=>by dsimp only; split <;> exact .pure _) fun pl=>.bind V7 fun x=>M9
  refine .bind N5 fun hd=>?_;try dsimp only
  split
  ·refine .bind N5 fun x=>?_;try dsimp only
   split
   ·exact .pure _
   ·exact .bind M9 fun _=>r _ _
  ·exact r _ _
 ·exact .uns _
def still_leaving {e:Value} {env:Env}:Still (leaving env e):=.bind still_noteFrame fun _=>still_setFlight
open PySem.Spec PyProof.Rows PySem.W
def T8:List Value->Bool
 | .ref _ :: r=>T8 r
 | l=>l == A52
def A9m (self:Value):refuseLoop self "__setattr__" A52=pure ():=by
 unfold A52;rw [refuseLoop]
 kernel_rfl
def W0 (self:Value):∀ {l:List Value},T8 l=true->refuseLoop self "__setattr__" l=pure ()
 | [],e=>by cases e
 | x :: r,e=>by
  unfold T8 at e;split at e
  ·rename_i h; cases h; rw [refuseLoop_ref]; exact W0 self e
  ·rw [eq_of_beq e]; exact A9m self
def A32:∀ {l:List Value},T8 l=true->l.contains (.type "object")=true
 | [],e=>by cases e
 | x :: r,e=>by
  unfold T8 at e;split at e
  ·rename_i h; cases h; rw [List.contains_cons,A32 e,Bool.or_true]
  ·rw [eq_of_beq e]; rfl
section
variable {K:W.Frag} {prog:Program} {w:World} {A:Around} {s:Shared} {x C:Addr} {ox:Obj} {od:Option Obj} {cd:ClassData} {name:Str} {v:Value}
def B0f {tk:Tok} {R:Result->Shared->Prop} (X:K.In s.heap) (I:W.InstAt s.heap x ox C od) (hc:clsIn K C=some cd) (ho:T8 cd.mro=true) (ha:findIn K (.ref C) name=some none)
  (h:wpAny (model prog w) A.in1 (Builtin.ObjectAttr.storeInOwnDict (.ref x) (.ref C) (.str name tk) name v false)
   (fun z s'=>match z with | .done f=>R (.ok f) s' | .again c=>c.quiet=true/\codeAny (model prog w) A c R s') (fun e s'=>R (.error e) s') s) :
  codeAny (model prog w) A (.call (.builtin "object.__setattr__") ⟨[.ref x,.str name tk,v],[]⟩) R s:=by
 have ne:cd.mro.isEmpty=false:=by
  cases q:cd.mro with
  | cons _ _=>rfl
  | nil=>rw [q] at ho; cases ho
 have isIn:Looks (model prog w) s.heap (isInstance (.ref x) (.type "object")) true :=
  I.type.andThen (looks_mroIn X (by unfold mroIn; rw [hc]; simp only [Option.bind_some,ne,Bool.false_eq_true,if_false,A32 ho]))
 have SO:=PySem.F.store_object;refine codeAny_call_builtin SO.slot.plain SO.entry
  (check_slot (i:="object.__setattr__") (owner:="object") (n:="__setattr__") (self:=.ref x) (rest:=[.str name tk,v]) (kw:=[]) SO.kind SO.split isIn (SO.args (.ref x) (.str name tk) v) ?_)
 have mro:Looks (model prog w) s.heap (mroOf (.ref C)) cd.mro:=Looks.andThen (looks_clsIn X hc) .now;rw [osa_eq,refuse_eq];refine wpAny_bind (wpAny_bind (I.type.here ?_));refine wpAny_bind (mro.here ?_);rw [W0 _ ho];refine wpAny_pure (wpAny_bind (I.type.here (wpAny_bind ((looks_findIn X ha).here ?_))));exact wpAny_bind (wpAny_pure h)
def A9l {vs:Array Value} {sl:Array (Option Value)} {Q:Unit->Shared->Prop} {E:Value->Shared->Prop} (X:K.In s.heap) (hx:s.heap.get? x=some ⟨.ref C,none,.fields vs,sl⟩)
  (hc:clsIn K C=some cd) (hh:cd.hasDict=true) (ho:T8 cd.mro=true) (hs:findIn K (.ref C) "__setattr__"=some (some (.builtin "object.__setattr__"))) (ha:findIn K (.ref C) name=some none)
  (h:∀ h' d,s.heap.get? d=none->d≠x->h'.get? x=some ⟨.ref C,some d,.fields vs,sl⟩->h'.Ns1 d (fun y=>if y=name then some v else none)->(∀ b o,b≠x->s.heap.get? b=some o->h'.get? b=some o) ->
   Q () { s with heap:=h',toks:=s.toks + 2 }):wpAny (model prog w) A (setAttr (.ref x) name v) Q E s:=by
 have I:W.InstAt s.heap x ⟨.ref C,none,.fields vs,sl⟩ C none:=⟨hx,rfl,rfl,True.intro⟩;have lt:=Heap.lt_size hx;refine set_plain X I hs (B0f (s:={ s with toks:=s.toks + 1 }) X I hc ho ha ?_);unfold Builtin.ObjectAttr.storeInOwnDict;refine wpAny_bind (wpAny_pure (wpAny_bind ?_));show wpAny _ _ (instanceDict x true) _ _ _;unfold instanceDict;refine wpAny_bind (wpAny_loadPart (s:={ s with toks:=s.toks + 1 }) hx (wpAny_bind (Looks.here (s:={ s with toks:=s.toks + 1 }) (looks_clsIn X hc) ?_)));rw [hh];have x1:(s.heap.push { cls:=.type "dict",data:=.dict #[] }).get? x=some ⟨.ref C,none,.fields vs,sl⟩:=Heap.get?_push_of_some _ hx;refine wpAny_bind (wpAny_alloc (s:={ s with toks:=s.toks + 1 }) (wpAny_bind (wpAny_update (s:={ heap:=_,gens:=_,drawn:=_,toks:=_,os:=_ }) x1 ?_)));refine wpAny_pure ?_;have nd:s.heap.objs.size≠x:=Nat.ne_of_gt lt;have e1:((s.heap.push { cls:=.type "dict",data:=.dict #[] }).update x fun o=>{ o with dict:=some s.heap.objs.size }).get? x=some ⟨.ref C,some s.heap.objs.size,.fields vs,sl⟩ :=
  Heap.get?_update_self _ x1 rfl
 have e2:((s.heap.push { cls:=.type "dict",data:=.dict #[] }).update x fun o=>{ o with dict:=some s.heap.objs.size }).get? s.heap.objs.size=some { cls:=.type "dict",data:=.dict #[] }:=by
  rw [Heap.get?_update_other _ _ (Ne.symm nd)]; exact Heap.get?_push_size _ rfl
 show wpAny _ _ (Builtin.ObjectAttr.storeInDict _ _ _ _) _ _ _;unfold Builtin.ObjectAttr.storeInDict;refine wpAny_bind (wpAny_pure (wpAny_bind ?_));refine wpAny_nsSet1 (m:=fun _=>none) (Heap.Ns1.of_empty ⟨_,#[],0,e2,rfl,fun e he=>absurd he (by simp),fun _=>rfl⟩) fun h' n2 sb=>?_;obtain ⟨oD,es,ep,g1,g2,g3⟩:=n2.count (PySem.Within.cons name v PySem.Within.nil);refine wpAny_bind (wpAny_lookBehind g1 (by rw [g2]; exact pastItsLine_dict (Zx g3 (by rw [sizeLine_eq]; show 1<=_; decide))) (wpAny_pure ?_));refine h h' s.heap.objs.size (Heap.get?_none_of_le (Zv _)) nd ((sb.2 x (Ne.symm nd)).trans e1) n2 fun b o bx e=>?_;refine (sb.2 b (Nat.ne_of_lt (Heap.lt_size e))).trans ?_;rw [Heap.get?_update_other _ _ (Ne.symm bx)];exact Heap.get?_push_of_some _ e
def A1s:∀ {l:List Value},T8 l=true->l.contains (.type "BaseException")=true
 | [],e=>by cases e
 | y :: r,e=>by
  unfold T8 at e;split at e
  ·rename_i h; cases h; rw [List.contains_cons,A1s e,Bool.or_true]
  ·rw [eq_of_beq e]; rfl
def getx {expr:Bool} {Q:Value->Shared->Prop} {E:Value->Shared->Prop} (X:K.In s.heap) (I:W.InstAt s.heap x ox C od) (hc:clsIn K C=some cd) (ho:T8 cd.mro=true)
  (hg:findIn K (.ref C) "__getattribute__"=some (some (.builtin "BaseException.__getattribute__"))) (hk:findIn K (.ref C) "__getattr__"=some none)
  (hf:findObj K C od name=some (.value v)) (hh:handedIn v=true) (h:Q v { s with toks:=s.toks + 1 }):wpAny (model prog w) A (getAttr (.ref x) name expr) Q E s:=by
 obtain ⟨h0,g,d,t,os⟩:=s;have ne:cd.mro.isEmpty=false:=by
  cases q:cd.mro with
  | cons _ _=>rfl
  | nil=>rw [q] at ho; cases ho
 have isIn:Looks (model prog w) h0 (isInstance (.ref x) (.type "BaseException")) true :=
  I.type.andThen (looks_mroIn X (by unfold mroIn; rw [hc]; simp only [Option.bind_some,ne,Bool.false_eq_true,if_false,A1s ho]))
 have L0:=I.type (M:=model prog w);have L1:=looks_findIn (M:=model prog w) X hg;have L2:=looks_findIn (M:=model prog w) X hk;have L3:=looks_find (M:=model prog w) X I hf;unfold getAttr getAttrBy;refine wpAny_bind (wpAny_mkText (wpAny_holding (wpAny_bind (L0.at (wpAny_bind (L1.at ?_))))));dsimp only;rw [if_neg (by rw [show (Value.builtin "BaseException.__getattribute__" == Value.builtin "object.__getattribute__")=false by ext,Bool.and_false]; decide)];unfold getAttrByItsOwn;have ga:=F.excAttr_ValueError.ga;refine wpAny_bind (L2.at ?_);refine wpAny_bind (wpAny_attempt (wpAny_holding ?_));unfold callGetattribute;rw [if_neg (by cases expr <;> decide)]
 unfold boundAndCalled;rw [ga.bind];refine wpAny_bind (wpAny_pure ?_);dsimp only;refine wpAny_call (codeAny_call_builtin ga.plain F.entry_bexc_ga
  (check_slot (i:="BaseException.__getattribute__") (owner:="BaseException") (n:="__getattribute__") (self:=.ref x) (rest:=[.str name t]) (kw:=[]) (by ext) (by ext) isIn (F.args_bexc_ga (.ref x) (.str name t)) ?_))
 unfold Builtin.«object.__getattribute__»;refine wpAny_bind (wpAny_pure (a:=(Value.ref x,[Value.str name t])) ?_);refine wpAny_bind (wpAny_pure (a:=name) ?_);refine wpAny_bind (L0.at (wpAny_bind (L3.at ?_)));dsimp only;refine wpAny_pure ?_;dsimp only;rw [handedOut_of hh];exact wpAny_pure h
end
section
variable {prog:Program} {w:World} {A:Around} {E:Value->Shared->Prop} {s:Shared} {nm q:Str} {C N:Addr} {bs bm bmB:List Value} {hdct:Bool} {sn:List Str} {sub:List Value} {ab:Bool} {col:Option Bool} {dd:Option Addr} {k0 k1 k2 k3 k5:Option Value} {B newId initId:String}
def C3a (F:ExcBaseFacts B newId initId bmB) (T:OwnTail s.heap bmB bm) {mN:Str->Option Value} {as:List Value} {fI:Addr} {oI:Obj} {Q:Value->Shared->Prop}
  (hC:s.heap.get? C=some (excClassObj nm q C N bs bm hdct sn sub ab col dd k0 k1 k2 k3 k5 newId)) (hn:s.heap.Ns N mN) (hi:mN "__init__"=some (.ref fI))
  (hf:s.heap.get? fI=some oI) (hfc:oI.cls=.type "function") (hl:as.length<=sizeLine)
  (hq:∀ h' e,Heap.MadeExcOf s.heap h' e (.ref C) as ->
   wpAny (model prog w) (A.under (.builtin "type.__call__" ⟨.ref C :: as,[]⟩)) (call (.ref fI) (.ref e :: as)) (fun r s'=>r=.none/\Q (.ref e) s') E { s with heap:=h' }) :
  wpAny (model prog w) A (call (.ref C) as) Q E s:=by
 obtain ⟨h,g,d,t,os⟩:=s;have t1:=tc_lookup;have t2:=tc_bind (.ref C);have hT:(⟨h,g,d,t,os⟩:Shared).TypeIs (.ref C) "type":=⟨_,hC,rfl⟩;refine wpAny_call (codeAny_of_tree ?_);show wpAny _ _ (callAny (.ref C) ⟨as,[]⟩) _ _ _
 repeat (any_goals (first | assumption | with_reducible refine wpAny_loadPart_at hC ?_ | wp_step))
 refine ⟨rfl,codeAny_call_builtin_at (Code.quiet_builtin _ (by ext)) entry_typeCall (wpAny_check_type_call_sub hC ?_)⟩
 repeat (first | with_reducible refine wpAny_loadPart_at hC ?_ | with_reducible refine wpAny_madeBy_exc hC ?_ | wp_step)
 refine codeAny_call_builtin_code (Code.quiet_builtin _ F.quiet) (wpAny_check_new_subT F T hC (codeAny_exc_new_subT F T hC ?_ hl));show wpAny _ _ _ _ _ _
 let h2:=(h.push { cls:=.type "tuple",data:=.seq as.toArray }).push { cls:=.ref C,data:=.fields #[.ref h.objs.size,.none,.none,.none,.bool false,.none] }
 have kp:∀ b o,h.get? b=some o->h2.get? b=some o:=fun b o e=>Heap.get?_push_of_some _ (Heap.get?_push_of_some _ e);have hC2:=kp _ _ hC;have hn2:h2.Ns N mN:=let ⟨o,es,ep,e,r⟩:=hn; ⟨o,es,ep,kp _ _ e,r⟩;have he:h2.get? (h.objs.size + 1)=some { cls:=.ref C,data:=.fields #[.ref h.objs.size,.none,.none,.none,.bool false,.none] }:=by heap_get
 have T2:OwnTail h2 bmB bm:=T.keeps kp;have cc:(Value.ref C :: bm).contains (.ref C)=true:=by simp
 unfold isInstance
 repeat (first | with_reducible refine wpAny_loadPart_at he ?_ | wp_step)
 refine wpAny_isSubtype_exc hC2 ?_;rw [cc]
 repeat wp_step
 show wpAny _ _ (typeLookup (.ref C) _) _ _ _;refine wpAny_typeLookup_tail hC2 hn2 T2 F.mroIs F.init.lookup ?_;rw [hi];refine wpAny_holding (wpAny_bind ?_);unfold bindSpecial;refine wpAny_bind (wpAny_typeOf (T:="function") ⟨_,kp _ _ hf,hfc⟩ ?_);rw [if_pos (by decide)];refine wpAny_pure (wpAny_bind (wpAny_mono (hq h2 (h.objs.size + 1) ⟨kp,Heap.get?_none_of_le (Nat.le_succ _),h.objs.size,he,Heap.get?_none_of_le (Zv _),?_⟩) (fun r s' z=>?_) fun _ _ z=>z))
 ·exact Heap.get?_push_of_some _ (Heap.get?_push_at rfl rfl)
 ·obtain ⟨rfl,z⟩:=z
  wp_walk
  exact z
end
section
variable {P:Program} {w:World} {K:W.Frag} {mg:Str->Option Value} {base:Heap} {A:Around} {outer:List Env} {s:Shared} {H:Hp} {f C e:Addr} {u:Value} {qual nm x fld:Str} {params:Arguments} {scope:Scope} {dV kV doc pm cdv ct oc:Value} {an od:Option Addr} {osl:Array (Option Value)} {N:List Str}
 {p1 p2 p3 p4:Pos} {ob:Obj} {cd:ClassData} {vs:Array Value} {sl:Array (Option Value)} {v:V}
def C23 {R:Result->Shared->Prop} (lk:K.lookup f=some ⟨oc,od,.func (W.fnOf nm qual params [.Assign [.Attribute (.Name "self" p1) fld p2] (.Name x p3) p4] scope dV kV doc pm an cdv ct),osl⟩) (hcd:W.codeIn K cdv qual=true)
  (S:FnScope N ["self",x] scope) (hN0:N[0]?=some ("self":Str)) (hN1:N[1]?=some x) (hv0:Vis scope "self") (hv1:Vis scope x) (hr:Room 1 A) (e0:Env0 P w K mg base A outer s H)
  (hx1:(x == ("__debug__":Str))=false) (hx2:(x == ("__classdict__":Str))=false)
  (hb:BindsTo s (W.fnOf nm qual params [.Assign [.Attribute (.Name "self" p1) fld p2] (.Name x p3) p4] scope dV kV doc pm an cdv ct) ⟨[.ref e,u],[]⟩ [("self",.ref e),(x,u)]) (ru:RelV v u)
  (he:s.heap.get? e=some ⟨.ref C,none,.fields vs,sl⟩) (hne:H e=none) (hfr:e ∉ frs outer)
  (hc:W.clsIn K C=some cd) (hh:cd.hasDict=true) (ho:T8 cd.mro=true) (hs:W.findIn K (.ref C) "__setattr__"=some (some (.builtin "object.__setattr__"))) (ha:W.findIn K (.ref C) fld=some none)
  (hsw:∀ env:Env,swapsWith (.Name x p3) (some (.Attribute (.Name "self" p1) fld p2)) p4.line env=pure false)
  (h:∀ h' d tk g' dr u2,RelV v u2->s.heap.get? d=none->d≠e->h'.get? e=some ⟨.ref C,some d,.fields vs,sl⟩->h'.Ns1 d (fun y=>if y=fld then some u2 else none)->Un (frs outer) [e] H H s.heap h'->HOk P w H h'->AllBare g' ->
   R (.ok (.ret .none)) ⟨h',g',dr,tk,s.os⟩) :
  codeAny (model P w) A (.call (.ref f) ⟨[.ref e,u],[]⟩) R s:=by
 have KX:K.In s.heap:=e0.mod.kin.keeps fun b o e=>(e0.bs b o e).1;have lim:s.heap.NoLimit:=e0.mod.nolimit.keeps fun b o e=>(e0.bs b o e).1;have hkind:∀ y ∈ [(("self":Str),Value.ref e),(x,u)],scope.names.lookup y.1=some .local\/(scope.names.lookup y.1=some .cell/\((cellsFrom (s.heap.objs.size + 1) scope.names []).lookup y.1).isSome=true):=fun ⟨n,z⟩ hy=>by
  have hm:n ∈ [("self":Str),x]:=by
   rcases List.mem_cons.mp hy with q | q
   ·cases q; exact Zy
   ·cases Zn q; exact Zr _ Zy
  rcases S.par n hm with q | q
  ·exact .inl q
  ·exact .inr ⟨q,W.cellsFrom_some _ _ _ (.inl q)⟩
 refine codeAny_call_function hr.depth (KX _ _ lk) rfl S.co S.gen rfl (W.codeRec_of KX hcd) (hb _ _ _ _ ?_);refine wpAny_newFunctionEnv_cells S.kind hkind fun env hE s1 y=>?_;subst hE;refine ⟨lim.keeps y.toInCall.keep,codeAny_func ?_⟩
 let cx:CXT:=fun _ _ _ _ e s'=>R (.error e) s'
 have I:Inv (cxOf cx P w K mg base N qual scope f cdv A outer s H E0) [] (start N [.ref e,v]) H s1:=A12 (ps:=["self",x]) (us:=[.ref e,u]) S hr.hd e0 rfl (.cons rfl (.cons ru .nil)) y;have st0:(start N [V.ref e,v])[0]?=some (some (V.ref e)):=rfl;have st1:(start N [V.ref e,v])[1]?=some (some v):=rfl;refine wpAny_execs_cons ?_;refine plainObj_wpAny_Assign_Attribute ?_ (hsw _);have g1:=Z4 (X:=cxOf cx P w K mg base N qual scope f cdv A outer s H E0) (pos:=p3) hN1 hv1 hx1 hx2 [] s1 _ H (fun z H'=>z=v/\H'=H) I ⟨v,st1,rfl,rfl⟩;refine wpAny_mono g1 (fun u2 s2 z=>?_) (fun _ _ z=>z);obtain ⟨v2,H2,I2,r2,ev,eH⟩:=z;rw [ev] at r2;rw [eH] at I2;have g2:=Z4 (X:=cxOf cx P w K mg base N qual scope f cdv A outer s H E0) (pos:=p1) hN0 hv0 (by decide) (by decide) [] s2 _ H (fun z H2=>z=.ref e/\H2=H) I2 ⟨_,st0,rfl,rfl⟩;refine wpAny_mono g2 (fun u3 s3 z=>?_) (fun _ _ z=>z);obtain ⟨v3,H3,I3,r3,ev3,eH3⟩:=z;rw [ev3] at r3;rw [eH3] at I3;obtain rfl:u3=Value.ref e:=r3;have nx:∀ b:Addr,b ∉ (cxOf cx P w K mg base N qual scope f cdv A outer s H E0).ex:=fun b z=>absurd z (List.not_mem_nil);have he3:s3.heap.get? e=some ⟨.ref C,none,.fields vs,sl⟩:=I3.base.keep e _ he hne hfr (nx e);refine A9l (I3.ok.mod.kin.keeps I3.bk) he3 hc hh ho hs ha fun h' d d1 d2 d3 d4 d5=>wpAny_execs_nil ?_;have os:s3.os=s.os:=I3.os;have dn:s.heap.get? d=none:=by
  cases q:s.heap.get? d with
  | none=>rfl
  | some o =>
   obtain ⟨o',z⟩:=I3.base.there d o q (nx d);rw [d1] at z; cases z
 have lift:∀ b o,b≠e->s3.heap.get? b=some o->h'.get? b=some o:=d5;have un:Un (frs outer) [e] H H s.heap h':={
  keep:=fun b o q n hb hx=>lift b o (fun z=>hx (z ▸ List.mem_singleton.mpr rfl)) (I3.base.keep b o q n hb (nx b))
  slot:=fun b o q n hb hx=>by
   obtain ⟨sl2,z⟩:=I3.base.slot b o q n hb (nx b);exact ⟨sl2,lift b _ (fun z=>hx (z ▸ List.mem_singleton.mpr rfl)) z⟩
  free:=fun b o q n hx=>I3.base.free b o q n (nx b)
  there:=fun b o q hx=>by
   obtain ⟨o',z⟩:=I3.base.there b o q (nx b);exact ⟨o',lift b _ (fun z=>hx (z ▸ List.mem_singleton.mpr rfl)) z⟩
  tups:=I3.base.tups
  frzs:=I3.base.frzs
  tbls:=I3.base.tbls }
 have hok:HOk P w H h':=fun b ob q=>(I3.hok b ob q).stay (fun c u hc z=>lift c u (fun y=>by
  subst y;rcases hc with rfl | hc
  ·rw [hne] at q; cases q
  ·rw [hne] at hc; cases hc) z) (fun _ z=>z) (fun _ _ z=>z)
 obtain ⟨hp,g3,dr3,t3,os3⟩:=s3;show R (.ok (.ret .none)) ⟨h',g3,dr3,t3 + 2,os3⟩;rw [show os3=s.os from os];exact h h' d _ g3 dr3 u2 r2 dn d2 d3 d4 un hok I3.bare
end
section
variable {M:Model} {A:Around} {E:Value->Shared->Prop} {s:Shared} {base:Heap} {env:Env} {outer:List Env} {L e:Addr} {oe:Obj} {cls a0:Value} {Q:Unit->Shared->Prop} {dx:Option Addr}
def DictAt (h:Heap) (e:Addr) (dx:Option Addr):Prop:=∃ o,h.get? e=some o/\o.dict=dx
def DictAt.kept {h h':Heap} (x:DictAt h e dx) (k:KeptD h h'):DictAt h' e dx :=
 let ⟨_,q,d⟩:=x
 let ⟨o',q',_,d'⟩:=k _ _ q
 ⟨o',q',d'.trans d⟩
def A22 (hfr:A.frames=some (env :: outer)) (hf:env.frame=some L) (hl:s.heap.FunFrames base (env :: outer)) (he:s.heap.get? e=some oe) (hd:oe.data=.fields #[a0,.none,.none,.none,.bool false,.none])
  (hkb:base.StaysIn s.heap) (hen:base.get? e=none) (hQ:∀ h',Heap.FlyingW base outer e oe.cls a0 h'->s.heap.UpToSlots h'->DictAt h' e oe.dict->Q () { s with heap:=h' }):wpAny M A (leaving env (.ref e)) Q E s:=by
 have z:wpAny M A (leaving env (.ref e)) (fun _ s'=>∃ h',s'={ s with heap:=h' }/\Heap.FlyingW base outer e oe.cls a0 h'/\s.heap.UpToSlots h') E s:=by
  refine wpAny_leaving_firstW (a0:=a0) hfr hl hf he hkb hen hd rfl rfl fun h' hL=>?_;obtain ⟨k1,⟨_,_,k2⟩,k3,k4⟩:=hL;exact ⟨h',rfl,⟨k1,hen,k2,k3⟩,k4⟩
 refine wpAny_mono (still_leaving.any z) (fun _ s' q=>?_) fun _ _ q=>q.1;obtain ⟨⟨h',rfl,q1,q2⟩,k⟩:=q;exact hQ h' q1 q2 (DictAt.kept ⟨oe,he,rfl⟩ k)
def A5n (hfr:A.frames=some (env :: outer)) (hf:env.frame=some L) (hfl:Heap.FlyingW base (env :: outer) e cls a0 s.heap) (hd:DictAt s.heap e dx)
  (hQ:∀ h',Heap.FlyingW base outer e cls a0 h'->s.heap.UpToSlots h'->DictAt h' e dx->Q () { s with heap:=h' }):wpAny M A (leaving env (.ref e)) Q E s:=by
 have z:wpAny M A (leaving env (.ref e)) (fun _ s'=>∃ h',s'={ s with heap:=h' }/\Heap.FlyingW base outer e cls a0 h'/\s.heap.UpToSlots h') E s :=
  wpAny_leaves_onW hfr hf hfl fun h' q1 q2=>⟨h',rfl,q1,q2⟩
 refine wpAny_mono (still_leaving.any z) (fun _ s' q=>?_) fun _ _ q=>q.1;obtain ⟨⟨h',rfl,q1,q2⟩,k⟩:=q;exact hQ h' q1 q2 (hd.kept k)
def A70 (hfr:A.frames=some (env :: outer)) (hf:env.frame=some L) (hfl:Heap.FlyingW base (env :: outer) e cls a0 s.heap) (hd:DictAt s.heap e dx)
  (hQ:∀ h',Heap.HeldW base (env :: outer) e cls a0 L h'->s.heap.UpToSlots h'->DictAt h' e dx->Q () { s with heap:=h' }):wpAny M A (noteFrame (.ref e) env) Q E s:=by
 have z:wpAny M A (noteFrame (.ref e) env) (fun _ s'=>∃ h',s'={ s with heap:=h' }/\Heap.HeldW base (env :: outer) e cls a0 L h'/\s.heap.UpToSlots h') E s :=
  wpAny_looks_onW hfr hf hfl fun h' q1 q2=>⟨h',rfl,q1,q2⟩
 refine wpAny_mono (still_noteFrame.any z) (fun _ s' q=>?_) fun _ _ q=>q.1;obtain ⟨⟨h',rfl,q1,q2⟩,k⟩:=q;exact hQ h' q1 q2 (hd.kept k)
def C0x {l:List Env} (hh:Heap.HeldW base l e cls a0 L s.heap) (hd:DictAt s.heap e dx)
  (hQ:∀ h',Heap.FlyingW base l e cls a0 h'->s.heap.UpToSlots h'->DictAt h' e dx->Q () { s with heap:=h' }):wpAny M A (setFlight (.ref e) none) Q E s:=by
 have z:wpAny M A (setFlight (.ref e) none) (fun _ s'=>∃ h',s'={ s with heap:=h' }/\Heap.FlyingW base l e cls a0 h'/\s.heap.UpToSlots h') E s :=
  wpAny_landsW hh fun h' q1 q2=>⟨h',rfl,q1,q2⟩
 refine wpAny_mono (still_setFlight.any z) (fun _ s' q=>?_) fun _ _ q=>q.1;obtain ⟨⟨h',rfl,q1,q2⟩,k⟩:=q;exact hQ h' q1 q2 (hd.kept k)
end
def CX2 (P:Program) (w:World):CXT:=fun outer H s E e s'=>∃ (a:Addr) (cls a0:Value) (dx:Option Addr) (H':Hp) (B:Heap),e=.ref a/\Fly P w outer H s s' a cls a0 H' B/\DictAt s'.heap a dx/\E cls dx H'
section
variable {P:Program} {w:World} {K:W.Frag} {mg:Str->Option Value} {base:Heap} {N:List Str} {qual:Str} {scope:Scope} {f:Addr} {cd:Value} {A:Around} {outer:List Env} {s0:Shared} {H0:Hp} {E:XK}
def A87 (X:Cx) (E:XK):Prop:=∀ (pins:List (Addr × Obj)) (σ:St) (H H2:Hp) (s s2:Shared) (e:Addr) (oe:Obj) (a0:Value),Inv X pins σ H s->s2.os=s.os->AllBare s2.gens->s.heap.get? e=none->H2 e=none ->
 s2.heap.get? e=some oe->oe.data=.fields #[a0,.none,.none,.none,.bool false,.none]->Un (frs X.stack) [] H H2 s.heap s2.heap->s2.heap.FunFrames X.base X.stack->(∀ b ∈ frs X.stack,H2 b=none)->HOk X.prog X.w H2 s2.heap->E oe.cls oe.dict H2->X.xe (.ref e) s2
end
section
variable {prog:Program} {w:World} {M:Model} {A:Around} {E:Value->Shared->Prop} {s:Shared} {env:Env} {nm q:Str} {C N:Addr} {bs bm bmB:List Value} {hdct:Bool} {sn:List Str} {sub:List Value} {ab:Bool} {col:Option Bool} {dd:Option Addr} {k0 k1 k2 k3 k5:Option Value} {B newId initId:String}
def A4x {y:Sem Value} {Q:Flow->Shared->Prop} (hbase:bm.contains (.type "BaseException")=true) (hh:A.handled=none)
  (h:wpAny M A y (fun v s1=>∃ e t dx,v=.ref e/\s1.heap.get? C=some (excClassObj nm q C N bs bm hdct sn sub ab col dd k0 k1 k2 k3 k5 newId) /\
   s1.heap.get? e=some { cls:=.ref C,dict:=dx,data:=.fields #[.ref t,.none,.none,.none,.bool false,.none] }/\E (.ref e) s1) E s):wpAny M A (raiseStmt env (some y) none) Q E s:=by
 have cb:(Value.ref C :: bm).contains (.type "BaseException")=true:=by rw [List.contains_cons,hbase,Bool.or_true]
 unfold raiseStmt;refine wpAny_bind (wpAny_mono h (fun v s1 z=>?_) fun _ _ z=>z);obtain ⟨e,t,dx,rfl,hC,he,hE⟩:=z;obtain ⟨hp,g,d,tk,os⟩:=s1
 repeat (first | with_reducible refine wpAny_loadPart_at he ?_ | with_reducible refine wpAny_loadPart_at hC ?_ | (with_reducible refine wpAny_isSubtype_exc hC ?_; rw [cb]) | wp_step)
 exact wpAny_raiseNew_none hh hE
def A2r (F:ExcBaseFacts B newId initId bmB) {mN:Str->Option Value} {x:Str} {np cpos pos:Pos} {args:List Expr} {fI:Addr} {oI:Obj} {Q:Flow->Shared->Prop}
  (hbase:bm.contains (.type "BaseException")=true) (hh:A.handled=none) (hpl:(backTo cpos (starEach args env)).any (·.1)=false) (hi:mN "__init__"=some (.ref fI))
  (h:wpAny (model prog w) A (eval (.Name x np) env) (fun f s1=>f=.ref C/\wpAny (model prog w) A (evalArgs (.ref C) true (backTo cpos (starEach args env)) [])
   (fun a s2=>a.kw=[]/\a.pos.length<=sizeLine/\s2.heap.get? C=some (excClassObj nm q C N bs bm hdct sn sub ab col dd k0 k1 k2 k3 k5 newId)/\s2.heap.Ns N mN/\OwnTail s2.heap bmB bm/\s2.heap.get? fI=some oI/\oI.cls=.type "function" /\
    ∀ h' e,Heap.MadeExcOf s2.heap h' e (.ref C) a.pos->wpAny (model prog w) (A.under (.builtin "type.__call__" ⟨.ref C :: a.pos,[]⟩)) (call (.ref fI) (.ref e :: a.pos)) (fun r s3=>r=.none/\s3.heap.get? C=some (excClassObj nm q C N bs bm hdct sn sub ab col dd k0 k1 k2 k3 k5 newId) /\
     (∃ t dx,s3.heap.get? e=some { cls:=.ref C,dict:=dx,data:=.fields #[.ref t,.none,.none,.none,.bool false,.none] })/\E (.ref e) s3) E { s2 with heap:=h' }) E s1) E s) :
  wpAny (model prog w) A (exec (.Raise (some (.Call (.Name x np) args [] cpos)) none pos) env) Q E s:=by
 rw [arm_exec_Raise];simp only [evalOpt,Option.map];refine wpAny_bind (wpAny_standAt (A4x (C:=C) (nm:=nm) (q:=q) (N:=N) (bs:=bs) (bm:=bm) (hdct:=hdct) (sn:=sn) (sub:=sub) (ab:=ab) (col:=col) (dd:=dd) (k0:=k0) (k1:=k1) (k2:=k2) (k3:=k3) (k5:=k5) (newId:=newId) hbase hh ?_));refine wpAny_bind (wpAny_mono (wpAny_Call_ofName (wpAny_mono h (fun f s1 z=>?_) fun _ _ z=>z)) (fun v s3 z=>wpAny_bind (wpAny_standAt (wpAny_pure z))) fun _ _ z=>z);obtain ⟨rfl,z⟩:=z;unfold callWith;refine wpAny_bind (wpAny_holding (wpAny_mono z (fun a s2 y=>wpAny_bind (wpAny_standAt ?_)) fun _ _ y=>y));obtain ⟨ap,ak⟩:=a;obtain ⟨hk,hl,hC,hn,T,hf,hfc,y⟩:=y;obtain rfl:ak=[]:=hk;obtain ⟨hp,g,d,tk,os⟩:=s2;simp only [hpl];refine wpAny_bind (wpAny_keeperOf_exc hC ?_);refine wpAny_bind (C3a F T hC hn hi hf hfc hl fun h' e hm=>wpAny_mono (y h' e hm) (fun r s3 u=>⟨u.1,wpAny_bind (wpAny_holding (wpAny_point (wpAny_pure ?_)))⟩) fun _ _ u=>u);obtain ⟨_,u1,⟨t,dx,u2⟩,u3⟩:=u;exact ⟨e,t,dx,rfl,u1,u2,u3⟩
end
def A4h (K:W.Frag) (C:Addr) (nid:String) (fI:Addr):Bool:=match K.lookup C with
 | some ⟨.type "type",_,.cls cd,sl⟩=>(match cd.mro,sl.toList with
  | .ref C1 :: bm,[_,_,_,_,some (.builtin n),_]=>(C1 == C && n == nid && !cd.hasDel) && (W.tailIn K A52 bm && W.nsOkIn K cd.ns && cd.hasDict) && T8 cd.mro && W.nsIn K cd.ns "__init__" == some (some (.ref fI))
  | _,_=>false)
 | _=>false
def C0m {K:W.Frag} {h:Heap} {N:Addr} {m:Str->Option Value} {n:Str} {v:Value} (X:K.In h) (G:h.Ns N m) (e:W.nsIn K N n=some (some v)):m n=some v:=by
 obtain ⟨o,es,ep,ho,hd,_,hf⟩:=G;unfold W.nsIn at e;split at e
 ·rename_i c d es2 n2 sl q;have z:=X _ _ q;rw [ho] at z;cases z;cases hd;split at e
  ·rename_i en he;cases e;rw [<- hf];unfold nsFind findBy;rw [<- Array.find?_toList,he];rfl
  ·split at e <;> cases e
 ·cases e
def exoI {K:W.Frag} {h:Heap} {C fI:Addr} {nid:String} (X:K.In h) (q:A4h K C nid fI=true):∃ bm N nm qn bs hd sn sub ab col dd k0 k1 k2 k3 k5 mN cd,
  h.get? C=some (excClassObj nm qn C N bs bm hd sn sub ab col dd k0 k1 k2 k3 k5 nid)/\h.Ns N mN/\mN "__init__"=some (.ref fI)/\OwnTail h A52 bm/\W.clsIn K C=some cd/\cd.hasDict=true/\T8 cd.mro=true:=by
 unfold A4h at q;split at q
 ·rename_i dd cd sl ho;split at q
  ·rename_i C1 bm k0 k1 k2 k3 n k5 e1 e2;simp only [Bool.and_eq_true,beq_iff_eq,Bool.not_eq_true'] at q;obtain ⟨⟨⟨⟨⟨q1,q2⟩,q3⟩,⟨q4,q5⟩,q7⟩,q8⟩,q6⟩:=q;subst q1 q2;have hcl:W.clsIn K C1=some cd:=by unfold W.clsIn; rw [ho]
   have ns:=PySem.Heap.Ns.of_isNs (W.isNs_of_in X q5);have mi:h.nsMap cd.ns "__init__"=some (.ref fI):=C0m X ns q6;have e3:sl=#[k0,k1,k2,k3,some (.builtin n),k5]:=by cases sl; simp only at e2; rw [e2]
   obtain ⟨nm,bs,mro,nsA,qn,hd,sn,sub,ab,col,del⟩:=cd;simp only at e1 q3 ns mi;subst e3 e1 q3;exact ⟨bm,nsA,nm,qn,bs,hd,sn,sub,ab,col,dd,k0,k1,k2,k3,k5,_,_,X _ _ ho,ns,mi,W.tail_of_in X q4,hcl,q7,q8⟩
  ·cases q
 ·cases q
end L2
namespace L2
open PySem PySem.Spec PyProof.Rows
def B24 (te:TE) (R:V->Hp->Prop):TS:=fun _ σ H=>F7 te tNil σ H fun vs H1=>∃ v,vs=[v]/\R v H1
structure InitX (K:W.Frag) (C fI:Addr) (fld y qual:Str) (st:Stmt) (fd:FuncData) (N:List Str):Prop where
 F:Fun K "__init__" qual st fI fd
 fc:(K.lookup fI).map (·.cls)=some (.type "function")
 ex:A4h K C "ValueError.__new__" fI=true
 sa:W.findIn K (.ref C) "__setattr__"=some (some (.builtin "object.__setattr__"))
 nf:W.findIn K (.ref C) fld=some none
 sc:FnScope N ["self",y] (A7 st)
 b:Binds K fd ["self",y] []
 n0:N[0]?=some ("self":Str)
 n1:N[1]?=some y
 v0:Vis (A7 st) "self"
 v1:Vis (A7 st) y
 d1:(y == ("__debug__":Str))=false
 d2:(y == ("__classdict__":Str))=false
 body:∃ p1 p2 p3 p4,F6 st=[.Assign [.Attribute (.Name "self" p1) fld p2] (.Name y p3) p4]/\∀ env:Env,swapsWith (.Name y p3) (some (.Attribute (.Name "self" p1) fld p2)) p4.line env=pure false
section
variable {X:Cx} {E:XK} {x fld y qual:Str} {st:Stmt} {C fI:Addr} {fd:FuncData} {N:List Str} {pos np cpos:Pos} {e:Expr} {te:TE}
def A6v {R:V->Hp->Prop} (hR:∀ v H1,R v H1->∀ d,H1 d=none->E (.ref C) (some d) (upd H1 d (.xd [(fld,v)]))) (J:InitX X.K C fI fld y qual st fd N) (hT:A87 X E) (hc:X.calm=true) (hr:Room 2 X.A) (hg:Gl X x) (hm:X.mg x=some (.ref C)) (he:PE X e te)
  (hd:(x == ("__debug__":Str))=false:=by decide) (hpl:(backTo cpos (starEach [e] X.env)).any (·.1)=false:=by rfl) (hse:starEach [e] X.env=(false,eval e X.env) :: starEach [] X.env:=by rfl) :
  PS X (.Raise (some (.Call (.Name x np) [e] [] cpos)) none pos) (B24 te R):=by
 intro pins s σ H D I h;obtain ⟨bm,Nc,nm,qn,bs,hd',sn,sub,ab,col,dd,k0,k1,k2,k3,k5,mN,cd,h1,h2,h3,h4,h5,h6,h7⟩:=exoI I.ok.mod.kin J.ex;obtain ⟨oc,od,kV,doc,pm,an,cdv,ct,osl,hfd,lk,hcd⟩:=J.F.ex;obtain ⟨p1,p2,p3,p4,hbody,hsw⟩:=J.body;rw [hbody] at hfd;have hB:Binds X.K fd ["self",y] []:=J.b;subst hfd;have hbase:bm.contains (.type "BaseException")=true:=h4.hasType (by rfl);refine A2r (nm:=nm) (q:=qn) (N:=Nc) (bs:=bs) (hdct:=hd') (sn:=sn) (sub:=sub) (ab:=ab) (col:=col) (dd:=dd) (k0:=k0) (k1:=k1) (k2:=k2) (k3:=k3) (k5:=k5) (oI:=⟨oc,od,.func (W.fnOf "__init__" qual (J2 st) [.Assign [.Attribute (.Name "self" p1) fld p2] (.Name y p3) p4] (A7 st) .none kV doc pm an cdv ct),osl⟩) F.excBase_ValueError hbase (I.ok.hd hc) hpl h3 (R3 I hg hm ⟨rfl,?_⟩ hd);have P0:=(pa_cons he pa_nil hse:PA X [e] _) cpos pins s σ H (fun vs H1=>∃ v,vs=[v]/\R v H1) I h;obtain ⟨tt,rr,hbk⟩:∃ t r,backTo cpos (starEach [e] X.env)=(false,t) :: r:=by rw [hse]; exact ⟨_,_,rfl⟩
 rw [hbk] at P0 ⊢;refine Calls.evalArgs_plain (thn P0 fun us s2 hA=>?_);obtain ⟨vs,H1,I1,r,v,rfl,q⟩:=hA;obtain ⟨u,rfl,ru⟩:=A2n r;have fcl:oc=.type "function":=by
  have:=J.fc;rw [lk] at this;exact Zj this
 refine ⟨rfl,by show 1<=sizeLine; rw [sizeLine_eq]; decide,I1.bk _ _ h1,h2.keeps I1.bk,h4.keeps I1.bk,I1.kIn _ _ lk,fcl,fun h' e made=>?_⟩;obtain ⟨kp,en,t,he',_,_⟩:=made;have I2:Inv X pins σ H1 { s2 with heap:=h' }:=I1.kept (t':=s2.toks) kp;have e2n:H1 e=none:=by
  cases z:H1 e with
  | none=>rfl
  | some o =>
   obtain ⟨ob,zz⟩:=A35 (I1.hok e o z);rw [en] at zz; cases zz
 have enf:e ∉ frs X.stack:=fun z=>by
  obtain ⟨_,o',ho,_⟩:=I1.stack.mem z;rw [en] at ho; cases ho
 refine wpAny_call (C23 (v:=v) (x:=y) (H:=H1) (outer:=X.stack) lk hcd J.sc J.n0 J.n1 J.v0 J.v1 (hr.make C [u] []) (I2.env0.make C [u] []) J.d1 J.d2 (hB _ [.ref e,u] I2.kIn rfl) ru he' e2n enf h5 h6 h7 J.sa J.nf hsw fun h2' d tk g' dr u2 ru2 dn dne he2 ns un hok bare=>?_);have dn1:s2.heap.get? d=none:=by
  cases z:s2.heap.get? d with
  | none=>rfl
  | some o=>have:=kp d o z; rw [show h'.get? d=none from dn] at this; cases this
 have Hd:H1 d=none:=by
  cases z:H1 d with
  | none=>rfl
  | some o =>
   obtain ⟨ob,zz⟩:=A35 (I1.hok d o z);rw [dn1] at zz; cases zz
 have ub:∀ b,b≠d->upd H1 d (.xd [(fld,v)]) b=H1 b:=fun b z=>C4 z;have nd:∀ b o,s2.heap.get? b=some o->b≠d:=fun b o z y=>by rw [y,dn1] at z; cases z
 have ne:∀ b o,s2.heap.get? b=some o->b ∉ [e]:=fun b o z y=>by
  rw [Zn y,en] at z; cases z
 have un2:Un (frs X.stack) [] H1 (upd H1 d (.xd [(fld,v)])) s2.heap h2':={
  keep:=fun b o z n hb _=>un.keep b o (kp b o z) n hb (ne b o z)
  slot:=fun b o z n hb _=>un.slot b o (kp b o z) n hb (ne b o z)
  free:=fun b o z n _=>(ub b (nd b o z)).trans n
  there:=fun b o z _=>un.there b o (kp b o z) (ne b o z)
  tups:=fun b xs z=>(ub b fun y=>by rw [y,Hd] at z; cases z).trans z
  frzs:=fun b o u z=>(ub b fun y=>by rw [y,Hd] at z; cases z).trans z
  tbls:=fun b ps z=>⟨#[],by rw [Array.append_empty]; exact (ub b fun y=>by rw [y,Hd] at z; cases z).trans z⟩ }
 have hok2:HOk X.prog X.w (upd H1 d (.xd [(fld,v)])) h2':=fun b ob z=>by
  by_cases y:b=d
  ·subst y;rw [B7] at z; cases z;refine ⟨_,ns,fun f=>?_⟩;by_cases ef:f=fld
   ·subst ef;rw [if_pos rfl];have:List.lookup f [(f,v)]=some v:=by simp [List.lookup]
    rw [this]; exact ru2
   ·rw [if_neg ef];have:List.lookup f [(fld,v)]=none:=by
     have z:(f == fld)=false:=beq_eq_false_iff_ne.mpr ef;simp [List.lookup,z]
    rw [this]; exact True.intro
  ·rw [ub b y] at z;exact (hok b ob z).stay (fun _ _ _ z=>z) (fun c z=>(ub c fun y=>by rw [y,Hd] at z; cases z).trans z) fun c xs z=>(ub c fun y=>by rw [y,Hd] at z; cases z).trans z
 have I3:Inv X pins σ (upd H1 d (.xd [(fld,v)])) ⟨h2',g',dr,tk,s2.os⟩:=I1.call' (ch:=[]) rfl un2 hok2 bare fun b z=>absurd z List.not_mem_nil;refine ⟨rfl,I3.bk _ _ h1,⟨t,some d,he2⟩,?_⟩;exact hT pins σ H1 _ s2 ⟨h2',g',dr,tk,s2.os⟩ e _ _ I1 rfl bare en ((ub e fun z=>dne z.symm).trans e2n) he2 rfl un2 I3.stack I3.stkFree hok2 (hR v H1 q d Hd)
end
abbrev TH:=Value->Option Addr->Ends->St->Hp->Prop
structure QH (X:Cx) (hs:List ExceptHandler) (hx:TH):Prop where
 out:∀ (pins:List (Addr × Obj)) (s0 s:Shared) (σ:St) (H H':Hp) (D:Ends) (a:Addr) (cls a0:Value) (dx:Option Addr) (B:Heap),Inv X pins σ H s0->Fly X.prog X.w X.stack H s0 s a cls a0 H' B->DictAt s.heap a dx->hx cls dx D σ H' ->
  wpAny (model X.prog X.w) X.A (handleBy (.ref a) X.env hs) (SP X pins D) X.xe s
def hOr (h1 h2:TH):TH:=fun cls dx D σ H=>h1 cls dx D σ H\/h2 cls dx D σ H
def C27 (C:Addr) (i:Nat) (tsu:Addr->Option Addr->TS):TH:=fun cls dx D σ H=>cls=.ref C/\∀ a,i < σ.length->tsu a dx { nx:=fun σ' H'=>D.nx (σ'.set i none) H',rt:=D.rt } (σ.set i (some (.ref a))) H
def C28 (C:Addr) (h:TH):TH:=fun cls dx D σ H=>cls=.ref C/\h cls dx D σ H
section
variable {X:Cx} {hs:List ExceptHandler}
def C2e {h1 h2:TH} (a:QH X hs h1) (b:QH X hs h2):QH X hs (hOr h1 h2):=⟨fun pins s0 s σ H H' D e cls a0 dx B I F d q=>q.elim (a.out pins s0 s σ H H' D e cls a0 dx B I F d) (b.out pins s0 s σ H H' D e cls a0 dx B I F d)⟩
variable {C CH:Addr} {xh n:Str} {pos pos2:Pos} {b0:Stmt} {suite:List Stmt} {rest:List ExceptHandler} {nm:Option Str} {bd:List Stmt}
def B3q {h:TH} (hgh:Gl X xh) (hmh:X.mg xh=some (.ref CH)) (hx:W.exmOne X.K (.ref C) (.ref CH)=some false) (hr:QH X rest h) (hdb2:(xh == ("__debug__":Str))=false:=by decide) :
  QH X (.ExceptHandler (some (.Name xh pos)) nm bd pos2 :: rest) (C28 C h):=⟨by
 intro pins s0 s σ H H' D a cls a0 dx B I F d ⟨ec,q⟩;subst ec;obtain ⟨oe,e1,e2,IH⟩:=F.hold I;refine wpAny_handleBy_cons (codeAny_handlers_test ?_) (fun z=>by cases z);refine R3 (X:=X.held a oe) IH hgh hmh ?_ hdb2;refine (W.exm_one IH.kIn (ExAt.ty ⟨oe,e1,e2⟩) hx).at ?_;exact hr.out pins s0 _ σ H H' D a (.ref C) a0 dx B I ⟨F.os,F.bare,F.fly,F.hok,F.keep,F.slot,F.free,F.there,F.tups,F.frzs,F.tbls⟩ d q⟩
def A6q {i:Nat} {tsu:Addr->Option Addr->TS} (hgh:Gl X xh) (hmh:X.mg xh=some (.ref CH)) (hx:W.exmOne X.K (.ref C) (.ref CH)=some true) (hN:X.N.Nodup) (hi:X.N[i]?=some n) (hl:X.env.scope.names.lookup n=some .local)
  (hsu:∀ a oe,oe.cls=.ref C->W.notCls oe=true->QSs (X.held a oe) (b0 :: suite) (tsu a oe.dict)) (hdb2:(xh == ("__debug__":Str))=false:=by decide) :
  QH X (.ExceptHandler (some (.Name xh pos)) (some n) (b0 :: suite) pos2 :: rest) (C27 C i tsu):=⟨by
 intro pins s0 s σ H H' D a cls a0 dx B I F d ⟨ec,q⟩;subst ec;obtain ⟨oe,e1,e2,IH⟩:=F.hold I;refine wpAny_handleBy_cons (codeAny_handlers_test ?_) (fun z=>by cases z);refine R3 (X:=X.held a oe) IH hgh hmh ?_ hdb2;refine (W.exm_one IH.kIn (ExAt.ty ⟨oe,e1,e2⟩) hx).at ?_;show codeAny _ _ _ _ _;refine codeAny_handlers_suite_as ?_;have z:=fun E=>(still_setFlight.any (M:=model X.prog X.w) (A:=X.A.mark (some (.ref a))) (Q:=fun _ s'=>∃ h',s'={ s with heap:=h' }/\Heap.FlyingW B X.stack a (.ref C) a0 h'/\∀ b o,s.heap.get? b=some o->(∀ vs,o.data≠.fields vs)->h'.get? b=some o) (E:=E)
  (wpAny_setFlight_noneW F.fly.1 F.fly.2.2.1 F.fly.2.2.2.at fun h3 k1 k2 k3 k4=>⟨h3,rfl,⟨k1,F.fly.2.1,k2,k3⟩,k4⟩))
 refine wpAny_mono (z _) (fun _ s' qq=>?_) fun _ _ z=>z.1;obtain ⟨⟨h3,rfl,kf,k4⟩,kd⟩:=qq;have F3:Fly X.prog X.w X.stack H s0 { s with heap:=h3 } a (.ref C) a0 H' B:=by
  have F0:Fly X.prog X.w X.stack H s0 s a (.ref C) a0 H' B:=F;exact F0.step (h':=h3) kf fun b o e n=>⟨o.slots,k4 b o e n⟩
 have D3:DictAt h3 a dx:=d.kept kd;obtain ⟨oe3,e31,e32,IH3⟩:=F3.hold I;obtain ⟨oe4,vs4,f1,_,f3,_⟩:=F3.fly.first;have:oe4=oe3:=by rw [e31] at f1; exact (Zj f1).symm
 subst this;have nc:W.notCls oe4=true:=by unfold W.notCls; rw [f3]
 obtain ⟨oe5,g1,g2⟩:=D3;have:oe5=oe4:=by rw [show h3.get? a=some oe4 from e31] at g1; exact (Zj g1).symm
 subst this;subst g2;refine L8 (X:=X.held a oe5) IH3 hN hi (.inl hl) (show RelV (.ref a) (.ref a) from rfl) (fun s4 I4=>?_) (.inr hl);refine wpAny_mono ((hsu a oe5 e32 nc).out pins s4 _ _ { nx:=fun σ' H'=>D.nx (σ'.set i none) H',rt:=D.rt } I4 (q a (by rw [I.len]; exact (Zs hi).1))) (fun fl s5 hs=>?_) fun _ _ z=>False.elim z;cases fl with
 | next =>
  obtain ⟨σ5,H5,I5,q5⟩:=hs;exact A8g (I5.loose I.ok) hN hi hl fun s6 I6=>⟨_,_,I6,q5⟩
 | brk=>obtain ⟨_,_,_,q⟩:=hs; exact q.elim
 | cont=>obtain ⟨_,_,_,q⟩:=hs; exact q.elim
 | ret u =>
  obtain ⟨v,σ5,H5,I5,r5,q5⟩:=hs;exact A8g (I5.loose I.ok) hN hi hl fun s6 I6=>⟨v,_,_,I6,r5,q5⟩⟩
variable {k:Nat} {f:Addr} {fd:FuncData} {ps:List Str} {sp:Sp} {x:Str} {p pos5:Pos} {e:Expr} {es:List Expr} {t:TA} {h0:ExceptHandler}
end
def plainV:V->Prop
 | .int _=>True
 | .str _=>True
 | .non=>True
 | .bl _=>True
 | .ref _=>True
 | _=>False
def plainV.hand {v:V} {u:Value} (h:plainV v) (r:RelV v u):W.handedIn u=true:=by
 cases v with
 | int i=>obtain ⟨t,rfl⟩:=r; rfl
 | str i=>obtain ⟨t,rfl⟩:=r; rfl
 | non=>cases (show u=Value.none from r); rfl
 | bl b=>cases (show u=Value.bool b from r); rfl
 | ref a=>cases (show u=Value.ref a from r); rfl
 | _=>exact h.elim
def tHF (i:Nat) (a:Addr) (dx:Option Addr) (fld:Str):TE:=fun σ H Q=>σ[i]?=some (some (.ref a))/\∃ d v,dx=some d/\H d=some (.xd [(fld,v)])/\plainV v/\Q v H
section
variable {X:Cx} {C fI a:Addr} {fld y qual n:Str} {st:Stmt} {fd:FuncData} {N:List Str} {oe:Obj} {i:Nat} {pos p1:Pos}
def B8c (J:InitX X.K C fI fld y qual st fd N) (xc:ExC X.K C) (e:oe.cls=.ref C) (nc:W.notCls oe=true) (hi:X.N[i]?=some n) (hl:Vis X.env.scope n)
  (hd:(n == ("__debug__":Str))=false:=by decide) (hcd:(n == ("__classdict__":Str))=false:=by decide) (hb:attributeBase (.Name n p1) fld X.env (eval (.Name n p1) X.env)=eval (.Name n p1) X.env:=by rfl) :
  QE (X.held a oe) (.Attribute (.Name n p1) fld pos) (tHF i a oe.dict fld):=⟨by
 intro pins s σ H Q I ⟨g,d,v,ed,hH,pl,q⟩;refine B7g hb (thn (Z4 (X:=X.held a oe) hi hl hd hcd pins s σ H (fun z H'=>z=.ref a/\H'=H) I ⟨_,g,rfl,rfl⟩) fun u s1 ⟨x,H1,I1,rx,ex,eH⟩=>?_);subst ex eH;obtain rfl:u=Value.ref a:=rx;obtain ⟨bm,Nc,nm,qn,bs,hd',sn,sub,ab,col,dd,k0,k1,k2,k3,k5,mN,cd,_,_,_,_,h5,h6,h7⟩:=exoI I1.ok.mod.kin J.ex;obtain ⟨mA,ns,rel⟩:=(show ∃ mA,s1.heap.Ns1 d mA/\∀ f,RelO (List.lookup f [(fld,v)]) (mA f) from I1.hok d _ hH);obtain ⟨od,hod,look⟩:=A71 ns;have hlk:List.lookup fld [(fld,v)]=some v:=by simp [List.lookup]
 have rf:=rel fld;rw [hlk] at rf;cases em:mA fld with
 | none=>rw [em] at rf; exact rf.elim
 | some u =>
  rw [em] at rf;have ru:RelV v u:=rf;have hx:=(I1.pin (a,oe) (Zt _ Zy)).1;have IA:W.InstAt s1.heap a oe C (some od):=⟨hx,e,nc,by rw [ed]; exact hod⟩;refine getx (name:=fld) (v:=u) I1.kIn IA h5 h7 xc.k.ga xc.k.gn (W.findObj_own xc.hd J.nf rfl (by rw [look,em])) (pl.hand ru) ?_;exact ⟨v,H1,I1.tok _,ru,q⟩⟩
end
section
variable {X:Cx} {i:Nat} {a:Addr} {b:Bool}
def B2m {e:Expr} {pos:Pos} {d:Bool} (h:KE X i a e b) (hd:(!b)=d:=by rfl):KE X i a (.UnaryOp .Not e pos) d:=by
 subst hd;exact ⟨A7b (B17 h.out) fun σ H Q q=>⟨q.1,fun H3 z=>⟨b,rfl,q.2 H3 z⟩⟩⟩
end
end L2
namespace Pu
open PySem PySem.Spec PyProof.Rows L2 My Prf
def spE2 (K:Frag) (md:List Md) (C:Addr) (fld:Str) (psp:List SV->PyData->Prop):Sp:=fun vs H _ E=>∃ (w:Wd) (as:List SV) (x:PyData),w.H=H/\w.Ok/\Args K w md vs as/\psp as x/\∀ w' d v,w'.Ok->Le w w'->w'.H d=some (.xd [(fld,v)])->Den K w'.F v x->E (.ref C) (some d) w'.H
theorem spE2.len {K:Frag} {md:List Md} {C:Addr} {fld:Str} {psp:List SV->PyData->Prop} {n:Nat} (h:md.length=n):∀ vs H Q E,spE2 K md C fld psp vs H Q E->vs.length=n:=by
 rintro vs H Q E ⟨w,as,_,_,_,a,_⟩;exact a.len.trans h
def A3j (K:Frag) (w0:Wd) (te:TE) (fld:Str) (x:PyData):TS:=fun _ σ H=>F7 te tNil σ H fun vs H1=>∃ v,vs=[v]/\∀ d,H1 d=none->∃ w',w'.H=upd H1 d (.xd [(fld,v)])/\w'.Ok/\Le w0 w'/\Den K w'.F v x
def B4r (pd:PDt) (x:PyData):PSt:=fun _ env=>pd env fun y _=>y=x
instance rsx_raiseI {K:Frag} {w0:Wd} {te:TE} {fld:Str} {x:PyData} {pd:PDt} [hd:RD K te pd]:RSX K w0 (A3j K w0 te fld x) (B4r pd x) where
 ok:=by
  rintro c w env σ Dp D rfl rfl E h p;refine hd.ok c w env σ _ _ rfl E p fun v y e1 w1 E1 l1 v1 q1=>?_;subst q1;exact ⟨v,rfl,fun d hn=>⟨w1.lay d (.xd [(fld,v)]),rfl,Wd.lay_ok E1.wok hn,E1.le0.trans (Wd.lay_le hn),v1⟩⟩
def okx2 {P:Program} {w:World} {K:W.Frag} {mg:Str->Option Value} {base:Heap} {x qual:Str} {st:Stmt} {f:Addr} {fd:FuncData} {N ps:List Str} {k:Nat} {md:List Md} {C:Addr} {fld:Str} {psp:List SV->PyData->Prop} {ts:Wd->PyData->TS} {pst:PyData->PSt} (F:L2.Fun K x qual st f fd) (S:FnScope N ps (A7 st)) (hm:md.length=ps.length)
  (hbody:∀ (cdv:Value) (A:Around) (outer:List Env) (s:Shared) (H:Hpp) (E:XK) (w0:Wd) (y:PyData),Room k (A.deeper (envOfC qual (A7 st) s.heap.objs.size f cdv))->(∀ w' d v,w'.Ok->Le w0 w'->w'.H d=some (.xd [(fld,v)])->Den K w'.F v y->E (.ref C) (some d) w'.H) ->
   PSs (cxOf (CX2 P w) P w K mg base N qual (A7 st) f cdv A outer s H E) (F6 st) (ts w0 y))
  (hs:∀ w0 y,RSX K w0 (ts w0 y) (pst y)) (hb:∀ as y,psp as y->pst y ⟨fun _=>False,fun _ _=>False,fun _=>False,fun _=>False⟩ (as.map some++List.replicate (N.length - md.length) none)):FnOk P w K mg base (CX2 P w) (k + 1) f fd ps (spE2 K md C fld psp):=by
 obtain ⟨oc,od,kV,doc,pm,an,cdv,ct,osl,rfl,lk,hcd⟩:=F.ex;refine B6z lk hcd S (spE2.len hm) fun A outer s H vs Q E hr ⟨w0,as,y,e,ok,a,p,kk⟩=>?_;refine ⟨_,hbody cdv A outer s H E w0 y hr kk,?_⟩;subst e
 haveI:=hs w0 y
 exact C1u ok a (hb as y p)
end Pu
namespace L2
open PySem PySem.Spec PyProof.Rows
def A4d {K:W.Frag} {C fI:Addr} {fld y qual:Str} {st:Stmt} {fd:FuncData} {N:List Str} (F:Fun K "__init__" qual st fI fd) (S:FnScope N ["self",y] (A7 st)) (fc:(K.lookup fI).map (·.cls)=some (.type "function")) (ex:A4h K C "ValueError.__new__" fI=true)
  (sa:W.findIn K (.ref C) "__setattr__"=some (some (.builtin "object.__setattr__"))) (nf:W.findIn K (.ref C) fld=some none) (body:∃ p1 p2 p3 p4,F6 st=[.Assign [.Attribute (.Name "self" p1) fld p2] (.Name y p3) p4]/\∀ env:Env,swapsWith (.Name y p3) (some (.Attribute (.Name "self" p1) fld p2)) p4.line env=pure false)
  (bd:∀ (kV doc pm:Value) (an:Option Addr) (cdv ct:Value) (us:List Value),us.length=2->bindArgs (W.fnOf "__init__" qual (J2 st) (F6 st) (A7 st) .none kV doc pm an cdv ct) ⟨us,[]⟩=pure (List.zip [("self":Str),y] us):=by exact fun _ _ _ _ _ _ us hl=>by obtain ⟨_,_,rfl⟩:=us2 hl; rfl)
  (n0:N[0]?=some ("self":Str):=by rfl) (n1:N[1]?=some y:=by rfl) (v0:Vis (A7 st) "self":=by exact Or.inl rfl) (v1:Vis (A7 st) y:=by exact Or.inl rfl) (d1:(y == ("__debug__":Str))=false:=by decide) (d2:(y == ("__classdict__":Str))=false:=by decide):InitX K C fI fld y qual st fd N :=
 ⟨F,fc,ex,sa,nf,S,F.binds bd,n0,n1,v0,v1,d1,d2,body⟩
variable {X:Cx} {e:Expr}
end L2
namespace Pu
open PySem L2 My Prf
def OT.ls:OT->Option (List OT)
 | .nil=>some []
 | .cons h t=>t.ls.map (h :: ·)
 | _=>none
def OT.tl:OT->Option (List OT)
 | .nd false _ k=>k.ls
 | .leaf (.tuple xs)=>some (xs.map .leaf)
 | _=>none
class RGO (K:Frag) (g:TG) (pg:outParam (OT->PEnv->(PEnv->Prop)->Prop)):Prop where
 ok:∀ (c:Ct) (w:Wd) (env:PEnv) (σ:St) (v:V) (x:OT) (Qp:PEnv->Prop) (Q:St->Hpp->Prop),c.K=K->EnvOk c w env σ->VR c w v (.bt x)->pg x env Qp->(∀ env' σ',EnvOk c w env' σ'->Qp env'->Q σ' w.H)->g v σ w.H Q
def WalkO (c:Ct) (w1:Wd) (J:It) (xs:List OT):Prop :=
 ∀ w',w'.Ok->Le c.w0 w'->Same w1.F w'.F->(∀ i,i < xs.length->J.go i w'.H)/\J.stop xs.length w'.H/\∀ i v H',J.yld i w'.H v H'->i < xs.length->∃ w2 x,w2.H=H'/\w2.Ok/\Le w' w2/\xs[i]?=some x/\VR c w2 v (.bt x)
def A1r (xs:List OT) (pg:OT->PEnv->(PEnv->Prop)->Prop) (pt:PTt) (pe:PX) (e0:PEnv) (Fin:List OT->Prop):Prop :=
 ∃ Pv:Nat->PEnv->List OT->Prop,Pv 0 e0 []/\(∀ i x e ys,xs[i]?=some x->Pv i e ys->pg x e fun e2=>pt e2 fun b e3=>if b=true then pe e3 fun s e4=>s.ot fun t=>Pv (i + 1) e4 (ys++[t]) else Pv (i + 1) e3 ys)/\∀ e ys,Pv xs.length e ys->Fin ys
def A8s {K:Frag} {g:TG} {tt:TT} {te:TE} {pg:OT->PEnv->(PEnv->Prop)->Prop} {pt:PTt} {pe:PX} [hg:RGO K g pg] [ht:RT K tt pt] [he:RE K te pe] {c:Ct} {w:Wd} {env:PEnv} {σ:St} {J:It} {xs:List OT} {cap:List (Option Nat)} {D:Addr} {Fp:List OT->Prop} {Fin:Hpp->Prop}
  (hK:c.K=K) (E:EnvOk c w env σ) (wk:WalkO ⟨c.K,w,c.Z⟩ w J xs) (hn:xs.length < 1000000) (p:A1r xs pg pt pe (L5 cap env) Fp) (hD:w.H D=none) (k:∀ w' ts,Res c w env σ w' (.ref D) (.tr (.nd true D (kids ts)))->Fp ts->Fin w'.H):A18 J g tt te D Fin (capσ cap σ) w.H:=by
 subst hK;obtain ⟨Pv,p0,step,fin⟩:=p;refine ⟨fun i m σ' H' vs=>m=xs.length - i/\i<=xs.length/\∃ e w' ts,w'.H=H'/\EnvOk ⟨c.K,w,fun a=>a=D\/a ∈ (kids ts).fp⟩ w' e σ'/\w'.H D=some (.lst vs)/\vs.length<=i/\Tre c.K w' (kids ts) vs/\(∀ a ∈ (kids ts).fp,w.H a=none/\a≠D)/\(kids ts).fp.Nodup/\Pv i e ts,
  ⟨xs.length,rfl,Nat.zero_le _,L5 cap env,w.lay D (.lst []),[],rfl,?_,B7,Zv _,rfl,(fun a z=>nomatch z),List.nodup_nil,p0⟩,?_⟩
 ·have E0:=E.cap cap hD;exact ⟨E0.wok,E0.le0,E0.len,fun i s q=>let ⟨v,h1,h2⟩:=E0.at' i s q; ⟨v,h1,h2.reZ⟩,E0.own,fun a z=>z.elim (E0.zf a) fun z=>(nomatch z),fun a j t u z=>z.elim (E0.zo a j t u) fun z=>(nomatch z)⟩
 rintro i m σ1 _ vs ⟨rfl,hle,e1,w1,ts,rfl,E1,h1,hvl,d1,fr,nd,q1⟩;refine ⟨h1,Y7 (by omega),?_⟩;obtain ⟨go,stop,yld⟩:=wk w1 E1.wok E1.le0 E1.le0.f;by_cases hlt:i < xs.length
 ·refine .inr ⟨go i hlt,fun v H' y=>?_⟩;obtain ⟨w1',x,rfl,ok1',le1,hx,dx⟩:=yld i v H' y hlt;have nm1:∀ a ∈ (kids ts).fp,¬ w1.M a:=fun a ha=>(E1.zf a (.inr ha)).2.2;replace h1:=le1.h _ _ h1 (E1.zf D (.inl rfl)).2.2;replace E1:=E1.mono ok1' le1;replace d1:=d1.mono le1.toLw nm1;clear yld go stop y le1 ok1' nm1;generalize w1'=w1 at E1 h1 d1 dx;have cc:Ct:=⟨c.K,w,fun a=>a=D\/a ∈ (kids ts).fp⟩;refine hg.ok ⟨c.K,w,fun a=>a=D\/a ∈ (kids ts).fp⟩ w1 e1 σ1 v x _ _ rfl E1 dx (step i x e1 ts hx q1) fun e2 σ2 E2 q2=>?_;refine ht.ok ⟨c.K,w,fun a=>a=D\/a ∈ (kids ts).fp⟩ w1 e2 σ2 _ _ rfl E2 q2 fun b e3 w3 E3 l3 q3=>?_;have nmD:∀ a,a=D\/a ∈ (kids ts).fp->¬ w1.M a:=fun a z=>(E2.zf a z).2.2;have h3:=l3.h _ _ h1 (nmD D (.inl rfl));have d3:=d1.mono l3 fun a ha=>nmD a (.inr ha);cases b with
  | true =>
   refine he.ok ⟨c.K,w,fun a=>a=D\/a ∈ (kids ts).fp⟩ w3 e3 σ2 _ _ rfl E3 q3 fun y' s e4 w4 R q4=>?_;have nm3:∀ a,a=D\/a ∈ (kids ts).fp->¬ w3.M a:=fun a z=>(E3.zf a z).2.2;have h4:=R.lw.h _ _ h3 (nm3 D (.inl rfl));have d4:=d3.mono R.lw fun a ha=>nm3 a (.inr ha);obtain ⟨t,tt',ho,hn',q5⟩:=R.ot q4;have E4:=R.ev;have nD:D ∉ (kids ts).fp:=fun z=>(fr D z).2 rfl;have ntD:D ∉ t.fp:=fun z=>(hn' D z).2 (.inl rfl);refine ⟨vs,h4,Y7 (by omega),xs.length - (i + 1),by omega,rfl,hlt,e4,⟨w4.M,upd w4.H D (.lst (vs++[y'])),w4.F⟩,ts++[t],rfl,?_,B7,by rw [Ze]; simp; exact hvl,?_,fun a ha=>?_,?_,q5⟩
   ·have E5:=E4.writeZ (us:=vs++[y']) (.inl rfl) hD;refine ⟨E5.wok,E5.le0,E5.len,fun i s q=>let ⟨v,h1,h2⟩:=E5.at' i s q; ⟨v,h1,h2.reZ⟩,E5.own,fun a z=>?_,fun a j s u z q q'=>?_⟩
    ·rcases z with z | z
     ·exact E5.zf a (.inl z)
     ·rw [K2,List.mem_append] at z;rcases z with z | z
      ·exact E5.zf a (.inr z)
      ·obtain ⟨o1,o2,o3,_⟩:=ho.1 a z;exact ⟨o2,fun y=>o1 (M8 y),o3⟩
    ·rcases z with z | z
     ·exact E5.zo a j s u (.inl z) q q'
     ·rw [K2,List.mem_append] at z;rcases z with z | z
      ·exact E5.zo a j s u (.inr z) q q'
      ·exact (hn' a z).1 j s u q q'
   ·exact Tre.snoc (tt'.writ ntD) (d4.writ nD)
   ·rw [K2,List.mem_append] at ha;rcases ha with z | z
    ·exact fr a z
    ·exact ⟨(ho.1 a z).2.2.2,fun y=>ntD (y ▸ z)⟩
   ·rw [K2];exact List.nodup_append.mpr ⟨nd,ho.2,fun a ha b hb e=>(hn' b hb).2 (.inr (e ▸ ha))⟩
  | false =>
   exact ⟨xs.length - (i + 1),by omega,rfl,hlt,e3,w3,ts,rfl,E3,h3,by omega,d3,fr,nd,q3⟩
 ·have e:i=xs.length:=by omega
  subst e;obtain ⟨z1,z2,z3⟩:=E1.zf D (.inl rfl);have one:∀ a,a ∈ (OT.nd true D (kids ts)).fp->(a=D\/a ∈ (kids ts).fp)/\w.H a=none:=fun a ha=>by
   rcases List.mem_cons.mp (show a ∈ D :: (kids ts).fp from ha) with rfl | z
   ·exact ⟨.inl rfl,hD⟩
   ·exact ⟨.inr z,(fr a z).1⟩
  refine .inl ⟨stop,k w1 ts ⟨E.mono E1.wok E1.le0,E1.le0.toLw,⟨⟨rfl,vs,h1,d1⟩,fun a ha=>?_,List.nodup_cons.mpr ⟨fun z=>(fr D z).2 rfl,nd⟩⟩,fun a f=>E.fresh (one a f).2,rfl⟩ (fin e1 ts q1)⟩;obtain ⟨g1,g2⟩:=one a ha;obtain ⟨y1,y2,y3⟩:=E1.zf a g1;exact ⟨y2,y1,y3,E.le0.dom a g2⟩
def OT.el:OT->Option (List OT)
 | .nd _ _ k=>k.ls
 | .leaf (.list xs)=>some (xs.map .leaf)
 | .leaf (.tuple xs)=>some (xs.map .leaf)
 | _=>none
def tBt (te:TE):TE:=te
class RIO (K:Frag) (wi:TI) (pi:outParam (PEnv->(List OT->PEnv->Prop)->Prop)):Prop where
 ok:∀ (c:Ct) (w:Wd) (env:PEnv) (σ:St) (Qp:List OT->PEnv->Prop) (R:It->Hpp->Prop),c.K=K->EnvOk c w env σ->pi env Qp->(∀ J xs env' w',EnvOk c w' env' σ->Lw w w'->WalkO ⟨c.K,w',c.Z⟩ w' J xs->Qp xs env'->R J w'.H)->wi σ w.H R
end Pu
namespace L2
open PySem PySem.Spec PyProof.Rows
variable {X:Cx} {e:Expr} {st:Stmt}
end L2
namespace Pu
open PySem L2 My Prf
def tSt (t:TS):TS:=t
def A49 (pi:PEnv->(List OT->PEnv->Prop)->Prop) (pg:OT->PEnv->(PEnv->Prop)->Prop) (pt:PTt) (pe:PX) (cap:List (Option Nat)) (i:Nat) (D:PEnds) (env:PEnv):Prop:=pi env fun xs e=>xs.length < 1000000/\A1r xs pg pt pe (L5 cap e) (@hold (List OT) ⟨fun ts=>∀ a,D.nx (e.set i (some (.tr (.nd true a (kids ts)))))⟩)
instance (priority:=high + 1) rs_setCompTO {K:Frag} {te':TE} {g:TG} {tt:TT} {te:TE} {cap:List (Option Nat)} {i:Nat} {pi:PEnv->(List OT->PEnv->Prop)->Prop} {pg:OT->PEnv->(PEnv->Prop)->Prop} {pt:PTt} {pe:PX} [hi:RIO K (iSq K (tBt te')) pi] [hg:RGO K g pg] [ht:RT K tt pt] [he:RE K te pe]:RS K (tSt (R6 (iSq K (tBt te')) g tt te cap i)) (A49 pi pg pt pe cap i) where
 ok:=by
  rintro c w env σ Dp D rfl E h p;show R6 (iSq c.K (tBt te')) g tt te cap i D σ w.H;refine hi.ok c w env σ _ _ rfl E p fun J xs e1 w1 E1 l1 wk ⟨hn,q⟩ l hl=>?_;exact A8s (pg:=pg) (pt:=pt) (pe:=pe) rfl E1 wk hn q hl fun w' ts R q'=>h.nx _ _ w' (R.ev.set R.val R.new) (l1.f.trans R.lw.f) (q' l)
end Pu
namespace L2
open PySem PySem.Spec PyProof.Rows
variable {X:Cx} {st:Stmt}
end L2
namespace L2
open PySem PySem.Spec PyProof.Rows
variable {X:Cx} {e:Expr}
end L2
namespace L2
open PySem PySem.Spec PyProof.Rows
abbrev Cx.kept (X:Cx) (a:Addr) (oe:Obj):Cx:={ X with pn:=(a,oe) :: X.pn }
section
variable {X:Cx}
def B8a {tg iter:Expr} {wi:TI} (h:QI X.nox tg iter wi):QI X tg iter wi:=⟨fun pins s σ H R I hw =>
 wpAny_mono (h.out pins s σ H R (I.wish _) hw) (fun _ _ q=>wpAny_mono q (fun _ _ ⟨it,fp,tn,J,H',e,I2,T,t0,fo,r⟩=>⟨it,fp,tn,J,H',e,I2.unwish,T,t0,fo,r⟩) fun _ _ z=>False.elim z) fun _ _ z=>False.elim z⟩
def B8b {tg:Expr} {g:TG} (h:QG X.nox tg g):QG X tg g:=⟨fun pins s σ H x u Q I r hw =>
 wpAny_mono (h.out pins s σ H x u Q (I.wish _) r hw) (fun _ _ ⟨σ',H',I2,q⟩=>⟨σ',H',I2.unwish,q⟩) fun _ _ z=>False.elim z⟩
end
section
variable {M:Model} {A:Around} {E:Value->Shared->Prop} {s:Shared}
def Fr (h B:Heap) (x:Addr) (c a0:Value):Prop:=(∃ ox,h.get? x=some ox/\ox.cls=c/\ox.data=.fields #[a0,.none,.none,.none,.bool false,.none])\/∃ fl,h.TracedAtW B x c a0 fl
def B0q {B:Heap} {env:Env} {outer:List Env} {L x:Addr} {c z:Value} {Q:Unit->Shared->Prop} (hA:A.frames=some (env :: outer)) (hL:env.frame=some L) (m1:B.StaysIn s.heap) (m0:B.get? x=none) (m2:s.heap.FunFrames B (env :: outer)) (m3:Fr s.heap B x c z)
  (k:∀ g,B.StaysIn g->g.FunFrames B (env :: outer)->(∃ fl,g.TracedAtW B x c z fl)->s.heap.UpToSlots g->Q () { s with heap:=g }):wpAny M A (noteFrame (.ref x) env) Q E s:=by
 rcases m3 with ⟨ox,e1,rfl,e3⟩ | ⟨fl,m3⟩
 ·unfold noteFrame;simp only [hL];refine wpAny_bind (wpAny_field e1 e3 (show (#[z,.none,.none,.none,.bool false,.none]:Array Value)[1]?=some Value.none from rfl) ?_);rw [if_neg (by decide)];exact wpAny_entryW hA m2 hL e1 m1 m0 e3 (show 1 < 6 by decide) rfl fun g ⟨y1,y2,y3,y4⟩=>k g y1 y2 ⟨_,y3⟩ y4
 ·by_cases hm:(fl == rawInt L)=true
  ·have hm:fl=rawInt L:=by simpa using hm
   subst hm;refine wpAny_noteFrame_againW hL m3 (k s.heap m1 m2 ⟨_,m3⟩ fun b o q n=>⟨o.slots,q⟩)
  ·obtain ⟨ox,us,T,ot,ws,e1,⟨rfl,e2⟩,e3,e4,e5,e6,e7,e8,e9⟩:=m3;have off:∀ b,b≠T->(s.heap.update T (Obj.mapFields (·.setIfInBounds 3 .none))).get? b=s.heap.get? b:=fun b q=>Heap.get?_update_other _ _ (Ne.symm q);have nT:∀ b o,s.heap.get? b=some o->(∀ v,o.data≠.fields v)->b≠T:=fun b o q n z=>by
    rw [z,e7] at q; cases q; exact n ws e8
   unfold noteFrame;simp only [hL];refine wpAny_bind (wpAny_field e1 e3 e4 ?_);rw [if_pos (by simp:(Value.ref T != Value.none)=true)];refine wpAny_bind (wpAny_field e7 e8 e9 ?_);rw [if_neg hm];refine wpAny_bind (wpAny_setField e7 e8 (Array.getElem?_eq_some_iff.mp e9).1 ?_);refine wpAny_entryW hA (m2.of_keeps fun b o q n=>⟨o,(off b (nT b o q n)).trans q,rfl⟩) hL ((off x (Ne.symm e6)).trans e1) (fun b o q=>(off b fun z=>by rw [z,e5] at q; cases q).trans (m1 b o q)) m0 e3 (Array.getElem?_eq_some_iff.mp e4).1 e2 ?_;rintro g ⟨y1,y2,y3,y4⟩;exact k g y1 y2 ⟨_,y3⟩ fun b o q n=>y4 b o ((off b (nT b o q n)).trans q) n
end
section
variable {P:Program} {w:World} {K:W.Frag} {mg:Str->Option Value} {base:Heap} {N:List Str} {qual:Str} {scope:Scope} {f:Addr} {cd:Value} {A:Around} {outer:List Env} {s0:Shared} {H0:Hp} {E:XK}
def Lx (P:Program) (w:World) (env:Env) (outer:List Env) (H0:Hp) (s0:Shared) (E:XK) (e:Value) (s:Shared):Prop :=
 ∃ (a:Addr) (c a0:Value) (dx:Option Addr) (B:Heap),e=.ref a/\B.StaysIn s.heap/\B.get? a=none/\s.heap.FunFrames B (env :: outer)/\DictAt s.heap a dx/\Fr s.heap B a c a0 /\
  ∀ h',Heap.FlyingW B outer a c a0 h'->s.heap.UpToSlots h'->DictAt h' a dx->CX2 P w outer H0 s0 E (.ref a) { s with heap:=h' }
def ups {h1 h2 h3:Heap} (a:h1.UpToSlots h2) (b:h2.UpToSlots h3):h1.UpToSlots h3:=fun x o q n=>by
 obtain ⟨sl,q2⟩:=a x o q n;obtain ⟨sl3,q3⟩:=b x _ q2 n;exact ⟨sl3,q3⟩
abbrev cxL (P:Program) (w:World) (K:W.Frag) (mg:Str->Option Value) (base:Heap) (N:List Str) (qual:Str) (scope:Scope) (f:Addr) (cd:Value) (A:Around) (outer:List Env) (s0:Shared) (H0:Hp) (E:XK):Cx :=
 (cxOf (CX2 P w) P w K mg base N qual scope f cd A outer s0 H0 E).wish (Lx P w (envOfC qual scope s0.heap.objs.size f cd) outer H0 s0 E)
def C0r {e:Value} {s:Shared} (hfr:(A.deeper (envOfC qual scope s0.heap.objs.size f cd)).frames=some (envOfC qual scope s0.heap.objs.size f cd :: outer)) (h:Lx P w (envOfC qual scope s0.heap.objs.size f cd) outer H0 s0 E e s):(cxOf (CX2 P w) P w K mg base N qual scope f cd A outer s0 H0 E).xe e s:=by
 obtain ⟨a,c,a0,dx,B,rfl,m1,m0,m2,d,m3,k⟩:=h;rcases m3 with ⟨ox,e1,rfl,e3⟩ | ⟨fl,m3⟩
 ·obtain ⟨o2,q1,q2⟩:=d;have:o2=ox:=by rw [e1] at q1; exact (Zj q1).symm
  subst this;subst q2;exact A22 hfr rfl m2 e1 e3 m1 m0 fun h' hf hs D=>k h' hf hs D
 ·have z:wpAny (model P w) (A.deeper (envOfC qual scope s0.heap.objs.size f cd)) (leaving (envOfC qual scope s0.heap.objs.size f cd) (.ref a)) (fun _ s'=>∃ h',s'={ s with heap:=h' }/\Heap.FlyingW B outer a c a0 h'/\s.heap.UpToSlots h') (fun e' s''=>CX2 P w outer H0 s0 E e' s'') s :=
   A5o hfr rfl m1 m0 m2 m3 fun h' q1 q2=>⟨h',rfl,q1,q2⟩
  refine wpAny_mono (still_leaving.any z) (fun _ s' q=>?_) fun _ _ q=>q.1;obtain ⟨⟨h',rfl,q1,q2⟩,kd⟩:=q;exact k h' q1 q2 (d.kept kd)
def C0q (hfr:(A.deeper (envOfC qual scope s0.heap.objs.size f cd)).frames=some (envOfC qual scope s0.heap.objs.size f cd :: outer)):PassesOwn (model P w) (A.deeper (envOfC qual scope s0.heap.objs.size f cd)) (envOfC qual scope s0.heap.objs.size f cd) (Lx P w (envOfC qual scope s0.heap.objs.size f cd) outer H0 s0 E):=by
 rintro e s ⟨a,c,a0,dx,B,rfl,m1,m0,m2,d,m3,k⟩;unfold notedBy;have z:wpAny (model P w) (A.deeper (envOfC qual scope s0.heap.objs.size f cd)) (noteFrame (.ref a) (envOfC qual scope s0.heap.objs.size f cd)) (fun _ s'=>∃ g,s'={ s with heap:=g }/\B.StaysIn g/\g.FunFrames B (envOfC qual scope s0.heap.objs.size f cd :: outer)/\(∃ fl,g.TracedAtW B a c a0 fl)/\s.heap.UpToSlots g) (fun _ _=>False) s :=
  B0q hfr rfl m1 m0 m2 m3 fun g q1 q2 q3 q4=>⟨g,rfl,q1,q2,q3,q4⟩
 refine wpAny_mono (still_noteFrame.any z) (fun _ s' q=>?_) fun _ _ q=>q.1.elim;obtain ⟨⟨g,rfl,q1,q2,⟨fl,q3⟩,q4⟩,kd⟩:=q;have d2:DictAt g a dx:=d.kept kd;unfold cameBackBy;obtain ⟨ox,us,T,ot,ws,e1,e2,e3,e4,e5⟩:=id q3;refine wpAny_bind (wpAny_field e1 e3 e4 ?_);rw [if_neg (by simp:¬ (Value.ref T == Value.none)=true)];have z2:wpAny (model P w) (A.deeper (envOfC qual scope s0.heap.objs.size f cd)) (setFlight (.ref a) (envOfC qual scope s0.heap.objs.size f cd).frame) (fun _ s'=>∃ g2,s'={ s with heap:=g2 }/\B.StaysIn g2/\g2.FunFrames B (envOfC qual scope s0.heap.objs.size f cd :: outer)/\(∃ fl,g2.TracedAtW B a c a0 fl)/\g.UpToSlots g2) (fun _ _=>False) { s with heap:=g } :=
  B0u (s:={ s with heap:=g }) q1 q2 q3 fun g2 r1 r2 r3 r4=>⟨g2,rfl,r1,r2,r3,r4⟩
 refine wpAny_mono (still_setFlight.any z2) (fun _ s' q=>?_) fun _ _ q=>q.1.elim;obtain ⟨⟨g2,rfl,r1,r2,r3,r4⟩,kd2⟩:=q;exact ⟨a,c,a0,dx,B,rfl,r1,m0,r2,d2.kept kd2,.inr r3,fun h' hf hs D=>k h' hf (ups q4 (ups r4 hs)) D⟩
def B4e:A2m (CX2 P w) (cxL P w K mg base N qual scope f cd A outer s0 H0 E) E:=by
 rintro pins σ H s e s' I ⟨a,cls,a0,dx,H',B,rfl,F,D,q⟩;replace I:=I.unwish;have nx:∀ b:Addr,b ∉ (cxOf (CX2 P w) P w K mg base N qual scope f cd A outer s0 H0 E).ex:=fun b z=>absurd z (List.not_mem_nil);refine ⟨a,cls,a0,dx,B,rfl,F.fly.1,F.fly.2.1,F.fly.2.2.1,D,.inr ⟨_,F.fly.2.2.2.at⟩,fun h' hf hs D'=>?_⟩;refine ⟨a,cls,a0,dx,H',B,rfl,⟨F.os.trans I.os,F.bare,hf,F.hok,fun b o e n hb=>?_,fun b o e n hb=>?_,fun b o e n=>?_,fun b o e hb=>?_,fun b xs e=>F.tups b xs (I.base.tups b xs e),fun b o u e=>F.frzs b o u (I.base.frzs b o u e),fun b ps e=>?_⟩,D',q⟩
 ·exact F.keep b o (I.base.keep b o e n hb (nx b)) (I.base.free b o e n (nx b)) (A1v I e hb)
 ·obtain ⟨sl,e1⟩:=I.base.slot b o e n hb (nx b);have hb2:b ∈ frs (cxOf (CX2 P w) P w K mg base N qual scope f cd A outer s0 H0 E).stack:=by
   show b ∈ List.filterMap _ (_ :: outer);rw [List.filterMap_cons];split
   ·exact hb
   ·exact Zr _ hb
  obtain ⟨sl2,e2⟩:=F.slot b _ e1 (I.base.free b o e n (nx b)) hb2;obtain ⟨_,o',ho,hn⟩:=F.fly.2.2.1.mem hb2;rw [e2] at ho; cases ho;obtain ⟨sl3,e3⟩:=hs b _ e2 hn;exact ⟨sl3,e3⟩
 ·obtain ⟨o',e1⟩:=I.base.there b o e (nx b);exact F.free b o' e1 (I.base.free b o e n (nx b))
 ·obtain ⟨o',e1⟩:=I.base.there b o e (nx b);exact F.there b o' e1 (A1v I e hb)
 ·obtain ⟨m1,e1⟩:=I.base.tbls b ps e;obtain ⟨m2,e2⟩:=F.tbls b _ e1;exact ⟨m1++m2,by rw [e2,Array.append_assoc]⟩
def B21:A87 (cxL P w K mg base N qual scope f cd A outer s0 H0 E) E:=by
 intro pins σ H H2 s s2 e oe a0 I os bare en e2n he hd un ff fr hok q;replace I:Inv (cxOf (CX2 P w) P w K mg base N qual scope f cd A outer s0 H0 E) pins σ H s:=I.unwish;show Lx P w (envOfC qual scope s0.heap.objs.size f cd) outer H0 s0 E (.ref e) s2;replace un:Un (frs (cxOf (CX2 P w) P w K mg base N qual scope f cd A outer s0 H0 E).stack) [] H H2 s.heap s2.heap:=un;replace ff:s2.heap.FunFrames (cxOf (CX2 P w) P w K mg base N qual scope f cd A outer s0 H0 E).base (cxOf (CX2 P w) P w K mg base N qual scope f cd A outer s0 H0 E).stack:=ff;replace fr:∀ b ∈ frs (cxOf (CX2 P w) P w K mg base N qual scope f cd A outer s0 H0 E).stack,H2 b=none:=fr;replace hok:HOk (cxOf (CX2 P w) P w K mg base N qual scope f cd A outer s0 H0 E).prog (cxOf (CX2 P w) P w K mg base N qual scope f cd A outer s0 H0 E).w H2 s2.heap:=hok;generalize hX:cxOf (CX2 P w) P w K mg base N qual scope f cd A outer s0 H0 E=X at *;have nx:∀ b:Addr,b ∉ X.ex:=by subst hX; exact fun b z=>absurd z (List.not_mem_nil)
 have enf:e ∉ frs X.stack:=fun z=>by
  obtain ⟨_,o',ho,_⟩:=I.stack.mem z;rw [en] at ho; cases ho
 have hB:∀ b o,s2.heap.get? b=some o->b≠e->b ∉ frs X.stack->(W.hideAll s2.heap (e :: frs X.stack)).get? b=some o:=fun b o z n m=>W.hideAll_get _ z fun y=>by
  rcases List.mem_cons.mp y with y | y
  ·exact n y
  ·exact m y
 have hin:∀ env ∈ X.stack,∀ a,env.frame=some a->a ∈ e :: frs X.stack:=fun env he a ha=>Zr _ (List.mem_filterMap.mpr ⟨env,he,ha⟩);have frs0:∀ b,b ∈ X.fs->b ∈ frs X.stack:=by
  subst hX;intro b hb;show b ∈ List.filterMap _ (_ :: outer);rw [List.filterMap_cons];split
  ·exact hb
  ·exact Zr _ hb
 have ne:∀ b o,X.s₀.heap.get? b=some o->b≠e:=fun b o z y=>by
  subst y;obtain ⟨o',z'⟩:=I.base.there b o z (nx b);rw [en] at z'; cases z'
 have FF:=W.funFrames_hide ff hin;have ST:(W.hideAll s2.heap (e :: frs X.stack)).StaysIn s2.heap:=fun b o z=>W.of_hideAll _ z;have EN:(W.hideAll s2.heap (e :: frs X.stack)).get? e=none:=W.hideAll_none _ Zy;have goal:∀ h',Heap.FlyingW (W.hideAll s2.heap (e :: frs X.stack)) outer e oe.cls a0 h'->s2.heap.UpToSlots h'->DictAt h' e oe.dict->CX2 P w outer H0 s0 E (.ref e) { s2 with heap:=h' }:=by
  intro h' hf hs D;subst hX;have nil:∀ b:Addr,b ∉ ([]:List Addr):=fun b z=>absurd z List.not_mem_nil;refine ⟨e,oe.cls,a0,oe.dict,H2,_,rfl,⟨os.trans I.os,bare,hf,fun b ob z=>?_,fun b o z n hb=>?_,fun b o z n hb=>?_,fun b o z n=>?_,fun b o z hb=>?_,fun b xs z=>un.tups b xs (I.base.tups b xs z),fun b o u z=>un.frzs b o u (I.base.frzs b o u z),fun b ps z=>?_⟩,D,q⟩
  ·refine (hok b ob z).stay (fun c v hc y=>hB c v y (fun m=>?_) (fun m=>?_)) (fun _ y=>y) (fun _ _ y=>y)
   ·subst m;rcases hc with rfl | hc
    ·rw [e2n] at z; cases z
    ·rw [e2n] at hc; cases hc
   ·have nn:=fr c m;rcases hc with rfl | hc
    ·rw [nn] at z; cases z
    ·rw [nn] at hc; cases hc
  ·exact hB b o (un.keep b o (I.base.keep b o z n hb (nx b)) (I.base.free b o z n (nx b)) (A1v I z hb) (nil b)) (ne b o z) (A1v I z hb)
  ·obtain ⟨sl,e1⟩:=I.base.slot b o z n hb (nx b);obtain ⟨sl2,e2⟩:=un.slot b _ e1 (I.base.free b o z n (nx b)) (frs0 b hb) (nil b);obtain ⟨_,o',ho,hn⟩:=ff.mem (frs0 b hb);rw [e2] at ho; cases ho;obtain ⟨sl3,e3⟩:=hs b _ e2 hn;exact ⟨sl3,e3⟩
  ·obtain ⟨o',e1⟩:=I.base.there b o z (nx b);exact un.free b o' e1 (I.base.free b o z n (nx b)) (nil b)
  ·obtain ⟨o',e1⟩:=I.base.there b o z (nx b);obtain ⟨o2,e2⟩:=un.there b o' e1 (nil b);exact ⟨o2,hB b o2 e2 (ne b o z) (A1v I z hb)⟩
  ·obtain ⟨m1,e1⟩:=I.base.tbls b ps z;obtain ⟨m2,e2⟩:=un.tbls b _ e1;exact ⟨m1++m2,by rw [e2,Array.append_assoc]⟩
 subst hX;exact ⟨e,oe.cls,a0,oe.dict,_,rfl,ST,EN,FF,⟨oe,he,rfl⟩,.inl ⟨oe,he,rfl,hd⟩,fun h' hf hs D=>goal h' hf hs D⟩
def A3s {iter tg:Expr} {body:List Stmt} {wi:TI} {g:TG} {tb:TS} {pos:Pos} (hi:QI (cxL P w K mg base N qual scope f cd A outer s0 H0 E).nox tg iter wi) (hg:QG (cxL P w K mg base N qual scope f cd A outer s0 H0 E).nox tg g) (hb:QSs (cxL P w K mg base N qual scope f cd A outer s0 H0 E) body tb)
  (hs:∀ x,foldedSetIterable iter (cxL P w K mg base N qual scope f cd A outer s0 H0 E).env x=pure x:=by intro _; rfl):QS (cxL P w K mg base N qual scope f cd A outer s0 H0 E) (.For tg iter body [] pos) (tFor wi g tb) :=
 ⟨fun pins s σ H D I h=>A6x (X:=cxL P w K mg base N qual scope f cd A outer s0 H0 E) (C0q I.ok.frames) rfl (B8a hi).out (B8b hg).out hb.out hs pins s σ H D I h⟩
def B3u {st:List Stmt} {t:TS} (h:QSs (cxL P w K mg base N qual scope f cd A outer s0 H0 E) st t):PSs (cxOf (CX2 P w) P w K mg base N qual scope f cd A outer s0 H0 E) st t:=fun pins s σ H D I hw =>
 wpAny_mono (h.out pins s σ H D (I.wish _) hw) (fun _ _ q=>q.unwish) fun _ _ z=>C0r I.ok.frames z
end
end L2
namespace Pu
open PySem PySem.Spec PyProof.Rows L2 My Prf
instance rsx_for {K:Frag} {w0:Wd} {wi:TI} {g:TG} {tb:TS} {pi:PAr} {pg:PyData->PEnv->(PEnv->Prop)->Prop} {pb:PSt} [hi:RI K wi pi] [hg:RG K g pg] [hb:RSX K w0 tb pb]:RSX K w0 (tFor wi g tb) (pFor pi pg pb) where
 ok:=by
  rintro c w env σ Dp D rfl rfl E h p;refine hi.ok c w env σ _ _ rfl E p fun J xs e1 w1 E1 l1 wk ⟨Iv,i0,step,fin⟩=>?_;refine ⟨fun i m σ' H'=>m=xs.length - i/\i<=xs.length/\∃ e w',w'.H=H'/\EnvOk c w' e σ'/\Same w1.F w'.F/\Iv i e,⟨xs.length,rfl,Nat.zero_le _,e1,w1,rfl,E1,Same.refl _,i0⟩,?_⟩;rintro i m σ2 _ ⟨rfl,hle,e2,w2,rfl,E2,s2,i2⟩;obtain ⟨go,stop,yld⟩:=wk w2 E2.wok E2.le0 s2;by_cases hlt:i < xs.length
  ·refine .inr ⟨go i hlt,fun σ' H'=>i + 1<=xs.length/\∃ e w',w'.H=H'/\EnvOk c w' e σ'/\Same w1.F w'.F/\Iv (i + 1) e,fun σ' H' ⟨q0,q⟩=>⟨xs.length - (i + 1),by omega,rfl,q0,q⟩,fun v H' y=>?_⟩;obtain ⟨w2',x,rfl,ok2,le2,hx,dx⟩:=yld i v H' y hlt;replace E2:=E2.mono ok2 le2;replace s2:=s2.trans le2.f;clear yld go stop y le2 ok2;generalize w2'=w2 at E2 s2 dx;refine hg.ok c w2 e2 σ2 v x _ _ rfl E2 dx (step i x e2 hx i2) fun e3 σ3 E3 q3=>?_;refine hb.ok c w2 e3 σ3 ⟨Iv (i + 1),Dp.rt,Dp.nx,Iv (i + 1)⟩ _ rfl rfl E3 ⟨fun e4 σ4 w4 E4 s4 n4=>⟨hlt,e4,w4,rfl,E4,s2.trans s4,n4⟩,h.rt,fun e4 σ4 w4 E4 s4 n4=>h.nx e4 σ4 w4 E4 (l1.f.trans (s2.trans s4)) n4,fun e4 σ4 w4 E4 s4 n4=>⟨hlt,e4,w4,rfl,E4,s2.trans s4,n4⟩⟩ q3
  ·have e:i=xs.length:=by omega
   subst e;exact .inl ⟨stop,h.nx e2 σ2 w2 E2 (l1.f.trans s2) (fin e2 i2)⟩
def tXL (w0:Wd) (K:Frag) (md:List Md) (psp:List SV->PyData->Prop) (x:PyData) (ta:TA):TE:=fun σ H _=>ta σ H fun vs H1=>∃ (w:Wd) (as:List SV),w.H=H1/\w.Ok/\Args K w md vs as/\psp as x/\Le w0 w
section
variable {P:Program} {w:World} {K:W.Frag} {mg:Str->Option Value} {base:Heap} {N:List Str} {qual:Str} {scope:Scope} {f:Addr} {cd:Value} {A:Around} {outer:List Env} {s0:Shared} {H0:Hpp} {E:XK} {w0:Wd}
def A4z {k:Nat} {g C:Addr} {fd:FuncData} {ps:List Str} {md:List Md} {fld:Str} {psp:List SV->PyData->Prop} {z:PyData} {x:Str} {p pos:Pos} {e:Expr} {es:List Expr} {t:TA} (hk:∀ w' d v,w'.Ok->Le w0 w'->w'.H d=some (.xd [(fld,v)])->Den K w'.F v z->E (.ref C) (some d) w'.H)
  (F:FnOk P w K mg base (CX2 P w) k g fd ps (spE2 K md C fld psp)) (hr:Room k (cxL P w K mg base N qual scope f cd A outer s0 H0 E).A) (hg:Gl (cxL P w K mg base N qual scope f cd A outer s0 H0 E) x) (hm:mg x=some (.ref g)) (hkp:W.keepIn K (.ref g)=true) (hb:Binds K fd ps [])
  (ha:QA (cxL P w K mg base N qual scope f cd A outer s0 H0 E).nox (e :: es) t) (hdb:(x == ("__debug__":Str))=false:=by decide) (he:starEach (e :: es) (cxL P w K mg base N qual scope f cd A outer s0 H0 E).env=(false,eval e (cxL P w K mg base N qual scope f cd A outer s0 H0 E).env) :: starEach es (cxL P w K mg base N qual scope f cd A outer s0 H0 E).env:=by rfl)
  (hpl:(backTo pos (starEach es (cxL P w K mg base N qual scope f cd A outer s0 H0 E).env)).any (·.1)=false:=by rfl):QE (cxL P w K mg base N qual scope f cd A outer s0 H0 E) (.Call (.Name x p) (e :: es) [] pos) (tXL w0 K md psp z t):=⟨by
 intro pins s σ H Q I h;refine wpAny_Call_Name_kw (R3 I hg hm ?_ hdb);refine W.callWith_K (h₀:=base) I.ok.mod.kin hkp (wpAny_mono (ha.out pos pins s σ H _ (I.wish _) h) (fun us s1 ⟨vs,H1,I1,r,wd,as,e1,e2,e3,e4,e5⟩=>⟨I1.unwish.kIn,?_⟩) fun _ _ z=>z.elim) he hpl;refine B10 F hr hb .nil B4e (I1.unwish (X:=cxL P w K mg base N qual scope f cd A outer s0 H0 E)) r ?_;rw [List.append_nil];exact ⟨wd,as,z,e1,e2,e3,e4,fun w' d v ok l hd dn=>hk w' d v ok (e5.trans l) hd dn⟩⟩
def T5 {x fld y qualI:Str} {C fI:Addr} {stI:Stmt} {fdI:FuncData} {NI:List Str} {pos np cpos:Pos} {e:Expr} {te:TE} {z:PyData}
  (hk:∀ w' d v,w'.Ok->Le w0 w'->w'.H d=some (.xd [(fld,v)])->Den K w'.F v z->E (.ref C) (some d) w'.H) (J:InitX K C fI fld y qualI stI fdI NI)
  (hr:Room 2 (cxL P w K mg base N qual scope f cd A outer s0 H0 E).A) (hg:Gl (cxL P w K mg base N qual scope f cd A outer s0 H0 E) x) (hm:mg x=some (.ref C)) (he:QE (cxL P w K mg base N qual scope f cd A outer s0 H0 E) e te)
  (hd:(x == ("__debug__":Str))=false:=by decide) (hpl:(backTo cpos (starEach [e] (cxL P w K mg base N qual scope f cd A outer s0 H0 E).env)).any (·.1)=false:=by rfl) (hse:starEach [e] (cxL P w K mg base N qual scope f cd A outer s0 H0 E).env=(false,eval e (cxL P w K mg base N qual scope f cd A outer s0 H0 E).env) :: starEach [] (cxL P w K mg base N qual scope f cd A outer s0 H0 E).env:=by rfl) :
  QS (cxL P w K mg base N qual scope f cd A outer s0 H0 E) (.Raise (some (.Call (.Name x np) [e] [] cpos)) none pos) (A3j K w0 te fld z) :=
 ⟨fun pins s σ H D I h=>by
  refine A6v (R:=fun v H1=>∀ d,H1 d=none->∃ w':Wd,w'.H=upd H1 d (.xd [(fld,v)])/\w'.Ok/\Le w0 w'/\Den K w'.F v z) (fun v H1 q d hn=>?_) J B21 rfl hr hg hm he.out hd hpl hse pins s σ H D I h;obtain ⟨w',eH,ok,l,dn⟩:=q d hn;rw [<- eH];exact hk w' d v ok l (by rw [eH,B7]) dn⟩
end
def C2g {X:Cx} {e:Expr} {t:TE} (h:QE X.nox e t):QE X e t:=⟨PE.nox h.out⟩
class REX (K:Frag) (w0:Wd) (te:TE) (px:outParam (PEnv->Prop)):Prop where
 ok:∀ (c:Ct) (w:Wd) (env:PEnv) (σ:L2.St) (Q:VK),c.K=K->c.w0=w0->EnvOk c w env σ->px env->te σ w.H Q
def pXc (pa:PAs) (psp:List SV->PyData->Prop) (x:PyData) (env:PEnv):Prop:=pa env fun as _=>psp as x
instance rex_call {K:Frag} {w0:Wd} {md:List Md} {psp:List SV->PyData->Prop} {x:PyData} {ta:TA} {pa:PAs} [ha:RAm K md ta pa]:REX K w0 (tXL w0 K md psp x ta) (pXc pa psp x) where
 ok:=by
  rintro c w env σ Q rfl rfl E p;refine ha.ok c w env σ _ _ rfl E p fun vs as e1 w1 E1 l1 a1 q1=>?_;exact ⟨w1,as,rfl,E1.wok,a1,q1,E1.le0⟩
def pOrX (p:PSt) (px:PEnv->Prop) (D:PEnds) (env:PEnv):Prop:=p D env\/px env
section
variable {K:Frag} {w0:Wd} {te tx:TE} {g:TG} {p:PSt} {px:PEnv->Prop}
instance rsx_dropO [h1:RS K (A09 te) p] [h:REX K w0 tx px]:RSX K w0 (A09 (tEor te tx)) (pOrX p px):=⟨fun c w env σ Dp D e e0 E h q=>q.elim (fun q=>.inl (h1.ok c w env σ Dp D e E h q)) fun q=>.inr (REX.ok c w env σ _ e e0 E q)⟩
end
def okxL {P:Program} {w:World} {K:W.Frag} {mg:Str->Option Value} {base:Heap} {x qual:Str} {st:Stmt} {f:Addr} {fd:FuncData} {N ps:List Str} {k:Nat} {md:List Md} {C:Addr} {fld:Str} {psp:List SV->PyData->Prop} {ts:Wd->PyData->TS} {pst:PyData->PSt} (F:L2.Fun K x qual st f fd) (S:FnScope N ps (A7 st)) (hm:md.length=ps.length)
  (hbody:∀ (cdv:Value) (A:Around) (outer:List Env) (s:Shared) (H:Hpp) (E:XK) (w0:Wd) (y:PyData),Room k (A.deeper (envOfC qual (A7 st) s.heap.objs.size f cdv))->(∀ w' d v,w'.Ok->Le w0 w'->w'.H d=some (.xd [(fld,v)])->Den K w'.F v y->E (.ref C) (some d) w'.H) ->
   QSs (cxL P w K mg base N qual (A7 st) f cdv A outer s H E) (F6 st) (ts w0 y))
  (hs:∀ w0 y,RSX K w0 (ts w0 y) (pst y)) (hb:∀ as y,psp as y->pst y ⟨fun _=>False,fun _ _=>False,fun _=>False,fun _=>False⟩ (as.map some++List.replicate (N.length - md.length) none)):FnOk P w K mg base (CX2 P w) (k + 1) f fd ps (spE2 K md C fld psp) :=
 okx2 F S hm (fun cdv A outer s H E w0 y hr hk=>B3u (hbody cdv A outer s H E w0 y hr hk)) hs hb
end Pu
namespace L2
open PySem PySem.Spec PyProof.Rows
def fz (o:Obj):HO:=.frz o (.ext fun _=>True)
def B6v {P:Program} {w:World} {H:Hp} {h:Heap} {a:Addr} {o:Obj} (e:h.get? a=some o):ObjOk P w H h a (fz o):=⟨e,True.intro,⟨_,e⟩,fun _ _ _ _=>True.intro⟩
def A8i {P:Program} {w:World} {H:Hp} {h:Heap} {a:Addr} {o:Obj} (hok:HOk P w H h) (e:H a=some (fz o)):h.get? a=some o:=(show _/\_ from hok a _ e).1
def B6w {env:Env} {l:List Env} {b:Addr} (h:b ∈ frs l):b ∈ frs (env :: l):=by
 unfold frs at h ⊢;rw [List.filterMap_cons];split
 ·exact h
 ·exact Zr _ h
def A0a {h h' base:Heap}:∀ {l:List Env},(∀ b ∈ frs l,∀ o,h.get? b=some o->h'.get? b=some o)->h.FunFrames base l->h'.FunFrames base l
 | [],_,_=>True.intro
 | _ :: _,k,⟨hk,⟨L,o,hf,hn,ho,hd⟩,hr⟩=>⟨hk,⟨L,o,hf,hn,k _ (by unfold frs; rw [List.filterMap_cons,hf]; exact Zy) _ ho,hd⟩,A0a (fun b hb=>k b (B6w hb)) hr⟩
def A13 {h h' base:Heap} (k:∀ b o,h.get? b=some o->h'.get? b=some o):∀ {l:List Env},h.FunFrames base l->h'.FunFrames base l
 | [],_=>True.intro
 | _ :: _,⟨hk,⟨L,o,hf,hn,ho,hd⟩,hr⟩=>⟨hk,⟨L,o,hf,hn,k _ _ ho,hd⟩,A13 k hr⟩
structure LamS (sc:Scope) (gx:Str) (xs:List Str):Prop where
 kind:sc.kind=.function
 co:sc.isCoroutine=false
 gen:sc.isGenerator=false
 nocell:∀ y ∈ sc.names,y.2≠.cell
 fr:∀ x ∈ xs,sc.names.lookup x=some .free
 gl:sc.names.lookup gx=some .globalImplicit
 ok:∀ x ∈ xs,(x == ("__debug__":Str))=false/\(x == ("__classdict__":Str))=false
 gok:(gx == ("__debug__":Str))=false
inductive CellsAt (H:Hp) (clos:List (Str × Addr)):List Str->List Value->Prop
 | nil:CellsAt H clos [] []
 | cons {x:Str} {xs:List Str} {u:Value} {us:List Value} {c:Addr} {co:Obj} (h1:clos.lookup x=some c) (h2:H c=some (fz co)) (h3:co.data=.cell (some u)) (r:CellsAt H clos xs us):CellsAt H clos (x :: xs) (u :: us)
section
variable {P:Program} {w:World} {H:Hp} {M:Model} {A:Around} {E:Value->Shared->Prop} {env:Env} {s:Shared} {pos p:Pos}
def A3l {e:Expr} {es:List Expr} {Q:List Value->Shared->Prop} (hs:starEach (e :: es) env=(false,eval e env) :: starEach es env)
  (h:wpAny M A (eval e env) (fun u s1=>wpAny M A (spliced (backTo pos (starEach es env))) (fun us s2=>Q (u :: us) s2) E s1) E s):wpAny M A (spliced (backTo pos (starEach (e :: es) env))) Q E s:=by
 rw [hs];show wpAny _ _ (spliced ((false,eval e env) :: backTo pos (starEach es env))) _ _ s;exact Calls.spliced_cons h
def A14 (hok:HOk P w H s.heap) (hk:env.scope.kind=.function):∀ {ps:List (Str × Pos)} {us:List Value} {Q:List Value->Shared->Prop},CellsAt H env.cells (ps.map (·.1)) us->(∀ x ∈ ps.map (·.1),env.kindOf x=some .free/\(x == ("__debug__":Str))=false/\(x == ("__classdict__":Str))=false) ->
  Q us s->wpAny M A (spliced (backTo pos (starEach (ps.map fun q=>Expr.Name q.1 q.2) env))) Q E s
 | [],_,Q,.nil,_,h=>by
  rw [List.map_nil];exact Calls.spliced_nil h
 | q :: r,u :: us,Q,.cons (c:=c) (co:=co) h1 h2 h3 hr,hx,h=>by
  obtain ⟨k1,k2,k3⟩:=hx q.1 Zy;rw [List.map_cons];refine A3l rfl ?_;refine wpAny_Name (wpAny_loadName_free hk k1 h1 ⟨co,A8i hok h2,h3⟩ ?_ k3) k2;exact A14 hok hk hr (fun x hm=>hx x (Zr _ hm)) h
end
section
variable {P:Program} {w:World} {K:W.Frag} {mg:Str->Option Value} {base:Heap} {k:Nat} {g f c':Addr} {gfd:FuncData} {gps:List Str} {gsp:Sp} {gx qual:Str} {scope:Scope} {clos:List (Str × Addr)} {params:Arguments} {pm ctv:Value} {pp ppos:Pos}
def B0x {p1:Str × Pos} {pr:List (Str × Pos)} {us:List Value} {vs:List V} {A:Around} {outer:List Env} {s:Shared} {H:Hp} {Q:VK} {E:XK}
  (F:FnOk P w K mg base (CX2 P w) k g gfd gps gsp) (hk:W.keepIn K (.ref g)=true) (hb:Binds K gfd gps []) (hm:mg gx=some (.ref g)) (S:LamS scope gx ((p1 :: pr).map (·.1)))
  (hr:Room (k + 1) A) (e0:Env0 P w K mg base A outer s H) (hpl:∀ env:Env,(backTo ppos (starEach (pr.map fun q=>Expr.Name q.1 q.2) env)).any (·.1)=false)
  (hf:H f=some (fz (W.kla_obj "<lambda>" qual params (.Call (.Name gx pp) ((p1 :: pr).map fun q=>Expr.Name q.1 q.2) [] ppos) scope clos pm c' ctv)))
  (hc:∃ oc vs t,H c'=some (fz oc)/\oc.data=.fields vs/\vs[1]?=some (.str qual t))
  (cl:CellsAt H clos ((p1 :: pr).map (·.1)) us) (rv:Vals vs us) (hbd:bindArgs (W.kla_fn "<lambda>" qual params (.Call (.Name gx pp) ((p1 :: pr).map fun q=>Expr.Name q.1 q.2) [] ppos) scope clos pm (.ref c') ctv) ⟨[],[]⟩=pure [])
  (h:gsp vs H Q E):codeAny (model P w) A (.call (.ref f) ⟨[],[]⟩) (CR (CX2 P w) outer P w H s Q E) s:=by
 have hlim:s.heap.NoLimit:=e0.mod.nolimit.keeps fun b o e=>(e0.bs b o e).1;obtain ⟨oc,vsc,t,hc1,hc2,hc3⟩:=hc;refine W.kla_callFunE hr.depth (A8i e0.hok hf) rfl S.co S.gen rfl ⟨c',oc,vsc,t,rfl,A8i e0.hok hc1,hc2,hc3⟩ ?_;rw [hbd];refine wpAny_pure ?_;refine wpAny_newFunctionEnv S.nocell (fun x z=>nomatch z) (fun h' ns sb=>?_) S.kind;have kp:∀ b o,s.heap.get? b=some o->h'.get? b=some o:=fun b o z=>by
  rw [sb.2 b (Nat.ne_of_lt (Heap.lt_size z)),Heap.get?_push_of_some _ z]
 refine ⟨hlim.keeps kp,W.kla_codeExpr ?_⟩;generalize hE:newEnv scope s.heap.objs.size mainGlobals clos (qual++".<locals>.") (some f) (.ref c') none builtinsNs=env;have e1:env.scope=scope:=by rw [<- hE]; rfl
 have e2:env.globals=mainGlobals:=by rw [<- hE]; rfl
 have e3:env.cells=clos:=by rw [<- hE]; rfl
 have e4:env.frame=some s.heap.objs.size:=by rw [<- hE]; rfl
 have hkd:env.scope.kind=.function:=by rw [e1]; exact S.kind
 have fr:frs (env :: outer)=s.heap.objs.size :: frs outer:=by unfold frs; rw [List.filterMap_cons,e4]
 generalize hs2:(Shared.mk h' s.gens s.drawn (s.toks + ([]:List (Str × Value)).length) s.os)=s2;have g2:s2.heap=h':=by rw [<- hs2]
 have nf:∀ b o,s.heap.get? b=some o->b ∉ frs outer->b ∉ frs (env :: outer):=fun b o z hb y=>by
  rw [fr] at y;rcases List.mem_cons.mp y with y | y
  ·rw [y] at z; exact Nat.lt_irrefl _ (Heap.lt_size z)
  ·exact hb y
 have sf:∀ b,b ∈ frs outer->b ∈ frs (env :: outer):=fun b hb=>by rw [fr]; exact Zr _ hb
 have kp2:∀ b o,s.heap.get? b=some o->s2.heap.get? b=some o:=fun b o z=>by rw [g2]; exact kp b o z
 have e02:Env0 P w K mg base (A.deeper env) (env :: outer) s2 H:=by
  refine ⟨Around.frames_deeper e0.frames,e0.mod,fun b o z=>⟨kp2 b o (e0.bs b o z).1,(e0.bs b o z).2⟩,?_,?_,fun b hb=>?_,?_,by rw [<- hs2]; exact e0.bare⟩
  ·rw [g2,sb.1,Heap.size_push]; exact Nat.le_succ_of_le e0.bsz
  ·refine .cons (by rw [hkd]; decide) e4 (by rw [g2]; exact ns) (Heap.get?_none_of_le e0.bsz) (A13 kp2 e0.funs)
  ·rw [fr] at hb;rcases List.mem_cons.mp hb with y | y
   ·rw [y]; exact e0.hok.fresh (Zv _)
   ·exact e0.frf b y
  ·exact e0.hok.kept kp2
 have hm2:s2.heap.Ns mainGlobals mg:=e0.mod.glob.keeps fun b o z=>kp2 b o (e0.bs b o z).1;refine wpAny_Call_Name_kw (Calls.Name_function_global hkd (by show env.scope.names.lookup gx=_; rw [e1]; exact S.gl) (Calls.loadGlobal_global (by rw [e2]; exact hm2) hm ?_) S.gok);have kin2:K.In s2.heap:=e0.mod.kin.keeps fun b o z=>kp2 b o (e0.bs b o z).1;rw [List.map_cons];refine W.callWith_K (h₀:=base) e0.mod.kin hk ?_ rfl (hpl env);have FA:=A14 (M:=model P w) (A:=A.deeper env) (E:=fun e' s'=>wpAny (model P w) (A.deeper env) (leaving env e') (fun x s''=>CR (CX2 P w) outer P w H s Q E (.error e') s'') (fun e'' s''=>CR (CX2 P w) outer P w H s Q E (.error e'') s'') s') (pos:=ppos) (env:=env) e02.hok hkd (ps:=p1 :: pr) (us:=us) (Q:=fun vs s1=>K.In s1.heap/\wpAny (model P w) (A.deeper env) (call (.ref g) ([]++vs)) (fun v s'=>CR (CX2 P w) outer P w H s Q E (.ok (.ret v)) s') (fun e' s'=>wpAny (model P w) (A.deeper env) (leaving env e') (fun x s''=>CR (CX2 P w) outer P w H s Q E (.error e') s'') (fun e'' s''=>CR (CX2 P w) outer P w H s Q E (.error e'') s'') s') s1)
  (by rw [e3]; exact cl) (fun x hx=>⟨by show env.scope.names.lookup x=_; rw [e1]; exact S.fr x hx,(S.ok x hx).1,(S.ok x hx).2⟩) ⟨kin2,?_⟩
 ·rw [List.map_cons] at FA;exact FA
 have r2:Vals (vs++[]) (us++[]):=rv.append .nil;have hl:(us++[]).length=gps.length:=by rw [<- r2.length,List.append_nil]; exact F.len _ _ _ _ h
 have h2:gsp (vs++[]) H Q E:=by rw [List.append_nil]; exact h
 refine wpAny_call (codeAny_mono (F.run (A.deeper env) (env :: outer) s2 H ⟨us,[]⟩ (us++[]) (vs++[]) Q E (hr.deeper _) e02 (hb s2 us kin2 hl) r2 h2) fun r s' hq=>?_);cases r with
 | ok fl =>
  cases fl with
  | ret u =>
   obtain ⟨v,H',os,bare,un,hok,r3,q⟩:=hq;exact ⟨v,H',by rw [os,<- hs2],bare,⟨fun b o z n hb hx=>un.keep b o (kp2 b o z) n (nf b o z hb) hx,fun b o z n hb hx=>un.slot b o (kp2 b o z) n (sf b hb) hx,fun b o z n hx=>un.free b o (kp2 b o z) n hx,fun b o z hx=>un.there b o (kp2 b o z) hx,un.tups,un.frzs,un.tbls⟩,hok,r3,q⟩
  | next=>exact False.elim hq
  | brk=>exact False.elim hq
  | cont=>exact False.elim hq
 | error ev =>
  obtain ⟨a,cls,a0,dx,H',B,rfl,F,D,q⟩:=hq;refine A5n (Around.frames_deeper e0.frames) e4 F.fly D fun h'' hf hs D'=>?_;refine ⟨a,cls,a0,dx,H',B,rfl,⟨by rw [F.os,<- hs2],F.bare,hf,F.hok,fun b o z n hb=>F.keep b o (kp2 b o z) n (nf b o z hb),fun b o z n hb=>?_,fun b o z n=>F.free b o (kp2 b o z) n,fun b o z hb=>F.there b o (kp2 b o z) (nf b o z hb),F.tups,F.frzs,F.tbls⟩,D',q⟩;obtain ⟨sl,e1⟩:=F.slot b o (kp2 b o z) n (sf b hb);obtain ⟨_,o',ho,hn⟩:=F.fly.2.2.1.mem (sf b hb);rw [e1] at ho; cases ho;obtain ⟨sl3,e3⟩:=hs b _ e1 hn;exact ⟨sl3,e3⟩
end
structure DeedOk (P:Program) (w:World) (K:W.Frag) (mg:Str->Option Value) (base:Heap) (k:Nat) (f:Addr) (Hc:Hp->Prop) (sp:Hp->VK->XK->Prop):Prop where
 run:∀ (A:Around) (outer:List Env) (s:Shared) (H:Hp) (Q:VK) (E:XK),Room k A->Env0 P w K mg base A outer s H->Hc H->sp H Q E->codeAny (model P w) A (.call (.ref f) ⟨[],[]⟩) (CR (CX2 P w) outer P w H s Q E) s
 fn:∀ H,Hc H->∃ o fd,H f=some (fz o)/\o.data=.func fd
section
variable {X:Cx} {hs:List ExceptHandler} {pos pos2:Pos} {k i:Nat} {x:Str} {p pos5:Pos} {h0:ExceptHandler}
def B7u (P:Program) (w:World) (K:W.Frag) (mg:Str->Option Value) (base:Heap) (k i:Nat) (hx:TH):TS:=fun D σ H=>∃ f Hc sp,σ[i]?=some (some (.ref f))/\DeedOk P w K mg base k f Hc sp/\Hc H/\sp H (fun _ H2=>D.nx σ H2) (fun cls dx H2=>hx cls dx D σ H2)
def B3v {hx:TH} (hN:X.N[i]?=some x) (hv:Vis X.env.scope x) (hr:Room k X.A) (hh:QH X (h0 :: hs) hx)
  (hst:X.stack=X.env :: X.outer:=by rfl) (hfr:X.env.frame=some X.env.locals:=by rfl)
  (hdb:(x == ("__debug__":Str))=false:=by decide) (hcd:(x == ("__classdict__":Str))=false:=by decide)
  (hsw:swapsWith (.Call (.Name x p) [] [] pos) none pos2.line X.env=pure false:=by rfl) :
  PS X (.Try [.Expr (.Call (.Name x p) [] [] pos) pos2] (h0 :: hs) [] [] pos5) (B7u X.prog X.w X.K X.mg X.base k i hx):=by
 rintro pins s σ H D I ⟨f,Hc,sp,hf,DO,hH,h⟩;refine wpAny_Try_except (wpAny_execs_cons (wpAny_Expr_any ?_ I.quiet hsw));refine wpAny_Call_Name_kw (wpAny_mono (Z4 (X:=X.nox) (i:=i) (x:=x) (pos:=p) hN hv hdb hcd pins s σ H (fun v H'=>v=.ref f/\H'=H) (I.wish _) ⟨_,hf,rfl,rfl⟩) (fun u s1 hq=>?_) fun _ _ z=>z.elim);obtain ⟨v,H1,I1,r,ev,eH⟩:=hq;subst ev;subst eH;obtain rfl:u=Value.ref f:=r;have I1:=I1.unwish;obtain ⟨o,fd,ho,hd⟩:=DO.fn H1 hH;refine W.callWith_F0 (first:=[]) ?_ ?_
 ·obtain ⟨oc,od,da,sl⟩:=o;subst hd;exact ⟨_,_,_,_,A8i I1.hok ho⟩
 refine wpAny_call (codeAny_mono (DO.run X.A X.stack s1 H1 _ _ hr I1.env0 hH h) fun r s' hq=>?_);cases r with
 | ok fl =>
  cases fl with
  | ret u =>
   obtain ⟨v,H2,I2,r2,q2⟩:=I1.after hq;exact wpAny_execs_nil (wpAny_execs_nil ⟨σ,H2,I2,q2⟩)
  | next=>exact False.elim hq
  | brk=>exact False.elim hq
  | cont=>exact False.elim hq
 | error ev =>
  obtain ⟨a,cls,a0,dx,H2,B,rfl,Fl,D2,qd⟩:=hq;have hfrm:X.A.frames=some (X.env :: X.outer):=by rw [<- hst]; exact I.ok.frames
  refine A70 (outer:=X.outer) hfrm hfr (by rw [<- hst]; exact Fl.fly) D2 fun h1 hd1 u1 D3=>?_;refine C0x hd1 D3 fun h2 hd2 u2 D4=>?_;exact hh.out pins s1 _ σ H1 H2 D a cls a0 dx B I1 (Fl.step (h':=h2) (by rw [hst]; exact hd2) (u1.trans u2)) D4 qd
def A9o {hx:TH} (hN:X.N[i]?=some x) (hv:Vis X.env.scope x) (hr:Room k X.A) (hh:QH X (h0 :: hs) hx)
  (hst:X.stack=X.env :: X.outer:=by rfl) (hfr:X.env.frame=some X.env.locals:=by rfl)
  (hdb:(x == ("__debug__":Str))=false:=by decide) (hcd:(x == ("__classdict__":Str))=false:=by decide)
  (hsw:swapsWith (.Call (.Name x p) [] [] pos) none pos2.line X.env=pure false:=by rfl) :
  QS X (.Try [.Expr (.Call (.Name x p) [] [] pos) pos2] (h0 :: hs) [] [] pos5) (B7u X.prog X.w X.K X.mg X.base k i hx):=⟨B3v hN hv hr hh hst hfr hdb hcd hsw⟩
end
def A38 {f:Str->Addr} {x:Str}:∀ {L:List (Str × Addr)},(∀ p ∈ L,p.2=f p.1)->x ∈ L.map (·.1)->L.lookup x=some (f x)
 | (y,v) :: r,h,m=>by
  rw [List.lookup_cons];by_cases e:x=y
  ·subst e;rw [beq_self_eq_true];exact congrArg some (h (x,v) Zy)
  ·have:(x == y)=false:=beq_eq_false_iff_ne.mpr e;rw [this];rcases List.mem_cons.mp m with z | z
   ·exact absurd z e
   ·exact A38 (fun p hp=>h p (Zr _ hp)) z
def A29 {env:Env} {cx:Str->Addr}:∀ (l:List (Str × NameKind)) (cs:List (Str × Addr)),(∀ y ∈ l,y.2=.free->env.cells.lookup y.1=some (cx y.1)) ->
  (forIn (m:=Sem) l cs fun x (cs:List (Str × Addr))=>match x with
    | (name,kind)=>if (kind == NameKind.free)=true then do
      let a <- cellOf env name
      pure (ForInStep.yield ((name,a) :: cs))
     else pure (ForInStep.yield cs))=pure (l.foldl (fun cs y=>if y.2 == NameKind.free then (y.1,cx y.1) :: cs else cs) cs)
 | [],cs,_=>rfl
 | (x,k) :: r,cs,h=>by
  rw [List.forIn_cons,List.foldl_cons];by_cases hk:k=.free
  ·subst hk;have e:cellOf env x=pure (cx x):=by
    unfold cellOf;rw [h (x,.free) Zy rfl]
   show (do let s <- (do let a <- cellOf env x; pure (ForInStep.yield ((x,a) :: cs))); _)=_;rw [e];exact A29 r _ fun y hy=>h y (Zr _ hy)
  ·have e:(k == NameKind.free)=false:=beq_eq_false_iff_ne.mpr hk;dsimp only;rw [e];exact A29 r _ fun y hy=>h y (Zr _ hy)
def A8u (sc:Scope) (cx:Str->Addr):List (Str × Addr):=sc.names.foldl (fun cs y=>if y.2 == NameKind.free then (y.1,cx y.1) :: cs else cs) []
def B68 {sc:Scope} {env:Env} {cx:Str->Addr} (h:∀ y ∈ sc.names,y.2=.free->env.cells.lookup y.1=some (cx y.1)):closureFor sc env=pure (A8u sc cx):=by
 unfold closureFor A8u;exact (congrArg (fun m:Sem (List (Str × Addr))=>m >>= fun s=>pure s) (A29 sc.names [] h)).trans rfl
def A00 {cx:Str->Addr}:∀ (l:List (Str × NameKind)) (cs:List (Str × Addr)),(∀ p ∈ cs,p.2=cx p.1) ->
  (∀ p ∈ l.foldl (fun cs y=>if y.2 == NameKind.free then (y.1,cx y.1) :: cs else cs) cs,p.2=cx p.1) /\
  (∀ x,(x ∈ cs.map (·.1)\/(x,NameKind.free) ∈ l)->x ∈ (l.foldl (fun cs y=>if y.2 == NameKind.free then (y.1,cx y.1) :: cs else cs) cs).map (·.1))
 | [],cs,h=>⟨h,fun x hx=>hx.elim id fun z=>nomatch z⟩
 | (y,k) :: r,cs,h=>by
  rw [List.foldl_cons];by_cases hk:k=.free
  ·subst hk;obtain ⟨a,b⟩:=A00 r ((y,cx y) :: cs) fun p hp=>by
    rcases List.mem_cons.mp hp with z | z
    ·rw [z]
    ·exact h p z
   refine ⟨a,fun x hx=>b x ?_⟩;rcases hx with z | z
   ·exact .inl (Zr _ z)
   ·rcases List.mem_cons.mp z with z | z
    ·cases z; exact .inl Zy
    ·exact .inr z
  ·have e:(k == NameKind.free)=false:=beq_eq_false_iff_ne.mpr hk;dsimp only;rw [e];obtain ⟨a,b⟩:=A00 r cs h;refine ⟨a,fun x hx=>b x ?_⟩;rcases hx with z | z
   ·exact .inl z
   ·rcases List.mem_cons.mp z with z | z
    ·cases z; exact absurd rfl hk
    ·exact .inr z
def A5t {sc:Scope} {cx:Str->Addr} {x:Str} (h:sc.names.lookup x=some .free):(A8u sc cx).lookup x=some (cx x):=by
 obtain ⟨a,b⟩:=A00 (cx:=cx) sc.names [] fun p z=>nomatch z;exact A38 a (b x (.inr (PySem.mem_of_lookup h)))
def spR (P:Program) (w:World) (K:W.Frag) (mg:Str->Option Value) (base:Heap) (k:Nat) (h:VK->XK):Sp:=fun vs H Q _=>∃ f Hc sp,vs=[.ref f]/\DeedOk P w K mg base k f Hc sp/\Hc H/\∀ (Q1:VK) (E1:XK),(∀ v H2,Q .non H2->Q1 v H2)->(∀ cls dx H2,h Q cls dx H2->E1 cls dx H2)->sp H Q1 E1
def off (cs:List Addr) (H:Hp):Hp:=fun b=>if b ∈ cs then none else H b
inductive Vat (σ:St):List Nat->List V->Prop
 | nil:Vat σ [] []
 | cons {i:Nat} {is:List Nat} {v:V} {vs:List V} (h:σ[i]?=some (some v)) (r:Vat σ is vs):Vat σ (i :: is) (v :: vs)
def A9h (Pa:Addr) (lpos:Pos) (is:List Nat) (gsp:Sp) (h:VK->XK):TE:=fun σ H Q=>∃ tb vs,H Pa=some (.tbl tb)/\TriplesOk tb.toList/\codeAmong lpos tb.toList=none/\Vat σ is vs /\
 ∀ (H1:Hp) (cs:List Addr),(∀ b o,b≠Pa->H b=some o->H1 b=some o)->(∀ b ∈ cs,H b=none/\∃ o u,H1 b=some (.frz o u))->∀ (Q1:VK) (E1:XK),(∀ v H2,Q .non (off cs H2)->Q1 v H2)->(∀ cls dx H2,h (fun v H2=>Q v (off cs H2)) cls dx H2->E1 cls dx H2)->gsp vs H1 Q1 E1
structure DoorX (X:Cx) (c Pa:Addr):Prop where
 code:X.env.code=.ref c
 hd:W.CodeHd X.base c Pa
 fn:∀ x,X.fn x=true
 bl:∃ bm o,X.mg "__builtins__"=some (.ref bm)/\bm≠builtinsNs/\bm≠mainGlobals/\X.base.get? bm=some o/\o.cls=.type "module"/\o.dict=some builtinsNs/\o.data=.plain
section
variable {X:Cx} {k k2:Nat} {g r c Pa:Addr} {gfd rfd:FuncData} {gps:List Str} {gsp:Sp} {gx rx y:Str} {scope:Scope} {params:Arguments} {pp ppos p1 lpos pos:Pos} {h:VK->XK} {q1:Str × Pos} {pr:List (Str × Pos)} {is:List Nat}
def CodeHd.kept {h h':Heap} {c P:Addr} (x:W.CodeHd h c P) (k:∀ b o,h.get? b=some o->h'.get? b=some o):W.CodeHd h' c P:=by
 obtain ⟨o,vs,f,tf,fl,tg,inF,tx,tt,h1,h2⟩:=x;exact ⟨o,vs,f,tf,fl,tg,inF,tx,tt,k _ _ h1,h2⟩
def A0b {pins:List (Addr × Obj)} {σ:St} {H:Hp} {s:Shared} {cx:Str->Addr} (I:Inv X pins σ H s):∀ {names:List Str} {is:List Nat} {vs:List V},Vat σ is vs->is.length=names.length->(∀ z ∈ names.zip is,X.N[z.2]?=some z.1) ->
  (∀ x ∈ names,X.env.kindOf x=some .cell/\X.env.cells.lookup x=some (cx x))->∃ us,Vals vs us/\∀ (H1:Hp) (clos:List (Str × Addr)),(∀ x ∈ names,clos.lookup x=some (cx x))->(∀ x ∈ names,∀ o,s.heap.get? (cx x)=some o->H1 (cx x)=some (fz o))->CellsAt H1 clos names us
 | [],_,_,.nil,_,_,_=>⟨[],.nil,fun _ _ _ _=>.nil⟩
 | x :: r,i :: is,v :: vs,.cons hv hr,hl,hx,hc=>by
  obtain ⟨us,rv,k⟩:=A0b I (names:=r) hr (by simpa using hl) (fun z hz=>hx z (by rw [List.zip_cons_cons]; exact Zr _ hz)) fun x hx=>hc x (Zr _ hx);obtain ⟨m,hn,hlo⟩:=I.loc;obtain ⟨c1,c2⟩:=hc x Zy;obtain ⟨u,ru,lk⟩:=hlo i x v (hx (x,i) (by rw [List.zip_cons_cons]; exact Zy)) hv (.inr (.inl c1));rcases lk with ⟨hk,_⟩ | ⟨_,c,hcl,o,ho,hd⟩
  ·rw [c1] at hk; cases hk
  ·rw [c2] at hcl; cases hcl;exact ⟨u :: us,.cons ru rv,fun H1 clos h1 h2=>.cons (h1 x Zy) (h2 x Zy o ho) hd (k H1 clos (fun y hy=>h1 y (Zr _ hy)) fun y hy=>h2 y (Zr _ hy))⟩
def B37 (D:DoorX X c Pa)
  (F:FnOk X.prog X.w X.K X.mg X.base (CX2 X.prog X.w) k g gfd gps gsp) (hk:W.keepIn X.K (.ref g)=true) (hb:Binds X.K gfd gps []) (hm:X.mg gx=some (.ref g))
  (R:FnOk X.prog X.w X.K X.mg X.base CX0 k2 r rfd [y] (spR X.prog X.w X.K X.mg X.base (k + 1) h)) (hr:Room k2 X.A) (hkr:W.keepIn X.K (.ref r)=true) (hbr:Binds X.K rfd [y] []) (hgr:Gl X rx) (hmr:X.mg rx=some (.ref r))
  (S:LamS scope gx ((q1 :: pr).map (·.1))) (hsc:∀ z ∈ scope.names,z.2=.free->X.env.kindOf z.1=some .cell)
  (hix:∀ z ∈ ((q1 :: pr).map (·.1)).zip is,X.N[z.2]?=some z.1) (hil:is.length=((q1 :: pr).map (·.1)).length)
  (hpl:∀ env:Env,(backTo ppos (starEach (pr.map fun q=>Expr.Name q.1 q.2) env)).any (·.1)=false)
  (hdf:defaultsOf params X.env=([],[]))
  (hbd:∀ clos pm c' ctv,bindArgs (W.kla_fn "<lambda>" (X.env.qual++"<lambda>") params (.Call (.Name gx pp) ((q1 :: pr).map fun q=>Expr.Name q.1 q.2) [] ppos) scope clos pm (.ref c') ctv) ⟨[],[]⟩=pure [])
  (hdb:(rx == ("__debug__":Str))=false:=by decide) (he:starEach [.Lambda params (.Call (.Name gx pp) ((q1 :: pr).map fun q=>Expr.Name q.1 q.2) [] ppos) scope lpos] X.env=(false,eval (.Lambda params (.Call (.Name gx pp) ((q1 :: pr).map fun q=>Expr.Name q.1 q.2) [] ppos) scope lpos) X.env) :: starEach [] X.env:=by rfl) :
  PE X (.Call (.Name rx p1) [.Lambda params (.Call (.Name gx pp) ((q1 :: pr).map fun q=>Expr.Name q.1 q.2) [] ppos) scope lpos] [] pos) (A9h Pa lpos is gsp h):=by
 rintro pins s σ H Q I ⟨tb,vs,hPa,ht,hca,hv,hq⟩;refine wpAny_Call_Name_kw (R3 I hgr hmr ?_ hdb);refine W.callWith_K (h₀:=X.base) I.ok.mod.kin hkr (A3l he ?_) he rfl;obtain ⟨cx,hcx⟩:∃ cx:Str->Addr,∀ z ∈ scope.names,z.2=.free->X.env.cells.lookup z.1=some (cx z.1):=by
  refine ⟨fun x=>(X.env.cells.lookup x).getD 0,fun z hz hf=>?_⟩;obtain ⟨c,hc⟩:=I.ok.has z.1 (.inl (hsc z hz hf));show _=some ((X.env.cells.lookup z.1).getD 0);rw [hc]; rfl
 obtain ⟨bm,bo,b1,b2,b3,b4,b5⟩:=D.bl;have bP:bm≠Pa:=fun z=>by
  have:=(I.bs bm bo b4).2;rw [z,hPa] at this; cases this
 have mP:mainGlobals≠Pa:=fun z=>by
  obtain ⟨o,_,_,ho,_⟩:=I.mod.glob;have:=(I.bs _ o ho).2;rw [z,hPa] at this; cases this
 have gP:s.heap.get? Pa=some (W.tabObj tb):=I.hok Pa _ hPa;refine W.kla_eval hdf (W.kla_makeFunction (B68 hcx) I.ok.glob (I.mod.glob.keeps I.bk) D.code (CodeHd.kept D.hd I.bk) gP ht hca mP ⟨bm,bo,b1,b2,b3,bP,I.bk _ _ b4,b5⟩ fun c' ctv h' tk ext hc1 hc2 crec hPa2=>?_);refine Calls.spliced_nil ?_;have gfd_:=fun x (hx:x ∈ (q1 :: pr).map (·.1))=>hsc (x,.free) (PySem.mem_of_lookup (S.fr x hx)) rfl;have gcx:=fun x (hx:x ∈ (q1 :: pr).map (·.1))=>hcx (x,.free) (PySem.mem_of_lookup (S.fr x hx)) rfl;obtain ⟨us,rv,mkC⟩:=A0b I hv hil hix fun x hx=>⟨gfd_ x hx,gcx x hx⟩;obtain ⟨_,oc,ocv,oct,ec,co1,co2,co3⟩:=crec;cases ec;generalize hlo:W.kla_obj "<lambda>" (X.env.qual++"<lambda>") params (.Call (.Name gx pp) ((q1 :: pr).map fun q=>Expr.Name q.1 q.2) [] ppos) scope (A8u scope cx) ((X.mg "__name__").getD .none) c' ctv=lamo;have c'lt:s.heap.objs.size<=c':=hc1;have fAlt:s.heap.objs.size<=h'.objs.size:=Nat.le_of_lt (Nat.lt_of_le_of_lt hc1 hc2);generalize hs3:(Shared.mk (h'.push lamo) s.gens s.drawn tk s.os)=s3;have g3:s3.heap=h'.push lamo:=by rw [<- hs3]
 have kp:∀ b o,b≠Pa->s.heap.get? b=some o->s3.heap.get? b=some o:=fun b o n z=>by rw [g3]; exact Heap.get?_push_of_some _ (ext b o n z)
 have lts:∀ {b o},s.heap.get? b=some o->b < s.heap.objs.size:=fun z=>Heap.lt_size z;generalize hcs:((q1 :: pr).map fun q=>cx q.1)=cs;have incs:∀ b ∈ cs,∃ x,X.env.cells.lookup x=some b/\∃ o,s.heap.get? b=some o:=fun b hb=>by
  rw [<- hcs] at hb;obtain ⟨q,hq,rfl⟩:=List.mem_map.mp hb;have hx:=List.mem_map_of_mem (f:=(·.1)) hq;obtain ⟨v,o,ho,_⟩:=I.cell q.1 _ (gcx q.1 hx);exact ⟨q.1,gcx q.1 hx,o,ho⟩
 have csN:∀ b ∈ cs,H b=none:=fun b hb=>by
  obtain ⟨x,hx,_⟩:=incs b hb;exact I.freeC x b hx
 have csP:∀ b ∈ cs,b≠Pa:=fun b hb z=>by
  have:=csN b hb;rw [z,hPa] at this; cases this
 have frsN:∀ b ∈ frs X.stack,H b=none/\b ∉ cs/\b < s.heap.objs.size:=fun b hb=>by
  refine ⟨I.stkFree b hb,fun z=>?_,?_⟩
  ·obtain ⟨x,hx,_⟩:=incs b z;rcases List.mem_cons.mp (I.stkSub b hb) with e | e
   ·exact I.cne x b hx e
   ·obtain ⟨_,o,ho,_⟩:=I.ok.funs.mem e;exact absurd (Heap.lt_size ho) (Nat.not_lt.mpr (I.ok.cab x b (D.fn x) hx))
  ·obtain ⟨_,o,ho,_⟩:=I.stack.mem hb;exact Heap.lt_size ho
 generalize hH1:(fun b=>if b=Pa then some (.tbl (tb++#[PySem.rawInt ↑lpos.line,PySem.rawInt ↑lpos.col,PySem.Value.ref c'])) else if b=h'.objs.size then some (fz lamo) else if b=c' then some (fz oc) else if b ∈ cs then (s.heap.get? b).map fz else H b:Hp)=H1;have h1P:H1 Pa=some (.tbl (tb++#[PySem.rawInt ↑lpos.line,PySem.rawInt ↑lpos.col,PySem.Value.ref c'])):=by rw [<- hH1]; exact if_pos rfl
 have Plt:Pa < s.heap.objs.size:=lts gP;have fP:h'.objs.size≠Pa:=fun z=>absurd Plt (Nat.not_lt.mpr (z ▸ fAlt));have cP:c'≠Pa:=fun z=>absurd Plt (Nat.not_lt.mpr (z ▸ c'lt));have cf:c'≠h'.objs.size:=Nat.ne_of_lt hc2;have nb:∀ {b:Nat},b < s.heap.objs.size->b≠h'.objs.size/\b≠c':=fun {b} n=>⟨Nat.ne_of_lt (Nat.lt_of_lt_of_le n fAlt),Nat.ne_of_lt (Nat.lt_of_lt_of_le n c'lt)⟩;have h1f:H1 h'.objs.size=some (fz lamo):=by
  rw [<- hH1]; show (if _ then _ else _)=_;rw [if_neg fP,if_pos rfl]
 have h1c:H1 c'=some (fz oc):=by
  rw [<- hH1]; show (if _ then _ else _)=_;rw [if_neg cP,if_neg cf,if_pos rfl]
 have h1s:∀ b ∈ cs,∀ o,s.heap.get? b=some o->H1 b=some (fz o):=fun b hb o ho=>by
  rw [<- hH1]; show (if _ then _ else _)=_;rw [if_neg (csP b hb),if_neg (nb (lts ho)).1,if_neg (nb (lts ho)).2,if_pos hb,ho]; rfl
 have h1o:∀ b,b≠Pa->b ∉ cs->b < s.heap.objs.size->H1 b=H b:=fun b n1 n2 n3=>by
  rw [<- hH1]; show (if _ then _ else _)=_;rw [if_neg n1,if_neg (nb n3).1,if_neg (nb n3).2,if_neg n2]
 have h1k:∀ b o,b≠Pa->H b=some o->H1 b=some o:=fun b o n z=>by
  obtain ⟨ob,zz⟩:=A35 (I.hok b o z);rw [h1o b n (fun w=>by rw [csN b w] at z; cases z) (lts zz),z]
 have h1n:∀ b o,s.heap.get? b=some o->H b=none->b ∉ cs->H1 b=none:=fun b o e n m=>by
  rw [h1o b (fun z=>by rw [z,hPa] at n; cases n) m (lts e),n]
 have hok1:HOk X.prog X.w H1 s3.heap:=fun b ob z=>by
  by_cases z1:b=Pa
  ·rw [z1,h1P] at z; cases z;rw [z1];show s3.heap.get? Pa=_;rw [g3]; exact Heap.get?_push_of_some _ hPa2
  by_cases z2:b=h'.objs.size
  ·rw [z2,h1f] at z; cases z;rw [z2];exact B6v (by rw [g3]; exact Heap.get?_push_size h' (by rw [<- hlo]; rfl))
  by_cases z3:b=c'
  ·rw [z3,h1c] at z; cases z;rw [z3];exact B6v (by rw [g3]; exact Heap.get?_push_of_some _ co1)
  by_cases z4:b ∈ cs
  ·obtain ⟨_,_,o,ho⟩:=incs b z4;rw [h1s b z4 o ho] at z; cases z;exact B6v (kp b o z1 ho)
  ·rw [<- hH1] at z;have z:H b=some ob:=by
    have z:(if b=Pa then _ else if _ then _ else if _ then _ else if b ∈ cs then _ else H b)=some ob:=z
    rwa [if_neg z1,if_neg z2,if_neg z3,if_neg z4] at z
   refine (I.hok b ob z).stay (fun d u hd e=>kp d u ?_ e) (fun d e=>?_) fun d xs e=>?_
   ·rcases hd with rfl | hd
    ·exact z1
    ·rintro rfl;rw [hPa] at hd; cases hd
   ·exact h1k d _ (fun w=>by rw [w,hPa] at e; cases e) e
   ·exact h1k d _ (fun w=>by rw [w,hPa] at e; cases e) e
 have bP2:∀ b o,X.base.get? b=some o->b≠Pa:=fun b o e z=>by
  have:=(I.bs b o e).2;rw [z,hPa] at this; cases this
 have kin3:X.K.In s3.heap:=I.ok.mod.kin.keeps fun b o e=>kp b o (bP2 b o e) (I.bk b o e);have sz3:s.heap.objs.size<=s3.heap.objs.size:=by rw [g3,Heap.size_push]; exact Nat.le_succ_of_le fAlt
 have e03:Env0 X.prog X.w X.K X.mg X.base X.A X.stack s3 H1:=by
  refine ⟨I.ok.frames,I.ok.mod,fun b o e=>⟨kp b o (bP2 b o e) (I.bk b o e),h1n b o (I.bk b o e) (I.bs b o e).2 fun z=>?_⟩,Zx (Zx I.ok.bsz I.sz) sz3,A0a (fun b hb o e=>kp b o (fun z=>?_) e) I.stack,fun b hb=>?_,hok1,by rw [<- hs3]; exact I.bare⟩
  ·obtain ⟨x,hx,_⟩:=incs b z;exact absurd (Heap.lt_size e) (Nat.not_lt.mpr (Zx I.ok.bsz (I.ok.cab x b (D.fn x) hx)))
  ·have:=(frsN b hb).1;rw [z,hPa] at this; cases this
  ·rw [h1o b (fun z=>by have:=(frsN b hb).1; rw [z,hPa] at this; cases this) (frsN b hb).2.1 (frsN b hb).2.2];exact (frsN b hb).1
 have DO:DeedOk X.prog X.w X.K X.mg X.base (k + 1) h'.objs.size (fun H=>H h'.objs.size=some (fz lamo)/\H c'=some (fz oc)/\CellsAt H (A8u scope cx) ((q1 :: pr).map (·.1)) us) (gsp vs) :=
  ⟨fun A outer s H Q E hr e0 hH hs=>B0x F hk hb hm S hr e0 hpl (by rw [hlo]; exact hH.1) ⟨oc,ocv,oct,hH.2.1,co2,co3⟩ hH.2.2 rv (hbd _ _ _ _) hs,fun H hH=>⟨lamo,_,hH.1,by rw [<- hlo]⟩⟩
 refine ⟨kin3,?_⟩;refine wpAny_call (codeAny_mono (R.run X.A X.stack s3 H1 ⟨[.ref h'.objs.size],[]⟩ [.ref h'.objs.size] [.ref h'.objs.size] (fun v H2=>Q v (off cs H2)) E0 hr e03 (hbr s3 [.ref h'.objs.size] kin3 rfl) (.cons rfl .nil)
  ⟨h'.objs.size,_,gsp vs,rfl,DO,⟨h1f,h1c,mkC H1 _ (fun x hx=>A5t (S.fr x hx)) fun x hx o ho=>h1s _ (by rw [<- hcs]; obtain ⟨q,hq,rfl⟩:=List.mem_map.mp hx; exact List.mem_map_of_mem (f:=fun q:Str × Pos=>cx q.1) hq) o ho⟩,hq H1 cs h1k fun b hb=>⟨csN b hb,by obtain ⟨_,_,o,ho⟩:=incs b hb; exact ⟨_,_,h1s b hb o ho⟩⟩⟩) fun rr s' hqq=>?_)
 cases rr with
 | error e=>exact False.elim hqq
 | ok fl =>
  cases fl with
  | next=>exact False.elim hqq
  | brk=>exact False.elim hqq
  | cont=>exact False.elim hqq
  | ret u =>
   obtain ⟨v,H2,os,bare,un,hok2,r3,q⟩:=hqq;refine ⟨v,off cs H2,?_,r3,q⟩;have ofn:∀ b,b ∉ cs->off cs H2 b=H2 b:=fun b z=>if_neg z;have ofc:∀ b,b ∈ cs->off cs H2 b=none:=fun b z=>if_pos z;have h2s:∀ b ∈ cs,∃ o,s.heap.get? b=some o/\H2 b=some (fz o):=fun b hb=>by
    obtain ⟨_,_,o,ho⟩:=incs b hb;exact ⟨o,ho,un.frzs b _ _ (h1s b hb o ho)⟩
   have nP:∀ b,H b=none->b≠Pa:=fun b n z=>by rw [z,hPa] at n; cases n
   have nC:∀ b o,H b=some o->b ∉ cs:=fun b o z w=>by rw [csN b w] at z; cases z
   have nQ:∀ b o,H b=some o->(∀ ps,o≠.tbl ps)->b≠Pa:=fun b o z w y=>by rw [y,hPa] at z; cases z; exact w _ rfl
   refine I.call' (ch:=[]) (by rw [os,<- hs3]) ⟨fun b o e n hb hx=>?_,fun b o e n hb hx=>un.slot b o (kp b o (nP b n) e) (h1n b o e n (frsN b hb).2.1) hb hx,fun b o e n hx=>?_,fun b o e hx=>?_,fun b xs z=>(ofn b (nC b _ z)).trans (un.tups b xs (h1k b _ (nQ b _ z fun _ w=>by cases w) z)),fun b o u z=>(ofn b (nC b _ z)).trans (un.frzs b o u (h1k b _ (nQ b _ z fun _ w=>by cases w) z)),fun b ps z=>?_⟩ (fun b ob z=>?_) bare fun b z=>absurd z List.not_mem_nil
   ·by_cases hc:b ∈ cs
    ·obtain ⟨o',ho,h2⟩:=h2s b hc;rw [e] at ho; cases ho;exact A8i hok2 h2
    ·exact un.keep b o (kp b o (nP b n) e) (h1n b o e n hc) hb hx
   ·by_cases hc:b ∈ cs
    ·exact ofc b hc
    ·exact (ofn b hc).trans (un.free b o (kp b o (nP b n) e) (h1n b o e n hc) hx)
   ·by_cases hp:b=Pa
    ·rw [hp];exact un.there Pa _ (show s3.heap.get? Pa=some _ from hok1 Pa _ h1P) List.not_mem_nil
    ·exact un.there b o (kp b o hp e) hx
   ·rw [ofn b (nC b _ z)];by_cases hp:b=Pa
    ·subst hp;rw [hPa] at z; cases z;obtain ⟨more,e⟩:=un.tbls b _ h1P;exact ⟨_,e.trans (by rw [Array.append_assoc])⟩
    ·exact un.tbls b ps (h1k b _ hp z)
   ·have hc:b ∉ cs:=fun w=>by rw [ofc b w] at z; cases z
    rw [ofn b hc] at z;refine (hok2 b ob z).stay (fun _ _ _ z=>z) (fun d e=>(ofn d fun w=>?_).trans e) fun d xs e=>(ofn d fun w=>?_).trans e
    ·obtain ⟨_,_,h2⟩:=h2s d w;rw [e] at h2; cases h2
    ·obtain ⟨_,_,h2⟩:=h2s d w;rw [e] at h2; cases h2
def A9q {es:List Expr} {x1:Str} {xr:List Str} (D:DoorX X c Pa)
  (hes:∃ (q1:Str × Pos) (pr:List (Str × Pos)),es=((q1 :: pr).map fun q=>Expr.Name q.1 q.2)/\(q1 :: pr).map (·.1)=x1 :: xr)
  (F:FnOk X.prog X.w X.K X.mg X.base (CX2 X.prog X.w) k g gfd gps gsp) (hk:W.keepIn X.K (.ref g)=true) (hb:Binds X.K gfd gps []) (hm:X.mg gx=some (.ref g))
  (R:FnOk X.prog X.w X.K X.mg X.base CX0 k2 r rfd [y] (spR X.prog X.w X.K X.mg X.base (k + 1) h)) (hr:Room k2 X.A) (hkr:W.keepIn X.K (.ref r)=true) (hbr:Binds X.K rfd [y] []) (hgr:Gl X rx) (hmr:X.mg rx=some (.ref r))
  (S:LamS scope gx (x1 :: xr)) (hsc:∀ z ∈ scope.names,z.2=.free->X.env.kindOf z.1=some .cell)
  (hix:∀ z ∈ (x1 :: xr).zip is,X.N[z.2]?=some z.1) (hil:is.length=(x1 :: xr).length)
  (hpl:∀ env:Env,(backTo ppos (starEach es.tail env)).any (·.1)=false)
  (hdf:defaultsOf params X.env=([],[]))
  (hbd:∀ clos pm c' ctv,bindArgs (W.kla_fn "<lambda>" (X.env.qual++"<lambda>") params (.Call (.Name gx pp) es [] ppos) scope clos pm (.ref c') ctv) ⟨[],[]⟩=pure [])
  (hdb:(rx == ("__debug__":Str))=false:=by decide) (he:starEach [.Lambda params (.Call (.Name gx pp) es [] ppos) scope lpos] X.env=(false,eval (.Lambda params (.Call (.Name gx pp) es [] ppos) scope lpos) X.env) :: starEach [] X.env:=by rfl) :
  QE X (.Call (.Name rx p1) [.Lambda params (.Call (.Name gx pp) es [] ppos) scope lpos] [] pos) (A9h Pa lpos is gsp h):=by
 obtain ⟨q1,pr,rfl,e⟩:=hes;rw [<- e] at S hix hil;exact ⟨B37 D F hk hb hm R hr hkr hbr hgr hmr S hsc hix hil hpl hdf hbd hdb he⟩
def hnd (C1 C2:Addr) (fld1 fld2 w1 w2:Str) (Q:VK):XK:=fun cls dx H2=>∃ d v,dx=some d/\plainV v /\
 ((cls=.ref C1/\H2 d=some (.xd [(fld1,v)])/\∀ H3,Same H2 H3->∀ t,H3 t=none->∀ l,upd H3 t (.tup [.str w1,v]) l=none->Q (.ref l) (upd (upd H3 t (.tup [.str w1,v])) l (.lst [.bl true,.ref t]))) \/
  (cls=.ref C2/\H2 d=some (.xd [(fld2,v)])/\∀ H3,Same H2 H3->∀ t,H3 t=none->∀ l,upd H3 t (.tup [.str w2,v]) l=none->Q (.ref l) (upd (upd H3 t (.tup [.str w2,v])) l (.lst [.bl true,.ref t]))))
def FnOk.or {P:Program} {w:World} {K:W.Frag} {mg:Str->Option Value} {base:Heap} {CX:CXT} {k:Nat} {f:Addr} {fd:FuncData} {ps:List Str} {sp1 sp2:Sp} (F:FnOk P w K mg base CX k f fd ps sp1) (G:FnOk P w K mg base CX k f fd ps sp2):FnOk P w K mg base CX k f fd ps (fun vs H Q E=>sp1 vs H Q E\/sp2 vs H Q E) :=
 ⟨fun vs H Q E q=>q.elim (F.len vs H Q E) (G.len vs H Q E),fun A outer s H args us vs Q E hr he hb hv q=>q.elim (F.run A outer s H args us vs Q E hr he hb hv) (G.run A outer s H args us vs Q E hr he hb hv)⟩
end
end L2
namespace Pu
open PySem PySem.Spec PyProof.Rows L2 My Prf
class RSL (K:Frag) (Pa:Addr) (ts:TS) (ps:outParam PSt):Prop where
 ok:∀ (c:Ct) (w:Wd) (env:PEnv) (σ:L2.St) (Dp:PEnds) (D:Ends),c.K=K->c.w0.H Pa=some (.tbl #[])->c.w0.F Pa=none->¬ c.w0.M Pa->(∀ v H H',D.rt v H->D.rt v H')->EnvOk c w env σ->EndsOk c w Dp D->ps Dp env->ts D σ w.H
instance rsl_seq {K:Frag} {Pa:Addr} {t u:TS} {p q:PSt} [ht:RS K t p] [hu:RSL K Pa u q]:RSL K Pa (tSeq t u) (pSeq p q) where
 ok:=by
  rintro c w env σ Dp D rfl h1 h2 h3 hD E h pr;refine ht.ok c w env σ { Dp with nx:=q Dp } _ rfl E ⟨fun e1 σ1 w1 E1 s1 n1=>?_,h.rt,h.bk,h.ct⟩ pr;exact hu.ok c w1 e1 σ1 Dp D rfl h1 h2 h3 hD E1 (h.on s1) n1
inductive PVat (env:PEnv):List Nat->LP->Prop
 | nil:PVat env [] []
 | cons {i:Nat} {is:List Nat} {x:PyData} {xs:LP} (h:env[i]?=some (some (.d x))) (r:PVat env is xs):PVat env (i :: is) (x :: xs)
def PVat.vals {c:Ct} {w:Wd} {env:PEnv} {σ:L2.St} (E:EnvOk c w env σ):∀ {is:List Nat} {xs:LP},PVat env is xs->∃ vs,Vat σ is vs/\DenAll c.K w.F vs xs
 | _,_,.nil=>⟨[],.nil,.nil⟩
 | _,_,.cons h r=>by
  obtain ⟨vs,h1,h2⟩:=r.vals E;obtain ⟨v,e,d⟩:=E.at' _ _ h;exact ⟨v :: vs,.cons e h1,.cons d h2⟩
def A3d {K:Frag} {w:Wd}:∀ {vs:List V} {xs:LP},DenAll K w.F vs xs->Args K w (xs.map fun _=>.dat) vs (xs.map .d)
 | _,_,.nil=>.nil
 | _,_,.cons h r=>.dat h (A3d r)
def A16 {K:Frag} {F:Hpp} {v:V} {x:PyData} (h:Den K F v x):plainV v:=by cases h <;> exact True.intro
def C3l (psp1 psp2:List SV->PyData->Prop) (w1 w2:Str) (xs:LP) (y:PyData):Prop:=∃ wd z,((wd=w1/\psp1 (xs.map .d) z)\/(wd=w2/\psp2 (xs.map .d) z))/\(PyData.list [.bool true,.tuple [.str wd,z]]).canLay0=true/\z.depth<=50/\y.canLay0=true/\PyData.eqv (.list [.bool true,.tuple [.str wd,z]]) (.list [.bool true,y])=true
def A31 (is:List Nat) (j:Nat) (psp1 psp2:List SV->PyData->Prop) (w1 w2:Str):PSt:=fun Dp env=>∃ xs y,xs.length=is.length/\PVat env is xs/\env[j]?=some (some (.d y))/\C3l psp1 psp2 w1 w2 xs y/\Dp.rt (.d (.bool true)) env
def A6d (K:Frag) (md:List Md) (C1 C2:Addr) (fld1 fld2:Str) (psp1 psp2:List SV->PyData->Prop):Sp:=fun vs H Q E=>spE2 K md C1 fld1 psp1 vs H Q E\/spE2 K md C2 fld2 psp2 vs H Q E
def A0i (K:Frag) (Pa:Addr) (lpos:Pos) (is:List Nat) (gsp:Sp) (h:VK->XK) (j:Nat):TS:=tRet (tOp (rEqD K) (A9h Pa lpos is gsp h) (tLst (F7 (tC (.bl true)) (F7 (tVar j) tNil))))
instance rsl_door {K:Frag} {Pa C1 C2:Addr} {lpos:Pos} {is:List Nat} {j:Nat} {fld1 fld2 w1 w2:Str} {psp1 psp2:List SV->PyData->Prop}:RSL K Pa (A0i K Pa lpos is (A6d K (is.map fun _=>.dat) C1 C2 fld1 fld2 psp1 psp2) (hnd C1 C2 fld1 fld2 w1 w2) j) (A31 is j psp1 psp2 w1 w2) where
 ok:=by
  rintro c w env σ Dp D rfl h1 h2 h3 hD E h ⟨xs,y,xl,pv,ej,dp,q⟩;obtain ⟨vs,vat,dvs⟩:=pv.vals E;obtain ⟨vj,ejv,dj⟩:=E.at' j _ ej;have dj:Den c.K w.F vj y:=dj;have hwP:w.H Pa=some (.tbl #[]):=E.le0.h Pa _ h1 h3;have hwF:w.F Pa=none:=by
   cases z:w.F Pa with
   | none=>rfl
   | some o =>
    rcases E.le0.n Pa o z with y | y
    ·rw [h2] at y; cases y
    ·rw [h1] at y; cases y
  have hend:∀ H,D.rt (.bl true) H:=fun H=>hD _ w.H H (h.rt (.bl true) (.d (.bool true)) env σ w E (.bl true) rfl q);refine ⟨#[],vs,hwP,True.intro,rfl,vat,fun H1 cs ext hcs Q1 E1 _ hE1=>?_⟩;obtain ⟨wd,z,hwz,l1,l2,l3,l4⟩:=dp;have ok1:(Wd.mk w.M H1 w.F).Ok:=⟨fun b o e=>ext b o (fun z=>by rw [z,hwF] at e; cases e) (E.wok.sub b o e),fun p m=>by
   obtain ⟨a,b,f,e,r⟩:=(E.wok.st p m).ex;exact ⟨a,b,f,ext p _ (fun z=>by rw [z,hwP] at e; cases e) e,r⟩,E.wok.nf⟩
  have mdl:(is.map fun _=>Md.dat)=xs.map fun _=>Md.dat:=by
   apply List.ext_getElem
   ·rw [Zl,Zl,xl]
   ·intro n h1 h2; rw [List.getElem_map,List.getElem_map]
  have cM:∀ b ∈ cs,¬ w.M b:=fun b hb m=>by
   obtain ⟨a,d,f,e,_⟩:=(E.wok.st b m).ex;rw [(hcs b hb).1] at e; cases e
  have go:∀ (w':Wd) (v:V) (H3:Hpp),w'.Ok->Le (Wd.mk w.M H1 w.F) w'->Den c.K w'.F v z->Same w'.H H3->∀ t,H3 t=none->∀ l,upd H3 t (.tup [.str wd,v]) l=none ->
    tLst (F7 (tC (.bl true)) (F7 (tVar j) tNil)) σ (off cs (upd (upd H3 t (.tup [.str wd,v])) l (.lst [.bl true,.ref t]))) fun y2 H5=>rEqD c.K (.ref l) y2 H5 D.rt:=by
   intro w' v H3 okw le dn sm t ht l hl;have csT:∀ b ∈ cs,∃ o,w'.H b=some o:=fun b hb=>by
    obtain ⟨o,u,e⟩:=(hcs b hb).2;exact ⟨_,le.h b _ e (cM b hb)⟩
   have lt:l≠t:=fun e=>by rw [e,B7] at hl; cases hl
   have hl3:H3 l=none:=by rwa [C4 lt] at hl
   have nt:t ∉ cs:=fun m=>by
    obtain ⟨o,e⟩:=csT t m;rw [sm _ _ e] at ht; cases ht
   have nl:l ∉ cs:=fun m=>by
    obtain ⟨o,e⟩:=csT l m;rw [sm _ _ e] at hl3; cases hl3
   refine ⟨vj,ejv,?_⟩;generalize hG:off cs (upd (upd H3 t (.tup [.str wd,v])) l (.lst [.bl true,.ref t]))=G;have gup:∀ b o,b ∉ cs->b≠t->b≠l->H3 b=some o->G b=some o:=fun b o n1 n2 n3 e=>by
    rw [<- hG]; unfold off;rw [if_neg n1,C4 n3,C4 n2,e]
   have atl:G l=some (.lst [.bl true,.ref t]):=by rw [<- hG]; unfold off; rw [if_neg nl,B7]
   have att:G t=some (.tup [.str wd,v]):=by rw [<- hG]; unfold off; rw [if_neg nt,C4 lt.symm,B7]
   refine ⟨by show 2<=sizeLine; rw [sizeLine_eq]; decide,fun p hp=>?_⟩;have pn:∀ b o,G b=some o->b≠p:=fun b o e z=>by rw [z,hp] at e; cases e
   have pl:l≠p:=pn l _ atl;have pt:t≠p:=pn t _ att;have up:∀ b o,b ∉ cs->b≠t->b≠l->H3 b=some o->upd G p (.lst [.bl true,vj]) b=some o:=fun b o n1 n2 n3 e=>by
    have e1:=gup b o n1 n2 n3 e;rw [C4 (pn b o e1),e1]
   have fs:Same w'.F (upd (G) p (.lst [.bl true,vj])):=fun b o e=>by
    have e2:=okw.sub b o e;refine up b o (fun m=>?_) (fun z=>?_) (fun z=>?_) (sm _ _ e2)
    ·obtain ⟨o2,u2,e3⟩:=(hcs b m).2;rcases le.n b o e with y | y
     ·have y:w.F b=some o:=y;have:=(hcs b m).1;rw [E.wok.sub b o y] at this; cases this
     ·have y:H1 b=none:=y;rw [e3] at y; cases y
    ·rw [z] at e2; rw [sm _ _ e2] at ht; cases ht
    ·rw [z] at e2; rw [sm _ _ e2] at hl3; cases hl3
   have dT:Den c.K (upd (G) p (.lst [.bl true,vj])) (.ref l) (.list [.bool true,.tuple [.str wd,z]]):=by
    have et:=(C4 (o:=HO.lst [.bl true,vj]) pt).trans att;refine .lst (.inl (.inl ((C4 pl).trans atl))) (.cons (.bl true) (.cons (.tup ⟨.inl (.inl et),.inl et⟩ (.cons (.str wd) (.cons (Den.same fs dn) .nil))) .nil))
   have dY:Den c.K (upd (G) p (.lst [.bl true,vj])) (.ref p) (.list [.bool true,y]) :=
    .lst (.inl (.inl B7)) (.cons (.bl true) (.cons (Den.same (fun b o e=>fs b o (le.f b o e)) dj) .nil))
   refine ⟨_,_,dT,dY,?_,?_,?_,?_⟩
   ·exact l1
   ·show (true && (y.canLay0 && true))=true;rw [l3]; rfl
   ·show max 0 (max (max 0 (max z.depth 0) + 1) 0) + 1<=60;omega
   ·rw [l4]; exact hend _
  rcases hwz with ⟨rfl,ps⟩ | ⟨rfl,ps⟩
  ·refine .inl ⟨Wd.mk w.M H1 w.F,xs.map .d,z,rfl,ok1,?_,ps,fun w' d v okw le hd dn=>hE1 _ _ _ ⟨d,v,rfl,A16 dn,.inl ⟨rfl,hd,fun H3 sm t ht l hl=>go w' v H3 okw le dn sm t ht l hl⟩⟩⟩;rw [mdl]; exact A3d (w:=Wd.mk w.M H1 w.F) dvs
  ·refine .inr ⟨Wd.mk w.M H1 w.F,xs.map .d,z,rfl,ok1,?_,ps,fun w' d v okw le hd dn=>hE1 _ _ _ ⟨d,v,rfl,A16 dn,.inr ⟨rfl,hd,fun H3 sm t ht l hl=>go w' v H3 okw le dn sm t ht l hl⟩⟩⟩;rw [mdl]; exact A3d (w:=Wd.mk w.M H1 w.F) dvs
instance rsl_door2 {K:Frag} {Pa C1 C2:Addr} {lpos:Pos} {i1 i2 j:Nat} {fld1 fld2 w1 w2:Str} {psp1 psp2:List SV->PyData->Prop}:RSL K Pa (A0i K Pa lpos [i1,i2] (A6d K [.dat,.dat] C1 C2 fld1 fld2 psp1 psp2) (hnd C1 C2 fld1 fld2 w1 w2) j) (A31 [i1,i2] j psp1 psp2 w1 w2):=rsl_door (is:=[i1,i2])
def A2t {X:Cx} {st:Stmt} {K:Frag} {Pa:Addr} {lpos:Pos} {is:List Nat} {gsp:Sp} {h:VK->XK} {j:Nat} (q:QS X st (tRet (tOp (rEqD K) (A9h Pa lpos is gsp h) (tLst (F7 (tC (.bl true)) (F7 (tVar j) tNil)))))):QS X st (A0i K Pa lpos is gsp h j):=q
end Pu
namespace L2
open PySem PySem.Spec PyProof.Rows
def BlAt (mg:Str->Option Value) (base:Heap):Prop:=∃ bm o,mg "__builtins__"=some (.ref bm)/\bm≠builtinsNs/\bm≠mainGlobals/\base.get? bm=some o/\o.cls=.type "module"/\o.dict=some builtinsNs/\o.data=.plain
def A76 {P:Program} {w:World} {K:W.Frag} {mg mb:Str->Option Value} {CX:CXT} {k:Nat} {fa a c Pa:Addr} {fd:FuncData} {x:Str} {sp:Addr->Sp} {s₁:Shared} {vs:List Value} {ns:List Int}
  (KX:K.In s₁.heap) (hns:s₁.heap.Ns mainGlobals mg) (hb:s₁.heap.Ns builtinsNs mb) (hbb:∀ x:Str,x≠"__name__"->mb x=bootBuiltins x) (hlim:s₁.heap.NoLimit) (hg:s₁.gens=#[])
  (ha:s₁.heap.get? a=some { cls:=.type "list",data:=.seq vs.toArray }) (hi:IntsAre vs ns) (hl:ns.length<=sizeLine) (hr:Room k callerA)
  (hcode:fd.code=.ref c) (ic:s₁.heap.IsCode c Pa #[]) (ta:s₁.heap.TableAt c Pa #[]) (hbl:BlAt mg s₁.heap) (hKc:∀ b o,K.lookup b=some o->o.cls≠.none)
  (F:∀ base:Heap,K.In base->base.Ns mainGlobals mg->fd.code=.ref c->W.CodeHd base c Pa->BlAt mg base->FnOk P w K mg base CX k fa fd [x] (sp Pa)) (hbind:∀ (s:Shared) (u:Value),BindsTo s fd ⟨[u],[]⟩ [(x,u)])
  (hsp:∀ H:Hp,SqL K H a (ns.map V.int)->H Pa=some (.tbl #[])->a≠Pa->sp Pa [.ref a] H (fun v _=>v=.bl true) fun _ _ _=>False)
  (hCX:∀ H e s',CX [] H s₁ (fun _ _ _=>False) e s'->False) :
  codeAny (model P w) callerA (.call (.ref fa) ⟨[.ref a],[]⟩) (fun r s'=>r=.ok (.ret (.bool true))/\OldK s₁.heap s'.heap/\s'.os=s₁.os/\AllBare s'.gens) s₁:=by
 have rv:=A07 hi;have lenV:=hi.length;have gP:=ta.2;have hd:=W.CodeHd.of ic ta;have aP:a≠Pa:=fun z=>by rw [z,gP] at ha; cases ha
 have core:∀ H:Hp,(∀ b,H b=none\/(∃ o xs,H b=some (HO.frz o (.lst xs)))\/b=Pa)->SqL K H a (ns.map V.int)->HOk P w H s₁.heap->(∀ b,H b≠none->b=a\/b=Pa)->(H a≠none->K.lookup a=none)->H Pa=some (.tbl #[]) ->
   codeAny (model P w) callerA (.call (.ref fa) ⟨[.ref a],[]⟩) (fun r s'=>r=.ok (.ret (.bool true))/\OldK s₁.heap s'.heap/\s'.os=s₁.os/\AllBare s'.gens) s₁:=by
  intro H hO hS hok hA hK hP;have base_of:∀ {b:Addr} {o:Obj},s₁.heap.get? b=some o->H b=none->(hidT s₁.heap H).get? b=some o:=fun e n=>B05 e n;have noT:∀ {b:Addr} {o:Obj},s₁.heap.get? b=some o->(∀ xs n,o.data≠.seq xs n)->(∀ fs,o.data≠.fields fs)->H b=none:=fun {b o} e d1 d2=>by
   cases q:H b with
   | none=>rfl
   | some u =>
    rcases hA b (by rw [q]; simp) with e' | e'
    ·subst e';rw [ha] at e; cases e;exact absurd rfl (d1 _ _)
    ·subst e';rw [gP] at e; cases e;exact absurd rfl (d2 _)
  have nsK:∀ {b:Addr} {m:Str->Option Value},s₁.heap.Ns b m->(hidT s₁.heap H).Ns b m:=fun {b m} ⟨o,es,ep,e,d,r⟩=>⟨o,es,ep,base_of e (noT e (fun _ _ z=>by rw [d] at z; cases z) fun _ z=>by rw [d] at z; cases z),d,r⟩;have hKb:K.In (hidT s₁.heap H):=fun b o e=>base_of (KX b o e) (by
   cases q:H b with
   | none=>rfl
   | some u =>
    rcases hA b (by rw [q]; simp) with e' | e'
    ·subst e';rw [hK (by rw [q]; simp)] at e; cases e
    ·subst e';have:=KX b o e;rw [gP] at this; cases this;exact absurd rfl (hKc b _ e))
  have hM:Mod K mg (hidT s₁.heap H):=⟨hKb,nsK hns,⟨mb,nsK hb,hbb⟩,let ⟨mc,h1,h2⟩:=hlim; ⟨mc,nsK h1,h2⟩⟩;have e0:Env0 P w K mg (hidT s₁.heap H) callerA [] s₁ H:=⟨rfl,hM,fun b o e=>B5f e,Nat.le_of_eq (A8e _ _),trivial,fun b hb=>absurd (show b ∈ ([]:List Addr) from hb) (by simp),hok,.of_eq hg⟩;have hdB:W.CodeHd (hidT s₁.heap H) c Pa:=by
   obtain ⟨o,vs',f,tf,fl,tg,inF,tx,tt,h1,h2,h3,h4,h5,h6,h7,h8,h9,h10⟩:=hd;refine ⟨o,vs',f,tf,fl,tg,inF,tx,tt,base_of h1 ?_,h2,h3,h4,h5,h6,h7,h8,h9,h10⟩;cases q:H c with
   | none=>rfl
   | some u =>
    rcases hA c (by rw [q]; simp) with e' | e'
    ·rw [e',ha] at h1; cases h1;exact absurd (Value.type.inj h2) (by decide)
    ·exact absurd e' h10
  have hblB:BlAt mg (hidT s₁.heap H):=by
   obtain ⟨bm,o,b1,b2,b3,b4,b5,b6,b7⟩:=hbl;exact ⟨bm,o,b1,b2,b3,base_of b4 (noT b4 (fun _ _ z=>by rw [b7] at z; cases z) fun _ z=>by rw [b7] at z; cases z),b5,b6,b7⟩
  refine codeAny_mono ((F _ hKb (nsK hns) hcode hdB hblB).run callerA [] s₁ H ⟨[.ref a],[]⟩ [.ref a] [.ref a] _ _ hr e0 (hbind s₁ (.ref a)) (.cons rfl .nil) (hsp H hS hP aP)) fun r s' h=>?_;cases r with
  | error e=>exact (hCX H e s' h).elim
  | ok fl =>
   cases fl with
   | next=>exact False.elim h
   | brk=>exact False.elim h
   | cont=>exact False.elim h
   | ret u =>
    obtain ⟨v,H',os,bare,un,hok',r',q⟩:=h;have q':v=.bl true:=q;subst q';obtain rfl:u=Value.bool true:=r';have nf:∀ b:Addr,b ∉ frs ([]:List Env):=fun b z=>absurd (show b ∈ ([]:List Addr) from z) (by simp);refine ⟨rfl,⟨fun b o e=>?_,fun b o e=>un.there b o e (by simp)⟩,os,bare⟩;cases q:H b with
    | none=>exact .inl (un.keep b o e q (nf b) (by simp))
    | some u =>
     rcases hO b with z | ⟨ob,xs,z⟩ | z
     ·rw [q] at z; cases z
     ·have z2:=un.frzs b ob _ z;obtain ⟨e1,_⟩:=hok b _ z;obtain ⟨e2,_⟩:=hok' b _ z2;rw [e] at e1; cases e1;exact .inl e2
     ·subst z;obtain ⟨more,e2⟩:=un.tbls b _ hP;have e3:s'.heap.get? b=some { cls:=.none,data:=.fields (#[]++more) }:=hok' b _ e2;rw [gP] at e; cases e;exact .inr (.inl ⟨⟨c,ta.1⟩,rfl,#[],more,rfl,e3⟩)
 have gPok:ObjOk P w (fun b=>if b=Pa then some (.tbl #[]) else none) s₁.heap Pa (.tbl #[]):=gP;cases hk:K.lookup a with
 | some o =>
  have e:=KX a o hk;rw [ha] at e;cases e;refine core (fun b=>if b=Pa then some (.tbl #[]) else none) (fun b=>?_) (.inr ⟨_,vs.toArray,_,hk,rfl,rfl,rfl,by rw [List.size_toArray,lenV]; exact hl,by simpa using rv⟩) (fun b u z=>?_) (fun b z=>?_) (fun z=>absurd (if_neg aP) z) (if_pos rfl)
  ·by_cases hb:b=Pa
   ·exact .inr (.inr hb)
   ·exact .inl (if_neg hb)
  ·by_cases hb:b=Pa
   ·have z':=(if_pos hb).symm.trans z;cases z';subst hb;exact gP
   ·have z':=(if_neg hb).symm.trans z;cases z'
  ·by_cases hb:b=Pa
   ·exact .inr hb
   ·exact absurd (if_neg hb) z
 | none =>
  refine core (fun b=>if b=a then some (.frz { cls:=.type "list",data:=.seq vs.toArray } (.lst (ns.map V.int))) else if b=Pa then some (.tbl #[]) else none) (fun b=>?_) (.inl (.inr ⟨{ cls:=.type "list",data:=.seq vs.toArray },if_pos rfl⟩)) (fun b u z=>?_) (fun b z=>?_) (fun _=>hk) ((if_neg aP.symm).trans (if_pos rfl))
  ·by_cases hb:b=a
   ·exact .inr (.inl ⟨_,_,if_pos hb⟩)
   ·by_cases hp:b=Pa
    ·exact .inr (.inr hp)
    ·exact .inl ((if_neg hb).trans (if_neg hp))
  ·by_cases hb:b=a
   ·have z':=(if_pos hb).symm.trans z;cases z';subst hb;exact ⟨ha,by rw [Zl]; exact hl,vs,_,rv,ha⟩
   ·have z':=(if_neg hb).symm.trans z;by_cases hp:b=Pa
    ·have z'':=(if_pos hp).symm.trans z';cases z'';subst hp;exact gP
    ·have z'':=(if_neg hp).symm.trans z';cases z''
  ·by_cases hb:b=a
   ·exact .inl hb
   ·by_cases hp:b=Pa
    ·exact .inr hp
    ·exact absurd ((if_neg hb).trans (if_neg hp)) z
def A9b {l:W.OpenLaw} {n k:Nat} {q:Program} {loose:List Str} {XP:(Str->Option Value)->Heap->Prop} {YP:World->Heap->Prop} {d:DefRec} {K:Params->W.Frag} {CX:World->CXT} {sp:World->Addr->Sp} {x:Str}
  (hn:l.most=some n) (hn2:n<=sizeLine) (hdf:d.params.defaults=[]) (hr:Room k callerA) (hmem:d ∈ recsOf q)
  (hY:∀ (w:World) (h:Heap),YP w h->(K w.params).In h) (hKc:∀ (w:World) b o,(K w.params).lookup b=some o->o.cls≠.none)
  (F:∀ (w:World) (mg:Str->Option Value) (fa:Addr) (h:Heap),(K w.params).In h->h.Ns mainGlobals mg->mg d.name=some (.ref fa) ->
   ∃ (fd:FuncData) (ob:Obj),(K w.params).lookup fa=some ob/\ob.data=.func fd/\(∀ (s:Shared) (u:Value),BindsTo s fd ⟨[u],[]⟩ [(x,u)]) /\
    ∀ (base:Heap) (c Pa:Addr),(K w.params).In base->base.Ns mainGlobals mg->fd.code=.ref c->W.CodeHd base c Pa->BlAt mg base->FnOk l.prog w (K w.params) mg base (CX w) k fa fd [x] (sp w Pa))
  (hsp:∀ (w:World) (H:Hp) (a Pa:Addr) (ns:List Int),ns.length<=n->SqL (K w.params) H a (ns.map V.int)->H Pa=some (.tbl #[])->a≠Pa->sp w Pa [.ref a] H (fun v _=>v=.bl true) fun _ _ _=>False)
  (hCX:∀ (w:World) (H:Hp) (s:Shared) (e:Value) (s':Shared),CX w [] H s (fun _ _ _=>False) e s'->False) :
  W.WalkO q loose XP YP l.row.toRowW d [] (fun f vs=>PySem.call f vs):=by
 refine Att.attach_call hn hdf fun w s₀ s₁ mg mb fa o pm cd doc a vs ns G Y ho hd hcd hmg hobj hints hlen hg=>?_;have KX:=hY w _ Y;obtain ⟨fd,ob,hlk,hfd,hb,hF⟩:=F w mg fa _ KX G.T.g hmg;obtain ⟨a2,o2,fd2,c,Pa,m2,g2,d2,cd2,ic,ta⟩:=G.T.tab d hmem;rw [hmg] at m2; cases m2;have e1:=KX fa ob hlk;rw [g2] at e1; cases e1;rw [hfd] at d2; cases d2;obtain ⟨bm,bo,b1,b2,b3,b4,b5,b6⟩:=G.T.bmain;have bmm:bm≠mainGlobals:=fun z=>by
  obtain ⟨om,es,ep,hm,hmd,_⟩:=G.T.g;rw [z,hm] at b3; cases b3;rw [b6] at hmd; cases hmd
 exact A76 (sp:=sp w) KX G.T.g G.T.b G.T.builtins G.T.nolimit hg hobj hints (Zx hlen hn2) hr cd2 ic ta ⟨bm,bo,b1,b2,bmm,b3,b4,b5,b6⟩ (hKc w) (fun base h1 h2 h3 h4 h5=>hF base c Pa h1 h2 h3 h4 h5) hb (fun H hS hP hn=>hsp w H a Pa ns hlen hS hP hn) fun H e s'=>hCX w H s₁ e s'
def Fun.okC {P:Program} {w:World} {K:W.Frag} {mg:Str->Option Value} {base:Heap} {x qual:Str} {st:Stmt} {f c:Addr} {fd:FuncData} {N ps:List Str} {k:Nat} {sp:Sp} (F:L2.Fun K x qual st f fd) (hc:fd.code=.ref c) (S:FnScope N ps (A7 st))
  (len:∀ vs H Q E,sp vs H Q E->vs.length=ps.length)
  (hb:∀ (A:Around) (outer:List Env) (s:Shared) (H:Hp) (vs:List V) (Q:VK) (E:XK),Room k (A.deeper (envOfC qual (A7 st) s.heap.objs.size f (.ref c)))->sp vs H Q E ->
   ∃ t,PSs (cxOf CX0 P w K mg base N qual (A7 st) f (.ref c) A outer s H E).nox (F6 st) t/\t { nx:=fun _ H'=>Q .non H',rt:=Q } (start N vs) H):FnOk P w K mg base CX0 (k + 1) f fd ps sp:=by
 obtain ⟨oc,od,kV,doc,pm,an,cdv,ct,osl,rfl,lk,hcd⟩:=F.ex;have hc:cdv=.ref c:=hc;subst hc;refine B6z lk hcd S len fun A outer s H vs Q E hr hsp=>?_;obtain ⟨t,h,q⟩:=hb A outer s H vs Q E hr hsp;exact ⟨t,h.nox,q⟩
end L2
namespace Pu
open PySem PySem.Spec PyProof.Rows L2 My Prf
def spLawL (K:Frag) (Pa:Addr):Sp:=fun vs H Q _=>∃ (a:Addr) (ns:List Int),vs=[.ref a]/\SqL K H a (ns.map V.int)/\ns.length<=63/\H Pa=some (.tbl #[])/\a≠Pa/\(∀ H',Q (.bl true) H')/\∀ v H H',Q v H->Q v H'
theorem spLawL.len {K:Frag} {Pa:Addr}:∀ vs H Q E,spLawL K Pa vs H Q E->vs.length=1:=by
 rintro vs H Q E ⟨a,ns,rfl,_⟩; rfl
def B09 {K:Frag} {Pa:Addr} {ts:TS} {ps:PSt} [hs:RSL K Pa ts ps] {vs:List V} {H:Hpp} {Q:VK} {E:XK} {N:List Str} (h:spLawL K Pa vs H Q E)
  (hb:∀ as Qp,pLaw as Qp->ps ⟨fun _=>Qp (.d .none),fun s _=>Qp s,fun _=>False,fun _=>False⟩ (as.map some++List.replicate (N.length - 1) none)):ts { nx:=fun _ H'=>Q .non H',rt:=Q } (L2.start N vs) H:=by
 obtain ⟨a0,ns,rfl,hS,hl,hP,aP,kk,hind⟩:=h;have ok:(Wd.mk (fun _=>False) H (fun b=>if b=a0 then H a0 else none)).Ok:=by
  refine ⟨fun b o e=>?_,fun _ z=>z.elim,fun _ z=>z.elim⟩;dsimp only at e;split at e
  ·rename_i z; rw [z]; exact e
  ·cases e
 have a:Args K (Wd.mk (fun _=>False) H (fun b=>if b=a0 then H a0 else none)) [.vw] [.ref a0] [.bor (ns.map .int)]:=by
  refine .vw (.inl (.lst ?_ (A8o ns))) .nil;rcases hS with (h | ⟨o,h⟩) | h
  ·exact .inl (.inl (by dsimp only; rw [if_pos rfl]; exact h))
  ·exact .inl (.inr ⟨o,by dsimp only; rw [if_pos rfl]; exact h⟩)
  ·exact .inr h
 generalize hw:Wd.mk (fun _=>False) H (fun b=>if b=a0 then H a0 else none)=w at ok a;have wH:w.H=H:=by rw [<- hw]
 have wF:w.F Pa=none:=by rw [<- hw]; exact if_neg aP.symm
 have wM:¬ w.M Pa:=by rw [<- hw]; exact id
 obtain ⟨hl2,hat⟩:=L7 a;have look:∀ (i:Nat) s,(([.bor (ns.map .int)]:List SV).map some++List.replicate (N.length - 1) none)[i]?=some (some s)->([.bor (ns.map .int)]:List SV)[i]?=some s:=fun i s e=>by
  rw [List.getElem?_append] at e;split at e
  ·rw [Zh] at e;cases q:([.bor (ns.map .int)]:List SV)[i]? with
   | none=>rw [q] at e; cases e
   | some t=>rw [q] at e; cases e; rfl
  ·rw [List.getElem?_replicate] at e;split at e <;> cases e
 have P:=hb [.bor (ns.map .int)] (fun s=>s=.d (.bool true)) ⟨ns,rfl,hl,rfl⟩;subst wH;refine hs.ok ⟨K,w,noZ⟩ w (([.bor (ns.map .int)]:List SV).map some++List.replicate (N.length - 1) none) (L2.start N [.ref a0]) _ _ rfl hP wF wM hind ⟨ok,Le.refl w,by simp [L2.start,hl2],fun i s e=>?_,fun i j s t v u a e _ _ _ f=>absurd f ((hat i _ (look i _ e)).2 v a),fun a z=>z.elim,fun a j t u z=>z.elim⟩ ⟨fun env σ w' E' _ q=>?_,fun v s _ _ w' E' h r q=>?_,fun _ _ _ _ _ z=>z,fun _ _ _ _ _ z=>z⟩ P
 ·obtain ⟨⟨v,h1,h2⟩,_⟩:=hat i s (look i s e);refine ⟨v,?_,h2⟩;unfold L2.start;rw [List.getElem?_append_left (by simpa using (Zs h1).1),Zh,h1]; rfl
 ·cases q
 ·have q:s=.d (.bool true):=q;subst q;have:v=.bl true:=Den.blE h;subst this;exact kk _
end Pu
namespace L2
open PySem
def nnV:Value->Bool
 | .none=>false
 | _=>true
def B2j {α:Type}:∀ {K:List (Nat × α)} {b:Nat} {o:α},K.lookup b=some o->(b,o) ∈ K
 | (x,y) :: r,b,o,h=>by
  rw [List.lookup_cons] at h;by_cases e:b=x
  ·subst e;rw [beq_self_eq_true] at h;cases h; exact Zy
  ·have e:(b == x)=false:=beq_eq_false_iff_ne.mpr e;rw [e] at h;exact Zr _ (B2j h)
def C21 {K:W.Frag} (h:(K.all fun q=>nnV q.2.cls)=true):∀ b o,K.lookup b=some o->o.cls≠.none:=fun b o e z=>by
 have:=List.all_eq_true.mp h (b,o) (B2j e);rw [show (b,o).2.cls=Value.none from z] at this;cases this
open PyProof.Rows in
def B67 {q:Program} {n:Str} {d:DefRec} {kwd:List (Str × Expr)} (h:W.defOf q n=some (d,kwd)) (hs:((recsOf q).find? fun e=>e.name == n).isSome=true):d ∈ recsOf q:=by
 unfold W.defOf at h;cases hf:(recsOf q).find? fun e=>e.name == n with
 | none=>rw [hf] at hs; cases hs
 | some d2 =>
  rw [hf] at h;dsimp only at h;split at h
  ·cases h; exact List.mem_of_find?_eq_some hf
  ·cases h
end L2
namespace Pu
open PySem PySem.Spec PyProof.Rows L2 My Prf
structure EndsK (c:Ct) (w:Wd) (i:Nat) (o:Option (Option V)) (Dp:PEnds) (D:Ends):Prop where
 nx:∀ env σ w',EnvOk c w' env σ->Same w.F w'.F->σ[i]?=o->Dp.nx env->D.nx σ w'.H
 rt:∀ v s env σ w',EnvOk c w' env σ->VR c w' v s->s.isRes=true->Dp.rt s env->D.rt v w'.H
class RSk (K:Frag) (i:Nat) (ts:TS) (ps:outParam PSt):Prop where
 ok:∀ (c:Ct) (w:Wd) (env:PEnv) (σ:L2.St) (Dp:PEnds) (D:Ends),c.K=K->EnvOk c w env σ->EndsK c w i σ[i]? Dp D->ps Dp env->ts D σ w.H
instance rsk_next {K:Frag} {i:Nat}:RSk K i A9g B4s:=⟨fun c w env σ Dp D _ E h p=>h.nx env σ w E (Same.refl _) rfl p⟩
instance rsk_never {K:Frag} {i:Nat}:RSk K i A08 A7e:=⟨fun c w env σ Dp D _ E h p=>p.elim⟩
instance rsk_if {K:Frag} {i:Nat} {tt:TT} {t u:TS} {pt:PTt} {p q:PSt} [hc:RT K tt pt] [ht:RSk K i t p] [hu:RSk K i u q]:RSk K i (tIfS tt t u) (pIf pt p q) where
 ok:=by
  rintro c w env σ Dp D rfl E h pr;refine hc.ok c w env σ _ _ rfl E pr fun b e1 w1 E1 l1 q1=>?_;have h1:EndsK c w1 i σ[i]? Dp D:=⟨fun e σ w' E s'=>h.nx e σ w' E (l1.f.trans s'),h.rt⟩;cases b with
  | true=>exact ht.ok c w1 e1 σ Dp D rfl E1 h1 q1
  | false=>exact hu.ok c w1 e1 σ Dp D rfl E1 h1 q1
class RGsk (K:Frag) (i:Nat) (g:TGs) (pg:outParam (LP->PEnv->(PEnv->Prop)->Prop)):Prop where
 ok:∀ (c:Ct) (w:Wd) (env:PEnv) (σ:L2.St) (vs:List V) (xs:LP) (Qp:PEnv->Prop) (Q:L2.St->Hpp->Prop),c.K=K->EnvOk c w env σ->DenAll K w.F vs xs->pg xs env Qp->(∀ env' σ',EnvOk c w env' σ'->σ'[i]?=σ[i]?->Qp env'->Q σ' w.H)->g vs σ w.H Q
def B13 (i j:Nat) (x:PyData) (env:PEnv) (Q:PEnv->Prop):Prop:=j≠i/\Q (env.set j (some (.d x)))
instance rgsk_nil {K:Frag} {i:Nat}:RGsk K i gNil qNil where
 ok:=by
  rintro c w env σ vs xs Qp Q rfl E d p k;unfold qNil at p;split at p
  ·cases d; exact ⟨rfl,k env σ E rfl p⟩
  ·exact p.elim
instance rgsk_cons {K:Frag} {i j:Nat} {gs:TGs} {pr:LP->PEnv->(PEnv->Prop)->Prop} [hr:RGsk K i gs pr]:RGsk K i (Y5 (O6 j) gs) (A6s (B13 i j) pr) where
 ok:=by
  rintro c w env σ vs xs Qp Q rfl E d p k;unfold A6s at p;split at p
  ·cases d with
   | cons h t =>
    rename_i x r v us;refine ⟨_,_,rfl,hr.ok c w _ _ _ _ _ _ rfl (E.set (i:=j) (s:=.d x) h (fun _ z=>nomatch z)) t p.2 fun e2 σ2 E2 hs q2=>k e2 σ2 E2 (hs.trans (List.getElem?_set_ne p.1)) q2⟩
  ·exact p.elim
def B0e (i n:Nat) (pr:LP->PEnv->(PEnv->Prop)->Prop) (pb:PSt) (D:PEnds) (env:PEnv):Prop:=A06 env[i]? fun xs=>∃ Iv:Nat->PEnv->Prop,Iv 0 env/\(∀ k e,Iv k e->e[i]?=some (some (.own xs)))/\(∀ k x e,(L4 xs)[k]?=some x->Iv k e->qTup n pr x e fun e2=>pb ⟨Iv (k + 1),D.rt,fun _=>False,fun _=>False⟩ e2)/\∀ e,Iv (L4 xs).length e->D.nx e
instance (priority:=high) rs_forK {K:Frag} {i n:Nat} {gs:TGs} {tb:TS} {pr:LP->PEnv->(PEnv->Prop)->Prop} {pb:PSt} [hr:RGsk K i gs pr] [hb:RSk K i tb pb]:RS K (tFor (B03 K (F7 (tKp i) tNil)) (gTup K n gs) tb) (B0e i n pr pb) where
 ok:=by
  rintro c w env σ Dp D rfl E h p;unfold B0e A06 at p;split at p
  ·rename_i xs e;obtain ⟨Iv,i0,own,step,fin⟩:=p;obtain ⟨v,h1,l,vs,rfl,g1,g2,g3,g4,g5⟩:=E.at' i _ e;refine ⟨_,h1,l,vs,rfl,SqL.of g1,?_⟩;refine ⟨fun k m σ' H'=>m=(L4 xs).length - k/\k<=(L4 xs).length/\∃ e w',w'.H=H'/\EnvOk c w' e σ'/\Same w.F w'.F/\σ'[i]?=some (some (.ref l))/\Iv k e,⟨_,rfl,Nat.zero_le _,env,w,rfl,E,Same.refl _,h1,i0⟩,?_⟩;rintro k m σ2 _ ⟨rfl,hle,e2,w2,rfl,E2,s2,hl2,i2⟩;obtain ⟨v2,h2,l',vs',ev,k1,k2,k3,k4,k5⟩:=E2.at' i _ (own k e2 i2);subst ev;have el:l'=l:=by rw [hl2] at h2; cases h2; rfl
   subst el;have n1:=k5.len;have n2:(L4 xs).length=xs.length:=S8;by_cases hlt:k < (L4 xs).length
   ·refine .inr ⟨⟨vs',vs'[k]'(by omega),SqL.of k1,Zg _⟩,fun σ' H'=>k + 1<=(L4 xs).length/\∃ e w',w'.H=H'/\EnvOk c w' e σ'/\Same w.F w'.F/\σ'[i]?=some (some (.ref l'))/\Iv (k + 1) e,fun σ' H' ⟨q0,q⟩=>⟨(L4 xs).length - (k + 1),by omega,rfl,q0,q⟩,fun v H' y=>?_⟩;obtain ⟨T,x,rfl,hT,rfl,y1⟩:=y;obtain ⟨dx,x1,x2⟩:=k5.get (y1 vs' (SqL.of k1));have le:=Wd.tup_le (o:=.tup [.int k,x]) E2.wok hT;have E3:=E2.mono (Wd.tup_ok (o:=.tup [.int k,x]) E2.wok hT) le;have hx:(L4 xs)[k]?=some (.tuple [.int k,dx]):=by unfold L4; rw [Zh,List.getElem?_zipIdx,x1]; simp
    obtain ⟨p1,p2⟩:=step k _ e2 hx i2;have st:SqT c.K (w2.tup T (.tup [.int k,x])).H T [.int k,x]:=SqT.of B7;refine ⟨T,[.int k,x],rfl,st,p1,hr.ok c (w2.tup T (.tup [.int k,x])) e2 σ2 _ _ _ _ rfl E3 (.cons (.int _) (.cons (Den.same le.f x2) .nil)) p2 fun e3 σ3 E4 hs3 q3=>?_⟩;exact hb.ok c _ e3 σ3 ⟨Iv (k + 1),Dp.rt,fun _=>False,fun _=>False⟩ _ rfl E4 ⟨fun e4 σ4 w4 E4 s4 hs4 n4=>⟨hlt,e4,w4,rfl,E4,s2.trans (le.f.trans s4),hs4.trans (hs3.trans hl2),n4⟩,h.rt⟩ q3
   ·have e:k=(L4 xs).length:=by omega
    subst e;exact .inl ⟨⟨vs',SqL.of k1,by omega⟩,h.nx e2 σ2 w2 E2 s2 (fin e2 i2)⟩
  ·exact p.elim
def B06 {α:Type} {f:α->PyData} {xs:List α} {i:Nat} {pr:LP->PEnv->(PEnv->Prop)->Prop} {pb:PSt} {D:PEnds} {env:PEnv} (h:env[i]?=some (some (.own (xs.map f)))) (Iv:Nat->PEnv->Prop) (h0:Iv 0 env) (ho:∀ k e,Iv k e->e[i]?=some (some (.own (xs.map f))))
  (hs:∀ (k:Nat) x e,xs[k]?=some x->Iv k e->pr [.int k,f x] e fun e2=>pb ⟨Iv (k + 1),D.rt,fun _=>False,fun _=>False⟩ e2) (hd:∀ e,Iv xs.length e->D.nx e):B0e i 2 pr pb D env:=by
 unfold B0e;rw [h];refine ⟨Iv,h0,ho,fun k x e hx hi=>?_,fun e he=>hd e (by rw [S8,Zl] at he; exact he)⟩;unfold L4 at hx;rw [Zh,List.getElem?_zipIdx,Zh] at hx;cases q:xs[k]? with
 | none=>rw [q] at hx; cases hx
 | some y =>
  rw [q] at hx;simp at hx;subst hx;exact ⟨rfl,hs k y e q hi⟩
end Pu
set_option synthInstance.maxHeartbeats 0
set_option synthInstance.maxSize 100000
set_option maxHeartbeats 4000000
namespace Prf
open PySem L2 My Pu
local macro_rules | `(tactic| symm) => `(tactic| try simp only [pSeq, B4s, A7e, B9n, pRet, B4p, B5q, B5p, pIf, pAsg, B9t, B82, C0g, pApp, B7h, B4l, C3i, pYes, pNot, pAnd, pOr, B84, B9u, pOp, pI_i, C2q, pEqD, pNeD, pIsN, B9b, B9a, pU_i, pUn, pNil, T7, pTup, pLst, pCB, B9w, B88, B87, B9j, B9i, C0h, B20, A9f, B2z, A9c, A9d, B2y, B8v, C0b, C0a, B4h, B5h, B5g, B5i, pC, pdat, C3h, C3g, B48, B86, B2f, B2d, A7j, C3c, C1j, A6r, A3u, A0n, V2, A9w, B2a, B9h, B0d, B0o, B0n, B0p, B1v, A5y, A86, B4o, B5o, B4n, B5n, pFor, B46, A48, L5, SV.lent, A7d, B81, C3d, pSlL, B9r, B9v, List.map_cons, List.map_nil, List.replicate_succ, List.replicate_zero, List.cons_append, List.nil_append, List.getElem?_cons_zero, List.getElem?_cons_succ, List.set_cons_zero, List.set_cons_succ, List.length_cons, List.length_nil, B9l, B9k, C2r, Option.bind_some, Option.bind_none, Option.map_some, Option.join_some, B42, B41, B56, B66, B64, C0w, C1z, X2, C1t, B7r, decide_eq_true_eq, Bool.not_eq_true', decide_eq_false_iff_not, ite_not, true_and, and_true, reduceIte, Nat.zero_le, Nat.reduceAdd, Nat.reduceLeDiff, Nat.reduceSub, Int.zero_add, B0c, B0b, List.length_map, B2t, B55, C0z, C09, C1c, C08, C1b, C02, C06, C05, C00, C01, C03, Bool.true_eq_false, Bool.false_eq_true, reduceCtorEq, Bool.not_true, Bool.not_false, decide_true, decide_false, B44, B5x, pLsN, pLsC, B89, B4v, B5v, B5u, B5w, eq_self, B61, C07, C1a, C04, B4m, B2e, B85, ot_d, ot_o, B4j, B5l, B5k, B5m, B5j, C15, B8u, C3f, C3e, B8x, C0d, B8w, C0c, B04, A7k, B5s, pIn, B6i, B6n, B6d, B6e, B6b, B6c, B6a, B6g, B6h, B6f, B59, B58, B6l, B6m, B6j, B6k, A9e, C3b, B9f, B9c, B9e, B9g, B9d, B40, B4x, B4z, B4y, B8y, B9p, B2g, pIdx, B2b, B4t, pSlT, pPth, pVw, pLf, pMuV, C2u, B2c, pA2, C22, pC2, pMu, B9x, A7h, B13, B47, C0p, mIx, pUnT, C2d, B3g, pDk0, pDIn, C25, C26, B45, C1l, A7i, B1g, B3d, pPr0, pPr, B53, B9o, B83])
local macro_rules|`(tactic|right)=>`(tactic|(refine $(Lean.mkIdent `hd) fun $(Lean.mkIdent `R) $(Lean.mkIdent `hR)=>?_;symm))
local macro_rules|`(tactic|left)=>`(tactic|(subst $(Lean.mkIdent `hR);right))
set_option genInjectivity false
set_option genSizeOfSpec false
structure Adr where
 a_ae:Addr
 d_ae:FuncData
 a_a6:Addr
 d_a6:FuncData
 a_a1:Addr
 d_a1:FuncData
 a_ad:Addr
 d_ad:FuncData
 a_c6:Addr
 d_c6:FuncData
 a_c4:Addr
 d_c4:FuncData
 a_bb:Addr
 d_bb:FuncData
 a_a0:Addr
 d_a0:FuncData
 a_c3:Addr
 d_c3:FuncData
 a_a5:Addr
 d_a5:FuncData
 a_a2:Addr
 d_a2:FuncData
 a_ac:Addr
 d_ac:FuncData
 a_ab:Addr
 d_ab:FuncData
 a_a4:Addr
 d_a4:FuncData
 a_af:Addr
 d_af:FuncData
 a_c0:Addr
 d_c0:FuncData
 a_c5:Addr
 d_c5:FuncData
 a_bd:Addr
 d_bd:FuncData
 a_b3:Addr
 d_b3:FuncData
 a_b9:Addr
 d_b9:FuncData
 a_ba:Addr
 d_ba:FuncData
 a_a9:Addr
 d_a9:FuncData
 a_b4:Addr
 d_b4:FuncData
 a_b7:Addr
 d_b7:FuncData
 a_c2:Addr
 d_c2:FuncData
 a_be:Addr
 d_be:FuncData
 a_b5:Addr
 d_b5:FuncData
 a_b1:Addr
 d_b1:FuncData
 a_b2:Addr
 d_b2:FuncData
 a_c1:Addr
 d_c1:FuncData
 a_a7:Addr
 d_a7:FuncData
 a_b8:Addr
 d_b8:FuncData
 a_a3:Addr
 d_a3:FuncData
 a_bc:Addr
 d_bc:FuncData
 a_aa:Addr
 d_aa:FuncData
 a_a8:Addr
 d_a8:FuncData
 a_b0:Addr
 d_b0:FuncData
 a_b6:Addr
 d_b6:FuncData
 a_c7:Addr
 d_c7:FuncData
 k_NOUGHT:Addr
 k_NoPaper:Addr
 k_Unbalanced:Addr
 k_HurryError:Addr
structure TxB (K:W.Frag) (a_ae a_a6 a_a1 a_ad a_c6 a_c4 a_bb a_a0 a_c3 a_a5 a_a2 a_ac a_ab a_a4 a_af a_c0 a_c5 a_bd a_b3 a_b9 a_ba a_a9 a_b4 a_b7 a_c2 a_be a_b5 a_b1 a_b2 a_c1 a_a7 a_b8 a_a3 a_bc a_aa a_a8 a_b0 a_b6 k_NOUGHT k_NoPaper k_Unbalanced k_HurryError:Addr) (d_ae d_a6 d_a1 d_ad d_c6 d_c4 d_bb d_a0 d_c3 d_a5 d_a2 d_ac d_ab d_a4 d_af d_c0 d_c5 d_bd d_b3 d_b9 d_ba d_a9 d_b4 d_b7 d_c2 d_be d_b5 d_b1 d_b2 d_c1 d_a7 d_b8 d_a3 d_bc d_aa d_a8 d_b0 d_b6:FuncData):Prop where
 g_ae:W.nsIn K mainGlobals "is_whole"=some (some (.ref a_ae))
 F_ae:Fun K "is_whole" "is_whole" s_ae a_ae d_ae
 g_a6:W.nsIn K mainGlobals "is_tuple_of"=some (some (.ref a_a6))
 F_a6:Fun K "is_tuple_of" "is_tuple_of" s_a6 a_a6 d_a6
 g_a1:W.nsIn K mainGlobals "common_part"=some (some (.ref a_a1))
 F_a1:Fun K "common_part" "common_part" s_a1 a_a1 d_a1
 g_ad:W.nsIn K mainGlobals "is_ratio"=some (some (.ref a_ad))
 F_ad:Fun K "is_ratio" "is_ratio" s_ad a_ad d_ad
 g_c6:W.nsIn K mainGlobals "plus"=some (some (.ref a_c6))
 F_c6:Fun K "plus" "plus" s_c6 a_c6 d_c6
 g_c4:W.nsIn K mainGlobals "minus"=some (some (.ref a_c4))
 F_c4:Fun K "minus" "minus" s_c4 a_c4 d_c4
 g_bb:W.nsIn K mainGlobals "is_less"=some (some (.ref a_bb))
 F_bb:Fun K "is_less" "is_less" s_bb a_bb d_bb
 g_a0:W.nsIn K mainGlobals "is_number_below"=some (some (.ref a_a0))
 F_a0:Fun K "is_number_below" "is_number_below" s_a0 a_a0 d_a0
 g_c3:W.nsIn K mainGlobals "is_arc"=some (some (.ref a_c3))
 F_c3:Fun K "is_arc" "is_arc" s_c3 a_c3 d_c3
 g_a5:W.nsIn K mainGlobals "is_carried"=some (some (.ref a_a5))
 F_a5:Fun K "is_carried" "is_carried" s_a5 a_a5 d_a5
 g_a2:W.nsIn K mainGlobals "look_at_form"=some (some (.ref a_a2))
 F_a2:Fun K "look_at_form" "look_at_form" s_a2 a_a2 d_a2
 g_ac:W.nsIn K mainGlobals "flows_of"=some (some (.ref a_ac))
 F_ac:Fun K "flows_of" "flows_of" s_ac a_ac d_ac
 g_ab:W.nsIn K mainGlobals "add_hold"=some (some (.ref a_ab))
 F_ab:Fun K "add_hold" "add_hold" s_ab a_ab d_ab
 g_a4:W.nsIn K mainGlobals "amounts_of"=some (some (.ref a_a4))
 F_a4:Fun K "amounts_of" "amounts_of" s_a4 a_a4 d_a4
 g_af:W.nsIn K mainGlobals "_law_begun"=some (some (.ref a_af))
 F_af:Fun K "_law_begun" "_law_begun" s_af a_af d_af
 g_c0:W.nsIn K mainGlobals "_law_take"=some (some (.ref a_c0))
 F_c0:Fun K "_law_take" "_law_take" s_c0 a_c0 d_c0
 g_c5:W.nsIn K mainGlobals "_law_low"=some (some (.ref a_c5))
 F_c5:Fun K "_law_low" "_law_low" s_c5 a_c5 d_c5
 g_bd:W.nsIn K mainGlobals "_law_plus"=some (some (.ref a_bd))
 F_bd:Fun K "_law_plus" "_law_plus" s_bd a_bd d_bd
 g_b3:W.nsIn K mainGlobals "_law_minus"=some (some (.ref a_b3))
 F_b3:Fun K "_law_minus" "_law_minus" s_b3 a_b3 d_b3
 g_b9:W.nsIn K mainGlobals "_law_times"=some (some (.ref a_b9))
 F_b9:Fun K "_law_times" "_law_times" s_b9 a_b9 d_b9
 g_ba:W.nsIn K mainGlobals "_law_under"=some (some (.ref a_ba))
 F_ba:Fun K "_law_under" "_law_under" s_ba a_ba d_ba
 g_a9:W.nsIn K mainGlobals "_law_amount"=some (some (.ref a_a9))
 F_a9:Fun K "_law_amount" "_law_amount" s_a9 a_a9 d_a9
 g_b4:W.nsIn K mainGlobals "_law_offer"=some (some (.ref a_b4))
 F_b4:Fun K "_law_offer" "_law_offer" s_b4 a_b4 d_b4
 g_b7:W.nsIn K mainGlobals "_law_shape"=some (some (.ref a_b7))
 F_b7:Fun K "_law_shape" "_law_shape" s_b7 a_b7 d_b7
 g_c2:W.nsIn K mainGlobals "_law_walk"=some (some (.ref a_c2))
 F_c2:Fun K "_law_walk" "_law_walk" s_c2 a_c2 d_c2
 g_be:W.nsIn K mainGlobals "_law_rate"=some (some (.ref a_be))
 F_be:Fun K "_law_rate" "_law_rate" s_be a_be d_be
 g_b5:W.nsIn K mainGlobals "_law_paper"=some (some (.ref a_b5))
 F_b5:Fun K "_law_paper" "_law_paper" s_b5 a_b5 d_b5
 g_b1:W.nsIn K mainGlobals "_law_flows"=some (some (.ref a_b1))
 F_b1:Fun K "_law_flows" "_law_flows" s_b1 a_b1 d_b1
 g_b2:W.nsIn K mainGlobals "_law_least"=some (some (.ref a_b2))
 F_b2:Fun K "_law_least" "_law_least" s_b2 a_b2 d_b2
 g_c1:W.nsIn K mainGlobals "_law_time"=some (some (.ref a_c1))
 F_c1:Fun K "_law_time" "_law_time" s_c1 a_c1 d_c1
 g_a7:W.nsIn K mainGlobals "_law_planned"=some (some (.ref a_a7))
 F_a7:Fun K "_law_planned" "_law_planned" s_a7 a_a7 d_a7
 g_b8:W.nsIn K mainGlobals "_law_slack"=some (some (.ref a_b8))
 F_b8:Fun K "_law_slack" "_law_slack" s_b8 a_b8 d_b8
 g_a3:W.nsIn K mainGlobals "_law_fraction"=some (some (.ref a_a3))
 F_a3:Fun K "_law_fraction" "_law_fraction" s_a3 a_a3 d_a3
 g_bc:W.nsIn K mainGlobals "_law_copy"=some (some (.ref a_bc))
 F_bc:Fun K "_law_copy" "_law_copy" s_bc a_bc d_bc
 g_aa:W.nsIn K mainGlobals "_law_spoilt"=some (some (.ref a_aa))
 F_aa:Fun K "_law_spoilt" "_law_spoilt" s_aa a_aa d_aa
 g_a8:W.nsIn K mainGlobals "_law_refused"=some (some (.ref a_a8))
 F_a8:Fun K "_law_refused" "_law_refused" s_a8 a_a8 d_a8
 g_b0:W.nsIn K mainGlobals "_law_drawn"=some (some (.ref a_b0))
 F_b0:Fun K "_law_drawn" "_law_drawn" s_b0 a_b0 d_b0
 g_b6:W.nsIn K mainGlobals "_law_right"=some (some (.ref a_b6))
 F_b6:Fun K "_law_right" "_law_right" s_b6 a_b6 d_b6
 gc_NOUGHT:W.nsIn K mainGlobals "NOUGHT"=some (some (.ref k_NOUGHT))
 gc_NoPaper:W.nsIn K mainGlobals "NoPaper"=some (some (.ref k_NoPaper))
 gc_Unbalanced:W.nsIn K mainGlobals "Unbalanced"=some (some (.ref k_Unbalanced))
 gc_HurryError:W.nsIn K mainGlobals "HurryError"=some (some (.ref k_HurryError))
 z_abs:W.nsIn K mainGlobals "abs"=some none
 z_all:W.nsIn K mainGlobals "all"=some none
 z_bool:W.nsIn K mainGlobals "bool"=some none
 z_enumerate:W.nsIn K mainGlobals "enumerate"=some none
 z_int:W.nsIn K mainGlobals "int"=some none
 z_isinstance:W.nsIn K mainGlobals "isinstance"=some none
 z_len:W.nsIn K mainGlobals "len"=some none
 z_list:W.nsIn K mainGlobals "list"=some none
 z_max:W.nsIn K mainGlobals "max"=some none
 z_min:W.nsIn K mainGlobals "min"=some none
 z_range:W.nsIn K mainGlobals "range"=some none
 z_str:W.nsIn K mainGlobals "str"=some none
 z_tuple:W.nsIn K mainGlobals "tuple"=some none
structure Txt (K:W.Frag) (mg:Str->Option Value) (D:Adr):Prop where
 B:TxB K D.a_ae D.a_a6 D.a_a1 D.a_ad D.a_c6 D.a_c4 D.a_bb D.a_a0 D.a_c3 D.a_a5 D.a_a2 D.a_ac D.a_ab D.a_a4 D.a_af D.a_c0 D.a_c5 D.a_bd D.a_b3 D.a_b9 D.a_ba D.a_a9 D.a_b4 D.a_b7 D.a_c2 D.a_be D.a_b5 D.a_b1 D.a_b2 D.a_c1 D.a_a7 D.a_b8 D.a_a3 D.a_bc D.a_aa D.a_a8 D.a_b0 D.a_b6 D.k_NOUGHT D.k_NoPaper D.k_Unbalanced D.k_HurryError D.d_ae D.d_a6 D.d_a1 D.d_ad D.d_c6 D.d_c4 D.d_bb D.d_a0 D.d_c3 D.d_a5 D.d_a2 D.d_ac D.d_ab D.d_a4 D.d_af D.d_c0 D.d_c5 D.d_bd D.d_b3 D.d_b9 D.d_ba D.d_a9 D.d_b4 D.d_b7 D.d_c2 D.d_be D.d_b5 D.d_b1 D.d_b2 D.d_c1 D.d_a7 D.d_b8 D.d_a3 D.d_bc D.d_aa D.d_a8 D.d_b0 D.d_b6
 m_ae:mg "is_whole"=some (.ref D.a_ae)
 m_a6:mg "is_tuple_of"=some (.ref D.a_a6)
 m_a1:mg "common_part"=some (.ref D.a_a1)
 m_ad:mg "is_ratio"=some (.ref D.a_ad)
 m_c6:mg "plus"=some (.ref D.a_c6)
 m_c4:mg "minus"=some (.ref D.a_c4)
 m_bb:mg "is_less"=some (.ref D.a_bb)
 m_a0:mg "is_number_below"=some (.ref D.a_a0)
 m_c3:mg "is_arc"=some (.ref D.a_c3)
 m_a5:mg "is_carried"=some (.ref D.a_a5)
 m_a2:mg "look_at_form"=some (.ref D.a_a2)
 m_ac:mg "flows_of"=some (.ref D.a_ac)
 m_ab:mg "add_hold"=some (.ref D.a_ab)
 m_a4:mg "amounts_of"=some (.ref D.a_a4)
 m_af:mg "_law_begun"=some (.ref D.a_af)
 m_c0:mg "_law_take"=some (.ref D.a_c0)
 m_c5:mg "_law_low"=some (.ref D.a_c5)
 m_bd:mg "_law_plus"=some (.ref D.a_bd)
 m_b3:mg "_law_minus"=some (.ref D.a_b3)
 m_b9:mg "_law_times"=some (.ref D.a_b9)
 m_ba:mg "_law_under"=some (.ref D.a_ba)
 m_a9:mg "_law_amount"=some (.ref D.a_a9)
 m_b4:mg "_law_offer"=some (.ref D.a_b4)
 m_b7:mg "_law_shape"=some (.ref D.a_b7)
 m_c2:mg "_law_walk"=some (.ref D.a_c2)
 m_be:mg "_law_rate"=some (.ref D.a_be)
 m_b5:mg "_law_paper"=some (.ref D.a_b5)
 m_b1:mg "_law_flows"=some (.ref D.a_b1)
 m_b2:mg "_law_least"=some (.ref D.a_b2)
 m_c1:mg "_law_time"=some (.ref D.a_c1)
 m_a7:mg "_law_planned"=some (.ref D.a_a7)
 m_b8:mg "_law_slack"=some (.ref D.a_b8)
 m_a3:mg "_law_fraction"=some (.ref D.a_a3)
 m_bc:mg "_law_copy"=some (.ref D.a_bc)
 m_aa:mg "_law_spoilt"=some (.ref D.a_aa)
 m_a8:mg "_law_refused"=some (.ref D.a_a8)
 m_b0:mg "_law_drawn"=some (.ref D.a_b0)
 m_b6:mg "_law_right"=some (.ref D.a_b6)
 F_c7:Fun K "law" "law" s_c7 D.a_c7 D.d_c7
 m_c7:mg "law"=some (.ref D.a_c7)
 c_NOUGHT:mg "NOUGHT"=some (.ref D.k_NOUGHT)
 c_NoPaper:mg "NoPaper"=some (.ref D.k_NoPaper)
 c_Unbalanced:mg "Unbalanced"=some (.ref D.k_Unbalanced)
 c_HurryError:mg "HurryError"=some (.ref D.k_HurryError)
 z_abs:mg "abs"=none
 z_all:mg "all"=none
 z_bool:mg "bool"=none
 z_enumerate:mg "enumerate"=none
 z_int:mg "int"=none
 z_isinstance:mg "isinstance"=none
 z_len:mg "len"=none
 z_list:mg "list"=none
 z_max:mg "max"=none
 z_min:mg "min"=none
 z_range:mg "range"=none
 z_str:mg "str"=none
 z_tuple:mg "tuple"=none
 c2_NOUGHT:Pu.GD K D.k_NOUGHT (dq 0)
 J_NoPaper:∃ fI fd,InitX K D.k_NoPaper fI "number" "number" "NoPaper.__init__" s_NoPaperinit fd ["self","number"]
 J_Unbalanced:∃ fI fd,InitX K D.k_Unbalanced fI "work" "work" "Unbalanced.__init__" s_Unbalancedinit fd ["self","work"]
 xm_NoPaper_NoPaper:W.exmOne K (.ref D.k_NoPaper) (.ref D.k_NoPaper)=some true
 xga_NoPaper:W.findIn K (.ref D.k_NoPaper) "__getattribute__"=some (some (.builtin "BaseException.__getattribute__"))
 xgn_NoPaper:W.findIn K (.ref D.k_NoPaper) "__getattr__"=some none
 xgc_NoPaper:W.findIn K (.ref D.k_NoPaper) "__class__"=some (some (.builtin "object.__class__"))
 xsb_NoPaper:W.subIn K (.ref D.k_NoPaper) (.type "BaseException")=some true
 xso_NoPaper:W.subIn K (.ref D.k_NoPaper) (.type "object")=some true
 xhd_NoPaper:W.hasDictIn K D.k_NoPaper=true
 xty_NoPaper:(K.lookup D.k_NoPaper).map (·.cls)=some (.type "type")
 xi_NoPaper_Unbalanced:W.kitOne K (.ref D.k_NoPaper) (.ref D.k_Unbalanced)=some false
 xi_NoPaper_HurryError:W.kitOne K (.ref D.k_NoPaper) (.ref D.k_HurryError)=some true
 xm_Unbalanced_Unbalanced:W.exmOne K (.ref D.k_Unbalanced) (.ref D.k_Unbalanced)=some true
 xga_Unbalanced:W.findIn K (.ref D.k_Unbalanced) "__getattribute__"=some (some (.builtin "BaseException.__getattribute__"))
 xgn_Unbalanced:W.findIn K (.ref D.k_Unbalanced) "__getattr__"=some none
 xgc_Unbalanced:W.findIn K (.ref D.k_Unbalanced) "__class__"=some (some (.builtin "object.__class__"))
 xsb_Unbalanced:W.subIn K (.ref D.k_Unbalanced) (.type "BaseException")=some true
 xso_Unbalanced:W.subIn K (.ref D.k_Unbalanced) (.type "object")=some true
 xhd_Unbalanced:W.hasDictIn K D.k_Unbalanced=true
 xty_Unbalanced:(K.lookup D.k_Unbalanced).map (·.cls)=some (.type "type")
 xi_Unbalanced_NoPaper:W.kitOne K (.ref D.k_Unbalanced) (.ref D.k_NoPaper)=some false
 xi_Unbalanced_HurryError:W.kitOne K (.ref D.k_Unbalanced) (.ref D.k_HurryError)=some true
 xm_Unbalanced_NoPaper:W.exmOne K (.ref D.k_Unbalanced) (.ref D.k_NoPaper)=some false
def scI {N P:List Str} {sc:Scope} (a:sc.kind=.function:=by rfl) (b:sc.isCoroutine=false:=by rfl) (c:sc.isGenerator=false:=by rfl) (d:N.Nodup:=by ext) (e:N.take P.length=P:=by rfl) (f:∀ x ∈ P,sc.names.lookup x=some .local\/sc.names.lookup x=some .cell:=by ext) (g:∀ y ∈ sc.names,y.2≠.free:=by ext):FnScope N P sc:=⟨a,b,c,d,e,f,g⟩
structure KCl (K:W.Frag) (mg:Str->Option Value) (x:Str) (f:Addr) (fd:FuncData) (ps:List Str):Prop where
 m:mg x=some (.ref f)
 k:W.keepIn K (.ref f)=true
 b:Binds K fd ps []
def qcK {X:Cx} {k:Nat} {f:Addr} {fd:FuncData} {ps:List Str} {sp:Sp} {x:Str} {p pos:Pos} {e:Expr} {es:List Expr} {t:TA} (F:FnOk X.prog X.w X.K X.mg X.base CX0 k f fd ps sp) (hr:Room k X.A) (c:KCl X.K X.mg x f fd ps) (ha:QA X (e :: es) t) (hg:Gl X x:=by rfl) (hdb:(x == ("__debug__":Str))=false:=by decide) (he:starEach (e :: es) X.env=(false,eval e X.env) :: starEach es X.env:=by rfl) (hpl:(backTo pos (starEach es X.env)).any (·.1)=false:=by rfl):QE X (.Call (.Name x p) (e :: es) [] pos) (A4v sp [] E0 t):=A9u F hr hg c.m c.k c.b .nil C2p ha hdb he hpl
def qgn {X:Cx} (i:Nat) {P:List Str} {sc:Scope} {x:Str} {pos:Pos} (S:FnScope X.N P sc) (hi:X.N[i]?=some x:=by rfl) (hx:Loc X.env.scope x:=by exact Or.inl rfl) (hf:X.fn x=true\/X.env.scope.names.lookup x=some .local:=by first | exact .inl rfl | exact .inr rfl | assumption):QG X (.Name x pos) (O6 i):=P7 S.nd hi hx hf
def qgc {X:Cx} (i:Nat) (N:List Str) {x:Str} {pos:Pos} (hN:X.N=N:=by exact rfl) (hd:N.Nodup:=by ext) (hi:X.N[i]?=some x:=by exact rfl) (hx:Loc X.env.scope x:=by exact Or.inl rfl) (hf:X.fn x=true\/X.env.scope.names.lookup x=some .local:=by exact Or.inr rfl):QG X (.Name x pos) (O6 i):=P7 (hN ▸ hd) hi hx hf
def qst {X:Cx} (i:Nat) {P:List Str} {sc:Scope} {x:Str} {e:Expr} {te:TE} {pos pos':Pos} (S:FnScope X.N P sc) (he:QE X e te) (hi:X.N[i]?=some x:=by rfl) (hx:Loc X.env.scope x:=by exact Or.inl rfl) (hs:swapsWith e (some (.Name x pos')) pos.line X.env=pure false:=by rfl) (hf:X.fn x=true\/X.env.scope.names.lookup x=some .local:=by first | exact .inl rfl | exact .inr rfl | assumption):QS X (.Assign [.Name x pos'] e pos) (tAsg te (O6 i)):=N8 S.nd hi hx he hs hf
def qln (K:W.Frag) {X:Cx} {p pos:Pos} {e:Expr} {te:TE} (hm:X.mg "len"=none) (he:QE X e te) (h:X.K=K:=by rfl) (hg:Gl X "len":=by rfl) (hs:starEach [e] X.env=(false,eval e X.env) :: starEach [] X.env:=by rfl) (hpl:(backTo pos (starEach [] X.env)).any (·.1)=false:=by rfl):QE X (.Call (.Name "len" p) [e] [] pos) (tCB (A9n K) (F7 te tNil)):=D1 (A5u h) hg hm PySem.boot_len (A0 he A1 hs) (by decide) (by decide) hs hpl
def qix (K:W.Frag) {X:Cx} {a b:Expr} {ta tb:TE} {pos:Pos} (ha:QE X a ta) (hb:QE X b tb) (h:X.K=K:=by rfl) (hs:A3e b:=by exact fun _ _=>rfl):QE X (.Subscript a b pos) (tOp (rIx K) ta tb):=B79 (B6o h) ha hb hs
def _root_.L2.Fun.b1 {K:W.Frag} {x q:Str} {st:Stmt} {f:Addr} {fd:FuncData} {a:Str} (F:L2.Fun K x q st f fd) (h:∀ (kV doc pm:Value) (an:Option Addr) (cdv ct u:Value),bindArgs (W.fnOf x q (J2 st) (F6 st) (A7 st) .none kV doc pm an cdv ct) ⟨[u],[]⟩=pure [(a,u)]:=by intros; rfl):Binds K fd [a] []:=F.binds (ps:=[a]) fun _ _ _ _ _ _ us hl=>by obtain ⟨_,rfl⟩:=us1 hl; exact h ..
def _root_.L2.Fun.b2 {K:W.Frag} {x q:Str} {st:Stmt} {f:Addr} {fd:FuncData} {a b:Str} (F:L2.Fun K x q st f fd) (h:∀ (kV doc pm:Value) (an:Option Addr) (cdv ct u v:Value),bindArgs (W.fnOf x q (J2 st) (F6 st) (A7 st) .none kV doc pm an cdv ct) ⟨[u,v],[]⟩=pure [(a,u),(b,v)]:=by intros; rfl):Binds K fd [a,b] []:=F.binds (ps:=[a,b]) fun _ _ _ _ _ _ us hl=>by obtain ⟨_,_,rfl⟩:=us2 hl; exact h ..
def _root_.L2.Fun.b3 {K:W.Frag} {x q:Str} {st:Stmt} {f:Addr} {fd:FuncData} {a b c:Str} (F:L2.Fun K x q st f fd) (h:∀ (kV doc pm:Value) (an:Option Addr) (cdv ct u v w:Value),bindArgs (W.fnOf x q (J2 st) (F6 st) (A7 st) .none kV doc pm an cdv ct) ⟨[u,v,w],[]⟩=pure [(a,u),(b,v),(c,w)]:=by intros; rfl):Binds K fd [a,b,c] []:=F.binds (ps:=[a,b,c]) fun _ _ _ _ _ _ us hl=>by obtain ⟨_,_,_,rfl⟩:=us3 hl; exact h ..
def _root_.L2.Fun.b4 {K:W.Frag} {x q:Str} {st:Stmt} {f:Addr} {fd:FuncData} {a b c d:Str} (F:L2.Fun K x q st f fd) (h:∀ (kV doc pm:Value) (an:Option Addr) (cdv ct u v w x1:Value),bindArgs (W.fnOf x q (J2 st) (F6 st) (A7 st) .none kV doc pm an cdv ct) ⟨[u,v,w,x1],[]⟩=pure [(a,u),(b,v),(c,w),(d,x1)]:=by intros; rfl):Binds K fd [a,b,c,d] []:=F.binds (ps:=[a,b,c,d]) fun _ _ _ _ _ _ us hl=>by obtain ⟨_,_,_,_,rfl⟩:=us4 hl; exact h ..
def Zz:=@Pu.spOf.len
def Zf:=@PassesOwn.never
section
variable {K:W.Frag} {mg:Str->Option Value} {D:Adr}
def sc_ae:FnScope ["thing"] ["thing"] (A7 s_ae):=scI
def X6 (T:Txt K mg D):KCl K mg "is_whole" D.a_ae D.d_ae ["thing"]:=⟨T.m_ae,T.B.F_ae.kp,T.B.F_ae.b1⟩
def sc_a6:FnScope ["thing","many"] ["thing","many"] (A7 s_a6):=scI
def R5 (T:Txt K mg D):KCl K mg "is_tuple_of" D.a_a6 D.d_a6 ["thing","many"]:=⟨T.m_a6,T.B.F_a6.kp,T.B.F_a6.b2⟩
def sc_a1:FnScope ["one","other"] ["one","other"] (A7 s_a1):=scI
def P5 (T:Txt K mg D):KCl K mg "common_part" D.a_a1 D.d_a1 ["one","other"]:=⟨T.m_a1,T.B.F_a1.kp,T.B.F_a1.b2⟩
def sc_ad:FnScope ["thing","top","bottom"] ["thing"] (A7 s_ad):=scI
def A83 (T:Txt K mg D):KCl K mg "is_ratio" D.a_ad D.d_ad ["thing"]:=⟨T.m_ad,T.B.F_ad.kp,T.B.F_ad.b1⟩
def sc_c6:FnScope ["one","other","shared","mine","theirs","top","rest"] ["one","other"] (A7 s_c6):=scI
def X5 (T:Txt K mg D):KCl K mg "plus" D.a_c6 D.d_c6 ["one","other"]:=⟨T.m_c6,T.B.F_c6.kp,T.B.F_c6.b2⟩
def sc_c4:FnScope ["one","other"] ["one","other"] (A7 s_c4):=scI
def B7b (T:Txt K mg D):KCl K mg "minus" D.a_c4 D.d_c4 ["one","other"]:=⟨T.m_c4,T.B.F_c4.kp,T.B.F_c4.b2⟩
def sc_bb:FnScope ["one","other"] ["one","other"] (A7 s_bb):=scI
def A03 (T:Txt K mg D):KCl K mg "is_less" D.a_bb D.d_bb ["one","other"]:=⟨T.m_bb,T.B.F_bb.kp,T.B.F_bb.b2⟩
def sc_a0:FnScope ["thing","many"] ["thing","many"] (A7 s_a0):=scI
def X7 (T:Txt K mg D):KCl K mg "is_number_below" D.a_a0 D.d_a0 ["thing","many"]:=⟨T.m_a0,T.B.F_a0.kp,T.B.F_a0.b2⟩
def sc_c3:FnScope ["net","thing","works","waits","holds","many","word","number"] ["net","thing"] (A7 s_c3):=scI
def B7c (T:Txt K mg D):KCl K mg "is_arc" D.a_c3 D.d_c3 ["net","thing"]:=⟨T.m_c3,T.B.F_c3.kp,T.B.F_c3.b2⟩
def sc_a5:FnScope ["net","thing","arc","amount"] ["net","thing"] (A7 s_a5):=scI
def X8 (T:Txt K mg D):KCl K mg "is_carried" D.a_a5 D.d_a5 ["net","thing"]:=⟨T.m_a5,T.B.F_a5.kp,T.B.F_a5.b2⟩
def sc_a2:FnScope ["net","thing","ahead","at","carried"] ["net","thing"] (A7 s_a2):=scI
def M7 (T:Txt K mg D):KCl K mg "look_at_form" D.a_a2 D.d_a2 ["net","thing"]:=⟨T.m_a2,T.B.F_a2.kp,T.B.F_a2.b2⟩
def sc_ac:FnScope ["net","paper","waits","holds","amounts","offs","word","number","amount","one","other","lag"] ["net","paper"] (A7 s_ac):=scI
def A2l (T:Txt K mg D):KCl K mg "flows_of" D.a_ac D.d_ac ["net","paper"]:=⟨T.m_ac,T.B.F_ac.kp,T.B.F_ac.b2⟩
def sc_ab:FnScope ["hold","amount","amounts","offs","kind","work","moment"] ["hold","amount","amounts","offs"] (A7 s_ab):=scI
def A84 (T:Txt K mg D):KCl K mg "add_hold" D.a_ab D.d_ab ["hold","amount","amounts","offs"]:=⟨T.m_ab,T.B.F_ab.kp,T.B.F_ab.b4⟩
def sc_a4:FnScope ["net","paper","amounts","offs","work","amount"] ["net","paper"] (A7 s_a4):=scI
def L6 (T:Txt K mg D):KCl K mg "amounts_of" D.a_a4 D.d_a4 ["net","paper"]:=⟨T.m_a4,T.B.F_a4.kp,T.B.F_a4.b2⟩
def sc_af:FnScope ["_law_script","_law_k","_law_cell"] ["_law_script","_law_k"] (A7 s_af):=scI
def O5 (T:Txt K mg D):KCl K mg "_law_begun" D.a_af D.d_af ["_law_script","_law_k"]:=⟨T.m_af,T.B.F_af.kp,T.B.F_af.b2⟩
def sc_c0:FnScope ["_law_state","_law_many","_law_digit","_law_made","_law_turn"] ["_law_state","_law_many"] (A7 s_c0):=scI
def C5 (T:Txt K mg D):KCl K mg "_law_take" D.a_c0 D.d_c0 ["_law_state","_law_many"]:=⟨T.m_c0,T.B.F_c0.kp,T.B.F_c0.b2⟩
def sc_c5:FnScope ["_law_top","_law_bottom","_law_one","_law_other"] ["_law_top","_law_bottom"] (A7 s_c5):=scI
def X9 (T:Txt K mg D):KCl K mg "_law_low" D.a_c5 D.d_c5 ["_law_top","_law_bottom"]:=⟨T.m_c5,T.B.F_c5.kp,T.B.F_c5.b2⟩
def sc_bd:FnScope ["_law_one","_law_other"] ["_law_one","_law_other"] (A7 s_bd):=scI
def F5 (T:Txt K mg D):KCl K mg "_law_plus" D.a_bd D.d_bd ["_law_one","_law_other"]:=⟨T.m_bd,T.B.F_bd.kp,T.B.F_bd.b2⟩
def sc_b3:FnScope ["_law_one","_law_other"] ["_law_one","_law_other"] (A7 s_b3):=scI
def K5 (T:Txt K mg D):KCl K mg "_law_minus" D.a_b3 D.d_b3 ["_law_one","_law_other"]:=⟨T.m_b3,T.B.F_b3.kp,T.B.F_b3.b2⟩
def sc_b9:FnScope ["_law_one","_law_other"] ["_law_one","_law_other"] (A7 s_b9):=scI
def V6 (T:Txt K mg D):KCl K mg "_law_times" D.a_b9 D.d_b9 ["_law_one","_law_other"]:=⟨T.m_b9,T.B.F_b9.kp,T.B.F_b9.b2⟩
def sc_ba:FnScope ["_law_one","_law_other"] ["_law_one","_law_other"] (A7 s_ba):=scI
def B1o (T:Txt K mg D):KCl K mg "_law_under" D.a_ba D.d_ba ["_law_one","_law_other"]:=⟨T.m_ba,T.B.F_ba.kp,T.B.F_ba.b2⟩
def sc_a9:FnScope ["_law_state","_law_plain","_law_least_here","_law_way","_law_bottom"] ["_law_state","_law_plain","_law_least_here"] (A7 s_a9):=scI
def K3 (T:Txt K mg D):KCl K mg "_law_amount" D.a_a9 D.d_a9 ["_law_state","_law_plain","_law_least_here"]:=⟨T.m_a9,T.B.F_a9.kp,T.B.F_a9.b3⟩
def sc_b4:FnScope ["_law_state","_law_kind","_law_most","_law_plain","_law_many","_law_time_here","_law_price","_law_gaps","_law_gap","_law_corners","_law_rate_here","_law_step"] ["_law_state","_law_kind","_law_most","_law_plain"] (A7 s_b4):=scI
def B1r (T:Txt K mg D):KCl K mg "_law_offer" D.a_b4 D.d_b4 ["_law_state","_law_kind","_law_most","_law_plain"]:=⟨T.m_b4,T.B.F_b4.kp,T.B.F_b4.b4⟩
def sc_b7:FnScope ["_law_script","_law_kinds","_law_state","_law_many","_law_size","_law_least_here","_law_full","_law_works","_law_k","_law_own","_law_kind","_law_waits","_law_holds","_law_one"] ["_law_script","_law_kinds"] (A7 s_b7):=scI
def B1p (T:Txt K mg D):KCl K mg "_law_shape" D.a_b7 D.d_b7 ["_law_script","_law_kinds"]:=⟨T.m_b7,T.B.F_b7.kp,T.B.F_b7.b2⟩
def sc_c2:FnScope ["_law_shape_here","_law_state","_law_works","_law_waits","_law_holds","_law_work","_law_seen","_law_arcs","_law_going","_law_some","_law_first","_law_last"] ["_law_shape_here","_law_state"] (A7 s_c2):=scI
def B7d (T:Txt K mg D):KCl K mg "_law_walk" D.a_c2 D.d_c2 ["_law_shape_here","_law_state"]:=⟨T.m_c2,T.B.F_c2.kp,T.B.F_c2.b2⟩
def sc_be:FnScope ["_law_shape_here","_law_state","_law_kind","_law_corners","_law_amount_here","_law_k","_law_up","_law_gap"] ["_law_shape_here","_law_state"] (A7 s_be):=scI
def B7f (T:Txt K mg D):KCl K mg "_law_rate" D.a_be D.d_be ["_law_shape_here","_law_state"]:=⟨T.m_be,T.B.F_be.kp,T.B.F_be.b2⟩
def sc_b5:FnScope ["_law_shape_here","_law_script","_law_at","_law_state","_law_arcs","_law_amounts","_law_turn","_law_amount_here","_law_arc","_law_paper_here","_law_cut"] ["_law_shape_here","_law_script","_law_at"] (A7 s_b5):=scI
def B1q (T:Txt K mg D):KCl K mg "_law_paper" D.a_b5 D.d_b5 ["_law_shape_here","_law_script","_law_at"]:=⟨T.m_b5,T.B.F_b5.kp,T.B.F_b5.b3⟩
def sc_b1:FnScope ["_law_net","_law_paper_here","_law_works","_law_waits","_law_holds","_law_inward","_law_off","_law_word","_law_k","_law_amount_here"] ["_law_net","_law_paper_here"] (A7 s_b1):=scI
def A4r (T:Txt K mg D):KCl K mg "_law_flows" D.a_b1 D.d_b1 ["_law_net","_law_paper_here"]:=⟨T.m_b1,T.B.F_b1.kp,T.B.F_b1.b2⟩
def sc_b2:FnScope ["_law_offer_here","_law_rate_here","_law_made","_law_time_here","_law_price","_law_cost"] ["_law_offer_here","_law_rate_here"] (A7 s_b2):=scI
def B1s (T:Txt K mg D):KCl K mg "_law_least" D.a_b2 D.d_b2 ["_law_offer_here","_law_rate_here"]:=⟨T.m_b2,T.B.F_b2.kp,T.B.F_b2.b2⟩
def sc_c1:FnScope ["_law_offer_here","_law_amount_here","_law_own","_law_kind","_law_corners","_law_due","_law_tight","_law_way","_law_k","_law_gap"] ["_law_offer_here","_law_amount_here","_law_own"] (A7 s_c1):=scI
def B7e (T:Txt K mg D):KCl K mg "_law_time" D.a_c1 D.d_c1 ["_law_offer_here","_law_amount_here","_law_own"]:=⟨T.m_c1,T.B.F_c1.kp,T.B.F_c1.b3⟩
def sc_a7:FnScope ["_law_shape_here","_law_script","_law_paper_here","_law_works","_law_waits","_law_holds","_law_amounts","_law_plan","_law_i","_law_own","_law_time_here","_law_start","_law_ends","_law_lags","_law_k","_law_one","_law_other","_law_moments","_law_kind","_law_slack_here"] ["_law_shape_here","_law_script","_law_paper_here"] (A7 s_a7):=scI
def A5x (T:Txt K mg D):KCl K mg "_law_planned" D.a_a7 D.d_a7 ["_law_shape_here","_law_script","_law_paper_here"]:=⟨T.m_a7,T.B.F_a7.kp,T.B.F_a7.b3⟩
def sc_b8:FnScope ["_law_script","_law_k","_law_own","_law_slack_here"] ["_law_script","_law_k"] (A7 s_b8):=scI
def A4q (T:Txt K mg D):KCl K mg "_law_slack" D.a_b8 D.d_b8 ["_law_script","_law_k"]:=⟨T.m_b8,T.B.F_b8.kp,T.B.F_b8.b2⟩
def sc_a3:FnScope ["_law_found","_law_part"] ["_law_found"] (A7 s_a3):=scI
def A3b (T:Txt K mg D):KCl K mg "_law_fraction" D.a_a3 D.d_a3 ["_law_found"]:=⟨T.m_a3,T.B.F_a3.kp,T.B.F_a3.b1⟩
def sc_bc:FnScope ["_law_thing"] ["_law_thing"] (A7 s_bc):=scI
def A05 (T:Txt K mg D):KCl K mg "_law_copy" D.a_bc D.d_bc ["_law_thing"]:=⟨T.m_bc,T.B.F_bc.kp,T.B.F_bc.b1⟩
def sc_aa:FnScope ["_law_net","_law_state","_law_paper_here","_law_at","_law_i","_law_odd","_law_way"] ["_law_net","_law_state","_law_paper_here"] (A7 s_aa):=scI
def A85 (T:Txt K mg D):KCl K mg "_law_spoilt" D.a_aa D.d_aa ["_law_net","_law_state","_law_paper_here"]:=⟨T.m_aa,T.B.F_aa.kp,T.B.F_aa.b3⟩
def sc_a8:FnScope ["_law_deed","_law_told","error"] ["_law_deed"] (A7 s_a8):=scI
def A5w (T:Txt K mg D):KCl K mg "_law_refused" D.a_a8 D.d_a8 ["_law_deed"]:=⟨T.m_a8,T.B.F_a8.kp,T.B.F_a8.b1⟩
def sc_b0:FnScope ["_law_script","_law_kinds","_law_shape_here","_law_paper_here","_law_net","_law_plan"] ["_law_script","_law_kinds"] (A7 s_b0):=scI
def B1t (T:Txt K mg D):KCl K mg "_law_drawn" D.a_b0 D.d_b0 ["_law_script","_law_kinds"]:=⟨T.m_b0,T.B.F_b0.kp,T.B.F_b0.b2⟩
def sc_b6:FnScope ["_law_found","_law_due"] ["_law_found","_law_due"] (A7 s_b6):=scI
def A04 (T:Txt K mg D):KCl K mg "_law_right" D.a_b6 D.d_b6 ["_law_found","_law_due"]:=⟨T.m_b6,T.B.F_b6.kp,T.B.F_b6.b2⟩
def sc_c7:FnScope ["_law_script","_law_net","_law_plan","_law_paper_here","_law_state","_law_inward","_law_off","_law_handed","_law_found","_law_kept","_law_thing","_law_due"] ["_law_script"] (A7 s_c7):=scI
end
def sc_NoPaperinit:FnScope ["self","number"] ["self","number"] (A7 s_NoPaperinit):=scI
def sc_Unbalancedinit:FnScope ["self","work"] ["self","work"] (A7 s_Unbalancedinit):=scI
theorem B2k:(PyData.str "steps").canLay0=true:=by ext
theorem A73:(PyData.str "straight").canLay0=true:=by ext
theorem C1s:PyData.eqv (.str "steps") (.str "steps")=true:=by ext
theorem C1r:PyData.eqv (.str "straight") (.str "straight")=true:=by ext
def offD (kd:Str) (cs:LR):PyData:=.tuple [.str kd,.list (cs.map dcn)]
def Kd (kd:Str):Prop:=kd="straight"\/kd="steps"
def Kd.lay {kd:Str} (h:Kd kd):(PyData.str kd).canLay0=true:=by rcases h with rfl | rfl; exact A73; exact B2k
def N6 (c d:Rat × Rat):Rat:=(d.2 - c.2) / (c.1 - d.1)
def B5b (c d:Rat × Rat) (t:Rat):Rat:=c.2 + N6 c d * (c.1 - t)
def C19 {c d:Rat × Rat} (h:d.1 < c.1) (h1:SmR 161 85 c.1) (h2:SmR 285 151 c.2) (h3:SmR 161 85 d.1) (h4:SmR 285 151 d.2):SmR 607 549 (N6 c d) :=
 ((h4.sub h2).div (h1.sub h3) (by grind)).mono (by decide) (by decide)
def lm (vs:LQ) (m:Rat):Rat:=vs.foldl (fun m v=>if v < m then v else m) m
def C2z:∀ (vs:LQ) (m:Rat),lm vs m<=m/\∀ v ∈ vs,lm vs m<=v
 | [],m=>⟨Rat.le_refl,fun v h=>absurd h (by simp)⟩
 | v :: r,m=>by
  obtain ⟨h1,h2⟩:=C2z r (if v < m then v else m);have e:lm (v :: r) m=lm r (if v < m then v else m):=rfl;rw [e];have h3:(if v < m then v else m)<=m/\(if v < m then v else m)<=v:=by
   split
   ·constructor <;> grind
   ·constructor <;> grind
  refine ⟨by grind,fun x hx=>?_⟩;rcases List.mem_cons.mp hx with rfl | hx
  ·grind
  ·exact h2 x hx
def val (q:Rat) (c:Rat × Rat):Rat:=c.2 + q * c.1
def B7o {q m t:Rat} {c d:Rat × Rat} (hcd:d.1 < c.1) (h1:m<=val q c) (h2:m<=val q d) (t1:d.1<=t) (t2:t<=c.1):¬ B5b c d t + q * t < m:=by
 have hn:c.1 - d.1≠0:=by grind
 have hp:0 < c.1 - d.1:=by grind
 obtain ⟨x,hx⟩:∃ x,x=(c.1 - t) / (c.1 - d.1):=⟨_,rfl⟩;have hx1:x * (c.1 - d.1)=c.1 - t:=by rw [hx]; exact Rat.div_mul_cancel hn
 have x0:0<=x:=by
  refine Rat.le_of_mul_le_mul_right (c:=c.1 - d.1) ?_ hp;rw [hx1]; grind
 have x1:x<=1:=by
  refine Rat.le_of_mul_le_mul_right (c:=c.1 - d.1) ?_ hp;rw [hx1]; grind
 have e1:N6 c d * (c.1 - t)=(d.2 - c.2) * x:=by
  unfold N6;rw [hx,Rat.div_def,Rat.div_def]; grind
 have e2:B5b c d t + q * t=(1 - x) * val q c + x * val q d:=by
  unfold B5b val;rw [e1];have ht:t=c.1 - x * (c.1 - d.1):=by grind
  rw [ht]; grind
 have a1:0<=(1 - x) * (val q c - m):=Rat.mul_nonneg (by grind) (by grind);have a2:0<=x * (val q d - m):=Rat.mul_nonneg x0 (by grind);rw [e2];grind
def C2a {x:Int} (h:x<=60):Rat.divInt x 60<=1:=by
 have e:Rat.divInt 1 1 - Rat.divInt x 60=Rat.divInt (1 * 60 - x * 1) (1 * 60):=Rat.divInt_sub_divInt _ _ (by decide) (by decide);have h1:0<=Rat.divInt (1 * 60 - x * 1) (1 * 60):=S2 (by omega) (by decide);have h2:Rat.divInt 1 1=1:=by ext
 rw [<- e,h2] at h1;grind
def smr0:SmR 1 1 0:=⟨by unfold Sm; decide,by unfold Sm; decide⟩
def smq0:SmQ 3900 0:=⟨smr0.1.mono (by decide),smr0.2.mono (by decide)⟩
def CvI (l:LR):Prop:=∀ (i:Nat) a b c,l[i]?=some a->l[i + 1]?=some b->l[i + 2]?=some c->N6 a b < N6 b c
def A6b {a b:Rat × Rat} (h:b.1 < a.1):N6 a b * (a.1 - b.1)=b.2 - a.2:=by unfold N6; exact Rat.div_mul_cancel (by grind)
def CvI.push {l:LR} {c:Rat × Rat} (H:CvI l) (h:∀ A a b,l=A++[a,b]->N6 a b < N6 b c):CvI (l++[c]):=by
 intro j x y z h1 h2 h3;have hl:j + 2 < l.length + 1:=by have:=(Zs h3).1; simpa using this
 rcases (show j + 2 < l.length\/j + 2=l.length by omega) with q | q
 ·rw [List.getElem?_append_left (by omega)] at h1 h2 h3;exact H j x y z h1 h2 h3
 ·rw [List.getElem?_append_left (by omega)] at h1 h2;rw [List.getElem?_append_right (by omega),q,Nat.sub_self] at h3;cases h3;refine h (l.take j) x y ?_;have e1:l.drop j=[x,y]:=by
   refine List.ext_getElem? fun k=>?_;rw [List.getElem?_drop];match k with
   | 0=>simpa using h1
   | 1=>simpa using h2
   | k + 2=>simp; omega
  rw [<- e1,List.take_append_drop]
def CvR (l:LR) (R:Rat):Prop:=CvI l/\∀ A a b,l=A++[a,b]->N6 a b=R
def CvR.one (c:Rat × Rat):CvR [c] 0:=by
 refine ⟨fun i a b d h1 h2 h3=>?_,fun A a b e=>?_⟩
 ·have:=(Zs h3).1; simp at this
 ·have:=congrArg List.length e; simp at this
def CvR.step {cs:LR} {T P R q v v2:Rat} (q0:0 < q) (v0:0 < v) (hv:v2=(R + v) * q) (h:CvR (cs++[(T,P)]) R):CvR (cs++[(T,P)]++[(T - q,P + v2)]) (R + v):=by
 have es:N6 (T,P) (T - q,P + v2)=R + v:=by
  have e:=A6b (a:=(T,P)) (b:=(T - q,P + v2)) (by show T - q < T; grind);have e':N6 (T,P) (T - q,P + v2) * q=(R + v) * q:=by
   rw [<- hv];have:N6 (T,P) (T - q,P + v2) * (T - (T - q))=P + v2 - P:=e;grind
  have hq:q≠0:=by grind
  rw [<- Rat.mul_div_cancel (b:=q) hq (a:=N6 (T,P) (T - q,P + v2)),e',Rat.mul_div_cancel hq]
 refine ⟨h.1.push fun A a b e=>?_,fun A a b e=>?_⟩
 ·have hb:b=(T,P):=by
   have e':cs++[(T,P)]=(A++[a])++[b]:=by rw [e]; simp
   have:=(List.append_inj' e' rfl).2;cases this; rfl
  have:=h.2 A a b e;rw [this,hb,es]; grind
 ·have e':cs++[(T,P),(T - q,P + v2)]=A++[a,b]:=by rw [<- e]; simp
  have:=(List.append_inj' e' rfl).2;cases this; exact es
def A4l {α:Type} {f:α->PyData} {xs:List α} {n:Nat} (h:n<=xs.length):cutD (xs.map f) none (some (n:Int))=(xs.take n).map f:=by
 unfold cutD;rw [HT.sIx_none,show HT.sIx (xs.map f).length (xs.map f).length (some (n:Int))=min n xs.length by rw [Zl]; exact HT.sIx_nat _ _ n,List.map_take];rw [Nat.min_eq_left h]; simp
def A4m {α:Type} {f:α->PyData} {xs:List α} {n:Nat} (h:n<=xs.length):cutD (xs.map f) (some (n:Int)) none=(xs.drop n).map f:=by
 unfold cutD;rw [HT.sIx_none,show HT.sIx (xs.map f).length 0 (some (n:Int))=min n xs.length by rw [Zl]; exact HT.sIx_nat _ _ n,List.map_drop,Nat.min_eq_left h,Zl];rw [List.take_of_length_le (by simp)]
def RiseO (cs:LR):Prop:=∀ (i:Nat) c d,cs[i]?=some c->cs[i + 1]?=some d->d.1 < c.1/\c.2 < d.2
def RiseO.one (c:Rat × Rat):RiseO [c]:=fun i a b _ h=>by rw [List.getElem?_eq_none (by simp)] at h; cases h
def RiseO.snoc {cs:LR} {c d:Rat × Rat} (h:RiseO (cs++[c])) (h1:d.1 < c.1) (h2:c.2 < d.2):RiseO (cs++[c]++[d]):=fun i a b ha hb=>by
 rcases Nat.lt_trichotomy (i + 1) (cs++[c]).length with z | z | z
 ·rw [List.getElem?_append_left (by omega)] at ha;rw [List.getElem?_append_left z] at hb;exact h i a b ha hb
 ·rw [List.getElem?_append_left (by omega)] at ha;rw [z,List.getElem?_append_right (Zv _),Nat.sub_self] at hb;have hi:i=cs.length:=by simp at z; exact z
  rw [hi,List.getElem?_append_right (Zv _),Nat.sub_self] at ha;cases ha; cases hb;exact ⟨h1,h2⟩
 ·rw [List.getElem?_eq_none (by simp at z ⊢; omega)] at hb; cases hb
def sumR (qs:LQ):Rat:=qs.foldr (· + ·) 0
def A1a:∀ (qs:LQ) (q:Rat),sumR (qs++[q])=sumR qs + q
 | [],q=>by show q + 0=0 + q; grind
 | p :: r,q=>by
  have h:=A1a r q;show p + sumR (r++[q])=p + sumR r + q;rw [h]; grind
def A0j:∀ {qs:LQ},(∀ q ∈ qs,0 < q)->0<=sumR qs
 | [],_=>Rat.le_refl
 | p :: r,h=>by
  have h1:=A0j (qs:=r) fun q hq=>h q (Zr _ hq);have h2:=h p Zy;show 0<=p + sumR r;grind
structure OfG (kd:Str) (cs:LR) (a b c d:Nat):Prop where
 ok:OfOk cs a b c d
 nn:∀ x ∈ cs,0<=x.1/\0<=x.2
 up:RiseO cs
 cv:kd="straight"->CvI cs
def wD (w:Int × Int × Rat):PyData:=.tuple [.int w.1,.int w.2.1,dq w.2.2]
def hD (h:Str × Int × Rat):PyData:=.tuple [.str h.1,.int h.2.1,dq h.2.2]
def On (B k:Nat) (q:Rat):Prop:=∃ z:Int,q=Rat.divInt z (B:Int)/\z.natAbs<=k * B
def On.mono {B k l:Nat} {q:Rat} (h:On B k q) (g:k<=l):On B l q:=let ⟨z,e,b⟩:=h; ⟨z,e,Zx b (Zu _ g)⟩
def On.add {B k l:Nat} {p q:Rat} (hB:0 < B) (h:On B k p) (g:On B l q):On B (k + l) (p + q):=by
 obtain ⟨z,rfl,b⟩:=h;obtain ⟨y,rfl,c⟩:=g;have hn:(B:Int)≠0:=by omega
 refine ⟨z + y,?_,Zx (Int.natAbs_add_le _ _) (by rw [Nat.add_mul]; omega)⟩;rw [Rat.divInt_add_divInt _ _ hn hn,<- Int.add_mul,Rat.divInt_mul_right hn]
def On.neg {B k:Nat} {p:Rat} (h:On B k p):On B k (-p):=by
 obtain ⟨z,rfl,b⟩:=h;exact ⟨-z,by rw [Rat.neg_divInt],by rw [Int.natAbs_neg]; exact b⟩
def On.sub {B k l:Nat} {p q:Rat} (hB:0 < B) (h:On B k p) (g:On B l q):On B (k + l) (p - q):=by
 rw [Rat.sub_eq_add_neg]; exact h.add hB g.neg
def On.of {B a b:Nat} {q:Rat} (hB:0 < B) (h:SmR a b q) (d:q.den ∣ B):On B (2 ^ a) q:=by
 obtain ⟨c,rfl⟩:=d;have hd:=q.den_pos;by_cases hc:c=0
 ·subst hc; rw [Nat.mul_zero] at hB; exact absurd hB (Nat.lt_irrefl _)
 ·refine ⟨q.num * c,?_,?_⟩
  ·rw [Int.natCast_mul,Rat.divInt_mul_right (by omega),Rat.num_divInt_den]
  ·rw [Int.natAbs_mul,Int.natAbs_natCast];have h1:q.num.natAbs<=2 ^ a:=Nat.le_of_lt h.1;exact Nat.mul_le_mul h1 (Nat.le_mul_of_pos_left _ hd)
def On.zero {B:Nat}:On B 0 0:=⟨0,by rw [Rat.zero_divInt],by simp⟩
theorem On.q {B k:Nat} {q:Rat} (hB:0 < B) (h:On B k q) (g:k * B < 2 ^ 3900) (g2:B < 2 ^ 3900):SmQ 3900 q:=by
 obtain ⟨z,rfl,b⟩:=h;have:=SmR.low (n:=3900) (d:=3900) (t:=z) (b:=(B:Int)) (Nat.lt_of_le_of_lt b g) (by unfold Sm; rw [Int.natAbs_natCast]; exact g2) (by omega);exact ⟨this.1,this.2⟩
def On.up {B C k:Nat} {q:Rat} (hC:0 < C) (h:On B k q):On (B * C) k q:=by
 obtain ⟨z,rfl,b⟩:=h;refine ⟨z * C,by rw [Int.natCast_mul,Rat.divInt_mul_right (by omega)],?_⟩;rw [Int.natAbs_mul,Int.natAbs_natCast,<- Nat.mul_assoc];exact Zu _ b
def S7 {a b:Str}:PyData.eqv (.str a) (.str b)=decide (a=b):=by
 rw [Bool.eq_iff_iff,decide_eq_true_eq];simp [PyData.eqv]
def LL:Nat:=591133442051411133755680800
def C9:0 < LL:=by decide
def C0s {d:Nat} (h0:0 < d) (h:d < 64):d ∣ LL:=by
 have k:∀ d:Fin 64,d.val=0\/LL % d.val=0:=by ext
 rcases k ⟨d,h⟩ with z | z
 ·exact absurd z (Nat.ne_of_gt h0)
 ·exact Nat.dvd_of_mod_eq_zero z
def P2 {q:Rat} (h:SmR 41 6 q):On LL (2 ^ 41) q:=by
 refine On.of C9 h (C0s q.den_pos ?_);have:=h.2; unfold Sm at this; rw [Int.natAbs_natCast] at this; exact this
def On.mul {B C k l:Nat} {p q:Rat} (h:On B k p) (g:On C l q):On (B * C) (k * l) (p * q):=by
 obtain ⟨z,rfl,b⟩:=h;obtain ⟨y,rfl,c⟩:=g;refine ⟨z * y,by rw [Rat.divInt_mul_divInt,Int.natCast_mul],?_⟩;rw [Int.natAbs_mul];have:=Nat.mul_le_mul b c;rw [Nat.mul_mul_mul_comm] at this;exact this
def B93 {B k:Nat} {n:Int} (hB:0 < B) (h:n.natAbs<=k):On B k (n:Rat):=by
 refine ⟨n * (B:Int),?_,by rw [Int.natAbs_mul,Int.natAbs_natCast]; exact Zu _ h⟩;have:=Rat.divInt_mul_right (n:=n) (d:=1) (a:=(B:Int)) (by omega);rw [Int.one_mul] at this;rw [this];have e:=Rat.num_divInt_den (n:Rat);rw [Rat.num_intCast,Rat.den_intCast] at e;exact e.symm
def onQ {B k:Nat} {q:Rat} (h:On B k q) (hB:0 < B) (hb:B<=2 ^ 1000) (g:k<=2 ^ 1000):SmQ 3900 q:=by
 refine h.q hB (Nat.lt_of_le_of_lt (Nat.mul_le_mul g hb) ?_) (Nat.lt_of_le_of_lt hb ?_)
 ·rw [<- Nat.pow_add]; exact Nat.pow_lt_pow_right (by decide) (by decide)
 ·exact Nat.pow_lt_pow_right (by decide) (by decide)
def C3k:LL<=2 ^ 1000:=Zx (Nat.le_of_ble_eq_true rfl:LL<=2 ^ 100) (Zp (by decide) (by decide))
def onL {a:Nat} {q:Rat} (h:On LL (2 ^ a) q) (ha:a<=1000):SmQ 3900 q:=onQ h C9 C3k (Zp (by decide) ha)
def On.p2 {B a b:Nat} {q:Rat} (h:On B (2 ^ a) q) (g:a<=b):On B (2 ^ b) q:=h.mono (Zp (by decide) g)
def On.add2 {B a b:Nat} {p q:Rat} (hB:0 < B) (h:On B (2 ^ a) p) (g:On B (2 ^ a) q) (hb:a + 1<=b):On B (2 ^ b) (p + q):=by
 refine (h.add hB g).mono (Zx ?_ (Zp (by decide) hb));rw [Nat.pow_succ]; omega
def On.sub2 {B a b:Nat} {p q:Rat} (hB:0 < B) (h:On B (2 ^ a) p) (g:On B (2 ^ a) q) (hb:a + 1<=b):On B (2 ^ b) (p - q):=by
 refine (h.sub hB g).mono (Zx ?_ (Zp (by decide) hb));rw [Nat.pow_succ]; omega
def OnP (l:LR):Prop:=∀ (i:Nat) a b,l[i]?=some a->l[i + 1]?=some b->On LL (2 ^ 45) (N6 a b)
def OnP.one (c:Rat × Rat):OnP [c]:=fun i a b _ h=>by rw [List.getElem?_eq_none (by simp)] at h; cases h
def OnP.snoc {l:LR} {c d:Rat × Rat} (h:OnP (l++[c])) (h1:On LL (2 ^ 45) (N6 c d)):OnP (l++[c]++[d]):=fun i a b ha hb=>by
 rcases Nat.lt_trichotomy (i + 1) (l++[c]).length with z | z | z
 ·rw [List.getElem?_append_left (by omega)] at ha;rw [List.getElem?_append_left z] at hb;exact h i a b ha hb
 ·rw [List.getElem?_append_left (by omega)] at ha;rw [z,List.getElem?_append_right (Zv _),Nat.sub_self] at hb;have hi:i=l.length:=by simp at z; exact z
  rw [hi,List.getElem?_append_right (Zv _),Nat.sub_self] at ha;cases ha; cases hb;exact h1
 ·rw [List.getElem?_eq_none (by simp at z ⊢; omega)] at hb; cases hb
def OnC (cs:LR):Prop:=∀ c ∈ cs,On LL (2 ^ 45) c.1/\On (LL * LL) (2 ^ 90) c.2
def Hk (k:Str):Prop:=k="from"\/k="till"\/k="by"
def HOk (n:Int) (hs:LH):Prop:=∀ h ∈ hs,Hk h.1/\(0<=h.2.1/\h.2.1 < n)/\On LL (2 ^ 55) h.2.2
def Hk.lay {kd:Str} (h:Hk kd):(PyData.str kd).canLay0=true:=by rcases h with rfl | rfl | rfl <;> ext
def B74 {c:Nat} (h:c < 128):(sgn c).canLay0=true:=by
 show PyData.strOk ⟨#[c]⟩=true;unfold PyData.strOk;simp;omega
def getS {z:Str} {n:Int} (hl:z.length<=1000) (all:z.cps.toList.all (fun c=>decide (c < 128))=true) (h0:0<=n) (h1:n < z.length) {Q:SV->Prop} (q:∀ c,c < 128->Q (.d (sgn c))):B43 z n Q:=by
 obtain ⟨m,rfl⟩:=Zi h0;have hm:m < z.cps.toList.length:=by rw [Array.length_toList]; exact Int.ofNat_lt.mp h1
 refine ⟨z.cps.toList[m],G2 (Zg hm),q _ ?_⟩;have:=List.all_eq_true.mp all _ (List.getElem_mem hm);simpa using this
abbrev Wk:=Str × Str × LR
def kD (x:Wk):PyData:=.tuple [.str x.1,offD x.2.1 x.2.2]
def netD (xs:List Wk) (ws:LW) (hs:LH) (gs:LP):PyData:=.tuple [.list (xs.map kD),.list (ws.map wD),.list (hs.map hD),.list gs]
def sat (ps:LR) (o:Int):Rat × Rat:=ps.getD o.toNat (0,0)
def enD (p:Rat × Rat):Rat:=p.1 + p.2
def wSl (ps:LR) (w:Int × Int × Rat):Rat:=(sat ps w.2.1).1 - (enD (sat ps w.1) + w.2.2)
def hSl (ps:LR) (h:Str × Int × Rat):Rat:=if h.1="from" then (sat ps h.2.1).1 - h.2.2 else if h.1="till" then h.2.2 - (sat ps h.2.1).1 else h.2.2 - enD (sat ps h.2.1)
theorem C3p:PyData.eqv (.str "from") (.str "from")=true:=by ext
theorem C2v:(Str.ofString "till")≠Str.ofString "from":=by ext
theorem C2y:(Str.ofString "by")≠Str.ofString "from":=by ext
theorem C2x:(Str.ofString "by")≠Str.ofString "till":=by ext
structure Off (kd:Str) (cs:LR) (t:Rat):Prop where
 st:kd="steps"->∃ c ∈ cs,c.1=t
 sr:kd="straight"->∃ c0 cl,cs[0]?=some c0/\cs[cs.length - 1]?=some cl/\¬ t < cl.1/\¬ c0.1 < t
def W8 {kd:Str} {cs:LR} {t:Rat} {i j:Nat} {c d:Rat × Rat} (hd:Dec cs) (hs:kd≠"steps") (h1:1<=cs.length) (ei:cs[i]?=some c) (ej:cs[j]?=some d) (h2:t<=c.1) (h3:d.1<=t):Off kd cs t:=by
 refine ⟨fun z=>absurd z hs,fun _=>?_⟩;have e0:cs[0]?=some cs[0]:=Zg (by omega);have el:cs[cs.length - 1]?=some cs[cs.length - 1]:=Zg (by omega);have hi:=(Zs ei).1;have hj:=(Zs ej).1;refine ⟨_,_,e0,el,Rat.not_lt.mpr ?_,Rat.not_lt.mpr ?_⟩
 ·by_cases z:j=cs.length - 1
  ·subst z; rw [ej] at el; cases el; exact h3
  ·exact Rat.le_trans (Rat.le_of_lt (hd.get ej el (by omega))) h3
 ·by_cases z:i=0
  ·subst z; rw [ei] at e0; cases e0; exact h2
  ·exact Rat.le_trans h2 (Rat.le_of_lt (hd.get e0 ei (by omega)))
def A5i {kd:Str} {cs:LR} {i:Nat} {c:Rat × Rat} (hk:Kd kd) (hd:Dec cs) (h1:1<=cs.length) (ei:cs[i]?=some c):Off kd cs c.1:=by
 by_cases z:kd="steps"
 ·exact ⟨fun _=>⟨c,Zm ei,rfl⟩,fun q=>absurd (z.symm.trans q) (by ext)⟩
 ·exact W8 hd z h1 ei ei Rat.le_refl Rat.le_refl
def V3:∀ ls:List Int,PyData.canLayAll0 (ls.map PyData.int)=true
 | []=>rfl
 | n :: r=>by
  show ((PyData.int n).canLay0 && PyData.canLayAll0 (r.map PyData.int))=true;rw [V3 r]; rfl
def A4j:∀ ls:List Int,PyData.depthAll (ls.map PyData.int)<=1
 | []=>by decide
 | n :: r=>by
  show max (PyData.int n).depth (PyData.depthAll (r.map PyData.int))<=1;have:=A4j r;have:(PyData.int n).depth=0:=rfl;omega
def A15 (ls:List Int):(PyData.list (ls.map PyData.int)).depth<=60:=by
 show PyData.depthAll (ls.map PyData.int) + 1<=60;have:=A4j ls;omega
def A4i (ls:List Int):(PyData.list (ls.map PyData.int)).eqv (.list [])=ls.isEmpty:=by
 cases ls <;> rfl
def M6 {o:Int} {n:Nat} (h0:0<=o) (h1:o < (n:Int)):ixN n o=some o.toNat:=by
 obtain ⟨i,rfl⟩:=Zi h0;have hi:i < n:=by omega
 unfold ixN;simp;omega
def Q7 {B k m:Nat} {p q:Rat} (hB:0 < B) (h:On B (m * k) p) (g:On B k q):On B ((m + 1) * k) (p + q):=(h.add hB g).mono (by rw [Nat.add_mul,Nat.one_mul]; exact Zv _)
theorem C3q:PyData.eqv (.str "by") (.str "by")=true:=by ext
def vD:Option Rat->PyData
 | none=>.none
 | some q=>dq q
def hd {a b:PSt} {D:PEnds} {e:PEnv} (h:∀ R,R=b->pSeq a R D e):pSeq a b D e:=h b rfl
def B3i {a b:PSt} {D:PEnds} {e:PEnv} (P:PEnv->Prop) (h1:∀ R:PSt,(∀ e',P e'->R D e')->pSeq a R D e) (h2:∀ e',P e'->b D e'):pSeq a b D e:=h1 b h2
def B2q {g:Int} (g0:0<=g) (g1:g < 3):∃ kd:Str,Hk kd/\L2.atI [PyData.str "from",.str "till",.str "by"] g=some (.str kd):=by
 have hg:g=0\/g=1\/g=2:=by omega
 rcases hg with rfl | rfl | rfl
 ·exact ⟨_,.inl rfl,rfl⟩
 ·exact ⟨_,.inr (.inl rfl),rfl⟩
 ·exact ⟨_,.inr (.inr rfl),rfl⟩
def B1y (K:W.Frag):Sp:=fun vs H Q _=>∃ (a:Addr) (ns:List Int) (k:Int),vs=[.ref a,.int k]/\SqL K H a (ns.map V.int)/\0<=k/\k<=300/\∀ p H',H p=none->StAt H' p->Kp p H H'->Q (.ref p) H'
def B15:Pu.PSp:=fun as Q=>∃ (ns:List Int) (k:Int),as=[.bor (ns.map .int),.d (.int k)]/\0<=k/\k<=300/\Q .st
def C14 {K:Frag}:∀ vs H Q E,spOf K [.vw,.dat] B15 vs H Q E->B1y K vs H Q E:=by
 rintro vs H Q E ⟨w,as,Qp,rfl,ok,a,⟨ns,kk,rfl,k0,k1,q⟩,k⟩;cases a with
 | vw h t=>cases t with
  | dat h' t =>
   cases t;obtain ⟨a,us,e,hS,hd⟩:=h.lst ok;subst e;rw [Den.intE h'];refine ⟨a,ns,kk,rfl,by rw [<- A8d hd]; exact hS,k0,k1,fun p H' hp S' kp=>?_⟩;have out:∀ b o,w.H b=some o->H' b=some o:=fun b o e=>kp b o (E6 e hp) e;refine k (.ref p) .st ⟨fun b=>w.M b\/b=p,H',w.F⟩ ⟨fun b o e=>out b o (ok.sub b o e),fun r hr=>?_,fun r hr=>?_⟩ ⟨⟨Same.refl _,fun b o e _=>out b o e,fun _ z=>.inl z,fun b z=>?_,fun b e=>?_⟩,fun _ _ z=>.inl z⟩ ⟨p,rfl,.inr rfl⟩ rfl q
   ·rcases hr with hr | rfl
    ·exact (ok.st r hr).kp (ok.mne hp hr) kp
    ·exact S'
   ·rcases hr with hr | rfl
    ·exact ok.nf r hr
    ·exact ok.fnone hp
   ·rcases z with z | rfl
    ·exact .inl z
    ·exact .inr hp
   ·cases hb:w.H b with
    | none=>rfl
    | some o=>have:=out b o hb; rw [show H' b=none from e] at this; cases this
def A4k {K:W.Frag} {H:Hp}:∀ ns:List Int,DenAll K H (ns.map V.int) (ns.map PyData.int)
 | []=>.nil
 | n :: r=>.cons (.int n) (A4k r)
def A0e:∀ (n:Nat) {a:Array Nat} (b:Array Nat),(a.all fun c=>decide (c < 0x110000))=true->(b.all fun c=>decide (c < 0x110000))=true->(((List.replicate n a).foldl (·++·) b).all fun c=>decide (c < 0x110000))=true
 | 0,_,_,_,hb=>hb
 | n + 1,a,b,ha,hb=>by
  rw [List.replicate_succ,List.foldl_cons];exact A0e n (b++a) ha (by rw [Array.all_append,ha,hb]; rfl)
def B5z {x:Str} {n:Int} (h:(PyData.str x).canLay0=true):(PyData.str (Txt.mul x n)).canLay0=true:=by
 unfold Txt.mul;split
 ·ext
 ·split
  ·exact h
  ·exact A0e _ _ h (by ext)
def pD (v:Int × Int):PyData:=.tuple [.int v.1,.int v.2]
def qD (u:Str × Int):PyData:=.tuple [.str u.1,.int u.2]
def shD (xs:List Wk) (vs:List (Int × Int)) (us:List (Str × Int)):PyData:=.tuple [.list (xs.map kD),.list (vs.map pD),.list (us.map qD)]
structure ShOk (n:Nat) (xs:List Wk) (vs:List (Int × Int)) (us:List (Str × Int)):Prop where
 ln:xs.length=n
 n0:1<=n
 n1:n<=10
 of:∀ x ∈ xs,Kd x.2.1/\OfG x.2.1 x.2.2 100 54 244 130/\OnC x.2.2/\(x.2.1="straight"->OnP x.2.2)
 nm:∀ x ∈ xs,(PyData.str x.1).canLay0=true
 vl:vs.length<=40
 vk:∀ v ∈ vs,(0<=v.1/\v.1 < (n:Int))/\(0<=v.2/\v.2 < (n:Int))
 ul:us.length<=40
 uk:∀ u ∈ us,Hk u.1/\0<=u.2/\u.2 < (n:Int)
 vn:∀ v ∈ vs,v.1≠v.2
def ShOk.addV {n:Nat} {xs:List Wk} {vs:List (Int × Int)} {us:List (Str × Int)} {a b:Int} (ok:ShOk n xs vs us) (ha:0<=a/\a < (n:Int)) (hb:0<=b/\b < (n:Int)) (hv:vs.length < 40) (hne:a≠b):ShOk n xs (vs++[(a,b)]) us:=by
 refine ⟨ok.ln,ok.n0,ok.n1,ok.of,ok.nm,by rw [Ze,List.length_singleton]; omega,fun v hv'=>?_,ok.ul,ok.uk,fun v hv'=>?_⟩
 ·rcases Za hv' with q | q
  ·exact ok.vk v q
  ·rw [Zn q]; exact ⟨ha,hb⟩
 ·rcases Za hv' with q | q
  ·exact ok.vn v q
  ·rw [Zn q]; exact hne
def ShOk.addU {n:Nat} {xs:List Wk} {vs:List (Int × Int)} {us:List (Str × Int)} {a:Int} {kd:Str} (ok:ShOk n xs vs us) (ha:0<=a/\a < (n:Int)) (hk:Hk kd) (hu:us.length < 40):ShOk n xs vs (us++[(kd,a)]):=by
 refine ⟨ok.ln,ok.n0,ok.n1,ok.of,ok.nm,ok.vl,ok.vk,by rw [Ze,List.length_singleton]; omega,fun v hv'=>?_,ok.vn⟩;rcases Za hv' with q | q
 ·exact ok.uk v q
 ·rw [Zn q]; exact ⟨hk,ha⟩
def ltr2:Str:=Str.ofString "hcjafdibge"
def A0x:ltr2.length=10:=by ext
def B0v:ltr2.cps.toList.all (fun c=>decide (c < 128))=true:=by ext
def B50 {d:Int} (d0:0<=d) (d1:d < 8):∃ n:Nat,(1<=n/\n<=10)/\L2.atI [PyData.int 1,.int 2,.int 3,.int 4,.int 5,.int 5,.int 7,.int 10] d=some (.int (n:Int)):=by
 have hg:d=0\/d=1\/d=2\/d=3\/d=4\/d=5\/d=6\/d=7:=by omega
 rcases hg with rfl | rfl | rfl | rfl | rfl | rfl | rfl | rfl
 ·exact ⟨1,by decide,rfl⟩
 ·exact ⟨2,by decide,rfl⟩
 ·exact ⟨3,by decide,rfl⟩
 ·exact ⟨4,by decide,rfl⟩
 ·exact ⟨5,by decide,rfl⟩
 ·exact ⟨5,by decide,rfl⟩
 ·exact ⟨7,by decide,rfl⟩
 ·exact ⟨10,by decide,rfl⟩
def A1y:∀ ls:List Int,PyData.canLayAll0 (ls.map PyData.int)=true:=V3
def B0r {n:Nat}:∀ {l:List Int},l.Nodup->(∀ x ∈ l,0<=x/\x < (n:Int))->l.length<=n:=fun {l} h g=>by
 have h2:(l.map Int.toNat).Nodup:=List.pairwise_map.mpr (List.Pairwise.imp_of_mem (fun {a b} ha hb (hne:a≠b) e=>by have:=g a ha; have:=g b hb; omega) h);have h3:(l.map Int.toNat) ⊆ List.range n:=fun a ha=>by
  obtain ⟨x,hx,rfl⟩:=List.mem_map.mp ha;have:=g x hx;exact List.mem_range.mpr (by omega)
 have:=List.Nodup.length_le_of_subset h2 h3;simpa using this
def ArOk (n v u:Nat) (a:Str × Int):Prop:=0<=a.2/\((a.1="start"/\a.2 < (n:Int))\/(a.1="end"/\a.2 < (n:Int))\/(a.1="wait"/\a.2 < (v:Int))\/(a.1="hold"/\a.2 < (u:Int)))
def A1h {u:Str × Int} (h:Hk u.1):(qD u).canLay0=true:=by
 show ((PyData.str u.1).canLay0 && ((PyData.int u.2).canLay0 && true))=true;rw [h.lay]; rfl
def A1i (u:Str × Int):(qD u).depth<=60:=by unfold qD; exact Nat.le_of_ble_eq_true rfl
def ArOk.snoc {n v u:Nat} {fs:List (Str × Int)} {i:Nat} (h:∀ a ∈ fs,ArOk n v u a) (hi:i < u):∀ a ∈ fs++[(Str.ofString "hold",(i:Int))],ArOk n v u a:=fun a ha=>by
 rcases Za ha with z | z
 ·exact h a z
 ·rw [Zn z]; exact ⟨by show (0:Int)<=(i:Int); omega,.inr (.inr (.inr ⟨rfl,by show (i:Int) < (u:Int); omega⟩))⟩
def paD (p:(Str × Int) × Rat):PyData:=.tuple [qD p.1,dq p.2]
def ArOk.lay {n v u:Nat} {a:Str × Int} (h:ArOk n v u a):(qD a).canLay0=true:=by
 show ((PyData.str a.1).canLay0 && ((PyData.int a.2).canLay0 && true))=true;have:(PyData.str a.1).canLay0=true:=by
  rcases h.2 with ⟨e,_⟩ | ⟨e,_⟩ | ⟨e,_⟩ | ⟨e,_⟩ <;> rw [e] <;> ext
 rw [this]; rfl
def V4 {n v u:Nat}:∀ {l:List (Str × Int)},(∀ a ∈ l,ArOk n v u a)->PyData.canLayAll0 (l.map qD)=true
 | [],_=>rfl
 | a :: r,h=>by
  show ((qD a).canLay0 && PyData.canLayAll0 (r.map qD))=true;rw [(h a Zy).lay,V4 fun x hx=>h x (Zr _ hx)]; rfl
def B6p {l:LP} {f:PyData->Bool} (h:l.any f=true):∃ p,l.findIdx? f=some p/\p < l.length:=by
 rcases e:l.findIdx? f with _ | p
 ·rw [List.findIdx?_eq_none_iff] at e;obtain ⟨y,y1,y2⟩:=List.any_eq_true.mp h;rw [e y y1] at y2; cases y2
 ·exact ⟨p,rfl,(List.findIdx?_eq_some_iff_getElem.mp e).1⟩
def four {x:Int} (h0:0<=x) (h:x<=4):0<=Rat.divInt x 4/\Rat.divInt x 4<=1:=by
 have e:Rat.divInt 1 1 - Rat.divInt x 4=Rat.divInt (1 * 4 - x * 1) (1 * 4):=Rat.divInt_sub_divInt _ _ (by decide) (by decide);have h1:0<=Rat.divInt (1 * 4 - x * 1) (1 * 4):=S2 (by omega) (by decide);have h2:Rat.divInt 1 1=1:=by ext
 rw [<- e,h2] at h1;exact ⟨S2 h0 (by decide),by grind⟩
def C0n {n a b:Int} (h0:0<=a) (h1:a < n) (b0:0<=b) (b1:b < n - 1):a≠(a + 1 + b) % n:=fun h=>by
 have e:=Int.emod_add_mul_ediv (a + 1 + b) n;rw [<- h] at e;generalize (a + 1 + b) / n=q at e;rcases Int.lt_or_le 0 q with z | z
 ·have:=Int.mul_le_mul_of_nonneg_left (show 1<=q by omega) (show 0<=n by omega);omega
 ·have:=Int.mul_le_mul_of_nonneg_left z (show 0<=n by omega);omega
def ole (x y:Option Rat):Prop:=∀ a,x=some a->∃ b,y=some b/\a<=b
def C2b (y:Option Rat):ole none y:=fun _ h=>nomatch h
abbrev Wy:=Nat × Nat × Rat × (Str × Int)
def upB:Option Rat->Rat->Bool
 | none,_=>true
 | some b,r=>decide (b < r)
def fa (f:List (Option Rat)) (v:Nat):Option Rat:=(f[v]?).join
abbrev Bst:=List (Option Rat) × List (Option Wy) × Option Nat
def rlx (s:Bst) (w:Wy):Bst:=match fa s.1 w.1 with
 | none=>s
 | some a=>if upB (fa s.1 w.2.1) (a + w.2.2.1) then (s.1.set w.2.1 (some (a + w.2.2.1)),s.2.1.set w.2.1 (some w),some w.2.1) else s
def strF (ways:List Wy) (s:Bst):Bst:=ways.foldl rlx s
def bs0 (n:Nat):Bst:=(List.replicate n none++[some 0],List.replicate (n + 1) none,none)
def bsK (ways:List Wy) (n:Nat):Nat->Bst
 | 0=>bs0 n
 | k + 1=>let s:=bsK ways n k; strF ways (s.1,s.2.1,none)
def fa0 {n v:Nat}:fa (bs0 n).1 v=if v=n then some 0 else none:=by
 unfold fa bs0;dsimp only;rw [List.getElem?_append,List.length_replicate];by_cases h:v < n
 ·rw [if_pos h,if_neg (by omega),List.getElem?_replicate,if_pos h]; rfl
 ·rw [if_neg h];by_cases e:v=n
  ·subst e; simp
  ·rw [if_neg e,List.getElem?_eq_none (by simp; omega)]; rfl
def A0z {α:Type} {f:α->PyData} {xs:List α} {pg:PyData->PEnv->(PEnv->Prop)->Prop} {pb:PSt} {D:PEnds} {env:PEnv} (Iv:Nat->PEnv->Prop) (h0:Iv 0 env)
  (hs:∀ (i:Nat) a e,xs[i]?=some a->Iv i e->pg (.tuple [.int (i:Int),f a]) e fun e2=>pb ⟨Iv (i + 1),D.rt,D.nx,Iv (i + 1)⟩ e2) (hd:∀ e,Iv xs.length e->D.nx e):A1q (L4 (xs.map f)) pg pb D env:=by
 refine ⟨Iv,h0,fun i x e hx hi=>?_,fun e h=>hd e (by rwa [S8,List.length_map] at h)⟩;obtain ⟨y,hy,rfl⟩:=A8k hx;rw [Zh] at hy;cases ha:xs[i]? with
 | none=>rw [ha] at hy; cases hy
 | some a=>rw [ha] at hy; cases hy; exact hs i a e ha hi
def O4 (q:Rat):Prop:=On (LL * 4) (2 ^ 58) q
def kst (ways:List Wy) (n:Nat):Option Nat:=(List.range (n + 1)).find? fun k=>(bsK ways n (k + 1)).2.2.isNone
def kz3:∀ z ∈ [("straight":Str),"straight","steps"],Kd z:=fun z hz=>by
 simp only [List.mem_cons,List.not_mem_nil,or_false] at hz;rcases hz with rfl | rfl | rfl
 ·exact .inl rfl
 ·exact .inl rfl
 ·exact .inr rfl
def dl (a v:Nat):Rat:=if v=a then 1 else 0
section
variable (n:Nat) (vs:List (Int × Int)) (us:List (Str × Int))
def arT (a:Str × Int):Nat:=if a.1="start" then n else if a.1="end" then a.2.toNat else if a.1="wait" then ((vs[a.2.toNat]?).getD (0,0)).1.toNat else if ((us[a.2.toNat]?).getD ("",0)).1="from" then n else ((us[a.2.toNat]?).getD ("",0)).2.toNat
def arH (a:Str × Int):Nat:=if a.1="start" then a.2.toNat else if a.1="end" then n else if a.1="wait" then ((vs[a.2.toNat]?).getD (0,0)).2.toNat else if ((us[a.2.toNat]?).getD ("",0)).1="from" then ((us[a.2.toNat]?).getD ("",0)).2.toNat else n
def arL (a:Str × Int):Bool:=decide (a.1="hold") && decide (((us[a.2.toNat]?).getD ("",0)).1="till")
def dfA (a:Str × Int) (v:Nat):Rat:=dl (arH n vs us a) v - dl (arT n vs us a) v
def inA (a:Str × Int) (v:Nat):Rat:=dl (arH n vs us a) v - (if arL us a=true then dl (arT n vs us a) v else 0)
def ofA (a:Str × Int) (v:Nat):Rat:=if arL us a=true then 0 else dl (arT n vs us a) v
def sA (pa:List ((Str × Int) × Rat)) (f:Str × Int->Rat):Rat:=My.S (pa.map fun p=>p.2 * f p.1)
def FI (pa:List ((Str × Int) × Rat)) (v:Nat):Rat:=sA pa fun a=>inA n vs us a v
def FO (pa:List ((Str × Int) × Rat)) (v:Nat):Rat:=sA pa fun a=>ofA n vs us a v
end
def C24 {n:Nat} {vs:List (Int × Int)} {us:List (Str × Int)} (a:Str × Int) (v:Nat):inA n vs us a v=ofA n vs us a v + dfA n vs us a v:=by
 unfold inA ofA dfA;split <;> grind
def A3n {f:Str × Int->Rat}:sA [] f=0:=rfl
def N7 {p:(Str × Int) × Rat} {pa:List ((Str × Int) × Rat)} {f:Str × Int->Rat}:sA (p :: pa) f=p.2 * f p.1 + sA pa f:=rfl
def A1d {f:Str × Int->Rat}:∀ {pa pb:List ((Str × Int) × Rat)},sA (pa++pb) f=sA pa f + sA pb f
 | [],pb=>by rw [List.nil_append,A3n,Rat.zero_add]
 | p :: r,pb=>by rw [List.cons_append,N7,N7,A1d]; grind
def B1z {f g:Str × Int->Rat}:∀ {pa:List ((Str × Int) × Rat)},sA pa (fun a=>f a + g a)=sA pa f + sA pa g
 | []=>by rw [A3n,A3n,A3n,Rat.zero_add]
 | p :: r=>by rw [N7,N7,N7,B1z]; grind
def A3o {f g:Str × Int->Rat}:∀ {pa:List ((Str × Int) × Rat)},(∀ p ∈ pa,f p.1=g p.1)->sA pa f=sA pa g
 | [],_=>rfl
 | p :: r,h=>by rw [N7,N7,h p Zy,A3o fun q hq=>h q (Zr _ hq)]
def B76 {f:Str × Int->Rat}:∀ {pa:List ((Str × Int) × Rat)},(∀ p ∈ pa,0<=p.2/\0<=f p.1)->0<=sA pa f
 | [],_=>Rat.le_refl
 | p :: r,h=>by
  rw [N7];have h1:=h p Zy;have h2:=B76 fun q hq=>h q (Zr _ hq);have:=Rat.mul_nonneg h1.1 h1.2;grind
structure PB (n:Nat) (vs:List (Int × Int)) (us:List (Str × Int)) (pa:List ((Str × Int) × Rat)):Prop where
 ln:pa.length<=48
 ar:∀ p ∈ pa,ArOk n vs.length us.length p.1/\On LL (2 ^ 51) p.2/\0 < p.2
 nd:(pa.map (·.1)).Nodup
 bal:∀ v,v < n->sA pa (fun a=>dfA n vs us a v)=0
def PB.eq {n:Nat} {vs:List (Int × Int)} {us:List (Str × Int)} {pa:List ((Str × Int) × Rat)} (h:PB n vs us pa) {v:Nat} (hv:v < n):FI n vs us pa v=FO n vs us pa v:=by
 unfold FI FO;rw [A3o (g:=fun a=>ofA n vs us a v + dfA n vs us a v) fun p _=>C24 p.1 v,B1z,h.bal v hv,Rat.add_zero]
def PB.nn {n:Nat} {vs:List (Int × Int)} {us:List (Str × Int)} {pa:List ((Str × Int) × Rat)} (h:PB n vs us pa) {v:Nat}:0<=FO n vs us pa v:=by
 unfold FO;refine B76 fun p hp=>⟨Rat.le_of_lt (h.ar p hp).2.2,?_⟩;unfold ofA dl;split
 ·exact Rat.le_refl
 ·split
  ·decide
  ·exact Rat.le_refl
def tel {T H:Str × Int->Nat} {v:Nat}:∀ {l:List (Str × Int)} {nd:Nat->Nat},(∀ i a,l[i]?=some a->T a=nd i/\H a=nd (i + 1))->My.S (l.map fun a=>dl (H a) v - dl (T a) v)=dl (nd l.length) v - dl (nd 0) v
 | [],nd,_=>by show (0:Rat)=_; rw [List.length_nil]; grind
 | a :: r,nd,h=>by
  obtain ⟨h1,h2⟩:=h 0 a rfl;have ih:=tel (v:=v) (l:=r) (nd:=fun i=>nd (i + 1)) fun i b hb=>h (i + 1) b hb;show dl (H a) v - dl (T a) v + My.S (r.map fun a=>dl (H a) v - dl (T a) v)=_;rw [ih,h1,h2,List.length_cons];grind
def wtA (ws:LW) (hs:LH) (a:Str × Int):Rat:=if a.1="wait" then ((ws[a.2.toNat]?).getD (0,0,0)).2.2 else if a.1="hold" then (if ((hs[a.2.toNat]?).getD ("",0,0)).1="from" then ((hs[a.2.toNat]?).getD ("",0,0)).2.2 else 0 - ((hs[a.2.toNat]?).getD ("",0,0)).2.2) else 0
def rtA (a:Str × Int):Rat:=if a.1="end" then 1 else 0
def w_es:¬ (Str.ofString "end"=Str.ofString "start"):=by ext
def w_ws:¬ (Str.ofString "wait"=Str.ofString "start"):=by ext
def w_we:¬ (Str.ofString "wait"=Str.ofString "end"):=by ext
def w_hs:¬ (Str.ofString "hold"=Str.ofString "start"):=by ext
def w_he:¬ (Str.ofString "hold"=Str.ofString "end"):=by ext
def w_hw:¬ (Str.ofString "hold"=Str.ofString "wait"):=by ext
def w_se:¬ (Str.ofString "start"=Str.ofString "end"):=by ext
def w_sw:¬ (Str.ofString "start"=Str.ofString "wait"):=by ext
def w_sh:¬ (Str.ofString "start"=Str.ofString "hold"):=by ext
def w_ew:¬ (Str.ofString "end"=Str.ofString "wait"):=by ext
def w_eh:¬ (Str.ofString "end"=Str.ofString "hold"):=by ext
def w_wh:¬ (Str.ofString "wait"=Str.ofString "hold"):=by ext
def w_tf:¬ (Str.ofString "till"=Str.ofString "from"):=by ext
def w_bf:¬ (Str.ofString "by"=Str.ofString "from"):=by ext
def w_bt:¬ (Str.ofString "by"=Str.ofString "till"):=by ext
def w_ft:¬ (Str.ofString "from"=Str.ofString "till"):=by ext
structure ArV (n:Nat) (vs:List (Int × Int)) (us:List (Str × Int)) (ws:LW) (hs:LH) (a:Str × Int) (t h:Nat) (l:Bool) (wt rt:Rat):Prop where
 t:arT n vs us a=t
 h:arH n vs us a=h
 l:arL us a=l
 wt:wtA ws hs a=wt
 rt:rtA a=rt
def A4s {n:Nat} {vs:List (Int × Int)} {us:List (Str × Int)} {ws:LW} {hs:LH} {a:Str × Int} (ok:ArOk n vs.length us.length a) (ev:ws.map (fun w=>(w.1,w.2.1))=vs) (eu:hs.map (fun h=>(h.1,h.2.1))=us) (hk:∀ h ∈ hs,Hk h.1) :
  (∃ k:Nat,a=(Str.ofString "start",(k:Int))/\k < n/\ArV n vs us ws hs a n k false 0 0)\/(∃ k:Nat,a=(Str.ofString "end",(k:Int))/\k < n/\ArV n vs us ws hs a k n false 0 1) \/
  (∃ (k:Nat) (w:Int × Int × Rat),a=(Str.ofString "wait",(k:Int))/\ws[k]?=some w/\ArV n vs us ws hs a w.1.toNat w.2.1.toNat false w.2.2 0) \/
  ∃ (k:Nat) (h:Str × Int × Rat),a=(Str.ofString "hold",(k:Int))/\hs[k]?=some h/\((h.1="from"/\ArV n vs us ws hs a n h.2.1.toNat false h.2.2 0)\/(h.1="till"/\ArV n vs us ws hs a h.2.1.toNat n true (0 - h.2.2) 0)\/(h.1="by"/\ArV n vs us ws hs a h.2.1.toNat n false (0 - h.2.2) 0)):=by
 obtain ⟨c,m⟩:=a;obtain ⟨m0,ok⟩:=ok;obtain ⟨m,rfl⟩:=Zi (show 0<=m from m0);rcases ok with ⟨e,h⟩ | ⟨e,h⟩ | ⟨e,h⟩ | ⟨e,h⟩
 ·have e:c=Str.ofString "start":=e;subst e;refine .inl ⟨m,rfl,by have:(m:Int) < (n:Int):=h; omega,?_,?_,?_,?_,?_⟩
  ·exact if_pos rfl
  ·exact if_pos rfl
  ·unfold arL; rw [show decide ((Str.ofString "start",(m:Int)).1="hold")=false from Zd w_sh]; rfl
  ·exact (if_neg w_sw).trans (if_neg w_sh)
  ·exact if_neg w_se
 ·have e:c=Str.ofString "end":=e;subst e;refine .inr (.inl ⟨m,rfl,by have:(m:Int) < (n:Int):=h; omega,?_,?_,?_,?_,?_⟩)
  ·exact (if_neg w_es).trans (if_pos rfl)
  ·exact (if_neg w_es).trans (if_pos rfl)
  ·unfold arL; rw [show decide ((Str.ofString "end",(m:Int)).1="hold")=false from Zd w_eh]; rfl
  ·exact (if_neg w_ew).trans (if_neg w_eh)
  ·exact if_pos rfl
 ·have e:c=Str.ofString "wait":=e;subst e;have hm:m < ws.length:=by rw [<- ev,Zl] at h; have:(m:Int) < (ws.length:Int):=h; omega
  obtain ⟨w,ew⟩:∃ w,ws[m]?=some w:=⟨_,Zg hm⟩;have e1:(vs[m]?).getD (0,0)=(w.1,w.2.1):=by rw [<- ev,Zh,ew]; rfl
  refine .inr (.inr (.inl ⟨m,w,rfl,ew,?_,?_,?_,?_,?_⟩))
  ·refine (if_neg w_ws).trans ((if_neg w_we).trans ((if_pos rfl).trans ?_));show ((vs[m]?).getD (0,0)).1.toNat=_;rw [e1]
  ·refine (if_neg w_ws).trans ((if_neg w_we).trans ((if_pos rfl).trans ?_));show ((vs[m]?).getD (0,0)).2.toNat=_;rw [e1]
  ·unfold arL; rw [show decide ((Str.ofString "wait",(m:Int)).1="hold")=false from Zd w_wh]; rfl
  ·refine (if_pos rfl).trans ?_;show ((ws[m]?).getD (0,0,0)).2.2=_;rw [ew]; rfl
  ·exact if_neg w_we
 ·have e:c=Str.ofString "hold":=e;subst e;have hm:m < hs.length:=by rw [<- eu,Zl] at h; have:(m:Int) < (hs.length:Int):=h; omega
  obtain ⟨z,ez⟩:∃ w,hs[m]?=some w:=⟨_,Zg hm⟩;have e1:(us[m]?).getD ("",0)=(z.1,z.2.1):=by rw [<- eu,Zh,ez]; rfl
  have e2:(hs[m]?).getD ("",0,0)=z:=by rw [ez]; rfl
  have kz:z.1="from"\/z.1="till"\/z.1="by":=hk z (Zm ez);have tT:arT n vs us (Str.ofString "hold",(m:Int))=if z.1="from" then n else z.2.1.toNat:=by
   refine (if_neg w_hs).trans ((if_neg w_he).trans ((if_neg w_hw).trans ?_));show (if ((us[m]?).getD ("",0)).1="from" then n else ((us[m]?).getD ("",0)).2.toNat)=_;rw [e1]
  have tH:arH n vs us (Str.ofString "hold",(m:Int))=if z.1="from" then z.2.1.toNat else n:=by
   refine (if_neg w_hs).trans ((if_neg w_he).trans ((if_neg w_hw).trans ?_));show (if ((us[m]?).getD ("",0)).1="from" then ((us[m]?).getD ("",0)).2.toNat else n)=_;rw [e1]
  have tL:arL us (Str.ofString "hold",(m:Int))=decide (z.1="till"):=by
   unfold arL;rw [show decide ((Str.ofString "hold",(m:Int)).1="hold")=true from Zk rfl,Bool.true_and];show decide (((us[m]?).getD ("",0)).1="till")=_;rw [e1]
  have tW:wtA ws hs (Str.ofString "hold",(m:Int))=if z.1="from" then z.2.2 else 0 - z.2.2:=by
   refine (if_neg w_hw).trans ((if_pos rfl).trans ?_);show (if ((hs[m]?).getD ("",0,0)).1="from" then ((hs[m]?).getD ("",0,0)).2.2 else 0 - ((hs[m]?).getD ("",0,0)).2.2)=_;rw [e2]
  have tR:rtA (Str.ofString "hold",(m:Int))=0:=if_neg w_he;refine .inr (.inr (.inr ⟨m,z,rfl,ez,?_⟩));rcases kz with kz | kz | kz
  ·exact .inl ⟨kz,tT.trans (if_pos kz),tH.trans (if_pos kz),tL.trans (Zd (by rw [kz]; exact w_ft)),tW.trans (if_pos kz),tR⟩
  ·exact .inr (.inl ⟨kz,tT.trans (if_neg (by rw [kz]; exact w_tf)),tH.trans (if_neg (by rw [kz]; exact w_tf)),tL.trans (Zk kz),tW.trans (if_neg (by rw [kz]; exact w_tf)),tR⟩)
  ·exact .inr (.inr ⟨kz,tT.trans (if_neg (by rw [kz]; exact w_bf)),tH.trans (if_neg (by rw [kz]; exact w_bf)),tL.trans (Zd (by rw [kz]; exact w_bt)),tW.trans (if_neg (by rw [kz]; exact w_bf)),tR⟩)
def V5 {ds:List (PyData × PyData)} {c:Str} {z:PyData} (h:(PyData.str c,z) ∈ ds):hasD ds c=true:=List.any_eq_true.mpr ⟨(PyData.str c,z),h,Zk rfl⟩
def L9 {F G:Nat->Rat} {n j:Nat} {c:Rat} (h:∀ v,v < n->G v=F v + (if v=j then c else 0)):((List.range n).map F).set j (F j + c)=(List.range n).map G:=by
 apply List.ext_getElem?;intro v;rw [List.getElem?_set,Zl,List.length_range];by_cases hv:v < n
 ·rw [Zh,Zh,List.getElem?_range hv];show _=some (G v);rw [h v hv];by_cases e:j=v
  ·subst e; rw [if_pos rfl,if_pos hv,if_pos rfl]
  ·rw [if_neg e,if_neg (fun z=>e z.symm)]; show some (F v)=some (F v + 0); rw [Rat.add_zero]
 ·rw [List.getElem?_eq_none (by simp; omega),List.getElem?_eq_none (by simp; omega)];split
  ·rw [if_neg (by omega)]
  ·rfl
def N0 {F G:Nat->Rat} {n:Nat} (h:∀ v,v < n->G v=F v):(List.range n).map F=(List.range n).map G:=List.map_congr_left fun v hv=>(h v (List.mem_range.mp hv)).symm
def A0m {F:Nat->Rat} {n j:Nat} (h:j < n):((List.range n).map F)[j]?=some (F j):=by rw [Zh,List.getElem?_range h]; rfl
def C1x (a v:Nat):dl a v=0\/dl a v=1:=by
 unfold dl;split
 ·exact .inr rfl
 ·exact .inl rfl
def A24 {n:Nat} {vs:List (Int × Int)} {us:List (Str × Int)} (a:Str × Int) (v:Nat):(∃ z:Int,inA n vs us a v=(z:Rat)/\z.natAbs<=1)/\∃ z:Int,ofA n vs us a v=(z:Rat)/\z.natAbs<=1:=by
 unfold inA ofA;have p:=C1x (arH n vs us a) v;have q:=C1x (arT n vs us a) v;constructor
 ·split
  ·rcases p with p | p <;> rcases q with q | q <;> rw [p,q]
   ·exact ⟨0,by grind,by decide⟩
   ·exact ⟨-1,by grind,by decide⟩
   ·exact ⟨1,by grind,by decide⟩
   ·exact ⟨0,by grind,by decide⟩
  ·rcases p with p | p <;> rw [p]
   ·exact ⟨0,by grind,by decide⟩
   ·exact ⟨1,by grind,by decide⟩
 ·split
  ·exact ⟨0,rfl,by decide⟩
  ·rcases q with q | q <;> rw [q]
   ·exact ⟨0,rfl,by decide⟩
   ·exact ⟨1,rfl,by decide⟩
def A4w {f:Str × Int->Rat} {b:Nat}:∀ {pa:List ((Str × Int) × Rat)},(∀ p ∈ pa,On LL (2 ^ b) p.2)->(∀ a,∃ z:Int,f a=(z:Rat)/\z.natAbs<=1)->On LL (pa.length * 2 ^ b) (sA pa f)
 | [],_,_=>On.zero.mono (Nat.zero_le _)
 | p :: r,h,hf=>by
  rw [N7,List.length_cons];obtain ⟨z,ez,hz⟩:=hf p.1;have h1:=On.mul (h p Zy) (B93 (B:=1) (k:=1) (n:=z) (by decide) (by omega));rw [<- ez,Nat.mul_one,Nat.mul_one] at h1;exact (On.add C9 h1 (A4w (fun q hq=>h q (Zr _ hq)) hf)).mono (by rw [Nat.add_mul,Nat.one_mul,Nat.add_comm]; exact Zv _)
def V9 {f:Str × Int->Rat} {pa:List ((Str × Int) × Rat)} {i:Nat} {p:(Str × Int) × Rat} (h:pa[i]?=some p):sA (pa.take (i + 1)) f=sA (pa.take i) f + p.2 * f p.1:=by
 rw [List.take_add_one,h,A1d];show _ + (p.2 * f p.1 + 0)=_;rw [Rat.add_zero]
structure NP (n:Nat) (ws:LW) (hs:LH):Prop where
 n1:n<=10
 wl:ws.length<=40
 hl:hs.length<=40
 w:∀ w ∈ ws,(0<=w.1/\w.1 < (n:Int))/\(0<=w.2.1/\w.2.1 < (n:Int))/\O4 w.2.2
 h:∀ h ∈ hs,Hk h.1/\(0<=h.2.1/\h.2.1 < (n:Int))/\O4 h.2.2
abbrev vsO (ws:LW):List (Int × Int):=ws.map fun w=>(w.1,w.2.1)
abbrev usO (hs:LH):List (Str × Int):=hs.map fun h=>(h.1,h.2.1)
def U4 {q:Rat} {a v:Nat}:q * dl a v=if v=a then q else 0:=by
 unfold dl;split <;> grind
def P4 {n v:Nat} (h:v < n):dl n v=0:=if_neg (by omega)
def dl_m {q:Rat} {a v:Nat} {x:Rat} (e:x=dl a v - 0):q * x=if v=a then q else 0:=by rw [e,show dl a v - 0=dl a v by grind,U4]
def ArOk.wl {n v u:Nat} {a:Str × Int} (h:ArOk n v u a):(PyData.str a.1).canLay0=true:=by
 rcases h.2 with ⟨e,_⟩ | ⟨e,_⟩ | ⟨e,_⟩ | ⟨e,_⟩ <;> (rw [e]; ext)
def Ndz (n:Nat) (vs:List (Int × Int)) (us:List (Str × Int)) (seen:List Int) (arcs:List (Str × Int)) (wk:Int):Prop:=(∀ (i:Nat) a,arcs[i]?=some a->∃ x y,seen[i]?=some x/\seen[i + 1]?=some y/\arT n vs us a=x.toNat/\arH n vs us a=y.toNat)/\seen[seen.length - 1]?=some wk
section
variable {n:Nat} {vs:List (Int × Int)} {us:List (Str × Int)}
def ar_w {u:Nat} {v:Int × Int} (ev:vs[u]?=some v):arT n vs us (Str.ofString "wait",(u:Int))=v.1.toNat/\arH n vs us (Str.ofString "wait",(u:Int))=v.2.toNat:=by
 constructor
 ·refine (if_neg w_ws).trans ((if_neg w_we).trans ((if_pos rfl).trans ?_));show ((vs[u]?).getD (0,0)).1.toNat=_;rw [ev]; rfl
 ·refine (if_neg w_ws).trans ((if_neg w_we).trans ((if_pos rfl).trans ?_));show ((vs[u]?).getD (0,0)).2.toNat=_;rw [ev]; rfl
def ar_h {u:Nat} {z:Str × Int} (ez:us[u]?=some z):arT n vs us (Str.ofString "hold",(u:Int))=(if z.1="from" then n else z.2.toNat)/\arH n vs us (Str.ofString "hold",(u:Int))=if z.1="from" then z.2.toNat else n:=by
 constructor
 ·refine (if_neg w_hs).trans ((if_neg w_he).trans ((if_neg w_hw).trans ?_));show (if ((us[u]?).getD ("",0)).1="from" then n else ((us[u]?).getD ("",0)).2.toNat)=_;rw [ez]; rfl
 ·refine (if_neg w_hs).trans ((if_neg w_he).trans ((if_neg w_hw).trans ?_));show (if ((us[u]?).getD ("",0)).1="from" then ((us[u]?).getD ("",0)).2.toNat else n)=_;rw [ez]; rfl
def ar_s {s:Int}:arT n vs us (Str.ofString "start",s)=n/\arH n vs us (Str.ofString "start",s)=s.toNat:=⟨if_pos rfl,if_pos rfl⟩
def ar_e {s:Int}:arT n vs us (Str.ofString "end",s)=s.toNat/\arH n vs us (Str.ofString "end",s)=n:=⟨(if_neg w_es).trans (if_pos rfl),(if_neg w_es).trans (if_pos rfl)⟩
def Ndz.snoc {seen:List Int} {arcs:List (Str × Int)} {wk y:Int} {w:Str × Int} (h:Ndz n vs us seen arcs wk) (la:arcs.length + 1=seen.length) (e:arT n vs us w=wk.toNat/\arH n vs us w=y.toNat):Ndz n vs us (seen++[y]) (arcs++[w]) y:=by
 refine ⟨fun i a ha=>?_,by rw [Ze]; simp⟩;rcases Nat.lt_or_ge i arcs.length with z | z
 ·rw [List.getElem?_append_left z] at ha;obtain ⟨x,x',h1,h2,h3⟩:=h.1 i a ha;exact ⟨x,x',by rw [List.getElem?_append_left (by omega)]; exact h1,by rw [List.getElem?_append_left (by omega)]; exact h2,h3⟩
 ·rw [List.getElem?_append_right z] at ha;have hi:i=arcs.length:=by
   rcases Nat.lt_or_ge (i - arcs.length) 1 with q | q
   ·omega
   ·rw [List.getElem?_eq_none (by simpa using q)] at ha; cases ha
  subst hi;rw [Nat.sub_self] at ha;cases ha;refine ⟨wk,y,?_,?_,e⟩
  ·rw [List.getElem?_append_left (by omega),show arcs.length=seen.length - 1 by omega]; exact h.2
  ·rw [List.getElem?_append_right (by omega),show arcs.length + 1 - seen.length=0 by omega]; rfl
def Ndz.ring {seen:List Int} {arcs:List (Str × Int)} {wk x:Int} {w:Str × Int} {p:Nat} (h:Ndz n vs us seen arcs wk) (la:arcs.length + 1=seen.length) (e:arT n vs us w=wk.toNat/\arH n vs us w=x.toNat) (ep:seen[p]?=some x) (v:Nat):My.S (((arcs++[w]).drop p).map fun a=>dfA n vs us a v)=0:=by
 have hp:=(Zs ep).1;have s2:=h.snoc la e;have t:=tel (T:=arT n vs us) (H:=arH n vs us) (v:=v) (l:=(arcs++[w]).drop p) (nd:=fun i=>(((seen++[x])[p + i]?).getD 0).toNat) fun i a ha=>by
  rw [List.getElem?_drop] at ha;obtain ⟨y,y',h1,h2,h3,h4⟩:=s2.1 (p + i) a ha;exact ⟨by rw [h3,h1]; rfl,by rw [h4,<- Nat.add_assoc,h2]; rfl⟩
 refine Eq.trans t ?_;have e1:(seen++[x])[p + ((arcs++[w]).drop p).length]?=some x:=by
  rw [List.length_drop,Ze,List.length_singleton,show p + (arcs.length + 1 - p)=seen.length by omega,List.getElem?_append_right (Zv _),Nat.sub_self]; rfl
 have e2:(seen++[x])[p + 0]?=some x:=by rw [Nat.add_zero,List.getElem?_append_left hp]; exact ep
 show dl (((seen++[x])[p + ((arcs++[w]).drop p).length]?).getD 0).toNat v - dl (((seen++[x])[p + 0]?).getD 0).toNat v=0;rw [e1,e2]; grind
def Ndz.way {seen:List Int} {arcs:List (Str × Int)} {wk s0:Int} {y z:Str × Int} (h:Ndz n vs us seen arcs wk) (la:arcs.length + 1=seen.length) (es:seen[0]?=some s0) (hy:arT n vs us y=n/\arH n vs us y=s0.toNat) (hz:arT n vs us z=wk.toNat/\arH n vs us z=n) (v:Nat):My.S (([y]++arcs++[z]).map fun a=>dfA n vs us a v)=0:=by
 have t:=tel (T:=arT n vs us) (H:=arH n vs us) (v:=v) (l:=arcs) (nd:=fun i=>((seen[i]?).getD 0).toNat) fun i a ha=>by
  obtain ⟨x,x',h1,h2,h3,h4⟩:=h.1 i a ha;exact ⟨by rw [h3,h1]; rfl,by rw [h4,h2]; rfl⟩
 rw [Zc,Zc,My.B7l,My.B7l];have t':My.S (arcs.map fun a=>dfA n vs us a v)=dl wk.toNat v - dl s0.toNat v:=by
  refine Eq.trans t ?_;show dl ((seen[arcs.length]?).getD 0).toNat v - dl ((seen[0]?).getD 0).toNat v=_;rw [es,show arcs.length=seen.length - 1 by omega,h.2]; rfl
 rw [t'];show dfA n vs us y v + 0 + _ + (dfA n vs us z v + 0)=0;unfold dfA;rw [hy.1,hy.2,hz.1,hz.2];grind
def A9x {u z:Str × Int} (h:(qD u).eqv (qD z)=true):u=z:=by
 have h:((PyData.str u.1).eqv (.str z.1) && ((PyData.int u.2).eqv (.int z.2) && true))=true:=h;rw [S7,X2,Bool.and_eq_true,Bool.and_eq_true] at h;exact Prod.ext (of_decide_eq_true h.1) (of_decide_eq_true h.2.1)
end
def A50 {f:Str × Int->Rat} {w:Str × Int} {b q:Rat}:∀ {ar:List (Str × Int)} {am:LQ} {p:Nat},ar[p]?=some w->am[p]?=some b->sA (ar.zip (am.set p (b + q))) f=sA (ar.zip am) f + q * f w
 | a :: ar,c :: am,0,h1,h2=>by
  cases h1; cases h2;show (b + q) * f w + sA (ar.zip am) f=b * f w + sA (ar.zip am) f + q * f w;grind
 | a :: ar,c :: am,p + 1,h1,h2=>by
  have:=A50 (f:=f) (q:=q) (ar:=ar) (am:=am) (p:=p) h1 h2;show c * f a + sA (ar.zip (am.set p (b + q))) f=c * f a + sA (ar.zip am) f + q * f w;rw [this]; grind
 | [],_,_,h1,_=>by simp at h1
 | _ :: _,[],_,_,h2=>by simp at h2
def A3f {f:Str × Int->Rat} {w:Str × Int} {q:Rat} {ar:List (Str × Int)} {am:LQ} (h:ar.length=am.length):sA ((ar++[w]).zip (am++[q])) f=sA (ar.zip am) f + q * f w:=by
 rw [List.zip_append h,A1d];show _ + (q * f w + 0)=_;rw [Rat.add_zero]
def A88 {f:Str × Int->Rat} {wa:List (Str × Int)} {j:Nat} {w:Str × Int} (h:wa[j]?=some w):My.S ((wa.take (j + 1)).map f)=My.S ((wa.take j).map f) + f w:=by
 rw [List.take_add_one,h,Zc,My.B7l];show _ + (f w + 0)=_;rw [Rat.add_zero]
def isW:PyData->Bool
 | .int _=>true
 | _=>false
def isT (n:Int):PyData->Bool
 | .tuple xs=>decide ((xs.length:Int)=n)
 | _=>false
def isR:PyData->Bool
 | .tuple [.int a,.int b]=>decide (1<=b) && decide (((Int.gcd a b:Nat):Int)=1)
 | _=>false
def isNb (n:Int):PyData->Bool
 | .int i=>decide (0<=i) && decide (i < n)
 | _=>false
def A4c {n i:Int} (h:0<=i/\i < n):isNb n (.int i)=true:=by
 show (decide (0<=i) && decide (i < n))=true;rw [Zk h.1,Zk h.2]; rfl
def arB (n m h:Nat):PyData->Bool
 | .tuple [.str c,v]=>if c=Str.ofString "start" then isNb n v else if c=Str.ofString "end" then isNb n v else if c=Str.ofString "wait" then isNb m v else if c=Str.ofString "hold" then isNb h v else false
 | _=>false
def A8c {x:PyData} (ht:¬ isT 2 x=false):∃ a b,x=.tuple [a,b]:=by
 unfold isT at ht;split at ht
 ·rename_i xs;match xs with
  | [a,b]=>exact ⟨a,b,rfl⟩
  | []=>simp at ht
  | [_]=>simp at ht
  | _ :: _ :: _ :: _=>simp at ht; omega
 ·exact absurd rfl ht
def C17 {n m h:Nat} {x:PyData} (ht:isT 2 x=false):arB n m h x=false:=by
 unfold isT at ht;unfold arB;split
 ·simp at ht
 ·rfl
def C16 {n m h:Nat} {a:Str × Int} (ok:ArOk n m h a):arB n m h (qD a)=true:=by
 obtain ⟨c,i⟩:=a;obtain ⟨i0,ok⟩:=ok;have i0:0<=i:=i0;show (if c=Str.ofString "start" then isNb n (.int i) else if c=Str.ofString "end" then isNb n (.int i) else if c=Str.ofString "wait" then isNb m (.int i) else if c=Str.ofString "hold" then isNb h (.int i) else false)=true;rcases ok with ⟨e,q⟩ | ⟨e,q⟩ | ⟨e,q⟩ | ⟨e,q⟩
 ·have e:c=Str.ofString "start":=e;subst e;rw [if_pos rfl]; exact A4c ⟨i0,q⟩
 ·have e:c=Str.ofString "end":=e;subst e;rw [if_neg (fun z=>w_se z.symm),if_pos rfl]; exact A4c ⟨i0,q⟩
 ·have e:c=Str.ofString "wait":=e;subst e;rw [if_neg (fun z=>w_sw z.symm),if_neg (fun z=>w_ew z.symm),if_pos rfl]; exact A4c ⟨i0,q⟩
 ·have e:c=Str.ofString "hold":=e;subst e;rw [if_neg (fun z=>w_sh z.symm),if_neg (fun z=>w_eh z.symm),if_neg (fun z=>w_wh z.symm),if_pos rfl]; exact A4c ⟨i0,q⟩
def OddC (n m h:Nat) (x:PyData):Prop:=isT 2 x=false\/(∃ a b,x=.tuple [a,b]/\arB n m h a=false)\/∃ a,x=.tuple [a,dq 0]
def B2o (q:Rat):isR (dq q)=true:=by
 have e1:Int.gcd q.num (q.den:Int)=1:=q.reduced;show (decide (1<=(q.den:Int)) && decide (((Int.gcd q.num (q.den:Int):Nat):Int)=1))=true;rw [e1,Zk (by have:=q.den_pos; omega)]; rfl
def B6s {ds:List (PyData × PyData)} {c:Str} (h:∀ p ∈ ds,p.1≠.str c) (k:∀ p ∈ ds,∃ z,p.1=.str z):¬ hasD ds c=true:=fun z=>by
 obtain ⟨p,hp,e⟩:=List.any_eq_true.mp z;obtain ⟨w,ew⟩:=k p hp;have e:(match p.1 with | PyData.str s=>decide (s=c) | _=>false)=true:=e;rw [ew] at e;exact h p hp (by rw [ew,of_decide_eq_true e])
def B7m (n m h:Nat) (x z:PyData):Prop:=(z=.none/\∀ l,x≠.list l)\/∃ (pa:List ((Str × Int) × Rat)) (y:PyData) (rest:LP),x=.list (pa.map paD++y :: rest)/\(∀ p ∈ pa,ArOk n m h p.1/\SmQ 3900 p.2/\0 < p.2)/\(pa.map (·.1)).Nodup/\pa.length<=900/\(OddC n m h y\/∃ p:(Str × Int) × Rat,y=paD p/\ArOk n m h p.1/\SmQ 3900 p.2/\0 < p.2/\p.1 ∈ pa.map (·.1))/\z=.int pa.length
structure PF (n:Nat) (vs:List (Int × Int)) (us:List (Str × Int)) (pa:List ((Str × Int) × Rat)):Prop where
 ln:pa.length<=50
 ar:∀ p ∈ pa,ArOk n vs.length us.length p.1/\On LL (2 ^ 51) p.2/\0 < p.2
 nd:(pa.map (·.1)).Nodup
def PB.pf {n:Nat} {vs:List (Int × Int)} {us:List (Str × Int)} {pa:List ((Str × Int) × Rat)} (h:PB n vs us pa):PF n vs us pa:=⟨Zx h.ln (by decide),h.ar,h.nd⟩
def Unb (n:Nat) (vs:List (Int × Int)) (us:List (Str × Int)) (pa:List ((Str × Int) × Rat)) (i:Nat):Prop:=i < n/\(∀ j,j < i->FI n vs us pa j=FO n vs us pa j/\¬ FI n vs us pa j < 0)/\(FI n vs us pa i < 0\/FI n vs us pa i≠FO n vs us pa i)
def Spo (n:Nat) (ws:LW) (hs:LH) (x y:PyData):Prop :=
 (∃ z,B7m n ws.length hs.length x z/\y=.tuple [.str "paper",z])\/∃ (pa:List ((Str × Int) × Rat)) (i:Nat),x=.list (pa.map paD)/\PF n (vsO ws) (usO hs) pa/\Unb n (vsO ws) (usO hs) pa i/\y=.tuple [.str "work",.int i]
def oddL (i:Int):LP:=[.none,.tuple [.tuple [.str (Str.ofString "end"),.int i],.tuple [.int 0,.int 1]],.tuple [.tuple [.str (Str.ofString "end"),.int (-1)],.tuple [.int 1,.int 1]],.tuple [.tuple [.str (Str.ofString "wait"),.int 40],.tuple [.int 1,.int 1]],.tuple [.str (Str.ofString "end"),.int i],.list [.tuple [.str (Str.ofString "end"),.int i],.tuple [.int 1,.int 1]]]
abbrev t2 (p q:PX):PX:=pTup (T7 (pdat p) (T7 (pdat q) pNil))
def B1u {R:PSt} {D:PEnds} {a0 a1 a2 a3 a5 a6:Option SV} {i:Int} (k:R D [a0,a1,a2,a3,some (.d (.int i)),some (.own (oddL i)),a6]) :
  pSeq (pAsg (pLst (T7 (pdat (pC PyData.none)) (T7 (pdat (t2 (t2 (pC (PyData.str (Str.ofString "end"))) (pVar 4)) (t2 (pC (PyData.int 0)) (pC (PyData.int 1))))) (T7 (pdat (t2 (t2 (pC (PyData.str (Str.ofString "end"))) (pUn (pU fun i=>PyData.int (-i)) (pdat (pC (PyData.int 1))))) (t2 (pC (PyData.int 1)) (pC (PyData.int 1))))) (T7 (pdat (t2 (t2 (pC (PyData.str (Str.ofString "wait"))) (pC (PyData.int 40))) (t2 (pC (PyData.int 1)) (pC (PyData.int 1))))) (T7 (pdat (t2 (pC (PyData.str (Str.ofString "end"))) (pVar 4))) (T7 (pdat (pLst (T7 (pdat (t2 (pC (PyData.str (Str.ofString "end"))) (pVar 4))) (T7 (pdat (t2 (pC (PyData.int 1)) (pC (PyData.int 1)))) pNil)))) pNil))))))) 5) R D [a0,a1,a2,a3,some (.d (.int i)),a5,a6]:=by
 have o2:(2:Nat)<=1000:=by decide
 exact ⟨o2,o2,o2,o2,o2,o2,o2,o2,o2,o2,o2,o2,o2,(show (6:Nat)<=1000 by decide),k⟩
def C0v {n m h:Nat} {p:(Str × Int) × Rat} (ok:ArOk n m h p.1):(paD p).canLay0=true:=by
 obtain ⟨⟨c,i⟩,q⟩:=p;obtain ⟨_,ok⟩:=ok;have:(PyData.str c).canLay0=true:=by
  rcases ok with ⟨e,_⟩ | ⟨e,_⟩ | ⟨e,_⟩ | ⟨e,_⟩
  ·have e:c=Str.ofString "start":=e;subst e; ext
  ·have e:c=Str.ofString "end":=e;subst e; ext
  ·have e:c=Str.ofString "wait":=e;subst e; ext
  ·have e:c=Str.ofString "hold":=e;subst e; ext
 show (((PyData.str c).canLay0 && (true && true)) && ((dq q).canLay0 && true))=true;rw [this,B2r]; rfl
def A74 {n m h:Nat}:∀ {pa:List ((Str × Int) × Rat)},(∀ p ∈ pa,ArOk n m h p.1)->(PyData.list (pa.map paD)).canLay0=true
 | [],_=>rfl
 | p :: r,hh=>by
  have ih:=A74 (pa:=r) fun q hq=>hh q (Zr _ hq);show ((paD p).canLay0 && PyData.canLayAll0 (r.map paD))=true;rw [C0v (hh p Zy),show PyData.canLayAll0 (r.map paD)=true from ih]; rfl
def A8m:∀ pa:List ((Str × Int) × Rat),PyData.depthAll (pa.map paD)<=3
 | []=>Nat.zero_le _
 | p :: r=>by
  have ih:=A8m r;have e:(paD p).depth<=3:=by
   show max (max 0 (max 0 0) + 1) (max (max 0 (max 0 0) + 1) 0) + 1<=3;decide
  show max (paD p).depth (PyData.depthAll (r.map paD))<=3;omega
def B65 (pa:List ((Str × Int) × Rat)):(PyData.list (pa.map paD)).depth<=60:=by
 have:=A8m pa;show PyData.depthAll (pa.map paD) + 1<=60;omega
def B2i {n m h:Nat} {i d:Int} (hm:m<=40) (d0:0<=d) (d1:d < 6):∃ x,L2.atI (oddL i) d=some x/\OddC n m h x:=by
 have e:d=0\/d=1\/d=2\/d=3\/d=4\/d=5:=by omega
 rcases e with rfl | rfl | rfl | rfl | rfl | rfl
 ·exact ⟨_,G2 (j:=0) rfl,.inl rfl⟩
 ·exact ⟨_,G2 (j:=1) rfl,.inr (.inr ⟨_,rfl⟩)⟩
 ·refine ⟨_,G2 (j:=2) rfl,.inr (.inl ⟨_,_,rfl,?_⟩)⟩;show (if Str.ofString "end"=Str.ofString "start" then isNb n (.int (-1)) else if Str.ofString "end"=Str.ofString "end" then isNb n (.int (-1)) else if Str.ofString "end"=Str.ofString "wait" then isNb m (.int (-1)) else if Str.ofString "end"=Str.ofString "hold" then isNb h (.int (-1)) else false)=false;rw [if_neg (fun z=>w_se z.symm),if_pos rfl]; rfl
 ·refine ⟨_,G2 (j:=3) rfl,.inr (.inl ⟨_,_,rfl,?_⟩)⟩;show (if Str.ofString "wait"=Str.ofString "start" then isNb n (.int 40) else if Str.ofString "wait"=Str.ofString "end" then isNb n (.int 40) else if Str.ofString "wait"=Str.ofString "wait" then isNb m (.int 40) else if Str.ofString "wait"=Str.ofString "hold" then isNb h (.int 40) else false)=false;rw [if_neg (fun z=>w_sw z.symm),if_neg (fun z=>w_ew z.symm),if_pos rfl];show (decide ((0:Int)<=40) && decide ((40:Int) < (m:Int)))=false;rw [Zd (show ¬ (40:Int) < (m:Int) by omega),Bool.and_false]
 ·exact ⟨_,G2 (j:=4) rfl,.inr (.inl ⟨_,_,rfl,rfl⟩)⟩
 ·exact ⟨_,G2 (j:=5) rfl,.inl rfl⟩
def B1n {n:Nat} {vs:List (Int × Int)} {us:List (Str × Int)} {pa:List ((Str × Int) × Rat)} (pb:PB n vs us pa) {i:Nat} (hi:i < n) {q:Rat} (q0:0 < q) (oq:On LL (2 ^ 51) q) (nin:(Str.ofString "start",(i:Int)) ∉ pa.map (·.1)):PF n vs us (pa++[((Str.ofString "start",(i:Int)),q)])/\Unb n vs us (pa++[((Str.ofString "start",(i:Int)),q)]) i:=by
 have sok:ArOk n vs.length us.length (Str.ofString "start",(i:Int)):=⟨by show (0:Int)<=(i:Int); omega,.inl ⟨rfl,by show (i:Int) < (n:Int); omega⟩⟩;have pl:=pb.ln;refine ⟨⟨by rw [Ze]; show _ + 1<=50; omega,fun p hp=>?_,?_⟩,hi,fun j hj=>?_,?_⟩
 ·rcases Za hp with m | m
  ·exact pb.ar p m
  ·rw [Zn m]; exact ⟨sok,oq,q0⟩
 ·rw [Zc];exact List.nodup_append.mpr ⟨pb.nd,by simp,fun a ha b hb e=>by
   have e2:a=(Str.ofString "start",(i:Int)):=e.trans (Zn hb);rw [e2] at ha;exact nin ha⟩
 all_goals
  have eT:(pa++[((Str.ofString "start",(i:Int)),q)])[pa.length]?=some ((Str.ofString "start",(i:Int)),q):=by rw [List.getElem?_append_right (Zv _),Nat.sub_self]; rfl
  have iF:∀ f,sA (pa++[((Str.ofString "start",(i:Int)),q)]) f=sA pa f + q * f (Str.ofString "start",(i:Int)):=fun f=>by
   have:=V9 (f:=f) eT;rw [List.take_of_length_le (by rw [Ze]; exact Zv _),List.take_left] at this;exact this
  have l1:arL us (Str.ofString "start",(i:Int))=false:=by
   unfold arL; rw [show decide ((Str.ofString "start",(i:Int)).1="hold")=false from Zd w_sh]; rfl
  have t1:arT n vs us (Str.ofString "start",(i:Int))=n:=if_pos rfl;have h1:arH n vs us (Str.ofString "start",(i:Int))=i:=if_pos rfl;have hI:∀ v,v < n->FI n vs us (pa++[((Str.ofString "start",(i:Int)),q)]) v=FI n vs us pa v + if v=i then q else 0:=fun v _=>by
   unfold FI;rw [iF];show _ + q * inA n vs us (Str.ofString "start",(i:Int)) v=_;rw [show inA n vs us (Str.ofString "start",(i:Int)) v=dl i v from ?_,U4];unfold inA;rw [l1,if_neg (by decide),h1]; grind
  have hO:∀ v,v < n->FO n vs us (pa++[((Str.ofString "start",(i:Int)),q)]) v=FO n vs us pa v:=fun v hv=>by
   unfold FO;rw [iF];show _ + q * ofA n vs us (Str.ofString "start",(i:Int)) v=_;rw [show ofA n vs us (Str.ofString "start",(i:Int)) v=0 from ?_]
   ·grind
   unfold ofA;rw [l1,if_neg (by decide),t1,P4 hv]
 ·have jn:j < n:=by omega
  rw [hI j jn,hO j jn,if_neg (by omega),Rat.add_zero];refine ⟨pb.eq jn,?_⟩;rw [pb.eq jn];exact Rat.not_lt.mpr pb.nn
 ·refine .inr ?_;rw [hI i hi,hO i hi,if_pos rfl,pb.eq hi];intro e;have:q=0:=by grind
  rw [this] at q0;exact absurd q0 (by decide)
def B95 (c:Int × Int × Rat) (n:Nat):okA (n + 2) (wD c):=by
 unfold wD okA;refine ⟨Nat.le_of_ble_eq_true rfl,fun x hx=>?_⟩;simp only [List.mem_cons,List.not_mem_nil,or_false] at hx;rcases hx with rfl | rfl | rfl
 ·unfold okA; exact True.intro
 ·unfold okA; exact True.intro
 ·exact A34 _ _
def A0v {z:Str} (h:(PyData.str z).canLay0=true) (n:Nat):okA n (.str z):=by cases n <;> exact h
def B98 {c:Str × Int × Rat} (h:Hk c.1) (n:Nat):okA (n + 2) (hD c):=by
 unfold hD okA;refine ⟨Nat.le_of_ble_eq_true rfl,fun x hx=>?_⟩;simp only [List.mem_cons,List.not_mem_nil,or_false] at hx;rcases hx with rfl | rfl | rfl
 ·exact A0v h.lay _
 ·unfold okA; exact True.intro
 ·exact A34 _ _
def B97 {x:Wk} (h1:(PyData.str x.1).canLay0=true) (h2:Kd x.2.1) (h3:x.2.2.length < 1000) (n:Nat):okA (n + 5) (kD x):=by
 rw [show kD x=PyData.tuple [.str x.1,.tuple [.str x.2.1,.list (x.2.2.map dcn)]] from rfl];unfold okA;refine ⟨Nat.le_of_ble_eq_true rfl,fun y hy=>?_⟩;simp only [List.mem_cons,List.not_mem_nil,or_false] at hy;rcases hy with rfl | rfl
 ·exact A0v h1 _
 ·unfold okA;refine ⟨Nat.le_of_ble_eq_true rfl,fun z hz=>?_⟩;simp only [List.mem_cons,List.not_mem_nil,or_false] at hz;rcases hz with rfl | rfl
  ·exact A0v h2.lay _
  ·exact B99 h3 n
def B5d {xs:List Wk} {ws:LW} {hs:LH} {gs:LP} (h1:∀ x ∈ xs,(PyData.str x.1).canLay0=true/\Kd x.2.1/\x.2.2.length < 1000) (hl:xs.length < 1000) (hw:ws.length < 1000) (hh:hs.length < 1000) (hk:∀ h ∈ hs,Hk h.1) (hg:okA 7 (.list gs)):okA 8 (netD xs ws hs gs):=by
 unfold netD okA;refine ⟨Nat.le_of_ble_eq_true rfl,fun y hy=>?_⟩;simp only [List.mem_cons,List.not_mem_nil,or_false] at hy;rcases hy with rfl | rfl | rfl | rfl
 ·unfold okA;refine ⟨by rw [Zl]; exact hl,fun z hz=>?_⟩;obtain ⟨x,hx,rfl⟩:=List.mem_map.mp hz;exact B97 (h1 x hx).1 (h1 x hx).2.1 (h1 x hx).2.2 1
 ·unfold okA;refine ⟨by rw [Zl]; exact hw,fun z hz=>?_⟩;obtain ⟨x,hx,rfl⟩:=List.mem_map.mp hz;exact B95 x 4
 ·unfold okA;refine ⟨by rw [Zl]; exact hh,fun z hz=>?_⟩;obtain ⟨x,hx,rfl⟩:=List.mem_map.mp hz;exact B98 (hk x hx) 4
 ·exact hg
def B96 {n m h:Nat} {pa:List ((Str × Int) × Rat)} (hl:pa.length < 1000) (hh:∀ p ∈ pa,ArOk n m h p.1):okA 8 (.list (pa.map paD)):=by
 refine ⟨by rw [Zl]; exact hl,fun x hx=>?_⟩;obtain ⟨p,hp,rfl⟩:=List.mem_map.mp hx;have w:(PyData.str p.1.1).canLay0=true:=(hh p hp).wl;refine ⟨by show 2 < 1000; decide,fun y hy=>?_⟩;rcases List.mem_cons.mp hy with rfl | hy
 ·refine ⟨by show 2 < 1000; decide,fun y hy=>?_⟩;rcases List.mem_cons.mp hy with rfl | hy
  ·exact A0v w _
  ·rw [Zn hy]; exact True.intro
 ·rw [Zn hy]; exact A34 _ _
def outD:PyData->SV
 | .list xs=>.own xs
 | x=>.d x
def B2h {x:PyData} {k:PyData->Prop} (h:k x):(outD x).asD k:=by cases x <;> exact h
def A3x (n:Nat):PSp:=fun as Q=>∃ x:PyData,as=[.d x]/\okA n x/\Q (outD x)
def C13 {α:Type}:∀ qs:List α,blsD (qs.map fun _=>PyData.bool true)=some (qs.map fun _=>true)
 | []=>rfl
 | q :: r=>by
  show (blsD (r.map fun _=>PyData.bool true)).map (true :: ·)=_;rw [C13 r]; rfl
def A75:∀ qs:LQ,PyData.canLayAll0 (qs.map dq)=true
 | []=>rfl
 | q :: r=>by
  show ((dq q).canLay0 && PyData.canLayAll0 (r.map dq))=true;rw [A75 r,B2r]; rfl
def A0y (qs:LQ):(PyData.list (qs.map dq)).canLay0=true:=A75 qs
def A8n:∀ qs:LQ,PyData.depthAll (qs.map dq)<=1
 | []=>Nat.zero_le _
 | q :: r=>by
  have:=A8n r;show max (max 0 (max 0 0) + 1) (PyData.depthAll (r.map dq))<=1;omega
def A26 (qs:LQ):(PyData.list (qs.map dq)).depth<=60:=by
 have:=A8n qs;show PyData.depthAll (qs.map dq) + 1<=60;omega
def A23:∀ {xs:LP},(∀ x ∈ xs,x.canLay0=true)->PyData.canLayAll0 xs=true
 | [],_=>rfl
 | x :: r,h=>by
  show (x.canLay0 && PyData.canLayAll0 r)=true;rw [h x Zy,A23 fun y hy=>h y (Zr _ hy)]; rfl
def A27 {n:Nat}:∀ {xs:LP},(∀ x ∈ xs,x.depth<=n)->PyData.depthAll xs<=n
 | [],_=>Nat.zero_le _
 | x :: r,h=>by
  show max x.depth (PyData.depthAll r)<=n;exact Nat.max_le.mpr ⟨h x Zy,A27 fun y hy=>h y (Zr _ hy)⟩
def W7:∀ (n:Nat) {x:PyData},okA n x->x.canLay0=true/\x.depth<=n
 | n,.none,_=>⟨rfl,Nat.zero_le _⟩
 | n,.bool _,_=>⟨rfl,Nat.zero_le _⟩
 | n,.int _,_=>⟨rfl,Nat.zero_le _⟩
 | n,.str _,h=>⟨by cases n <;> exact h,Nat.zero_le _⟩
 | n,.dict _,h=>by cases n <;> exact h.elim
 | 0,.list _,h=>h.elim
 | 0,.tuple _,h=>h.elim
 | n + 1,.list xs,h=>⟨A23 fun x hx=>(W7 n (h.2 x hx)).1,Nat.succ_le_succ (A27 fun x hx=>(W7 n (h.2 x hx)).2)⟩
 | n + 1,.tuple xs,h=>⟨A23 fun x hx=>(W7 n (h.2 x hx)).1,Nat.succ_le_succ (A27 fun x hx=>(W7 n (h.2 x hx)).2)⟩
def C1o {x:PyData} {a b:Addr} {xs:LP}:(OT.nd true b (.cons (.leaf x) (.cons (.nd true a (B3 xs)) .nil))).dat=[.list [x,.list xs]]:=by
 show [PyData.list ([x]++([PyData.list (B3 xs).dat]++[]))]=_;rw [Q2]; rfl
def B5c {x y:PyData} {n:Nat} (h1:okA n x) (h2:okA n y):okA (n + 1) (.list [x,y]):=by
 unfold okA;refine ⟨Nat.le_of_ble_eq_true rfl,fun z hz=>?_⟩;simp only [List.mem_cons,List.not_mem_nil,or_false] at hz;rcases hz with rfl | rfl <;> assumption
def A46:PSp:=fun as Q=>∃ (xs:List Wk) (ws:LW) (hs:LH) (gs:LP) (pa:List ((Str × Int) × Rat)),as=[.d (netD xs ws hs gs),.bor (pa.map paD)]/\NP xs.length ws hs/\PF xs.length (vsO ws) (usO hs) pa/\Q (.d (.tuple [.list (((List.range xs.length).map (FI xs.length (vsO ws) (usO hs) pa)).map dq),.list (((List.range xs.length).map (FO xs.length (vsO ws) (usO hs) pa)).map dq)]))
section
variable {P:Program} {w:World} {K:W.Frag} {mg:Str->Option Value} {base:Heap} {D:Adr}
def O2 (T:Txt K mg D):FnOk P w K mg base CX0 1 D.a_a1 D.d_a1 ["one","other"] (Pu.spOf K [.dat,.dat] B8m):=by
 refine T.B.F_a1.ok sc_a1 (Zz rfl) (fun cdv A outer s H vs Q E hr h=>?_);refine ⟨_,(QSs.out (A3 (W2 (i:=0) (j:=1) rfl sc_a1.nd rfl rfl (by decide) rfl rfl (A0 (D1 A2f (by rfl) T.z_abs (by rfl) (A0 (qpv 0) A1)) (A0 (D1 A2f (by rfl) T.z_abs (by rfl) (A0 (qpv 1) A1)) A1)) rfl)
   (A3 (W1 Zf (A9 (K7 (K:=K) rfl hr.units) (qpv 1) A2 (B6 _))
    (A4 (W2 (i:=0) (j:=1) rfl sc_a1.nd rfl rfl (by decide) rfl rfl (A0 (qpv 1) (A0 (B2 Q4 (qpv 0) (qpv 1)) A1)) rfl)))
   (A4 (B0 (qpv 0)))))),?_⟩
 refine Pu.G5 h ?_;rintro as Qp ⟨a,b,rfl,k⟩;symm;refine ⟨fun m e=>∃ x y:Int,e=[some (.d (.int x)),some (.d (.int y))]/\0<=x/\0<=y/\m=y.toNat/\Int.gcd x y=Int.gcd a b,⟨_,_,_,rfl,by split <;> omega,by split <;> omega,rfl,B6u a b⟩,?_⟩
 rintro m e ⟨x,y,rfl,hx,hy,rfl,hg⟩;symm;refine ite2 (fun e=>?_) (fun hn=>?_)
 ·subst e;have:=A4e x hx;rw [hg] at this;rw [<- this]; exact k
 ·have h1:=Int.emod_lt_of_pos x (show 0 < y by omega);have h2:=Int.emod_nonneg x hn;exact ⟨by omega,(x % y).toNat,by omega,y,x % y,rfl,hy,h2,rfl,by rw [A8h,hg]⟩
def Q8 (T:Txt K mg D):FnOk P w K mg base CX0 2 D.a_c6 D.d_c6 ["one","other"] (Pu.spOf K [.dat,.dat] (A1l (·+·))):=by
 refine T.B.F_c6.ok sc_c6 (Zz rfl) (fun cdv A outer s H vs Q E hr h=>?_);refine ⟨_,(QSs.out (A3 (qst 2 sc_c6 (qcK (O2 (K:=K) T) hr.mo (P5 T) (A0 (qix K (qpv 0) A2) (A0 (qix K (qpv 1) A2) A1))))
   (A3 (W2 (i:=3) (j:=4) rfl sc_c6.nd rfl rfl (by decide) rfl rfl (A0 (B2 M4 (qix K (qpv 0) A2) (qpv 2)) (A0 (B2 M4 (qix K (qpv 1) A2) (qpv 2)) A1)) rfl)
   (A3 (qst 5 sc_c6 (B2 G4 (B2 D9 (qix K (qpv 0) A2) (qpv 4)) (B2 D9 (qix K (qpv 1) A2) (qpv 3))))
   (A3 (qst 6 sc_c6 (qcK (O2 (K:=K) T) hr.mo (P5 T) (A0 (qpv 5) (A0 (qpv 2) A1))))
   (A4 (B0 (A8 (A0 (B2 M4 (qpv 5) (qpv 6)) (A0 (B2 D9 (qpv 3) (B2 M4 (qix K (qpv 1) A2) (qpv 6))) A1)))))))))),?_⟩
 refine Pu.G5 h ?_;rintro as Qp ⟨p,q,rfl,sp,sq,k⟩;symm;refine ⟨_,_,rfl,?_⟩;symm;have p2:=sp.2.mono (l:=8000) (by decide);have q2:=sq.2.mono (l:=8000) (by decide);have g0:=A5q (t:=(p.den:Int)) q;have gs:=A6e (t:=(p.den:Int)) q2 (den0 q);have gn:(0:Int)<=((Int.gcd (p.den:Int) (q.den:Int):Nat):Int):=Int.natCast_nonneg _;refine ⟨⟨g0,gs⟩,⟨g0,gs⟩,⟨sp.1.mono (by decide),B08 q2 gn⟩,⟨sq.1.mono (by decide),B08 p2 gn⟩,_,_,rfl,?_⟩;symm;refine ⟨⟨A4f g0,A6e gs g0⟩,⟨A4f g0,A6e gs g0⟩,⟨B08 p2 gn,B08 q2 (Int.natCast_nonneg _)⟩,?_⟩;obtain ⟨e1,e2⟩:=B34 p q _ _ rfl rfl;rw [e1,e2]; exact k
def B0g (T:Txt K mg D):FnOk P w K mg base CX0 3 D.a_c4 D.d_c4 ["one","other"] (Pu.spOf K [.dat,.dat] (A1l (·-·))):=by
 refine T.B.F_c4.ok sc_c4 (Zz rfl) (fun cdv A outer s H vs Q E hr h=>?_);refine ⟨_,(QSs.out (A4 (B0 (qcK (Q8 (K:=K) T) hr.mo (X5 T) (A0 (qpv 0) (A0 (A8 (A0 (A6o A53 (qix K (qpv 1) A2)) (A0 (qix K (qpv 1) A2) A1))) A1)))))),?_⟩;refine Pu.G5 h ?_;rintro as Qp ⟨p,q,rfl,sp,sq,k⟩;symm;rw [C1v];refine ⟨_,_,rfl,sp,⟨by have:=sq.1; unfold Sm at *; show (-q.num).natAbs < _; omega,sq.2⟩,?_⟩;show Qp (.d (dq (p + -q)));rw [<- Rat.sub_eq_add_neg]; exact k
def W5 (T:Txt K mg D):FnOk P w K mg base CX0 1 D.a_bb D.d_bb ["one","other"] (Pu.spOf K [.dat,.dat] A6w):=by
 refine T.B.F_bb.ok sc_bb (Zz rfl) (fun cdv A outer s H vs Q E hr h=>?_);refine ⟨_,(QSs.out (A4 (B0 (G6 A5c (B2 D9 (qix K (qpv 0) A2) (qix K (qpv 1) A2)) (B2 D9 (qix K (qpv 1) A2) (qix K (qpv 0) A2)) (B6 _))))),?_⟩;refine Pu.G5 h ?_;rintro as Qp ⟨p,q,rfl,sp,sq,k⟩;symm;have p1:=sp.1.mono (l:=8000) (by decide);have p2:=sp.2.mono (l:=8000) (by decide);have q1:=sq.1.mono (l:=8000) (by decide);have q2:=sq.2.mono (l:=8000) (by decide);refine ⟨⟨p1,q2⟩,⟨q1,p2⟩,?_⟩;rw [A39]; exact k
def A5g (T:Txt K mg D):FnOk P w K mg base CX0 1 D.a_af D.d_af ["_law_script","_law_k"] (B1y K):=by
 refine T.B.F_af.ok sc_af (fun vs H Q E h=>?_) (fun cdv A outer s H vs Q E hr h=>?_)
 ·obtain ⟨a,ns,k,rfl,_⟩:=h; rfl
 ·obtain ⟨a,ns,k,rfl,ha,k0,k1,kk⟩:=h;refine ⟨_,(K0 (Z0 (i:=2) sc_af.nd rfl (Or.inl rfl) E8)
   (K0 (B3x (A6t (K7 (K:=K) rfl hr.units) (pv 0) (A7a pa_nil) (B6 _))
    (T6 (Z0 (i:=2) sc_af.nd rfl (Or.inl rfl) (A0p (B01 (K:=K) rfl) (pv 0) (K6 Q4 (pv 1) (A0r call_len_seq (by rfl) T.z_len PySem.boot_len (pa_cons (pv 0) pa_nil))) (fun _ _=>rfl))))
    A2u)
   (T6 (A3w (A7a (pa_cons (pv 2) (pa_cons (K6 Q4 (K6 G4 (K6 G4 (K6 Q4 (pv 2) E8) (K6 D9 (K6 D9 E8 (pv 1)) (pv 1))) E8) E8) (pa_cons (A0q B91 (pv 2) (K6 A7l E8 E8) (B6 _)) pa_nil)))))))),?_⟩
  have fin:∀ (c:Int) (H:Hp),(∀ p H',H p=none->StAt H' p->Kp p H H'->Q (.ref p) H')->∃ v,([some (V.ref a),some (V.int k),some (V.int c)]:St)[2]?=some (some v) /\
    (F7 (tOp (rI (fun _ j=>0 < j) fun i j=>.int (i % j)) (tOp (rI0 fun i j=>.int (i + j)) (tOp (rI0 fun i j=>.int (i + j)) (tOp (rI (fun _ j=>0 < j) fun i j=>.int (i % j)) (tVar 2) (tC (.int 2147483587)))
     (tOp (rI B7n fun i j=>.int (i * j)) (tOp (rI B7n fun i j=>.int (i * j)) (tC (.int 104729)) (tVar 1)) (tVar 1))) (tC (.int 7))) (tC (.int 2147483587)))
     (F7 (tOp (rI0 fun i j=>.bl (decide (j<=i))) (tVar 2) (tOp (rI CPow fun i j=>.int (i ^ j.toNat)) (tC (.int 10)) (tC (.int 18)))) tNil)) [some (V.ref a),some (V.int k),some (V.int c)] H
     fun xs H1=>(v :: xs).length<=sizeLine/\∀ p,H1 p=none->Q (.ref p) (upd H1 p (.lst (v :: xs))):=by
   intro c H kk;refine ⟨_,rfl,_,rfl,_,_,rfl,rfl,(by show (0:Int) < 2147483587; decide),_,rfl,_,_,rfl,rfl,⟨Y8 0,sm32 k0 (by omega)⟩,_,rfl,_,_,rfl,rfl,⟨(Sm.mul (k:=20) (l:=20) (by unfold Sm; decide) (by unfold Sm; omega)).mono (by decide),sm32 k0 (by omega)⟩,
    _,_,rfl,rfl,_,_,rfl,rfl,_,_,rfl,rfl,(by show (0:Int) < 2147483587; decide),_,rfl,_,_,rfl,rfl,A8r 18,_,_,rfl,rfl,by show 3<=sizeLine; decide,fun p hp=>?_⟩
   have e1:=Int.emod_nonneg (c % 2147483587 + 104729 * k * k + 7) (show (2147483587:Int)≠0 by decide);have e2:=Int.emod_lt_of_pos (c % 2147483587 + 104729 * k * k + 7) (show (0:Int) < 2147483587 by decide);exact kk p _ hp ⟨_,_,_,B7,e1,by omega⟩ (Same.upd hp).kp
  refine ⟨_,rfl,Nat.zero_le _,fun p hp=>?_⟩;have sm:=Same.upd (H:=H) (o:=.lst []) hp;have ha':SqL K (upd H p (.lst [])) a (ns.map V.int):=Pu.A9i sm ha;have kk':∀ q H',(upd H p (.lst [])) q=none->StAt H' q->Kp q (upd H p (.lst [])) H'->Q (.ref q) H':=fun q H' hq hs kp=>kk q H' (by
   by_cases z:q=p
   ·rw [z]; exact hp
   ·rw [C4 z] at hq; exact hq) hs (fun b o nb e=>kp b o nb (sm b o e))
  refine ⟨.list (ns.map .int),.list [],.lst ha' (A4k ns),.lst (.inl (.inl B7)) .nil,V3 ns,rfl,A15 ns,_,rfl,?_⟩;rw [A4i];cases ns with
  | nil=>exact fin 0 _ kk'
  | cons c r =>
   obtain ⟨m,hm,hml⟩:∃ m:Nat,k % (((c :: r).map V.int).length:Int)=(m:Int)/\m < ((c :: r).map V.int).length:=by
    have h0:(0:Int) < (((c :: r).map V.int).length:Int):=by first | (simp; done) | (simp; omega)
    have h1:=Int.emod_nonneg k (Int.ne_of_gt h0);have h2:=Int.emod_lt_of_pos k h0;exact ⟨(k % (((c :: r).map V.int).length:Int)).toNat,by omega,by omega⟩
   obtain ⟨z,hz⟩:∃ z,((c :: r).map V.int)[m]?=some (V.int z):=by
    have:m < (c :: r).length:=by simpa using hml
    exact ⟨(c :: r)[m],by rw [Zh,Zg this]; rfl⟩
   refine ⟨_,rfl,_,rfl,_,rfl,a,_,rfl,.inl ha',k,_,rfl,rfl,(by first | (simp; done) | (simp; omega)),a,_,_,_,rfl,rfl,ha',by rw [hm]; exact G2 hz,?_⟩;exact fin z _ kk'
def K8 (T:Txt K mg D):FnOk P w K mg base CX0 1 D.a_af D.d_af ["_law_script","_law_k"] (Pu.spOf K [.vw,.dat] B15):=FnOk.imp (A5g T) C14
def A7o (T:Txt K mg D):FnOk P w K mg base CX0 1 D.a_c0 D.d_c0 ["_law_state","_law_many"] A6c:=by
 refine T.B.F_c0.ok sc_c0 (fun vs H Q E h=>?_) (fun cdv A outer s H vs Q E hr h=>?_)
 ·obtain ⟨p,n,rfl,_⟩:=h; rfl
 ·obtain ⟨p,n,rfl,S0,n0,sn,k⟩:=h;refine ⟨_,(K0 (B3x (B14 (A0p ix_list (pv 0) E8 (fun _ _=>rfl)))
    (K0 (Z0 (i:=2) sc_c0.nd rfl (Or.inl rfl) (K6 Q4 (A0p ix_list (pv 0) E8 (fun _ _=>rfl)) (pv 1)))
    (K0 (A3y (K6 M4 (A0p ix_list (pv 0) E8 (fun _ _=>rfl)) (pv 1)) (A3z (pv 0) E8 D0))
    (K0 (A3y (A0q Y3 (A0p ix_list (pv 0) E8 (fun _ _=>rfl)) E8 (B6 _)) (A3z (pv 0) E8 D0))
    (T6 (A3w (pv 2))))))
    A2u)
   (K0 (Z0 (i:=3) sc_c0.nd rfl (Or.inl rfl) E8)
   (K0 (A6x Zf rfl (A1o rfl T.z_range (pa_cons (K6 G4 E8 (K6 D9 E8 (A1p A2e (by rfl) T.z_int (by rfl) (pa_cons (A0q Y3 (pv 1) (K6 A7l E8 E8) (B6 _)) pa_nil)))) pa_nil)) (A69 (i:=4) sc_c0.nd rfl (Or.inl rfl) (Or.inl rfl))
    (K0 (A3y (K6 Q4 (K6 G4 (K6 D9 (A0p ix_list (pv 0) E8 (fun _ _=>rfl)) E8) E8) E8) (A3z (pv 0) E8 D0))
    (T6 (Z0 (i:=3) sc_c0.nd rfl (Or.inl rfl) (K6 G4 (K6 D9 (pv 3) E8) (K6 Q4 (K6 D9 (A0p ix_list (pv 0) E8 (fun _ _=>rfl)) (A0p ix_list (pv 0) E8 (fun _ _=>rfl))) E8))))))
   (T6 (A3w (K6 Q4 (K6 M4 (pv 3) E8) (pv 1))))))),?_⟩
  obtain ⟨c,m,f,hp,m0,m1⟩:=S0.ex;refine ⟨_,rfl,p,_,_,_,rfl,rfl,SqL.of hp,at2,f,rfl,?_⟩;have s8:Sm 8000 n:=sn.mono (by decide);cases f with
  | true =>
   refine iteT ?_;refine ⟨_,rfl,p,_,_,_,rfl,rfl,SqL.of hp,at0,_,rfl,_,_,rfl,rfl,n0,?_⟩;refine ⟨_,rfl,p,_,_,_,rfl,rfl,SqL.of hp,at0,_,rfl,_,_,rfl,rfl,⟨by omega,s8⟩,_,rfl,p,_,_,0,rfl,rfl,hp,rfl,?_⟩;refine ⟨_,rfl,p,_,_,_,rfl,rfl,SqL.of B7,at0,_,_,rfl,rfl,_,rfl,p,_,_,2,rfl,rfl,B7,rfl,?_⟩;refine ⟨_,rfl,?_⟩;exact k _ _ (Int.emod_nonneg c (by omega)) (Int.emod_lt_of_pos c n0) ⟨_,_,_,B7,m0,m1⟩ (Kp.upd.trans Kp.upd)
  | false =>
   refine iteF ?_;refine ⟨_,rfl,_,_,rfl,rfl,A8r 6,_,_,rfl,rfl,.inr ⟨_,rfl,_,_,rfl,rfl,⟨Y8 0,B70 _⟩,_,_,rfl,rfl,_,rfl,?_,?_,A8j (lo:=0)
    (fun i σ H'=>∃ (m' md:Int) (x:Option V),σ=[some (V.ref p),some (V.int n),none,some (V.int md),x]/\H' p=some (.lst [.int c,.int m',.bl false])/\0<=m'/\m' < 2147483648/\Kp p H H'/\Sm (40 * i + 1) md)
    ⟨m,0,none,rfl,hp,m0,m1,Kp.refl,by unfold Sm; decide⟩ ?_ ?_⟩⟩
   ·split <;> omega
   ·split <;> omega
   ·rintro i σ H' hi ⟨m',md,x,rfl,hp',h0,h1,kk,sd⟩;have hi9:i < 9:=by
     refine Nat.lt_of_lt_of_le hi ?_;split <;> decide
    refine ⟨_,rfl,p,_,_,_,rfl,rfl,SqL.of hp',at1,_,_,rfl,rfl,⟨sm32 h0 h1,Y8 0⟩,_,_,rfl,rfl,_,_,rfl,rfl,(by show (0:Int) < 2147483647; decide),_,rfl,p,_,_,1,rfl,rfl,hp',rfl,?_⟩;have e1:=Int.emod_nonneg (m' * 39373 + 17) (show (2147483647:Int)≠0 by decide);have e2:=Int.emod_lt_of_pos (m' * 39373 + 17) (show (0:Int) < 2147483647 by decide);have sm:=sm32 e1 (by omega);refine ⟨_,rfl,_,_,rfl,rfl,⟨sd.mono (by omega),Y8 0⟩,_,rfl,p,_,_,_,rfl,rfl,SqL.of B7,at1,_,rfl,p,_,_,_,rfl,rfl,SqL.of B7,at1,_,_,rfl,rfl,⟨sm,sm⟩,_,_,rfl,rfl,(by show (0:Int) < 2147483587; decide),_,_,rfl,rfl,?_⟩;have g1:=Int.emod_nonneg ((m' * 39373 + 17) % 2147483647 * ((m' * 39373 + 17) % 2147483647)) (show (2147483587:Int)≠0 by decide);have g2:=Int.emod_lt_of_pos ((m' * 39373 + 17) % 2147483647 * ((m' * 39373 + 17) % 2147483647)) (show (0:Int) < 2147483587 by decide);refine ⟨_,_,_,rfl,B7,e1,by omega,kk.trans Kp.upd,?_⟩;refine Sm.mono (k:=40 * i + 1 + 32 + 1) (Sm.add (sd.mul (l:=32) (by unfold Sm; decide)) ?_) (by omega);exact Sm.mono (k:=32) (by unfold Sm; omega) (by omega)
   ·rintro σ H' ⟨m',md,x,rfl,hp',h0,h1,kk,sd⟩;refine ⟨_,rfl,_,_,rfl,rfl,⟨by decide,Y8 0⟩,_,rfl,_,_,rfl,rfl,n0,?_⟩;exact k _ _ (Int.emod_nonneg _ (by omega)) (Int.emod_lt_of_pos _ n0) ⟨_,_,_,hp',h0,h1⟩ kk
def B5 (T:Txt K mg D):FnOk P w K mg base CX0 1 D.a_c0 D.d_c0 ["_law_state","_law_many"] (Pu.spOf K [.st,.dat] Pu.A6u):=FnOk.imp (A7o T) Pu.B22
def Q9 (T:Txt K mg D):FnOk P w K mg base CX0 1 D.a_c5 D.d_c5 ["_law_top","_law_bottom"] (Pu.spOf K [.dat,.dat] B3w):=by
 refine T.B.F_c5.ok sc_c5 (Zz rfl) (fun cdv A outer s H vs Q E hr h=>?_);refine ⟨_,(QSs.out (A3 (qst 2 sc_c5 (qpv 0))
   (A3 (qst 3 sc_c5 (qpv 1))
   (A3 (W1 Zf (A9 (K7 (K:=K) rfl hr.units) (qpv 3) A2 (B6 _))
    (A4 (W2 (i:=2) (j:=3) rfl sc_c5.nd rfl rfl (by decide) rfl rfl (A0 (qpv 3) (A0 (B2 Q4 (qpv 2) (qpv 3)) A1)) rfl)))
   (A4 (B0 (A8 (A0 (B2 M4 (qpv 0) (qpv 2)) (A0 (B2 M4 (qpv 1) (qpv 2)) A1))))))))),?_⟩
 refine Pu.G5 h ?_;rintro as Qp ⟨t,b,rfl,hb,st,sb,k⟩;symm;refine ⟨fun m e=>∃ x y:Int,e=[some (.d (.int t)),some (.d (.int b)),some (.d (.int x)),some (.d (.int y))]/\0<=y/\(y=0->0 < x)/\m=y.toNat/\Int.gcd x y=Int.gcd t b,⟨_,_,_,rfl,by omega,fun e=>by omega,rfl,rfl⟩,?_⟩;rintro m e ⟨x,y,rfl,hy,hx,rfl,hg⟩;symm;refine ite2 (fun e=>?_) (fun hn=>?_)
 ·subst e;have hx0:=hx rfl;have e1:x=sh t b:=by
   have:=A4e x (by omega);rw [hg] at this;unfold sh; rw [if_neg (by omega)]; exact this.symm
  subst e1;have hb0:b≠0:=by omega
  refine ⟨⟨B72 hb0,B7z sb hb0⟩,⟨B72 hb0,B7z sb hb0⟩,?_⟩;rw [A7z hb0,B51 hb0]; exact k
 ·have h1:=Int.emod_lt_of_pos x (show 0 < y by omega);have h2:=Int.emod_nonneg x hn;exact ⟨by omega,(x % y).toNat,by omega,y,x % y,rfl,h2,fun _=>by omega,rfl,by rw [A8h,hg]⟩
def D7 (T:Txt K mg D):FnOk P w K mg base CX0 2 D.a_bd D.d_bd ["_law_one","_law_other"] (Pu.spOf K [.dat,.dat] (A1l (·+·))):=by
 refine T.B.F_bd.ok sc_bd (Zz rfl) (fun cdv A outer s H vs Q E hr h=>?_);refine ⟨_,(QSs.out (A4 (B0 (qcK (Q9 (K:=K) T) hr.mo (X9 T) (A0 (B2 G4 (B2 D9 (qix K (qpv 0) A2) (qix K (qpv 1) A2)) (B2 D9 (qix K (qpv 1) A2) (qix K (qpv 0) A2))) (A0 (B2 D9 (qix K (qpv 0) A2) (qix K (qpv 1) A2)) A1)))))),?_⟩;refine Pu.G5 h ?_;rintro as Qp ⟨p,q,rfl,sp,sq,k⟩;symm;have p1:=sp.1.mono (l:=8000) (by decide);have p2:=sp.2.mono (l:=8000) (by decide);have q1:=sq.1.mono (l:=8000) (by decide);have q2:=sq.2.mono (l:=8000) (by decide);refine ⟨⟨p1,q2⟩,⟨q1,p2⟩,⟨p2,q2⟩,_,_,rfl,Int.mul_pos (denp p) (denp q),((sp.1.mul sq.2).add (sq.1.mul sp.2)).mono (by decide),(sp.2.mul sq.2).mono (by decide),?_⟩;rw [B8g]; exact k
def J5 (T:Txt K mg D):FnOk P w K mg base CX0 2 D.a_b3 D.d_b3 ["_law_one","_law_other"] (Pu.spOf K [.dat,.dat] (A1l (·-·))):=by
 refine T.B.F_b3.ok sc_b3 (Zz rfl) (fun cdv A outer s H vs Q E hr h=>?_);refine ⟨_,(QSs.out (A4 (B0 (qcK (Q9 (K:=K) T) hr.mo (X9 T) (A0 (B2 W4 (B2 D9 (qix K (qpv 0) A2) (qix K (qpv 1) A2)) (B2 D9 (qix K (qpv 1) A2) (qix K (qpv 0) A2))) (A0 (B2 D9 (qix K (qpv 0) A2) (qix K (qpv 1) A2)) A1)))))),?_⟩;refine Pu.G5 h ?_;rintro as Qp ⟨p,q,rfl,sp,sq,k⟩;symm;have p1:=sp.1.mono (l:=8000) (by decide);have p2:=sp.2.mono (l:=8000) (by decide);have q1:=sq.1.mono (l:=8000) (by decide);have q2:=sq.2.mono (l:=8000) (by decide);refine ⟨⟨p1,q2⟩,⟨q1,p2⟩,⟨p2,q2⟩,_,_,rfl,Int.mul_pos (denp p) (denp q),((sp.1.mul sq.2).sub (sq.1.mul sp.2)).mono (by decide),(sp.2.mul sq.2).mono (by decide),?_⟩;rw [B8d]; exact k
def S5 (T:Txt K mg D):FnOk P w K mg base CX0 2 D.a_b9 D.d_b9 ["_law_one","_law_other"] (Pu.spOf K [.dat,.dat] (A1l (·*·))):=by
 refine T.B.F_b9.ok sc_b9 (Zz rfl) (fun cdv A outer s H vs Q E hr h=>?_);refine ⟨_,(QSs.out (A4 (B0 (qcK (Q9 (K:=K) T) hr.mo (X9 T) (A0 (B2 D9 (qix K (qpv 0) A2) (qix K (qpv 1) A2)) (A0 (B2 D9 (qix K (qpv 0) A2) (qix K (qpv 1) A2)) A1)))))),?_⟩;refine Pu.G5 h ?_;rintro as Qp ⟨p,q,rfl,sp,sq,k⟩;symm;have p1:=sp.1.mono (l:=8000) (by decide);have p2:=sp.2.mono (l:=8000) (by decide);have q1:=sq.1.mono (l:=8000) (by decide);have q2:=sq.2.mono (l:=8000) (by decide);refine ⟨⟨p1,q1⟩,⟨p2,q2⟩,_,_,rfl,Int.mul_pos (denp p) (denp q),(sp.1.mul sq.1).mono (by decide),(sp.2.mul sq.2).mono (by decide),?_⟩;rw [B8e]; exact k
def A7n (T:Txt K mg D):FnOk P w K mg base CX0 1 D.a_ba D.d_ba ["_law_one","_law_other"] (Pu.spOf K [.dat,.dat] A6w):=by
 refine T.B.F_ba.ok sc_ba (Zz rfl) (fun cdv A outer s H vs Q E hr h=>?_);refine ⟨_,(QSs.out (A4 (B0 (G6 A5c (B2 D9 (qix K (qpv 0) A2) (qix K (qpv 1) A2)) (B2 D9 (qix K (qpv 1) A2) (qix K (qpv 0) A2)) (B6 _))))),?_⟩;refine Pu.G5 h ?_;rintro as Qp ⟨p,q,rfl,sp,sq,k⟩;symm;have p1:=sp.1.mono (l:=8000) (by decide);have p2:=sp.2.mono (l:=8000) (by decide);have q1:=sq.1.mono (l:=8000) (by decide);have q2:=sq.2.mono (l:=8000) (by decide);refine ⟨⟨p1,q2⟩,⟨q1,p2⟩,?_⟩;rw [A39]; exact k
def J3 (T:Txt K mg D):FnOk P w K mg base CX0 2 D.a_a9 D.d_a9 ["_law_state","_law_plain","_law_least_here"] (Pu.spOf K [.st,.dat,.dat] A6y):=by
 refine T.B.F_a9.ok sc_a9 (Zz rfl) (fun cdv A outer s H vs Q E hr h=>?_);refine ⟨_,(QSs.out (A3 (qst 3 sc_a9 (qcK (B5 (K:=K) T) hr.mo (C5 T) (A0 (qpv 0) (A0 A2 A1))))
   (A3 (C6 (D8 (qpv 1))
    (A4 (B0 (A8 (A0 (B2 G4 (qpv 2) (qcK (B5 (K:=K) T) hr.mo (C5 T) (A0 (qpv 0) (A0 (qix K (C7 (A0 A2 (A0 A2 (A0 A2 (A0 A2 (A0 A2 (A0 A2 A1))))))) (qpv 3)) A1)))) (A0 A2 A1)))))
    C3)
   (A3 (qst 4 sc_a9 (B2 G4 A2 (qcK (B5 (K:=K) T) hr.mo (C5 T) (A0 (qpv 0) (A0 (qix K (C7 (A0 A2 (A0 A2 (A0 A2 (A0 A2 (A0 A2 (A0 A2 A1))))))) (qpv 3)) A1)))))
   (A4 (B0 (qcK (Q9 (K:=K) T) hr.mo (X9 T) (A0 (B2 G4 (qpv 2) (qcK (B5 (K:=K) T) hr.mo (C5 T) (A0 (qpv 0) (A0 (qix K (C7 (A0 A2 (A0 A2 (A0 A2 (A0 A2 (A0 (B2 A7l A2 A2) (A0 A2 A1))))))) (qpv 3)) A1)))) (A0 (qpv 4) A1))))))))),?_⟩
 refine Pu.G5 h ?_;rintro as Qp ⟨pl,le,rfl,hle,k⟩;symm;refine ⟨6,rfl,by decide,sm4 6,fun d d0 d6=>?_⟩;symm;refine ite2 (fun hp=>?_) (fun hp=>?_)
 ·obtain ⟨z,hz,e⟩:=B0t (xs:=[2,3,3,4,5,6]) d0 d6;have hb:2<=z/\z<=6:=by simp at hz; omega
  refine I0 e ?_;symm;refine ⟨z,rfl,by omega,A6f (by omega) (by omega),fun d2 g0 g1=>?_⟩;symm;rw [C1w];have s3:Sm 3 (le + d2):=J8 (B:=7) (by omega) (by omega) (by decide);exact k _ (C1n (by omega)) (fun h1=>C1m (by omega)) ((A2q s3).mono (by decide) (by decide)) fun _=>⟨A2q s3,B3f (A2q s3)⟩
 ·obtain ⟨x,hx,ex⟩:=B0t (xs:=[1,1,2,4,12,60]) d0 d6;have hbx:1<=x/\x<=60:=by simp at hx; omega
  obtain ⟨z,hz,ez⟩:=B0t (xs:=[3,9,12,30,1000000000000,90]) d0 d6;have hbz:3<=z/\z<=1000000000000:=by simp at hz; omega
  refine I0 ex ?_;symm;refine ⟨x,rfl,by omega,A6f (by omega) (by omega),fun d1 f0 f1=>?_⟩;symm;refine ⟨A8r 12,I0 ez ?_⟩;symm;refine ⟨z,rfl,by omega,A6f (by omega) (by omega),fun d2 g0 g1=>?_⟩;symm;have st:Sm 41 (le + d2):=J8 (B:=1000000000000) (by omega) (by omega) (by decide);have sb:Sm 6 (1 + d1):=J8 (B:=60) (by omega) (by omega) (by decide);refine ⟨_,_,rfl,by omega,st.mono (by decide),sb.mono (by decide),?_⟩;exact k _ (S2 (by omega) (by omega)) (fun h1=>C2h (by omega) (by omega)) (SmR.low st sb (by omega)) fun h=>absurd h hp
def A63:Pu.PSp:=fun as Q=>∃ (kd:Str) (mo:Int),as=[.st,.d (.str kd),.d (.int mo),.d (.bool false)]/\0 < mo/\mo<=5/\Kd kd/\∀ cs,OfG kd cs 100 54 244 130->OnC cs->(kd="straight"->OnP cs)->cs.length<=mo.toNat->Q (.d (offD kd cs))
def A7r (T:Txt K mg D):FnOk P w K mg base CX0 3 D.a_b4 D.d_b4 ["_law_state","_law_kind","_law_most","_law_plain"] (Pu.spOf K [.st,.dat,.dat,.dat] A63):=by
 refine T.B.F_b4.ok sc_b4 (Zz rfl) (fun cdv A outer s H vs Q E hr h=>?_);refine ⟨_,(QSs.out (A3 (qst 4 sc_b4 (B2 G4 A2 (qcK (B5 (K:=K) T) hr.mo (C5 T) (A0 (qpv 0) (A0 (qpv 2) A1)))))
   (A3 (qst 5 sc_b4 (qcK (J3 (K:=K) T) hr.mo (K3 T) (A0 (qpv 0) (A0 (qpv 3) (A0 A2 A1)))))
   (A3 (qst 6 sc_b4 (qcK (J3 (K:=K) T) hr.mo (K3 T) (A0 (qpv 0) (A0 (qpv 3) (A0 A2 A1)))))
   (A3 (E7 (i:=7) rfl sc_b4.nd rfl rfl (D5 ["_law_state","_law_plain","_law_k"] [some 0,some 3,none]) (G0 rfl T.z_range (A0 (B2 W4 (qpv 4) A2) A1)) (fun _ _ _=>(qgc 2 ["_law_state","_law_plain","_law_k"])) (fun _ _ _=>G3) (fun _ _ _=>(qcK (J3 (K:=K) T) hr.mo (K3 T) (A0 (qpv 0) (A0 (qpv 1) (A0 A2 A1))))) rfl)
   (A3 (G8 Zf rfl (F4 (K:=K) rfl (qpv 7)) (qgn 8 sc_b4)
    (A4 (qst 5 sc_b4 (qcK (D7 (K:=K) T) hr.mo (F5 T) (A0 (qpv 5) (A0 (qpv 8) A1))))))
   (A3 (qst 9 sc_b4 (C7 (A0 (A8 (A0 (qpv 5) (A0 (qpv 6) A1))) A1)))
   (A3 (qst 10 sc_b4 (A8 (A0 A2 (A0 A2 A1))))
   (A3 (G8 Zf rfl (F4 (K:=K) rfl (qpv 7)) (qgn 8 sc_b4)
    (A3 (qst 11 sc_b4 (qcK (J3 (K:=K) T) hr.mo (K3 T) (A0 (qpv 0) (A0 (qpv 3) (A0 A2 A1)))))
    (A3 (qst 5 sc_b4 (qcK (J5 (K:=K) T) hr.mo (K5 T) (A0 (qpv 5) (A0 (qpv 8) A1))))
    (A3 (qst 10 sc_b4 (qcK (D7 (K:=K) T) hr.mo (F5 T) (A0 (qpv 10) (A0 (qpv 11) A1))))
    (A3 (C6 (A9 (C8 (K:=K) rfl hr.units) (qpv 1) B1 (B6 _))
     (A4 (qst 11 sc_b4 (qcK (S5 (K:=K) T) hr.mo (V6 T) (A0 (qpv 10) (A0 (qpv 8) A1)))))
     C3)
    (A3 (qst 6 sc_b4 (qcK (D7 (K:=K) T) hr.mo (F5 T) (A0 (qpv 6) (A0 (qpv 11) A1))))
    (A4 (D6 (G9 (K:=K) rfl Z1 Z2 Z3 F2 (qpv 9) (A0 (A8 (A0 (qpv 5) (A0 (qpv 6) A1))) A1))))))))))
   (A4 (B0 (A8 (A0 (qpv 1) (A0 (qpv 9) A1)))))))))))))),?_⟩
 refine Pu.G5 h ?_;rintro as Qp ⟨kd,mo,rfl,m0,m5,hk,k⟩;symm;refine ⟨mo,rfl,m0,J8 (B:=5) (by omega) (by omega) (by decide),fun d d0 d1=>?_⟩;symm;refine ⟨_,_,rfl,.inl rfl,fun q1 q10 _ s1 _=>?_⟩;symm;refine ⟨_,_,rfl,.inl rfl,fun q2 q20 _ s2 _=>?_⟩;symm;refine ⟨by omega,by rw [J9]; omega,?_⟩;refine S9 (fun i e ys=>∃ (qs:LQ) (o:Option SV),e=[some .st,some (.d (.bool false)),o]/\ys=qs.map dq/\qs.length=i/\∀ q ∈ qs,0 < q/\SmR 41 6 q) ⟨[],_,rfl,rfl,rfl,fun _ z=>nomatch z⟩ ?_ ?_
 ·rintro i e ys hi ⟨qs,o,rfl,rfl,hl,hq⟩;symm;refine ⟨_,_,rfl,.inr rfl,fun q _ qp sq _=>?_⟩;symm;refine ⟨qs++[q],_,rfl,by rw [Zc]; rfl,by simp [hl],fun c z=>(Za z).elim (hq c) fun z=>?_⟩;simp at z; subst z; exact ⟨qp rfl,sq⟩
 ·rintro e ys ⟨qs,o,rfl,rfl,hl,hq⟩;have hm:qs.length<=4:=by omega
  symm;refine R4 (fun i e=>∃ (o8:Option SV) (T':Rat),e=[some .st,some (.d (.str kd)),some (.d (.int mo)),some (.d (.bool false)),some (.d (.int (1 + d))),some (.d (dq T')),some (.d (dq q2)),some (.d (.list (qs.map dq))),o8,none,none,none]/\SmR (41 + 7 * i) (6 + 6 * i) T'/\T'=q1 + sumR (qs.take i)/\On LL ((1 + i) * 2 ^ 41) T') ⟨_,_,rfl,s1,by show q1=q1 + 0; grind,(P2 s1).mono (Nat.le_of_ble_eq_true rfl)⟩ ?_ ?_
  ·rintro i q e hqi ⟨o8,T',rfl,sT,eT,oT⟩;have hil:i < qs.length:=(Zs hqi).1;have sg:=(hq q (Zm hqi)).2;symm;refine ⟨_,_,rfl,sT.q (by omega) (by omega),sg.q (by decide) (by decide),?_⟩;symm;exact ⟨_,_,rfl,(sT.add sg).mono (by omega) (by omega),by rw [List.take_add_one,hqi,Option.toList_some,A1a,eT]; grind,(oT.add C9 (P2 sg)).mono (by rw [show 1 + (i + 1)=(1 + i) + 1 by omega,Nat.add_mul (1 + i) 1,Nat.one_mul]; exact Zv _)⟩
  ·rintro e ⟨o8,T0,rfl,sT0,eT0,oT0⟩;try rw [Zl] at oT0
   try rw [Zl] at eT0
   rw [List.take_length] at eT0;have hq0:∀ q ∈ qs,0 < q:=fun q hq'=>(hq q hq').1;have sT0:SmR 69 30 T0:=sT0.mono (by omega) (by omega);symm;refine R4 (fun i e=>∃ (o8 o11:Option SV) (T' P' R':Rat) (cs:LR),e=[some .st,some (.d (.str kd)),some (.d (.int mo)),some (.d (.bool false)),some (.d (.int (1 + d))),some (.d (dq T')),some (.d (dq P')),some (.d (.list (qs.map dq))),o8,some (.own ((cs++[(T',P')]).map dcn)),some (.d (dq R')),o11] /\
    SmR (69 + 7 * i) (30 + 6 * i) T'/\SmR (116 + 32 * i) (6 + 31 * i) P'/\SmR (41 + 7 * i) (1 + 6 * i) R'/\(On LL ((6 + i) * 2 ^ 41) T'/\On (LL * LL) ((1 + i) * 2 ^ 85) P'/\On LL (i * 2 ^ 41) R'/\OnC cs/\(kd="straight"->OnP (cs++[(T',P')])))/\(T'=q1 + sumR (qs.drop i)/\0<=P'/\0<=R'/\RiseO (cs++[(T',P')])/\∀ c ∈ cs,0<=c.1/\0<=c.2)/\(kd="straight"->CvR (cs++[(T',P')]) R')/\Dec (cs++[(T',P')])/\cs.length=i/\∀ c ∈ cs,SmR 100 54 c.1/\SmR 244 130 c.2)
    ⟨_,_,T0,q2,0,[],rfl,sT0,s2.mono (by decide) (by decide),sm_zero.mono (by decide) (by decide),⟨oT0.mono (Zu _ (by omega)),((P2 s2).up C9).mono (Nat.le_of_ble_eq_true rfl),On.zero.mono (Nat.zero_le _),(fun _ z=>nomatch z),fun _=>OnP.one _⟩,⟨eT0,q20,Rat.le_refl,RiseO.one _,fun _ z=>nomatch z⟩,fun _=>CvR.one _,True.intro,rfl,fun _ z=>nomatch z⟩ ?_ ?_
   ·rintro i q e hqi ⟨o8,o11,T',P',R',cs,rfl,sT,sP,sR,⟨oT,oP,oR,oC,oS⟩,⟨eT,P0,R0,up,nn⟩,cv,dec,hcl,hcs⟩;have hil:i < qs.length:=(Zs hqi).1;obtain ⟨qp,sg⟩:=hq q (Zm hqi);have ed:qs.drop i=q :: qs.drop (i + 1):=by rw [List.drop_eq_getElem_cons hil]; congr 1; exact (Zs hqi).2
    have eT2:T' - q=q1 + sumR (qs.drop (i + 1)):=by
     rw [ed] at eT;have:sumR (q :: qs.drop (i + 1))=q + sumR (qs.drop (i + 1)):=rfl;rw [this] at eT; grind
    have nT2:=A0j (qs:=qs.drop (i + 1)) fun x hx=>hq0 x (List.mem_of_mem_drop hx);have nT:=A0j (qs:=qs.drop i) fun x hx=>hq0 x (List.mem_of_mem_drop hx);symm;refine ⟨_,_,rfl,.inr rfl,fun v1 _ vp sv1 _=>?_⟩;have v0:=vp rfl;have nn':∀ c ∈ cs++[(T',P')],0<=c.1/\0<=c.2:=fun c hc=>by
     rcases Za hc with z | z
     ·exact nn c z
     ·cases Zn z;exact ⟨by show 0<=T'; rw [eT]; grind,P0⟩
    symm;refine ⟨_,_,rfl,sT.q (by omega) (by omega),sg.q (by decide) (by decide),?_⟩;symm;refine ⟨_,_,rfl,sR.q (by omega) (by omega),sv1.q (by decide) (by decide),?_⟩;symm;have hi4:i < 4:=by omega
    have oT2:On LL ((6 + (i + 1)) * 2 ^ 41) (T' - q):=(oT.sub C9 (P2 sg)).mono (by rw [show 6 + (i + 1)=(6 + i) + 1 by omega,Nat.add_mul (6 + i) 1,Nat.one_mul]; exact Zv _);have oR2:On LL ((i + 1) * 2 ^ 41) (R' + v1):=(oR.add C9 (P2 sv1)).mono (by rw [Nat.add_mul,Nat.one_mul]; exact Zv _);have oC2:OnC (cs++[(T',P')]):=fun c hc=>by
     rcases Za hc with z | z
     ·exact oC c z
     ·cases Zn z;exact ⟨oT.mono (Zx (Zu _ (show 6 + i<=16 by omega)) (Nat.le_of_ble_eq_true rfl)),oP.mono (Zx (Zu _ (show 1 + i<=16 by omega)) (Nat.le_of_ble_eq_true rfl))⟩
    have sT2:SmR (69 + 7 * (i + 1)) (30 + 6 * (i + 1)) (T' - q):=(sT.sub sg).mono (by omega) (by omega);have sR2:SmR (41 + 7 * (i + 1)) (1 + 6 * (i + 1)) (R' + v1):=(sR.add sv1).mono (by omega) (by omega);refine ⟨hk.lay,A73,?_⟩;refine ite2 (fun h2=>?_) (fun h2=>?_);case' refine_1 =>
     refine ⟨_,_,rfl,sR2.q (by omega) (by omega),sg.q (by decide) (by decide),?_⟩;symm;have sv2:SmR 110 31 ((R' + v1) * q):=(sR2.mul sg).mono (by omega) (by omega);obtain ⟨v2,ev2⟩:∃ v2,v2=(R' + v1) * q:=⟨_,rfl⟩;rw [<- ev2] at sv2 ⊢;have hv:kd="straight"->v2=(R' + v1) * q:=fun _=>ev2;have ov:On (LL * LL) (2 ^ 85) v2:=by rw [ev2]; exact (oR2.mul (P2 sg)).mono (Zx (Zu _ (Zu _ (show i + 1<=8 by omega))) (Nat.le_of_ble_eq_true rfl))
     have w0:0 < v2:=by rw [ev2]; exact Rat.mul_pos (by grind) qp
    case' refine_2 =>
     have sv2:SmR 110 31 v1:=sv1.mono (by decide) (by decide);have hv:kd="straight"->v1=(R' + v1) * q:=fun z=>absurd (by rw [z]; exact C1r) h2;have ov:On (LL * LL) (2 ^ 85) v1:=((P2 sv1).up C9).mono (Nat.le_of_ble_eq_true rfl);have w0:0 < v1:=v0
    all_goals
     refine ⟨_,_,rfl,sP.q (by omega) (by omega),sv2.q (by decide) (by decide),?_⟩;symm;refine ⟨by simp; omega,_,_,_,_,_,cs++[(T',P')],by simp only [List.map_append]; rfl,sT2,(sP.add sv2).mono (by omega) (by omega),sR2,⟨oT2,(oP.add (Nat.mul_pos C9 C9) ov).mono (by rw [show 1 + (i + 1)=(1 + i) + 1 by omega,Nat.add_mul (1 + i) 1,Nat.one_mul]; exact Zv _),oR2,oC2,fun z=>(oS z).snoc (by rw [((cv z).step qp (vp rfl) (hv z)).2 cs _ _ (by simp)]; exact oR2.mono (Zx (Zu _ (show i + 1<=8 by omega)) (Nat.le_of_ble_eq_true rfl)))⟩,⟨eT2,by grind,by grind,RiseO.snoc up (by show T' - q < T'; grind) (by show P' < P' + _; grind),nn'⟩,fun z=>(cv z).step qp (vp rfl) (hv z),Dec.snoc dec (by show T' - q < T'; grind),by simp [hcl],fun c hc=>?_⟩;rcases Za hc with z | z
     ·exact hcs c z
     ·cases Zn z;exact ⟨sT.mono (by omega) (by omega),sP.mono (by omega) (by omega)⟩
   ·rintro e ⟨o8,o11,T',P',R',cs,rfl,sT,sP,sR,⟨oT,oP,oR,oC,oS⟩,⟨eT,P0,R0,up,nn⟩,cv,dec,hcl,hcs⟩;symm;have nT:=A0j (qs:=qs.drop (qs.map dq).length) fun x hx=>hq0 x (List.mem_of_mem_drop hx);have hl4:(qs.map dq).length<=4:=by rw [Zl]; exact hm
    refine k _ ⟨⟨by simp,by simp; omega,dec,fun c hc=>?_⟩,fun c hc=>?_,up,fun z=>(cv z).1⟩ (fun c hc=>?_) oS (by simp; omega)
    ·rcases Za hc with z | z
     ·exact hcs c z
     ·simp at z; subst z; exact ⟨sT.mono (by omega) (by omega),sP.mono (by omega) (by omega)⟩
    ·rcases Za hc with z | z
     ·exact nn c z
     ·simp at z; subst z; exact ⟨by show 0<=T'; rw [eT]; grind,P0⟩
    ·rcases Za hc with z | z
     ·exact oC c z
     ·cases Zn z;exact ⟨oT.mono (Zx (Zu _ (show 6 + _<=16 by omega)) (Nat.le_of_ble_eq_true rfl)),oP.mono (Zx (Zu _ (show 1 + _<=16 by omega)) (Nat.le_of_ble_eq_true rfl))⟩
def A60:Pu.PSp:=fun as Q=>∃ (ns:List Int) (kz:List Str),as=[.bor (ns.map .int),.d (.list (kz.map .str))]/\ns.length<=63/\1<=kz.length/\kz.length<=3/\(∀ z ∈ kz,Kd z)/\∀ n xs vs us,ShOk n xs vs us->Q (.d (shD xs vs us))
def A7p (T:Txt K mg D):FnOk P w K mg base CX0 4 D.a_b7 D.d_b7 ["_law_script","_law_kinds"] (Pu.spOf K [.vw,.dat] A60):=by
 refine T.B.F_b7.ok sc_b7 (Zz rfl) (fun cdv A outer s H vs Q E hr h=>?_);refine ⟨_,(QSs.out (A3 (qst 2 sc_b7 (qcK (K8 (K:=K) T) hr.mo (O5 T) (A0 (qpv 0) (A0 A2 A1))))
   (A3 (qst 3 sc_b7 (qix K (C7 (A0 A2 (A0 A2 (A0 A2 (A0 A2 (A0 A2 (A0 A2 (A0 A2 (A0 A2 A1))))))))) (qcK (B5 (K:=K) T) hr.mo (C5 T) (A0 (qpv 2) (A0 A2 A1)))))
   (A3 (qst 4 sc_b7 (B2 G4 A2 (qcK (B5 (K:=K) T) hr.mo (C5 T) (A0 (qpv 2) (A0 A2 A1)))))
   (A3 (qst 5 sc_b7 (qcK (B5 (K:=K) T) hr.mo (C5 T) (A0 (qpv 2) (A0 A2 A1))))
   (A3 (qst 6 sc_b7 (B2 D9 A2 (P8 A2d (by rfl) T.z_int (by rfl) (A0 (G6 (C8 (K:=K) rfl hr.units) (qcK (B5 (K:=K) T) hr.mo (C5 T) (A0 (qpv 2) (A0 A2 A1))) A2 (B6 _)) A1))))
   (A3 (qst 7 sc_b7 (C7 A1))
   (A3 (G8 Zf rfl (G0 rfl T.z_range (A0 (qpv 3) A1)) (qgn 8 sc_b7)
    (A3 (qst 9 sc_b7 (qcK (K8 (K:=K) T) hr.mo (O5 T) (A0 (qpv 0) (A0 (B2 G4 A2 (qpv 8)) A1))))
    (A3 (qst 10 sc_b7 (qix K (qpv 1) (qcK (B5 (K:=K) T) hr.mo (C5 T) (A0 (qpv 9) (A0 (qln K T.z_len (qpv 1)) A1)))))
    (A4 (D6 (G9 (K:=K) rfl Z1 Z2 Z3 F2 (qpv 7) (A0 (A8 (A0 (B2 B49 (qix K B1 (qpv 8)) (qpv 4)) (A0 (qcK (A7r (K:=K) T) hr.mo (B1r T) (A0 (qpv 9) (A0 (qpv 10) (A0 A2 (A0 J4 A1))))) A1))) A1)))))))
   (A3 (qst 11 sc_b7 (C7 A1))
   (A3 (qst 12 sc_b7 (C7 A1))
   (A3 (G8 Zf rfl (A4y rfl T.z_range (A0 A2 (A0 (B2 G4 (D1 (A8y rfl) (by rfl) T.z_max (by rfl) (A0 (B2 G4 A2 (qpv 5)) (A0 (D1 (A8w rfl) (by rfl) T.z_min (by rfl) (A0 (qln K T.z_len (qpv 0)) (A0 A2 A1))) A1))) (B2 D9 A2 (qpv 6))) A1))) (qgn 8 sc_b7)
    (A3 (qst 9 sc_b7 (qcK (K8 (K:=K) T) hr.mo (O5 T) (A0 (qpv 0) (A0 (qpv 8) A1))))
    (A3 (qst 13 sc_b7 (qcK (B5 (K:=K) T) hr.mo (C5 T) (A0 (qpv 9) (A0 (qpv 3) A1))))
    (A4 (C6 (QW.pt (T4 (A9 Y3 (qpv 3) A2 (B6 _)) (T4 (A9 A5c (qcK (B5 (K:=K) T) hr.mo (C5 T) (A0 (qpv 9) (A0 A2 A1))) A2 (B6 _)) (U9 (A9 A5c (qln K T.z_len (qpv 11)) A2 (B6 _))))))
     (A4 (D6 (G9 (K:=K) rfl Z1 Z2 Z3 F2 (qpv 11) (A0 (A8 (A0 (qpv 13) (A0 (B2 Q4 (B2 G4 (B2 G4 (qpv 13) A2) (qcK (B5 (K:=K) T) hr.mo (C5 T) (A0 (qpv 9) (A0 (B2 W4 (qpv 3) A2) A1)))) (qpv 3)) A1))) A1))))
     (A4 (C6 (A9 A5c (qln K T.z_len (qpv 12)) A2 (B6 _))
      (A4 (D6 (G9 (K:=K) rfl Z1 Z2 Z3 F2 (qpv 12) (A0 (A8 (A0 (qix K (C7 (A0 B1 (A0 B1 (A0 B1 A1)))) (qcK (B5 (K:=K) T) hr.mo (C5 T) (A0 (qpv 9) (A0 A2 A1)))) (A0 (qpv 13) A1))) A1))))
      C3)))))))
   (A4 (B0 (A8 (A0 (qpv 7) (A0 (qpv 11) (A0 (qpv 12) A1))))))))))))))))),?_⟩
 refine Pu.G5 h ?_;rintro as Qp ⟨ns,kz,rfl,hns,k1,k3,hkz,k⟩;right;refine ⟨ns,_,rfl,by decide,by decide,?_⟩;symm;left;refine ⟨8,rfl,by decide,sm4 8,fun d d0 d1=>?_⟩;symm;obtain ⟨n,⟨n0,n1⟩,en⟩:=B50 d0 d1;refine I0 en ?_;symm;left;refine ⟨8,rfl,by decide,sm4 8,fun sz sz0 sz1=>?_⟩;symm;left;refine ⟨8,rfl,by decide,sm4 8,fun le le0 le1=>?_⟩;symm;left;refine ⟨8,rfl,by decide,sm4 8,fun fu fu0 fu1=>?_⟩;symm;refine ⟨⟨J8 (B:=40) (by omega) (by omega) (by decide),J8 (B:=1) (by split <;> omega) (by split <;> omega) (by decide)⟩,?_⟩
 obtain ⟨fl,hfl,fl0,fl1⟩:∃ fl:Int,fl=40 * (if fu=5 then 1 else 0)/\0<=fl/\fl<=40:=⟨_,rfl,by split <;> omega,by split <;> omega⟩
 rw [<- hfl];left;subst hR;refine B3i (fun e=>∃ (xs:List Wk) (o8 o9 o10:Option SV),e=[some (.bor (ns.map .int)),some (.d (.list (kz.map .str))),some .st,some (.d (.int (n:Int))),some (.d (.int (1 + sz))),some (.d (.int le)),some (.d (.int fl)),some (.own (xs.map kD)),o8,o9,o10,none,none,none]/\xs.length=n/\(∀ x ∈ xs,Kd x.2.1/\OfG x.2.1 x.2.2 100 54 244 130/\OnC x.2.2/\(x.2.1="straight"->OnP x.2.2))/\∀ x ∈ xs,(PyData.str x.1).canLay0=true) (fun R hR=>?_) ?_
 ·symm;refine ⟨⟨by omega,by omega⟩,U2 (fun i e=>∃ (xs:List Wk) (o8 o9 o10:Option SV),e=[some (.bor (ns.map .int)),some (.d (.list (kz.map .str))),some .st,some (.d (.int (n:Int))),some (.d (.int (1 + sz))),some (.d (.int le)),some (.d (.int fl)),some (.own (xs.map kD)),o8,o9,o10,none,none,none]/\xs.length=i/\(∀ x ∈ xs,Kd x.2.1/\OfG x.2.1 x.2.2 100 54 244 130/\OnC x.2.2/\(x.2.1="straight"->OnP x.2.2))/\∀ x ∈ xs,(PyData.str x.1).canLay0=true) ⟨[],_,_,_,rfl,rfl,(fun _ z=>nomatch z),fun _ z=>nomatch z⟩ ?_ ?_⟩
  ·rintro i e hi ⟨xs,o8,o9,o10,rfl,hl,hx,hn⟩;have hin:i < n:=by simpa using hi
   right;refine ⟨ns,_,rfl,by omega,by omega,?_⟩;symm;left;refine ⟨(kz.length:Int),by simp,by omega,J8 (B:=3) (by omega) (by omega) (by decide),fun g g0 g1=>?_⟩;symm;obtain ⟨gj,rfl⟩:=Zi g0;have hgj:gj < kz.length:=by omega
   have eg:L2.atI (kz.map PyData.str) (gj:Int)=some (.str kz[gj]):=G2 (by rw [Zh,Zg hgj]; rfl);refine I0 eg ?_;symm;subst hR;symm;refine ⟨(show ltr2.length<=90000 by rw [A0x]; decide),?_⟩;refine getS (z:=ltr2) (by rw [A0x]; decide) B0v (by omega) (by rw [A0x]; omega) (fun c hc=>?_);rw [show sgn c=PyData.str ⟨#[c]⟩ from rfl];symm;refine ⟨⟨by omega,by omega⟩,(show 1<=100 by decide),kz[gj],5,rfl,by decide,by decide,hkz _ (List.getElem_mem hgj),fun cs og oc op ol=>?_⟩;symm;refine ⟨by omega,xs++[(Txt.mul ⟨#[c]⟩ (1 + sz),kz[gj],cs)],_,_,_,by rw [Zc]; rfl,by rw [Ze,hl]; rfl,fun x hx'=>?_,fun x hx'=>?_⟩
   ·rcases Za hx' with q | q
    ·exact hx x q
    ·rw [Zn q]; exact ⟨hkz _ (List.getElem_mem hgj),og,oc,op⟩
   ·rcases Za hx' with q | q
    ·exact hn x q
    ·rw [Zn q]; exact B5z (B74 hc)
  ·rintro e ⟨xs,o8,o9,o10,rfl,hl,hx,hn⟩;exact hR _ ⟨xs,_,_,_,rfl,by simpa using hl,hx,hn⟩
 rintro e ⟨xs,o8,o9,o10,rfl,hl,hx,hn⟩;right;left;subst hR;symm;refine ⟨⟨J8 (B:=2) (by omega) (by omega) (by decide),J8 (B:=40) (by omega) (by omega) (by decide)⟩,?_⟩;have hM:0<=(if (if 40 < (ns.length:Int) then 40 else (ns.length:Int)) > 7 + le then if 40 < (ns.length:Int) then 40 else (ns.length:Int) else 7 + le) + 2 * fl/\(if (if 40 < (ns.length:Int) then 40 else (ns.length:Int)) > 7 + le then if 40 < (ns.length:Int) then 40 else (ns.length:Int) else 7 + le) + 2 * fl<=120:=by
  split <;> split <;> omega
 generalize (if (if 40 < (ns.length:Int) then 40 else (ns.length:Int)) > 7 + le then if 40 < (ns.length:Int) then 40 else (ns.length:Int) else 7 + le) + 2 * fl=M at hM ⊢;refine ⟨⟨by decide,by decide,by omega,by omega⟩,U2 (fun i e=>∃ (vs:List (Int × Int)) (us:List (Str × Int)) (o8 o9 o10 o13:Option SV),e=[some (.bor (ns.map .int)),some (.d (.list (kz.map .str))),some .st,some (.d (.int (n:Int))),some (.d (.int (1 + sz))),some (.d (.int le)),some (.d (.int fl)),some (.own (xs.map kD)),o8,o9,o10,some (.own (vs.map pD)),some (.own (us.map qD)),o13]/\ShOk n xs vs us) ⟨[],[],_,_,_,_,rfl,hl,n0,n1,hx,hn,Nat.zero_le _,(fun _ z=>nomatch z),Nat.zero_le _,(fun _ z=>nomatch z),fun _ z=>nomatch z⟩ ?_ ?_⟩
 ·rintro i e hi ⟨vs,us,o8,o9,o10,o13,rfl,ok⟩;have vl:=ok.vl;have ul:=ok.ul;right;refine ⟨ns,_,rfl,by omega,by omega,?_⟩;symm;left;refine ⟨(n:Int),rfl,by omega,J8 (B:=10) (by omega) (by omega) (by decide),fun a a0 a1=>?_⟩;symm;subst hR;symm;refine ite2 (fun h1=>?_) (fun h1=>?_)
  ·refine ⟨3,rfl,by decide,sm4 3,fun t t0 t1=>?_⟩;symm;refine ite2 (fun h3=>ite2 (fun h4=>?_) (fun h4=>?_)) (fun h3=>?_)
   ·refine ⟨(n:Int) - 1,rfl,by omega,J8 (B:=10) (by omega) (by omega) (by decide),fun b b0 b1=>?_⟩;symm;exact ⟨by omega,by omega,vs++[(a,(a + 1 + b) % (n:Int))],us,_,_,_,_,by rw [Zc]; rfl,ok.addV ⟨a0,a1⟩ ⟨Int.emod_nonneg _ (by omega),Int.emod_lt_of_pos _ (by omega)⟩ (by omega) (C0n a0 a1 b0 (by omega))⟩
   all_goals
    refine ite2 (fun h2=>?_) (fun h2=>⟨vs,us,_,_,_,_,rfl,ok⟩);refine ⟨3,rfl,by decide,sm4 3,fun g g0 g1=>?_⟩;symm;obtain ⟨kd,hkd,ek⟩:=B2q g0 g1;refine I0 ek ?_;symm;exact ⟨by omega,vs,us++[(kd,a)],_,_,_,_,by rw [Zc]; rfl,ok.addU ⟨a0,a1⟩ hkd (by omega)⟩
  ·refine ite2 (fun h2=>?_) (fun h2=>⟨vs,us,_,_,_,_,rfl,ok⟩);refine ⟨3,rfl,by decide,sm4 3,fun g g0 g1=>?_⟩;symm;obtain ⟨kd,hkd,ek⟩:=B2q g0 g1;refine I0 ek ?_;symm;exact ⟨by omega,vs,us++[(kd,a)],_,_,_,_,by rw [Zc]; rfl,ok.addU ⟨a0,a1⟩ hkd (by omega)⟩
 rintro e ⟨vs,us,o8,o9,o10,o13,rfl,ok⟩;symm;exact k n xs vs us ok
def A91:Pu.PSp:=fun as Q=>∃ (n:Nat) (xs:List Wk) (vs:List (Int × Int)) (us:List (Str × Int)),as=[.d (shD xs vs us),.st]/\ShOk n xs vs us/\∀ arcs:List (Str × Int),arcs.length<=12->(∀ a ∈ arcs,ArOk n vs.length us.length a)->(∀ v,My.S (arcs.map fun a=>dfA n vs us a v)=0)->Q (.own (arcs.map qD))
def B0i (T:Txt K mg D):FnOk P w K mg base CX0 2 D.a_c2 D.d_c2 ["_law_shape_here","_law_state"] (Pu.spOf K [.dat,.st] A91):=by
 refine T.B.F_c2.ok sc_c2 (Zz rfl) (fun cdv A outer s H vs Q E hr h=>?_);refine ⟨_,(QSs.out (A3 (C0 (qpv 0) (B9 (K:=K) (n:=3) rfl rfl (A5 (qgn 2 sc_c2) (A5 (P7 (i:=3) sc_c2.nd rfl (Or.inr rfl) (Or.inl rfl)) (A5 (P7 (i:=4) sc_c2.nd rfl (Or.inr rfl) (Or.inl rfl)) B8))) rfl rfl))
   (A3 (N8 (i:=5) sc_c2.nd rfl (Or.inr rfl) (qcK (B5 (K:=K) T) hr.mo (C5 T) (A0 (qpv 1) (A0 (qln K T.z_len (qpv 2)) A1))))
   (A3 (N8 (i:=6) sc_c2.nd rfl (Or.inr rfl) (C7 (A0 (qpv 5) A1)))
   (A3 (qst 7 sc_c2 (C7 A1))
   (A3 (qst 8 sc_c2 J4)
   (A3 (W1 Zf (D8 (qpv 8))
    (A3 (E7 (i:=9) rfl sc_c2.nd rfl rfl (D5 ["_law_work","_law_waits","_law_k"] [some 5,some 3,none]) (G0 rfl T.z_range (A0 (qln K T.z_len (qpv 3)) A1)) (fun _ _ _=>(qgc 2 ["_law_work","_law_waits","_law_k"])) (fun _ _ _=>(V0 (A9 (C8 (K:=K) rfl hr.units) (qix K (qix K (qpv 1) (qpv 2)) A2) (qpv 0) (B6 _)))) (fun _ _ _=>(qpv 2)) rfl)
    (A3 (qst 8 sc_c2 (N1 (G6 (K7 (K:=K) rfl hr.units) (qpv 9) (C7 A1) (B6 _)) (O9 (G6 Y3 (qcK (B5 (K:=K) T) hr.mo (C5 T) (A0 (qpv 1) (A0 A2 A1))) A2 (B6 _)))))
    (A4 (C6 (D8 (qpv 8))
     (A3 (D6 (G9 (K:=K) rfl Z1 Z2 Z3 F2 (qpv 7) (A0 (A8 (A0 B1 (A0 (qix K (qpv 9) (qcK (B5 (K:=K) T) hr.mo (C5 T) (A0 (qpv 1) (A0 (qln K T.z_len (qpv 9)) A1)))) A1))) A1)))
     (A3 (N8 (i:=5) sc_c2.nd rfl (Or.inr rfl) (qix K (qix K (qpv 3) (qix K (qix K (qpv 7) (A6o A53 A2)) A2)) A2))
     (A3 (C6 (A9 (A2w (K:=K) rfl hr.units) (qpv 5) (qpv 6) (by with_unfolding_all rfl))
      (A4 (B0 (K1 (P6 (K:=K) rfl) (qpv 7) (M1 (G9 (K:=K) rfl Z1 PySem.F.slot_list_index PySem.F.type_list_index (U0 (K:=K) rfl hr.units) (qpv 6) (A0 (qpv 5) A1))) M2)))
      C3)
     (A4 (D6 (G9 (K:=K) rfl Z1 Z2 Z3 F2 (qpv 6) (A0 (qpv 5) A1)))))))
     C3)))))
   (A3 (qst 10 sc_c2 (B2 (O0 (K:=K) rfl) (C7 (A0 (A8 (A0 B1 (A0 (qix K (qpv 6) A2) A1))) A1)) (N9 rfl (D5 ["_law_holds","_law_seen","_law_k"] [some 4,some 6,none]) (G0 rfl T.z_range (A0 (qln K T.z_len (qpv 4)) A1)) (fun _ _ _=>(qgc 2 ["_law_holds","_law_seen","_law_k"])) (fun _ _ _=>(V0 (A9 (C8 (K:=K) rfl hr.units) (qix K (qpv 0) (qpv 2)) (A8 (A0 B1 (A0 (qix K (qpv 1) A2) A1))) (B6 _)))) (fun _ _ _=>(A8 (A0 B1 (A0 (qpv 2) A1)))))))
   (A3 (qst 11 sc_c2 (B2 (O0 (K:=K) rfl) (C7 (A0 (A8 (A0 B1 (A0 (qpv 5) A1))) A1)) (N9 rfl (D5 ["_law_holds","_law_work","_law_k"] [some 4,some 5,none]) (G0 rfl T.z_range (A0 (qln K T.z_len (qpv 4)) A1)) (fun _ _ _=>(qgc 2 ["_law_holds","_law_work","_law_k"])) (fun _ _ _=>(V0 (A9 (A2w (K:=K) rfl hr.units) (qix K (qpv 0) (qpv 2)) (C7 (A0 (A8 (A0 B1 (A0 (qpv 1) A1))) (A0 (A8 (A0 B1 (A0 (qpv 1) A1))) A1))) (by with_unfolding_all rfl)))) (fun _ _ _=>(A8 (A0 B1 (A0 (qpv 2) A1)))))))
   (A4 (B0 (B2 (O0 (K:=K) rfl) (B2 (O0 (K:=K) rfl) (C7 (A0 (qix K (qpv 10) (qcK (B5 (K:=K) T) hr.mo (C5 T) (A0 (qpv 1) (A0 (qln K T.z_len (qpv 10)) A1)))) A1)) (qpv 7)) (C7 (A0 (qix K (qpv 11) (qcK (B5 (K:=K) T) hr.mo (C5 T) (A0 (qpv 1) (A0 (qln K T.z_len (qpv 11)) A1)))) A1)))))))))))))),?_⟩
 refine Pu.G5 h ?_;rintro as Qp ⟨n,xs,vs,us,rfl,ok,k⟩;have n0:=ok.n0;have n1:=ok.n1;have ln:=ok.ln;have vl:=ok.vl;have ul:=ok.ul;unfold shD;right;left;refine ⟨(n:Int),by simp [ln],by omega,J8 (B:=10) (by omega) (by omega) (by decide),fun w0 w00 w01=>?_⟩;symm;subst hR;symm;refine ⟨fun m e=>∃ (wk:Int) (seen:List Int) (arcs:List (Str × Int)) (go:Bool) (o9:Option SV),e=[some (.d (.tuple [.list (xs.map kD),.list (vs.map pD),.list (us.map qD)])),some .st,some (.d (.list (xs.map kD))),some (.d (.list (vs.map pD))),some (.d (.list (us.map qD))),some (.d (.int wk)),some (.own (seen.map .int)),some (.own (arcs.map qD)),some (.d (.bool go)),o9,none,none]/\(wk ∈ seen/\seen.Nodup/\(∀ x ∈ seen,0<=x/\x < (n:Int))/\arcs.length + 1=seen.length/\seen.length<=n/\(∀ a ∈ arcs,ArOk n vs.length us.length a)/\Ndz n vs us seen arcs wk)/\m=if go then n + 1 - seen.length else 0,⟨_,w0,[w0],[],true,_,rfl,⟨List.mem_singleton.mpr rfl,by simp,(fun x hx=>by rw [Zn hx]; exact ⟨w00,w01⟩),rfl,by simpa using n0,(fun _ z=>nomatch z),⟨fun i a ha=>by simp at ha,rfl⟩⟩,rfl⟩,?_⟩;rintro m e ⟨wk,seen,arcs,go,o9,rfl,⟨hw,nd,hs,la,ls,ha,nz⟩,rfl⟩;obtain ⟨wk0,wk1⟩:=hs wk hw;symm;rcases go with _ | _
 ·obtain ⟨s0,es⟩:∃ z,seen[0]?=some z:=⟨_,Zg (by omega)⟩;obtain ⟨s00,s01⟩:=hs s0 (Zm es);symm;refine A6 (n:=0) es ?_;symm;refine ⟨by omega,by rw [J9]; omega,?_⟩;refine S9 (fun i e ys=>∃ (fs:List (Str × Int)) (o:Option SV),e=[some (.d (.list (us.map qD))),some (.bor (seen.map .int)),o]/\ys=fs.map qD/\fs.length<=i/\(∀ a ∈ fs,ArOk n vs.length us.length a)/\∀ a ∈ fs,arT n vs us a=n/\arH n vs us a=s0.toNat) ⟨[],_,rfl,rfl,Nat.zero_le _,(fun _ z=>nomatch z),fun _ z=>nomatch z⟩ ?_ ?_
  ·rintro i e ys hi ⟨fs,o,rfl,rfl,hl,hf,hf2⟩;obtain ⟨u,eu⟩:∃ u,us[i]?=some u:=⟨_,Zg (by omega)⟩;have uk:=(ok.uk u (Zm eu)).1;symm;refine A6 eu ?_;symm;refine A6 (n:=0) es ?_;symm;refine ⟨A1h uk,A1h (u:=(_,s0)) (.inl rfl),A1i u,?_⟩;refine ite2 (fun zq=>?_) (fun _=>⟨fs,_,rfl,rfl,by omega,hf,hf2⟩);have eu':u=(Str.ofString "from",s0):=A9x zq;subst eu';have aq:=ar_h (n:=n) (vs:=vs) eu;rw [if_pos rfl,if_pos rfl] at aq;exact ⟨fs++[(Str.ofString "hold",(i:Int))],_,rfl,by rw [Zc]; rfl,by rw [Ze,List.length_singleton]; omega,ArOk.snoc hf (by omega),fun a h=>by
    rcases Za h with h | h
    ·exact hf2 a h
    ·rw [Zn h]; exact aq⟩
  ·rintro e ys ⟨fs,o,rfl,rfl,hl,hf,hf2⟩;symm;refine ⟨by omega,by omega,by rw [J9]; omega,?_⟩;refine S9 (fun i e ys=>∃ (gs:List (Str × Int)) (o:Option SV),e=[some (.d (.list (us.map qD))),some (.d (.int wk)),o]/\ys=gs.map qD/\gs.length<=i/\(∀ a ∈ gs,ArOk n vs.length us.length a)/\∀ a ∈ gs,arT n vs us a=wk.toNat/\arH n vs us a=n) ⟨[],_,rfl,rfl,Nat.zero_le _,(fun _ z=>nomatch z),fun _ z=>nomatch z⟩ ?_ ?_
   ·rintro i e ys hi ⟨gs,o,rfl,rfl,hl,hf,hf3⟩;obtain ⟨u,eu⟩:∃ u,us[i]?=some u:=⟨_,Zg (by omega)⟩;have uk:=(ok.uk u (Zm eu)).1;symm;refine A6 eu ?_;symm;refine ⟨by show ((qD (Str.ofString "till",wk)).canLay0 && ((qD (Str.ofString "by",wk)).canLay0 && true))=true; rw [A1h (.inr (.inl rfl)),A1h (.inr (.inr rfl))]; rfl,A1h uk,A1i u,?_⟩;refine ite2 (fun zq=>?_) (fun _=>⟨gs,_,rfl,rfl,by omega,hf,hf3⟩);have aq:arT n vs us (Str.ofString "hold",(i:Int))=wk.toNat/\arH n vs us (Str.ofString "hold",(i:Int))=n:=by
     have zz:u=(Str.ofString "till",wk)\/u=(Str.ofString "by",wk):=by
      obtain ⟨x,hx,e⟩:=List.any_eq_true.mp zq;simp only [List.mem_cons,List.not_mem_nil,or_false] at hx;rcases hx with rfl | rfl
      ·exact .inl (A9x (u:=(Str.ofString "till",wk)) e).symm
      ·exact .inr (A9x (u:=(Str.ofString "by",wk)) e).symm
     have aq:=ar_h (n:=n) (vs:=vs) eu;rcases zz with rfl | rfl
     ·rw [if_neg w_tf,if_neg w_tf] at aq; exact aq
     ·rw [if_neg w_bf,if_neg w_bf] at aq; exact aq
    exact ⟨gs++[(Str.ofString "hold",(i:Int))],_,rfl,by rw [Zc]; rfl,by rw [Ze,List.length_singleton]; omega,ArOk.snoc hf (by omega),fun a h=>by
     rcases Za h with h | h
     ·exact hf3 a h
     ·rw [Zn h]; exact aq⟩
   ·rintro e ys ⟨gs,o,rfl,rfl,hl2,hg,hf3⟩;have af:∀ a ∈ (Str.ofString "start",s0) :: fs,ArOk n vs.length us.length a:=fun a h=>by
     rcases List.mem_cons.mp h with rfl | h
     ·exact ⟨s00,.inl ⟨rfl,s01⟩⟩
     ·exact hf a h
    have ag:∀ a ∈ (Str.ofString "end",wk) :: gs,ArOk n vs.length us.length a:=fun a h=>by
     rcases List.mem_cons.mp h with rfl | h
     ·exact ⟨wk0,.inr (.inl ⟨rfl,wk1⟩)⟩
     ·exact hg a h
    symm;refine ⟨by omega,((fs.length + 1:Nat):Int),by simp,by omega,J8 (B:=50) (by omega) (by omega) (by decide),fun b b0 b1=>?_⟩;symm;obtain ⟨q,rfl⟩:=Zi b0;obtain ⟨y,ey⟩:∃ z,((Str.ofString "start",s0) :: fs)[q]?=some z:=⟨_,Zg (by rw [List.length_cons]; omega)⟩;have hy:=af y (Zm ey);have hy2:arT n vs us y=n/\arH n vs us y=s0.toNat:=by
     rcases List.mem_cons.mp (Zm ey) with h | h
     ·rw [h]; exact ar_s
     ·exact hf2 y h
    refine A6 (f:=qD) (xs:=(Str.ofString "start",s0) :: fs) ey ?_;symm;refine ⟨by omega,((gs.length + 1:Nat):Int),by simp,by omega,J8 (B:=50) (by omega) (by omega) (by decide),fun b b0 b1=>?_⟩;symm;obtain ⟨q,rfl⟩:=Zi b0;obtain ⟨z,ez⟩:∃ z,((Str.ofString "end",wk) :: gs)[q]?=some z:=⟨_,Zg (by rw [List.length_cons]; omega)⟩;have hz:=ag z (Zm ez);have hz2:arT n vs us z=wk.toNat/\arH n vs us z=n:=by
     rcases List.mem_cons.mp (Zm ez) with h | h
     ·rw [h]; exact ar_e
     ·exact hf3 z h
    refine A6 (f:=qD) (xs:=(Str.ofString "end",wk) :: gs) ez ?_;symm;have k2:=k ([y]++arcs++[z]) (by simp; omega) (fun a h=>by
     rcases Za h with h | h
     ·rcases Za h with h | h
      ·rw [Zn h]; exact hy
      ·exact ha a h
     ·rw [Zn h]; exact hz) (nz.way la es hy2 hz2)
    rw [Zc,Zc] at k2;exact ⟨by omega,k2⟩
 ·symm;refine ⟨by omega,by rw [J9]; omega,?_⟩;refine S9 (fun i e ys=>∃ (js:List Int) (o:Option SV),e=[some (.d (.int wk)),some (.d (.list (vs.map pD))),o]/\ys=js.map .int/\js.length<=i/\∀ j ∈ js,(0<=j/\j < (vs.length:Int))/\∃ v,vs[j.toNat]?=some v/\v.1=wk) ⟨[],_,rfl,rfl,Nat.zero_le _,fun _ z=>nomatch z⟩ ?_ ?_
  ·rintro i e ys hi ⟨js,o,rfl,rfl,hl,hj⟩;obtain ⟨v,ev⟩:∃ v,vs[i]?=some v:=⟨_,Zg (by omega)⟩;symm;refine A6 ev ?_;unfold pD;symm;refine ite2 (fun zq=>?_) (fun _=>⟨js,_,rfl,rfl,by omega,hj⟩);symm;refine ⟨js++[(i:Int)],_,rfl,by rw [Zc]; rfl,by rw [Ze,List.length_singleton]; omega,fun j hj'=>?_⟩;rcases Za hj' with z | z
   ·exact hj j z
   ·rw [Zn z]; exact ⟨by omega,v,by rw [Int.toNat_natCast]; exact ev,zq⟩
  ·rintro e ys ⟨js,o,rfl,rfl,hl,hj⟩;symm;refine ⟨V3 js,A15 js,?_⟩;rw [A4i];have stop:∀ o9:Option SV,∃ m',m' < n + 1 - seen.length/\∃ (wk_1:Int) (seen_1:List Int) (arcs_1:List (Str × Int)) (go:Bool) (o9':Option SV),[some (SV.d (.tuple [.list (xs.map kD),.list (vs.map pD),.list (us.map qD)])),some .st,some (.d (.list (xs.map kD))),some (.d (.list (vs.map pD))),some (.d (.list (us.map qD))),some (.d (.int wk)),some (.own (seen.map .int)),some (.own (arcs.map qD)),some (.d (.bool false)),o9,none,none]=[some (SV.d (.tuple [.list (xs.map kD),.list (vs.map pD),.list (us.map qD)])),some .st,some (.d (.list (xs.map kD))),some (.d (.list (vs.map pD))),some (.d (.list (us.map qD))),some (.d (.int wk_1)),some (.own (seen_1.map .int)),some (.own (arcs_1.map qD)),some (.d (.bool go)),o9',none,none]/\(wk_1 ∈ seen_1/\seen_1.Nodup/\(∀ x ∈ seen_1,0<=x/\x < (n:Int))/\arcs_1.length + 1=seen_1.length/\seen_1.length<=n/\(∀ a ∈ arcs_1,ArOk n vs.length us.length a)/\Ndz n vs us seen_1 arcs_1 wk_1)/\m'=if go=true then n + 1 - seen_1.length else 0:=fun o9=>⟨0,by omega,wk,seen,arcs,false,o9,rfl,⟨hw,nd,hs,la,ls,ha,nz⟩,rfl⟩;refine ite2 (fun hn=>?_) (fun hn=>stop _);refine ⟨4,rfl,by decide,sm4 4,fun d d0 d1=>?_⟩;symm;refine ite2 (fun hdd=>?_) (fun hdd=>by rw [Zd hdd]; exact stop _);have jp:0 < js.length:=by cases js with | nil=>cases hn | cons a r=>exact Nat.succ_pos _
   refine ⟨(js.length:Int),by simp,by omega,J8 (B:=40) (by omega) (by omega) (by decide),fun b b0 b1=>?_⟩;symm;obtain ⟨q,rfl⟩:=Zi b0;obtain ⟨z,ez⟩:∃ z,js[q]?=some z:=⟨_,Zg (by omega)⟩;obtain ⟨⟨z0,z1⟩,zv⟩:=hj z (Zm ez);refine A6 ez ?_;symm;refine ⟨by omega,?_⟩;have ea:arcs.map qD++[PyData.tuple [.str (Str.ofString "wait"),.int z]]=(arcs++[(Str.ofString "wait",z)]).map qD:=by rw [Zc]; rfl
   obtain ⟨u,rfl⟩:=Zi z0;obtain ⟨v,ev⟩:∃ v,vs[u]?=some v:=⟨_,Zg (by omega)⟩;obtain ⟨_,v0,v1⟩:=ok.vk v (Zm ev);have v1k:v.1=wk:=by obtain ⟨v',e1,e2⟩:=zv; rw [Int.toNat_natCast,ev] at e1; cases e1; exact e2
   have aw:=ar_w (n:=n) (us:=us) ev;rw [v1k] at aw;have ha2:∀ a ∈ arcs++[(Str.ofString "wait",(u:Int))],ArOk n vs.length us.length a:=fun a hm=>by
    rcases Za hm with y | y
    ·exact ha a y
    ·rw [Zn y]; exact ⟨z0,.inr (.inr (.inl ⟨rfl,z1⟩))⟩
   rw [ea];refine A7g (a:=(Str.ofString "wait",(u:Int))) (by simp) (by simp) ?_;rw [show qD (Str.ofString "wait",(u:Int))=PyData.tuple [.str (Str.ofString "wait"),.int (u:Int)] from rfl];symm;refine A6 ev ?_;rw [show pD v=PyData.tuple [.int v.1,.int v.2] from rfl];symm;refine ⟨A1y seen,?_⟩;refine ite2 (fun hy=>?_) (fun hy=>?_)
   ·obtain ⟨p,hp⟩:∃ p,(seen.map PyData.int).findIdx? (fun z=>z.eqv (PyData.int v.2))=some p:=by
     rcases e:(seen.map PyData.int).findIdx? (fun z=>z.eqv (PyData.int v.2)) with _ | p
     ·rw [List.findIdx?_eq_none_iff] at e;obtain ⟨y,y1,y2⟩:=List.any_eq_true.mp hy;rw [e y y1] at y2; cases y2
     ·exact ⟨p,e⟩
    refine ⟨A1y seen,by omega,p,hp,?_⟩;obtain ⟨hpl,hpe,_⟩:=List.findIdx?_eq_some_iff_getElem.mp hp;have hps:seen[p]?=some v.2:=by
     rw [Zl] at hpl;rw [List.getElem_map,X2] at hpe;rw [Zg hpl,of_decide_eq_true hpe]
    have hpl':=(Zs hps).1;rw [A4m (by rw [Ze,List.length_singleton]; omega)];exact k _ (by rw [List.length_drop,Ze,List.length_singleton]; omega) (fun a h=>ha2 a (List.mem_of_mem_drop h)) (nz.ring la aw hps)
   ·have nin:v.2 ∉ seen:=fun hm=>hy (List.any_eq_true.mpr ⟨_,List.mem_map_of_mem hm,by first | exact eqv_int_self _ | decide | simp [PyData.eqv]⟩);have nd2:(seen++[v.2]).Nodup:=List.nodup_append.mpr ⟨nd,by simp,fun a h b h2=>by rw [Zn h2]; exact fun e=>nin (e ▸ h)⟩;have hs2:∀ x ∈ seen++[v.2],0<=x/\x < (n:Int):=fun x hx=>by
     rcases Za hx with y | y
     ·exact hs x y
     ·rw [Zn y]; exact ⟨v0,v1⟩
    have l2:=B0r nd2 hs2;rw [Ze,List.length_singleton] at l2;rw [show seen.map PyData.int++[PyData.int v.2]=(seen++[v.2]).map PyData.int from by rw [Zc]; rfl,Zk hdd];refine ⟨by omega,n - seen.length,by omega,v.2,seen++[v.2],arcs++[(Str.ofString "wait",(u:Int))],true,_,rfl,⟨by simp,nd2,hs2,by simp; omega,by simp; omega,ha2,nz.snoc la aw⟩,?_⟩;rw [if_pos rfl,Ze,List.length_singleton]; omega
def A93:Pu.PSp:=fun as Q=>∃ (n:Nat) (xs:List Wk) (vs:List (Int × Int)) (us:List (Str × Int)),as=[.d (shD xs vs us),.st]/\ShOk n xs vs us/\∀ q,0 < q->On LL (2 ^ 45) q->Q (.d (dq q))
def B0k (T:Txt K mg D):FnOk P w K mg base CX0 3 D.a_be D.d_be ["_law_shape_here","_law_state"] (Pu.spOf K [.dat,.st] A93):=by
 refine T.B.F_be.ok sc_be (Zz rfl) (fun cdv A outer s H vs Q E hr h=>?_);refine ⟨_,(QSs.out (A3 (C0 (qix K (qix K (qix K (qpv 0) A2) (qcK (B5 (K:=K) T) hr.mo (C5 T) (A0 (qpv 1) (A0 (qln K T.z_len (qix K (qpv 0) A2)) A1)))) A2) (B9 (K:=K) (n:=2) rfl rfl (A5 (qgn 2 sc_be) (A5 (qgn 3 sc_be) B8)) rfl rfl))
   (A3 (qst 4 sc_be (qcK (J3 (K:=K) T) hr.mo (K3 T) (A0 (qpv 1) (A0 J4 (A0 A2 A1)))))
   (A3 (C6 (QW.pt (T4 (A9 (C8 (K:=K) rfl hr.units) (qpv 2) B1 (B6 _)) (T4 (A9 Y3 (qln K T.z_len (qpv 3)) A2 (B6 _)) (U9 (A9 Y3 (qcK (B5 (K:=K) T) hr.mo (C5 T) (A0 (qpv 1) (A0 A2 A1))) A2 (B6 _))))))
    (A3 (qst 5 sc_be (B2 G4 A2 (qcK (B5 (K:=K) T) hr.mo (C5 T) (A0 (qpv 1) (A0 (B2 W4 (qln K T.z_len (qpv 3)) A2) A1)))))
    (A3 (qst 6 sc_be (qcK (J5 (K:=K) T) hr.mo (K5 T) (A0 (qix K (qix K (qpv 3) (qpv 5)) A2) (A0 (qix K (qix K (qpv 3) (B2 W4 (qpv 5) A2)) A2) A1))))
    (A3 (qst 7 sc_be (qcK (J5 (K:=K) T) hr.mo (K5 T) (A0 (qix K (qix K (qpv 3) (B2 W4 (qpv 5) A2)) A2) (A0 (qix K (qix K (qpv 3) (qpv 5)) A2) A1))))
    (A4 (qst 4 sc_be (qcK (Q9 (K:=K) T) hr.mo (X9 T) (A0 (B2 D9 (qix K (qpv 6) A2) (qix K (qpv 7) A2)) (A0 (B2 D9 (qix K (qpv 6) A2) (qix K (qpv 7) A2)) A1))))))))
    C3)
   (A4 (B0 (qpv 4))))))),?_⟩
 refine Pu.G5 h ?_;rintro as Qp ⟨n,xs,vs,us,rfl,ok,k⟩;have n0:=ok.n0;have n1:=ok.n1;have ln:=ok.ln;unfold shD;symm;refine ⟨(n:Int),by simp [ln],by omega,J8 (B:=10) (by omega) (by omega) (by decide),fun a a0 a1=>?_⟩;symm;obtain ⟨i,rfl⟩:=Zi a0;obtain ⟨x,ex⟩:∃ c,xs[i]?=some c:=⟨_,Zg (by omega)⟩;obtain ⟨hk,og,oc,op⟩:=ok.of x (Zm ex);have n5:=og.ok.le;refine A6 ex ?_;unfold kD offD;symm;refine ⟨_,_,rfl,.inr rfl,fun q q0 qp sq _=>?_⟩;have kq:=k q (qp rfl) ((P2 sq).p2 (by decide));symm;refine ⟨hk.lay,A73,?_⟩;refine ite2 (fun hst=>?_) (fun _=>kq);refine ite2 (fun hl=>?_) (fun _=>kq);refine ⟨3,rfl,by decide,sm4 3,fun t t0 t1=>?_⟩;symm;refine ite2 (fun _=>?_) (fun _=>kq);refine ⟨(x.2.2.length:Int) - 1,by simp,by omega,J8 (B:=5) (by omega) (by omega) (by decide),fun j j0 j1=>?_⟩;symm;obtain ⟨m,rfl⟩:=Zi j0;obtain ⟨c,ec⟩:∃ c,x.2.2[m]?=some c:=⟨_,Zg (by omega)⟩;obtain ⟨d,ed⟩:∃ c,x.2.2[m + 1]?=some c:=⟨_,Zg (by omega)⟩;have e1:(1:Int) + (m:Int)=((m + 1:Nat):Int):=by omega
 have e2:((m + 1:Nat):Int) - 1=(m:Int):=by omega
 obtain ⟨c1,c2⟩:=og.ok.sm c (Zm ec);obtain ⟨d1,d2⟩:=og.ok.sm d (Zm ed);obtain ⟨g1,g2⟩:=og.up m c d ec ed;have kst:x.2.1="straight":=by
  rcases hk with z | z
  ·exact z
  ·exfalso;have:x.2.1=Str.ofString "steps":=z;rw [this] at hst;exact absurd hst (by ext)
 have hp:0 < N6 c d:=by
  unfold N6;rw [Rat.div_def];exact Rat.mul_pos (by grind) (Rat.inv_pos.mpr (by grind))
 have ks:=k _ hp (op kst m c d ec ed);have sg:=c1.sub d1;have su:=d2.sub c2;rw [e1];refine A6 (n:=m + 1) ed ?_;symm;rw [e2];refine A6 ec ?_;symm;refine ⟨d.2,c.2,rfl,d2.q (by decide) (by decide),c2.q (by decide) (by decide),?_⟩;symm;rw [e2];refine A6 ec ?_;symm;refine A6 (n:=m + 1) ed ?_;symm;refine ⟨c.1,d.1,rfl,c1.q (by decide) (by decide),d1.q (by decide) (by decide),?_⟩;symm;refine ⟨⟨su.1.mono (by decide),sg.2.mono (by decide)⟩,⟨su.2.mono (by decide),sg.1.mono (by decide)⟩,_,_,rfl,Int.mul_pos (denp _) (B5y (by grind)),(su.1.mul sg.2).mono (by decide),(su.2.mul sg.1).mono (by decide),?_⟩;rw [B8f];symm;exact ks
def A62:Pu.PSp:=fun as Q=>∃ (n:Nat) (xs:List Wk) (vs:List (Int × Int)) (us:List (Str × Int)) (ns:List Int) (at_:Int),as=[.d (shD xs vs us),.bor (ns.map .int),.d (.int at_)]/\0<=at_/\at_<=300/\ShOk n xs vs us/\∀ ps:List ((Str × Int) × Rat),PB n vs us ps->Q (.own (ps.map paD))
def A7q (T:Txt K mg D):FnOk P w K mg base CX0 4 D.a_b5 D.d_b5 ["_law_shape_here","_law_script","_law_at"] (Pu.spOf K [.dat,.vw,.dat] A62):=by
 refine T.B.F_b5.ok sc_b5 (Zz rfl) (fun cdv A outer s H vs Q E hr h=>?_);refine ⟨_,(QSs.out (A3 (qst 3 sc_b5 (qcK (K8 (K:=K) T) hr.mo (O5 T) (A0 (qpv 1) (A0 (qpv 2) A1))))
   (A3 (D6 (qcK (B5 (K:=K) T) hr.mo (C5 T) (A0 (qpv 3) (A0 A2 A1))))
   (A3 (N8 (i:=4) sc_b5.nd rfl (Or.inr rfl) (C7 A1))
   (A3 (N8 (i:=5) sc_b5.nd rfl (Or.inr rfl) (C7 A1))
   (A3 (G8 Zf rfl (G0 rfl T.z_range (A0 (qix K (C7 (A0 A2 (A0 A2 (A0 A2 (A0 A2 (A0 A2 (A0 A2 A1))))))) (qcK (B5 (K:=K) T) hr.mo (C5 T) (A0 (qpv 3) (A0 A2 A1)))) A1)) (qgn 6 sc_b5)
    (A3 (qst 7 sc_b5 (qcK (B0k (K:=K) T) hr.mo (B7f T) (A0 (qpv 0) (A0 (qpv 3) A1))))
    (A4 (G8 Zf rfl (F4 (K:=K) rfl (qcK (B0i (K:=K) T) hr.mo (B7d T) (A0 (qpv 0) (A0 (qpv 3) A1)))) (qgn 8 sc_b5)
     (A4 (C6 (A9 (A2w (K:=K) rfl hr.units) (qpv 8) (qpv 4) (by with_unfolding_all rfl))
      (A4 (C0 (qcK (D7 (K:=K) T) hr.mo (F5 T) (A0 (qix K (qpv 5) (G9 (K:=K) rfl Z1 PySem.F.slot_list_index PySem.F.type_list_index (U0 (K:=K) rfl hr.units) (qpv 4) (A0 (qpv 8) A1))) (A0 (qpv 7) A1))) (E9 (qpv 5) (G9 (K:=K) rfl Z1 PySem.F.slot_list_index PySem.F.type_list_index (U0 (K:=K) rfl hr.units) (qpv 4) (A0 (qpv 8) A1)) D0)))
      (A3 (D6 (G9 (K:=K) rfl Z1 Z2 Z3 F2 (qpv 4) (A0 (qpv 8) A1)))
      (A4 (D6 (G9 (K:=K) rfl Z1 Z2 Z3 F2 (qpv 5) (A0 (qpv 7) A1)))))))))))
   (A3 (E7 (i:=9) rfl sc_b5.nd rfl rfl (D5 ["_law_arcs","_law_amounts","_law_k"] [some 4,some 5,none]) (G0 rfl T.z_range (A0 (qln K T.z_len (qpv 4)) A1)) (fun _ _ _=>(qgc 2 ["_law_arcs","_law_amounts","_law_k"])) (fun _ _ _=>G3) (fun _ _ _=>(A8 (A0 (qix K (qpv 0) (qpv 2)) (A0 (qix K (qpv 1) (qpv 2)) A1)))) rfl)
   (A3 (qst 10 sc_b5 (qcK (B5 (K:=K) T) hr.mo (C5 T) (A0 (qpv 3) (A0 (B2 G4 (qln K T.z_len (qpv 9)) A2) A1))))
   (A4 (B0 (B2 (O0 (K:=K) rfl) (K1 (P6 (K:=K) rfl) (qpv 9) (M1 (qpv 10)) M2) (K1 (P6 (K:=K) rfl) (qpv 9) M2 (M1 (qpv 10)))))))))))))),?_⟩
 refine Pu.G5 h ?_;rintro as Qp ⟨n,xs,vs,us,ns,at_,rfl,at0,at1,ok,k⟩;right;refine ⟨ns,_,rfl,at0,at1,?_⟩;symm;left;refine ⟨7919,rfl,by decide,J8 (B:=7919) (by omega) (by omega) (by decide),fun d d0 d1=>?_⟩;symm;subst hR;symm;refine ⟨6,rfl,by decide,sm4 6,fun d d0 d1=>?_⟩;symm;obtain ⟨tz,hz,etz⟩:=B0t (xs:=[0,1,1,2,3,4]) d0 d1;have tz0:0<=tz/\tz<=4:=by
  simp only [List.mem_cons,List.not_mem_nil,or_false] at hz;omega
 refine I0 etz ?_;symm;refine ⟨by omega,?_⟩;refine U2 (fun i e=>∃ (ar:List (Str × Int)) (am:LQ) (o6 o7 o8:Option SV),e=[some (.d (shD xs vs us)),some (.bor (ns.map .int)),some (.d (.int at_)),some .st,some (.own (ar.map qD)),some (.own (am.map dq)),o6,o7,o8,none,none]/\ar.length=am.length/\ar.length<=12 * i/\(∀ a ∈ ar,ArOk n vs.length us.length a)/\(∀ q ∈ am,On LL ((12 * i) * 2 ^ 45) q)/\ar.Nodup/\(∀ q ∈ am,0 < q)/\∀ v,sA (ar.zip am) (fun a=>dfA n vs us a v)=0) ⟨[],[],_,_,_,rfl,rfl,Nat.zero_le _,(fun _ z=>nomatch z),(fun _ z=>nomatch z),List.nodup_nil,(fun _ z=>nomatch z),fun _=>rfl⟩ ?_ ?_
 ·rintro i e hi ⟨ar,am,o6,o7,o8,rfl,hl,h12,ha,hm,nd,hp0,hb0⟩;symm;refine ⟨n,xs,vs,us,rfl,ok,fun q qp oq=>?_⟩;symm;refine ⟨n,xs,vs,us,rfl,ok,fun wa lw hw hbw=>?_⟩;symm;refine R4 (f:=qD) (xs:=wa) (fun j e=>∃ (ar:List (Str × Int)) (am:LQ) (o6 o8:Option SV),e=[some (.d (shD xs vs us)),some (.bor (ns.map .int)),some (.d (.int at_)),some .st,some (.own (ar.map qD)),some (.own (am.map dq)),o6,some (.d (dq q)),o8,none,none]/\ar.length=am.length/\ar.length<=12 * i + j/\(∀ a ∈ ar,ArOk n vs.length us.length a)/\(∀ q ∈ am,On LL ((12 * i + j) * 2 ^ 45) q)/\ar.Nodup/\(∀ q ∈ am,0 < q)/\∀ v,sA (ar.zip am) (fun a=>dfA n vs us a v)=q * My.S ((wa.take j).map fun a=>dfA n vs us a v)) ⟨ar,am,_,_,rfl,hl,h12,ha,hm,nd,hp0,fun v=>by rw [hb0 v]; show (0:Rat)=q * 0; rw [Rat.mul_zero]⟩ ?_ ?_
  ·rintro j w e hj ⟨ar,am,o6,o8,rfl,hl,h12,ha,hm,nd,hp0,hb0⟩;have hjl:j < wa.length:=(Zs hj).1;have hwk:=hw w (Zm hj);symm;refine ⟨V4 ha,hwk.lay,A1i w,?_⟩;refine ite2 (fun hy=>?_) (fun hy=>?_)
   ·obtain ⟨p,hp,pl⟩:=B6p hy;rw [Zl] at pl;have ew:ar[p]?=some w:=by
     obtain ⟨hpl,hpe,_⟩:=List.findIdx?_eq_some_iff_getElem.mp hp;rw [Zl] at hpl;rw [List.getElem_map] at hpe;rw [Zg hpl,A9x hpe]
    obtain ⟨b,eb⟩:∃ a,am[p]?=some a:=⟨_,Zg (by omega)⟩;have ob:=hm b (Zm eb);have L:PyData.canLayAll0 (ar.map qD)=true/\(qD w).canLay0=true/\(qD w).depth<=60/\ar.length<=1000:=⟨V4 ha,hwk.lay,A1i w,by omega⟩;refine ⟨L.1,L.2.1,L.2.2.1,L.2.2.2,p,hp,?_⟩;refine A6 eb ?_;symm;refine ⟨b,q,rfl,(ob.mono (Zx (Zu _ (show _<=64 by omega)) (Nat.le_of_ble_eq_true rfl)):On LL (2 ^ 51) b).q C9 (by ext) (by ext),oq.q C9 (by ext) (by ext),?_⟩;symm;refine ⟨L.1,L.2.1,L.2.2.1,L.2.2.2,p,hp,p,M6 (o:=(p:Int)) (by omega) (by omega),ar,am.set p (b + q),_,_,by rw [List.map_set],by rw [List.length_set]; exact hl,by omega,ha,fun r h=>?_,nd,fun r h=>?_,fun v=>by rw [A50 ew eb,hb0 v,A88 hj]; grind⟩
    ·rcases List.mem_or_eq_of_mem_set h with z | z
     ·exact (hm r z).mono (Zu _ (by omega))
     ·rw [z]; exact Q7 C9 ob oq
    ·rcases List.mem_or_eq_of_mem_set h with z | z
     ·exact hp0 r z
     ·rw [z]; have:=hp0 b (Zm eb); grind
   ·symm;refine ⟨by omega,by omega,ar++[w],am++[q],_,_,by rw [Zc,Zc]; rfl,by rw [Ze,Ze,hl]; rfl,by rw [Ze,List.length_singleton]; omega,fun a h=>?_,fun r h=>?_,?_,fun r h=>?_,fun v=>by rw [A3f hl,hb0 v,A88 hj]; grind⟩
    ·rcases Za h with z | z
     ·exact ha a z
     ·rw [Zn z]; exact hwk
    ·rcases Za h with z | z
     ·exact (hm r z).mono (Zu _ (by omega))
     ·rw [Zn z]; exact oq.mono (Nat.le_mul_of_pos_left _ (by omega))
    ·have nin:w ∉ ar:=fun hmem=>hy (List.any_eq_true.mpr ⟨qD w,List.mem_map_of_mem hmem,PySem.SeqAt.eqv_refl _ hwk.lay⟩);exact List.nodup_append.mpr ⟨nd,by simp,fun a h b h2=>by rw [Zn h2]; exact fun e=>nin (e ▸ h)⟩
    ·rcases Za h with z | z
     ·exact hp0 r z
     ·rw [Zn z]; exact qp
  ·rintro e ⟨ar,am,o6,o8,rfl,hl,h12,ha,hm,nd,hp0,hb0⟩;exact ⟨ar,am,_,_,_,rfl,hl,by omega,ha,(fun r h=>(hm r h).mono (Zu _ (by omega))),nd,hp0,fun v=>by rw [hb0 v,List.take_length,hbw v,Rat.mul_zero]⟩
 ·rintro e ⟨ar,am,o6,o7,o8,rfl,hl,h12,ha,hm,nd,hp0,hb0⟩;have l48:ar.length<=48:=by omega
  have zl:(ar.zip am).length=ar.length:=by rw [List.length_zip]; omega
  symm;refine ⟨by omega,by rw [J9]; omega,?_⟩;refine S9 (fun i e ys=>∃ o:Option SV,e=[some (.bor (ar.map qD)),some (.bor (am.map dq)),o]/\ys=((ar.zip am).take i).map paD) ⟨_,rfl,rfl⟩ ?_ ?_
  ·rintro i e ys hi ⟨o,rfl,rfl⟩;obtain ⟨a,ea⟩:∃ a,ar[i]?=some a:=⟨_,Zg (by omega)⟩;obtain ⟨b,eb⟩:∃ a,am[i]?=some a:=⟨_,Zg (by omega)⟩;symm;refine A6 ea ?_;symm;refine A6 eb ?_;symm;have ez:(ar.zip am)[i]?=some (a,b):=List.getElem?_zip_eq_some.mpr ⟨ea,eb⟩;exact ⟨_,rfl,by rw [List.take_add_one,ez,Zc]; rfl⟩
  ·rintro e ys ⟨o,rfl,rfl⟩;rw [List.take_of_length_le (by rw [zl]; omega)];symm;refine ⟨((ar.zip am).length:Int) + 1,by simp,by omega,J8 (B:=50) (by omega) (by omega) (by decide),fun c c0 c1=>?_⟩;symm;obtain ⟨u,rfl⟩:=Zi c0;have hu:u<=(ar.zip am).length:=by omega
   rw [A4m hu,A4l hu,<- Zc];have mz:(ar.zip am).map (·.1)=ar:=List.map_fst_zip (by omega);refine ⟨by rw [Zl,Zl,List.length_drop,List.length_take]; omega,k _ ⟨by rw [Ze,List.length_drop,List.length_take]; omega,fun p h=>?_,?_,fun v _=>?_⟩⟩
   ·have hpz:p ∈ ar.zip am:=by
     rcases Za h with z | z
     ·exact List.mem_of_mem_drop z
     ·exact List.mem_of_mem_take z
    obtain ⟨j,hj,e⟩:=List.getElem_of_mem hpz;have pj:(ar.zip am)[j]?=some p:=by rw [Zg hj,e]
    obtain ⟨p1,p2⟩:=List.getElem?_zip_eq_some.mp pj;have m2:=Zm p2;exact ⟨ha _ (Zm p1),(hm _ m2).mono (Zx (Zu _ (show _<=64 by omega)) (Nat.le_of_ble_eq_true rfl)),hp0 _ m2⟩
   ·have nd':((ar.zip am).map (·.1)).Nodup:=by rw [mz]; exact nd
    rw [<- List.take_append_drop u (ar.zip am),Zc] at nd';rw [Zc];obtain ⟨n1,n2,n3⟩:=List.nodup_append.mp nd';exact List.nodup_append.mpr ⟨n2,n1,fun a h b h2 e=>n3 b h2 a h e.symm⟩
   ·have:=hb0 v;rw [<- List.take_append_drop u (ar.zip am),A1d] at this;rw [A1d]; grind
def A65:Pu.PSp:=fun as Q=>∃ (n:Nat) (xs:List Wk) (vs:List (Int × Int)) (us:List (Str × Int)) (ps:List ((Str × Int) × Rat)),as=[.d (shD xs vs us),.bor (ps.map paD)]/\ShOk n xs vs us/\ps.length<=48/\(∀ p ∈ ps,ArOk n vs.length us.length p.1/\On LL (2 ^ 51) p.2)/\∀ is os:LQ,is.length=n->os.length=n->(∀ q ∈ is,On LL (2 ^ 57) q)->(∀ q ∈ os,On LL (2 ^ 57) q)->Q (.d (.tuple [.list (is.map dq),.list (os.map dq)]))
def A7t (T:Txt K mg D):FnOk P w K mg base CX0 3 D.a_b1 D.d_b1 ["_law_net","_law_paper_here"] (Pu.spOf K [.dat,.vw] A65):=by
 refine T.B.F_b1.ok sc_b1 (Zz rfl) (fun cdv A outer s H vs Q E hr h=>?_);refine ⟨_,(QSs.out (A3 (C0 (K1 (A6h (K:=K) rfl) (qpv 0) M2 (M1 A2)) (B9 (K:=K) (n:=3) rfl rfl (A5 (qgn 2 sc_b1) (A5 (qgn 3 sc_b1) (A5 (qgn 4 sc_b1) B8))) rfl rfl))
   (A3 (E7 (i:=5) rfl sc_b1.nd rfl rfl (D5 ["_law_work"] [none]) (F4 (K:=K) rfl (qpv 2)) (fun _ _ _=>(qgc 0 ["_law_work"])) (fun _ _ _=>G3) (fun _ _ _=>(A8 (A0 A2 (A0 A2 A1)))) rfl)
   (A3 (E7 (i:=6) rfl sc_b1.nd rfl rfl (D5 ["_law_work"] [none]) (F4 (K:=K) rfl (qpv 2)) (fun _ _ _=>(qgc 0 ["_law_work"])) (fun _ _ _=>G3) (fun _ _ _=>(A8 (A0 A2 (A0 A2 A1)))) rfl)
   (A3 (G8 Zf rfl (F4 (K:=K) rfl (qpv 1)) (B9 (K:=K) (n:=2) rfl rfl (A5 (B9 (K:=K) (n:=2) rfl rfl (A5 (qgn 7 sc_b1) (A5 (qgn 8 sc_b1) B8)) rfl rfl) (A5 (qgn 9 sc_b1) B8)) rfl rfl)
    (A4 (C6 (A9 (C8 (K:=K) rfl hr.units) (qpv 7) B1 (B6 _))
     (A4 (C0 (qcK (D7 (K:=K) T) hr.mo (F5 T) (A0 (qix K (qpv 5) (qpv 8)) (A0 (qpv 9) A1))) (E9 (qpv 5) (qpv 8) D0)))
     (A4 (C6 (A9 (C8 (K:=K) rfl hr.units) (qpv 7) B1 (B6 _))
      (A4 (C0 (qcK (D7 (K:=K) T) hr.mo (F5 T) (A0 (qix K (qpv 6) (qpv 8)) (A0 (qpv 9) A1))) (E9 (qpv 6) (qpv 8) D0)))
      (A4 (C6 (A9 (C8 (K:=K) rfl hr.units) (qpv 7) B1 (B6 _))
       (A3 (C0 (qcK (D7 (K:=K) T) hr.mo (F5 T) (A0 (qix K (qpv 6) (qix K (qix K (qpv 3) (qpv 8)) A2)) (A0 (qpv 9) A1))) (E9 (qpv 6) (qix K (qix K (qpv 3) (qpv 8)) A2) D0))
       (A4 (C0 (qcK (D7 (K:=K) T) hr.mo (F5 T) (A0 (qix K (qpv 5) (qix K (qix K (qpv 3) (qpv 8)) A2)) (A0 (qpv 9) A1))) (E9 (qpv 5) (qix K (qix K (qpv 3) (qpv 8)) A2) D0))))
       (A4 (C6 (A9 (C8 (K:=K) rfl hr.units) (qix K (qix K (qpv 4) (qpv 8)) A2) B1 (B6 _))
        (A4 (C0 (qcK (D7 (K:=K) T) hr.mo (F5 T) (A0 (qix K (qpv 6) (qix K (qix K (qpv 4) (qpv 8)) A2)) (A0 (qpv 9) A1))) (E9 (qpv 6) (qix K (qix K (qpv 4) (qpv 8)) A2) D0)))
        (A4 (C6 (A9 (C8 (K:=K) rfl hr.units) (qix K (qix K (qpv 4) (qpv 8)) A2) B1 (B6 _))
         (A4 (C0 (qcK (D7 (K:=K) T) hr.mo (F5 T) (A0 (qix K (qpv 5) (qix K (qix K (qpv 4) (qpv 8)) A2)) (A0 (qpv 9) A1))) (E9 (qpv 5) (qix K (qix K (qpv 4) (qpv 8)) A2) D0)))
         (A4 (C0 (qcK (J5 (K:=K) T) hr.mo (K5 T) (A0 (qix K (qpv 5) (qix K (qix K (qpv 4) (qpv 8)) A2)) (A0 (qpv 9) A1))) (E9 (qpv 5) (qix K (qix K (qpv 4) (qpv 8)) A2) D0))))))))))))))
   (A4 (B0 (A8 (A0 (qpv 5) (A0 (qpv 6) A1)))))))))),?_⟩
 refine Pu.G5 h ?_;rintro as Qp ⟨n,xs,vs,us,ps,rfl,ok,l48,hp,k⟩;have n0:=ok.n0;have n1:=ok.n1;have ln:=ok.ln;have vl:=ok.vl;have ul:=ok.ul;unfold shD;right;refine ⟨_,3,rfl,rfl,?_⟩;rw [show List.take 3 [PyData.list (xs.map kD),.list (vs.map pD),.list (us.map qD)]=[PyData.list (xs.map kD),.list (vs.map pD),.list (us.map qD)] from rfl];symm;left;refine ⟨by omega,J6 (f:=kD) (xs:=xs) (fun i e ys=>∃ o:Option SV,e=[o]/\ys=(List.replicate i (0:Rat)).map dq) ⟨_,rfl,rfl⟩ ?_ ?_⟩
 ·rintro i x e ys hx ⟨o,rfl,rfl⟩;symm;exact ⟨_,rfl,by rw [<- List.map_cons,<- List.replicate_succ,List.replicate_succ',Zc]; rfl⟩
 rintro e ys ⟨o,rfl,rfl⟩;rw [ln];symm;left;refine ⟨by omega,J6 (f:=kD) (xs:=xs) (fun i e ys=>∃ o:Option SV,e=[o]/\ys=(List.replicate i (0:Rat)).map dq) ⟨_,rfl,rfl⟩ ?_ ?_⟩
 ·rintro i x e ys hx ⟨o,rfl,rfl⟩;symm;exact ⟨_,rfl,by rw [<- List.map_cons,<- List.replicate_succ,List.replicate_succ',Zc]; rfl⟩
 rintro e ys ⟨o,rfl,rfl⟩;rw [ln];symm;subst hR;symm;refine R4 (f:=paD) (xs:=ps) (fun i e=>∃ (is os:LQ) (o7 o8 o9:Option SV),e=[some (.d (.tuple [.list (xs.map kD),.list (vs.map pD),.list (us.map qD)])),some (.bor (ps.map paD)),some (.d (.list (xs.map kD))),some (.d (.list (vs.map pD))),some (.d (.list (us.map qD))),some (.own (is.map dq)),some (.own (os.map dq)),o7,o8,o9]/\(is.length=n/\os.length=n)/\(∀ q ∈ is,On LL (i * 2 ^ 51) q)/\∀ q ∈ os,On LL (i * 2 ^ 51) q) ⟨_,_,_,_,_,rfl,⟨by simp,by simp⟩,(fun q h=>by rw [List.eq_of_mem_replicate h]; exact On.zero.mono (Nat.zero_le _)),fun q h=>by rw [List.eq_of_mem_replicate h]; exact On.zero.mono (Nat.zero_le _)⟩ ?_ ?_
 ·rintro i p e hpi ⟨is,os,o7,o8,o9,rfl,⟨li,lo⟩,hi,ho⟩;have hil:i < ps.length:=(Zs hpi).1;obtain ⟨⟨k0,ak⟩,oa⟩:=hp p (Zm hpi);obtain ⟨⟨wd,j⟩,a⟩:=p;obtain ⟨m,rfl⟩:=Zi k0;have sa:SmQ 3900 a:=oa.q C9 (by ext) (by ext);have sb:∀ {l:LQ},(∀ q ∈ l,On LL (i * 2 ^ 51) q)->∀ q ∈ l,SmQ 3900 q:=fun h q hq=>((h q hq).mono (Zx (Zu _ (show i<=64 by omega)) (Zv _))).q C9 (by ext) (by ext);have up:∀ {l:LQ} {z:Nat} {b:Rat},(∀ q ∈ l,On LL (i * 2 ^ 51) q)->On LL ((i + 1) * 2 ^ 51) b->∀ q ∈ l.set z b,On LL ((i + 1) * 2 ^ 51) q:=fun h hb q hq=>by
   rcases List.mem_or_eq_of_mem_set hq with z | z
   ·exact (h q z).mono (Zu _ (by omega))
   ·rw [z]; exact hb
  have up0:∀ {l:LQ},(∀ q ∈ l,On LL (i * 2 ^ 51) q)->∀ q ∈ l,On LL ((i + 1) * 2 ^ 51) q:=fun h q hq=>(h q hq).mono (Zu _ (by omega));rw [show paD ((wd,(m:Int)),a)=PyData.tuple [.tuple [.str wd,.int (m:Int)],dq a] from rfl];symm;refine ⟨(ArOk.lay (a:=(wd,(m:Int))) ⟨k0,ak⟩ |> fun z=>by have z':((PyData.str wd).canLay0 && ((PyData.int (m:Int)).canLay0 && true))=true:=z; exact (Bool.and_eq_true_iff.mp z').1),by ext,?_⟩;rcases ak with ⟨e,hm⟩ | ⟨e,hm⟩ | ⟨e,hm⟩ | ⟨e,hm⟩
  ·have e':wd="start":=e;subst e';refine ite2 (fun _=>?_) (fun h=>absurd (by ext) h);obtain ⟨b,eb⟩:∃ z,is[m]?=some z:=⟨_,Zg (by have:(m:Int) < (n:Int):=hm; omega)⟩;refine A6 eb ?_;symm;refine ⟨b,a,rfl,sb hi b (Zm eb),sa,?_⟩;symm;exact ⟨m,M6 (o:=(m:Int)) (by omega) (by rw [li]; exact hm),is.set m (b + a),os,_,_,_,by rw [List.map_set],⟨by rw [List.length_set]; exact li,lo⟩,up hi (Q7 C9 (hi b (Zm eb)) oa),up0 ho⟩
  ·have e':wd="end":=e;subst e';refine ite2 (fun h=>absurd h (by ext)) (fun _=>⟨by ext,by ext,?_⟩);refine ite2 (fun _=>?_) (fun h=>absurd (by ext) h);obtain ⟨b,eb⟩:∃ z,os[m]?=some z:=⟨_,Zg (by have:(m:Int) < (n:Int):=hm; omega)⟩;refine A6 eb ?_;symm;refine ⟨b,a,rfl,sb ho b (Zm eb),sa,?_⟩;symm;exact ⟨m,M6 (o:=(m:Int)) (by omega) (by rw [lo]; exact hm),is,os.set m (b + a),_,_,_,by rw [List.map_set],⟨li,by rw [List.length_set]; exact lo⟩,up0 hi,up ho (Q7 C9 (ho b (Zm eb)) oa)⟩
  ·have e':wd="wait":=e;subst e';refine ite2 (fun h=>absurd h (by ext)) (fun _=>⟨by ext,by ext,?_⟩);refine ite2 (fun h=>absurd h (by ext)) (fun _=>⟨by ext,by ext,?_⟩);refine ite2 (fun _=>?_) (fun h=>absurd (by ext) h);obtain ⟨⟨v1,v2⟩,ev⟩:∃ z,vs[m]?=some z:=⟨_,Zg (by have:(m:Int) < (vs.length:Int):=hm; omega)⟩;obtain ⟨⟨v10,v11⟩,v20,v21⟩:=ok.vk _ (Zm ev);obtain ⟨x,rfl⟩:=Zi v10;obtain ⟨y,rfl⟩:=Zi v20;have ed:pD ((x:Int),(y:Int))=PyData.tuple [.int (x:Int),.int (y:Int)]:=rfl;obtain ⟨b,eb⟩:∃ z,os[x]?=some z:=⟨_,Zg (by have:(x:Int) < (n:Int):=v11; omega)⟩;obtain ⟨d,edd⟩:∃ z,is[y]?=some z:=⟨_,Zg (by have:(y:Int) < (n:Int):=v21; omega)⟩;refine A6 ev ?_;rw [ed];symm;refine A6 eb ?_;symm;refine ⟨b,a,rfl,sb ho b (Zm eb),sa,?_⟩;symm;refine A6 ev ?_;rw [ed];symm;refine ⟨x,M6 (o:=(x:Int)) (by omega) (by rw [lo]; exact v11),?_⟩;refine A6 ev ?_;rw [ed];symm;refine A6 edd ?_;symm;refine ⟨d,a,rfl,sb hi d (Zm edd),sa,?_⟩;symm;refine A6 ev ?_;rw [ed];symm;exact ⟨y,M6 (o:=(y:Int)) (by omega) (by rw [li]; exact v21),is.set y (d + a),os.set x (b + a),_,_,_,by rw [List.map_set,List.map_set],⟨by rw [List.length_set]; exact li,by rw [List.length_set]; exact lo⟩,up hi (Q7 C9 (hi d (Zm edd)) oa),up ho (Q7 C9 (ho b (Zm eb)) oa)⟩
  ·have e':wd="hold":=e;subst e';refine ite2 (fun h=>absurd h (by ext)) (fun _=>⟨by ext,by ext,?_⟩);refine ite2 (fun h=>absurd h (by ext)) (fun _=>⟨by ext,by ext,?_⟩);refine ite2 (fun h=>absurd h (by ext)) (fun _=>?_);obtain ⟨⟨kd,v2⟩,ev⟩:∃ z,us[m]?=some z:=⟨_,Zg (by have:(m:Int) < (us.length:Int):=hm; omega)⟩;obtain ⟨uk,v20,v21⟩:=ok.uk _ (Zm ev);obtain ⟨y,rfl⟩:=Zi v20;have ed:qD (kd,(y:Int))=PyData.tuple [.str kd,.int (y:Int)]:=rfl;obtain ⟨b,eb⟩:∃ z,os[y]?=some z:=⟨_,Zg (by have:(y:Int) < (n:Int):=v21; omega)⟩;obtain ⟨d,edd⟩:∃ z,is[y]?=some z:=⟨_,Zg (by have:(y:Int) < (n:Int):=v21; omega)⟩;have ixi:ixN is.length (y:Int)=some y:=M6 (o:=(y:Int)) (by omega) (by rw [li]; exact v21);have ixo:ixN os.length (y:Int)=some y:=M6 (o:=(y:Int)) (by omega) (by rw [lo]; exact v21);have uk':Hk kd:=uk;refine A6 ev ?_;rw [ed];symm;refine ⟨uk'.lay,by ext,?_⟩;refine ite2 (fun _=>?_) (fun _=>?_)
   ·refine A6 ev ?_;rw [ed];symm;refine A6 eb ?_;symm;refine ⟨b,a,rfl,sb ho b (Zm eb),sa,?_⟩;symm;refine A6 ev ?_;rw [ed];symm;exact ⟨y,ixo,is,os.set y (b + a),_,_,_,by rw [List.map_set],⟨li,by rw [List.length_set]; exact lo⟩,up0 hi,up ho (Q7 C9 (ho b (Zm eb)) oa)⟩
   ·refine A6 ev ?_;rw [ed];symm;refine ⟨uk'.lay,by ext,?_⟩;refine ite2 (fun _=>?_) (fun _=>?_)
    ·refine A6 ev ?_;rw [ed];symm;refine A6 edd ?_;symm;refine ⟨d,a,rfl,sb hi d (Zm edd),sa,?_⟩;symm;refine A6 ev ?_;rw [ed];symm;exact ⟨y,ixi,is.set y (d + a),os,_,_,_,by rw [List.map_set],⟨by rw [List.length_set]; exact li,lo⟩,up hi (Q7 C9 (hi d (Zm edd)) oa),up0 ho⟩
    ·refine A6 ev ?_;rw [ed];symm;refine A6 edd ?_;symm;refine ⟨d,a,rfl,sb hi d (Zm edd),sa,?_⟩;symm;refine A6 ev ?_;rw [ed];symm;exact ⟨y,ixi,is.set y (d - a),os,_,_,_,by rw [List.map_set],⟨by rw [List.length_set]; exact li,lo⟩,up hi (((hi d (Zm edd)).sub C9 oa).mono (by rw [Nat.add_mul,Nat.one_mul]; exact Zv _)),up0 ho⟩
 ·rintro e ⟨is,os,o7,o8,o9,rfl,⟨li,lo⟩,hi,ho⟩;symm;have f:∀ {l:LQ},(∀ q ∈ l,On LL (ps.length * 2 ^ 51) q)->∀ q ∈ l,On LL (2 ^ 57) q:=fun h q hq=>(h q hq).mono (Zx (Zu _ (show ps.length<=64 by omega)) (Nat.le_of_ble_eq_true rfl));exact k is os li lo (f hi) (f ho)
def A64:Pu.PSp:=fun as Q=>∃ (kd:Str) (cs:LR) (r:Rat),as=[.d (offD kd cs),.d (dq r)]/\1<=cs.length/\OnC cs/\On LL (2 ^ 60) r/\∀ m,(∃ c ∈ cs,m=val r c)->(∀ c ∈ cs,¬ val r c < m)->Q (.d (dq m))
def A7s (T:Txt K mg D):FnOk P w K mg base CX0 3 D.a_b2 D.d_b2 ["_law_offer_here","_law_rate_here"] (Pu.spOf K [.dat,.dat] A64):=by
 refine T.B.F_b2.ok sc_b2 (Zz rfl) (fun cdv A outer s H vs Q E hr h=>?_);refine ⟨_,(QSs.out (A3 (qst 2 sc_b2 P1)
   (A3 (G8 Zf rfl (F4 (K:=K) rfl (qix K (qpv 0) A2)) (B9 (K:=K) (n:=2) rfl rfl (A5 (qgn 3 sc_b2) (A5 (qgn 4 sc_b2) B8)) rfl rfl)
    (A3 (qst 5 sc_b2 (qcK (D7 (K:=K) T) hr.mo (F5 T) (A0 (qpv 4) (A0 (qcK (S5 (K:=K) T) hr.mo (V6 T) (A0 (qpv 1) (A0 (qpv 3) A1))) A1))))
    (A4 (C6 (QW.pt (M0 (A9 B5a (qpv 2) P1 (B6 _)) (K4 (D8 (qcK (A7n (K:=K) T) hr.mo (B1o T) (A0 (qpv 5) (A0 (qpv 2) A1)))))))
     (A4 (qst 2 sc_b2 (qpv 5)))
     C3))))
   (A4 (B0 (qpv 2)))))),?_⟩
 refine Pu.G5 h ?_;rintro as Qp ⟨kd,cs,r,rfl,n1,oc,orr,k⟩;have sr:SmQ 3900 r:=orr.q C9 (by ext) (by ext);have hv:∀ c ∈ cs,SmQ 3900 c.1/\SmQ 3900 c.2/\SmQ 3900 (r * c.1)/\SmQ 3900 (val r c):=fun c hc=>by
  obtain ⟨o1,o2⟩:=oc c hc;have om:=orr.mul o1;have ov:=o2.add (Nat.mul_pos C9 C9) om;exact ⟨o1.q C9 (by ext) (by ext),o2.q (Nat.mul_pos C9 C9) (by ext) (by ext),om.q (Nat.mul_pos C9 C9) (by ext) (by ext),ov.q (Nat.mul_pos C9 C9) (by ext) (by ext)⟩
 unfold offD;symm;refine R4 (f:=dcn) (xs:=cs) (fun i e=>∃ (o:Option Rat) (o3 o4 o5:Option SV),e=[some (.d (.tuple [.str kd,.list (cs.map dcn)])),some (.d (dq r)),some (.d (vD o)),o3,o4,o5]/\(o=none->i=0)/\∀ m,o=some m->(∃ c ∈ cs,m=val r c)/\∀ j c,j < i->cs[j]?=some c->¬ val r c < m) ⟨none,_,_,_,rfl,fun _=>rfl,fun _ z=>nomatch z⟩ ?_ ?_
 ·rintro i c e hc ⟨o,o3,o4,o5,rfl,h0,h1⟩;have hcm:=Zm hc;obtain ⟨s1,s2,s3,s4⟩:=hv c hcm;symm;refine ⟨r,c.1,rfl,sr,s1,?_⟩;symm;refine ⟨c.2,r * c.1,rfl,s2,s3,?_⟩;symm;rcases o with _ | m
  ·symm;refine ⟨some (val r c),_,_,_,rfl,(fun z=>nomatch z),fun m hm=>?_⟩;cases hm;refine ⟨⟨c,hcm,rfl⟩,fun j d hj hd=>?_⟩;have:j=i:=by have:=h0 rfl; omega
   subst this;rw [hc] at hd; cases hd;exact Rat.lt_irrefl
  ·symm;obtain ⟨⟨d,hd,em⟩,b⟩:=h1 m rfl;refine ite2 (fun h=>absurd h (by show ¬ isNo (dq m)=true; exact fun z=>nomatch z)) (fun _=>?_);refine ⟨val r c,m,rfl,s4,by rw [em]; exact (hv d hd).2.2.2,?_⟩;symm;have up:∀ m',¬ val r c < m'->m'<=m->∀ j c',j < i + 1->cs[j]?=some c'->¬ val r c' < m':=fun m' u v j c' hj e'=>by
    by_cases hji:j=i
    ·subst hji;rw [hc] at e'; cases e'; exact u
    ·have:=b j c' (by omega) e';grind
   refine ite2 (fun h=>?_) (fun h=>?_)
   ·exact ⟨some (val r c),_,_,_,rfl,(fun z=>nomatch z),fun m' hm=>by cases hm; exact ⟨⟨c,hcm,rfl⟩,up _ Rat.lt_irrefl (by grind)⟩⟩
   ·exact ⟨some m,_,_,_,rfl,(fun z=>nomatch z),fun m' hm=>by cases hm; exact ⟨⟨d,hd,em⟩,up _ h Rat.le_refl⟩⟩
 ·rintro e ⟨o,o3,o4,o5,rfl,h0,h1⟩;try rw [Zl] at h0 h1
  rcases o with _ | m
  ·have:=h0 rfl; omega
  ·symm;obtain ⟨a,b⟩:=h1 m rfl;exact k m a fun c hc=>by
    obtain ⟨j,hj,e⟩:=List.getElem_of_mem hc;exact b j c hj (by rw [<- e]; exact Zg hj)
def A92:Pu.PSp:=fun as Q=>∃ (kd:Str) (cs:LR) (r:Rat),as=[.d (offD kd cs),.d (dq r),.st]/\Kd kd/\OfOk cs 100 54 244 130/\OnC cs/\On LL (2 ^ 60) r/\∀ t,On (LL * 4) (2 ^ 50) t->Off kd cs t->Q (.d (dq t))
def B0j (T:Txt K mg D):FnOk P w K mg base CX0 4 D.a_c1 D.d_c1 ["_law_offer_here","_law_amount_here","_law_own"] (Pu.spOf K [.dat,.dat,.st] A92):=by
 refine T.B.F_c1.ok sc_c1 (Zz rfl) (fun cdv A outer s H vs Q E hr h=>?_);refine ⟨_,(QSs.out (A3 (C0 (qpv 0) (B9 (K:=K) (n:=2) rfl rfl (A5 (qgn 3 sc_c1) (A5 (qgn 4 sc_c1) B8)) rfl rfl))
   (A3 (N8 (i:=5) sc_c1.nd rfl (Or.inr rfl) (qcK (A7s (K:=K) T) hr.mo (B1s T) (A0 (qpv 0) (A0 (qpv 1) A1))))
   (A3 (E7 (i:=6) rfl sc_c1.nd rfl rfl (D5 ["_law_due","_law_amount_here","_law_time_here","_law_price"] [some 5,some 1,none,none]) (F4 (K:=K) rfl (qpv 4)) (fun _ _ _=>(B9 (K:=K) (n:=2) rfl rfl (A5 (qgc 2 ["_law_due","_law_amount_here","_law_time_here","_law_price"]) (A5 (qgc 3 ["_law_due","_law_amount_here","_law_time_here","_law_price"]) B8)) rfl rfl)) (fun _ _ _=>(V0 (A9 (C8 (K:=K) rfl hr.units) (qcK (D7 (K:=K) T) hr.mo (F5 T) (A0 (qpv 3) (A0 (qcK (S5 (K:=K) T) hr.mo (V6 T) (A0 (qpv 1) (A0 (qpv 2) A1))) A1))) (qpv 0) (B6 _)))) (fun _ _ _=>(qpv 2)) rfl)
   (A3 (qst 7 sc_c1 (qcK (B5 (K:=K) T) hr.mo (C5 T) (A0 (qpv 2) (A0 A2 A1))))
   (A3 (qst 8 sc_c1 (qcK (B5 (K:=K) T) hr.mo (C5 T) (A0 (qpv 2) (A0 (qln K T.z_len (qpv 4)) A1))))
   (A3 (C6 (A9 Y3 (qpv 7) A2 (B6 _))
    (A4 (B0 (qix K (qpv 6) (qcK (B5 (K:=K) T) hr.mo (C5 T) (A0 (qpv 2) (A0 (qln K T.z_len (qpv 6)) A1))))))
    C3)
   (A3 (C6 (QW.pt (M0 (A9 (C8 (K:=K) rfl hr.units) (qpv 7) A2 (B6 _)) (M0 (A9 (C8 (K:=K) rfl hr.units) (qpv 3) B1 (B6 _)) (K4 (A9 (C8 (K:=K) rfl hr.units) (qpv 8) A2 (B6 _))))))
    (A4 (B0 (qix K (qix K (qpv 4) (qpv 8)) A2)))
    C3)
   (A3 (qst 9 sc_c1 (qcK (J5 (K:=K) T) hr.mo (K5 T) (A0 (qix K (qix K (qpv 4) (B2 W4 (qpv 8) A2)) A2) (A0 (qix K (qix K (qpv 4) (qpv 8)) A2) A1))))
   (A4 (B0 (qcK (D7 (K:=K) T) hr.mo (F5 T) (A0 (qix K (qix K (qpv 4) (qpv 8)) A2) (A0 (qcK (S5 (K:=K) T) hr.mo (V6 T) (A0 (qpv 9) (A0 (qcK (Q9 (K:=K) T) hr.mo (X9 T) (A0 (B2 G4 A2 (qcK (B5 (K:=K) T) hr.mo (C5 T) (A0 (qpv 2) (A0 A2 A1)))) (A0 A2 A1))) A1))) A1)))))))))))))),?_⟩
 refine Pu.G5 h ?_;rintro as Qp ⟨kd,cs,r,rfl,hk,ok,oc,orr,k⟩;have n1:=ok.ne;have n5:=ok.le;have hv:∀ c ∈ cs,SmQ 3900 c.1/\SmQ 3900 c.2/\SmQ 3900 (r * c.1)/\SmQ 3900 (val r c):=fun c hc=>by
  obtain ⟨o1,o2⟩:=oc c hc;have om:=orr.mul o1;have ov:=o2.add (Nat.mul_pos C9 C9) om;exact ⟨o1.q C9 (by ext) (by ext),o2.q (Nat.mul_pos C9 C9) (by ext) (by ext),om.q (Nat.mul_pos C9 C9) (by ext) (by ext),ov.q (Nat.mul_pos C9 C9) (by ext) (by ext)⟩
 have sr:SmQ 3900 r:=orr.q C9 (by ext) (by ext);have kc:∀ (i:Nat) c,cs[i]?=some c->Qp (.d (dq c.1)):=fun i c ec=>k c.1 (((oc c (Zm ec)).1.up (by decide)).p2 (by decide)) (A5i hk ok.dec n1 ec);unfold offD;right;left;refine ⟨kd,cs,r,rfl,n1,oc,orr,fun m hm1 hm2=>?_⟩;symm;left;refine ⟨by omega,J6 (f:=dcn) (xs:=cs) (fun i e ys=>∃ (ts:LQ) (o2 o3:Option SV),e=[some (.d (dq m)),some (.d (dq r)),o2,o3]/\ys=ts.map dq/\ts.length<=i/\(∀ t ∈ ts,∃ (j:Nat) (c:Rat × Rat),cs[j]?=some c/\c.1=t)/\∀ j c,j < i->cs[j]?=some c->m=val r c->ts≠[]) ⟨[],_,_,rfl,rfl,Nat.zero_le _,(fun _ z=>nomatch z),fun _ _ z=>absurd z (Nat.not_lt_zero _)⟩ ?_ ?_⟩
 ·rintro i c e ys hc ⟨ts,o2,o3,rfl,rfl,hl,ht,hne⟩;obtain ⟨s1,s2,s3,s4⟩:=hv c (Zm hc);symm;refine ⟨r,c.1,rfl,sr,s1,?_⟩;symm;refine ⟨c.2,r * c.1,rfl,s2,s3,?_⟩;symm;refine ite2 (fun h=>?_) (fun h=>?_)
  ·refine ⟨ts++[c.1],_,_,rfl,by rw [Zc]; rfl,by rw [Ze,List.length_singleton]; omega,fun t h=>?_,fun _ _ _ _ _=>by simp⟩;rcases Za h with z | z
   ·exact ht t z
   ·exact ⟨i,c,hc,(Zn z).symm⟩
  ·refine ⟨ts,_,_,rfl,rfl,by omega,ht,fun j d hj ed em=>?_⟩;by_cases hji:j=i
   ·subst hji;rw [hc] at ed; cases ed;exact absurd em.symm h
   ·exact hne j d (by omega) ed em
 ·rintro e ys ⟨ts,o2,o3,rfl,rfl,hl,ht,hne⟩;symm;subst hR;have tp:0 < ts.length:=by
   obtain ⟨c,hc,em⟩:=hm1;obtain ⟨j,hj,e⟩:=List.getElem_of_mem hc;exact List.length_pos_iff.mpr (hne j c (by simpa using hj) (by rw [<- e]; exact Zg hj) em)
  have tl:ts.length<=5:=by omega
  symm;refine ⟨5,rfl,by decide,sm4 5,fun y y0 y1=>?_⟩;symm;refine ⟨(cs.length:Int),by simp,by omega,J8 (B:=5) (by omega) (by omega) (by decide),fun a a0 a1=>?_⟩;symm;obtain ⟨p,rfl⟩:=Zi a0;obtain ⟨c,ec⟩:∃ c,cs[p]?=some c:=⟨_,Zg (by omega)⟩;refine ite2 (fun h=>?_) (fun h=>?_)
  ·refine ⟨(ts.length:Int),by simp,by omega,J8 (B:=5) (by omega) (by omega) (by decide),fun b b0 b1=>?_⟩;symm;obtain ⟨q,rfl⟩:=Zi b0;obtain ⟨t,et⟩:∃ c,ts[q]?=some c:=⟨_,Zg (by omega)⟩;refine A6 et ?_;symm;obtain ⟨j,d,ed,e2⟩:=ht t (Zm et);rw [<- e2]; exact kc j d ed
  ·refine ite2 (fun _=>?_) (fun _=>⟨hk.lay,B2k,ite2 (fun _=>?_) (fun hst=>ite2 (fun _=>?_) (fun hp0=>?_))⟩)
   ·refine A6 ec ?_;symm;exact kc p c ec
   ·refine A6 ec ?_;symm;exact kc p c ec
   ·refine A6 ec ?_;symm;exact kc p c ec
   obtain ⟨q,rfl⟩:∃ q,p=q + 1:=⟨p - 1,by omega⟩;obtain ⟨d,ed⟩:∃ c,cs[q]?=some c:=⟨_,Zg (by omega)⟩;have hcd:c.1 < d.1:=ok.dec.get ed ec (Nat.lt_succ_self q);obtain ⟨sc,_⟩:=hv c (Zm ec);obtain ⟨sd,_⟩:=hv d (Zm ed);have o1:=(oc c (Zm ec)).1;have og:=(oc d (Zm ed)).1.sub2 (b:=46) C9 o1 (by decide);rw [show ((q + 1:Nat):Int) - 1=(q:Int) by omega];refine A6 ed ?_;symm;refine A6 (n:=q + 1) ec ?_;symm;refine ⟨d.1,c.1,rfl,sd,sc,?_⟩;symm;refine A6 (n:=q + 1) ec ?_;symm;refine ⟨3,rfl,by decide,sm4 3,fun u u0 u1=>?_⟩;symm;refine ⟨1 + u,4,rfl,by decide,J8 (B:=5) (by omega) (by omega) (by decide),by unfold Sm; decide,?_⟩;symm;have o4:On 4 1 (Rat.divInt (1 + u) 4):=⟨1 + u,rfl,by omega⟩;have om:=og.mul o4;rw [Nat.mul_one] at om;refine ⟨d.1 - c.1,Rat.divInt (1 + u) 4,rfl,og.q C9 (by ext) (by ext),o4.q (by decide) (by ext) (by ext),?_⟩;symm;refine ⟨c.1,(d.1 - c.1) * Rat.divInt (1 + u) 4,rfl,sc,om.q (by decide) (by ext) (by ext),?_⟩;symm;have f:=four (x:=1 + u) (by omega) (by omega);refine k _ (((o1.up (by decide)).p2 (b:=46) (by decide)).add2 (by decide) om (by decide)) (W8 (i:=q) (j:=q + 1) ok.dec (fun z=>hst ?_) n1 ed ec ?_ ?_)
   ·rw [z]; exact C1s
   ·have h2:0<=(d.1 - c.1) * (1 - Rat.divInt (1 + u) 4):=Rat.mul_nonneg (by grind) (by grind);grind
   ·have h2:0<=(d.1 - c.1) * Rat.divInt (1 + u) 4:=Rat.mul_nonneg (by grind) f.1;grind
def A6z:Pu.PSp:=fun as Q=>∃ (ns:List Int) (j:Int),as=[.bor (ns.map .int),.d (.int j)]/\0<=j/\j<=100/\∀ q:Rat,0<=q->On LL (2 ^ 42) q->Q (.d (dq q))
def A1t (T:Txt K mg D):FnOk P w K mg base CX0 3 D.a_b8 D.d_b8 ["_law_script","_law_k"] (Pu.spOf K [.vw,.dat] A6z):=by
 refine T.B.F_b8.ok sc_b8 (Zz rfl) (fun cdv A outer s H vs Q E hr h=>?_);refine ⟨_,(QSs.out (A3 (qst 2 sc_b8 (qcK (K8 (K:=K) T) hr.mo (O5 T) (A0 (qpv 0) (A0 (B2 G4 A2 (qpv 1)) A1))))
   (A3 (D6 (qcK (B5 (K:=K) T) hr.mo (C5 T) (A0 (qpv 2) (A0 A2 A1))))
   (A3 (qst 3 sc_b8 (qcK (J3 (K:=K) T) hr.mo (K3 T) (A0 (qpv 2) (A0 J4 (A0 A2 A1)))))
   (A3 (C6 (A9 Y3 (qcK (B5 (K:=K) T) hr.mo (C5 T) (A0 (qpv 2) (A0 A2 A1))) A2 (B6 _))
    (A4 (qst 3 sc_b8 (A8 (A0 A2 (A0 A2 A1)))))
    C3)
   (A4 (B0 (qpv 3)))))))),?_⟩
 refine Pu.G5 h ?_;rintro as Qp ⟨ns,j,rfl,j0,j1,k⟩;symm;refine ⟨ns,_,rfl,by omega,by omega,?_⟩;symm;refine ⟨7907,rfl,by decide,J8 (B:=7907) (by omega) (by omega) (by decide),fun d d0 d1=>?_⟩;symm;refine ⟨_,_,rfl,.inr rfl,fun q q0 _ sq _=>?_⟩;symm;refine ⟨3,rfl,by decide,sm4 3,fun t t0 t1=>?_⟩;symm;exact ite2 (fun h=>k 0 Rat.le_refl (On.zero.mono (Nat.zero_le _))) (fun h=>k q q0 ((P2 sq).p2 (by decide)))
def A2v:Pu.PSp:=fun as Q=>∃ (n:Nat) (xs:List Wk) (vs:List (Int × Int)) (us:List (Str × Int)) (ns:List Int) (pa:List ((Str × Int) × Rat)),as=[.d (shD xs vs us),.bor (ns.map .int),.bor (pa.map paD)]/\ShOk n xs vs us/\pa.length<=48/\(∀ p ∈ pa,ArOk n vs.length us.length p.1/\On LL (2 ^ 51) p.2)/\∀ (ps:LR) (ws:LW) (hs:LH),ps.length=n->(∀ p ∈ ps,0<=p.1/\On (LL * 4) (2 ^ 50) p.1/\On (LL * 4) (2 ^ 50) p.2)->(∀ (i:Nat) x p,xs[i]?=some x->ps[i]?=some p->Off x.2.1 x.2.2 p.2)->ws.map (fun w=>(w.1,w.2.1))=vs->(∀ w ∈ ws,On (LL * 4) (2 ^ 55) w.2.2/\0<=wSl ps w)->hs.map (fun h=>(h.1,h.2.1))=us->(∀ h ∈ hs,On (LL * 4) (2 ^ 55) h.2.2/\0<=hSl ps h)->Q (.d (.tuple [netD xs ws hs [],.list (ps.map dcn)]))
def A2y (T:Txt K mg D):FnOk P w K mg base CX0 5 D.a_a7 D.d_a7 ["_law_shape_here","_law_script","_law_paper_here"] (Pu.spOf K [.dat,.vw,.vw] A2v):=by
 refine T.B.F_a7.ok sc_a7 (Zz rfl) (fun cdv A outer s H vs Q E hr h=>?_);refine ⟨_,(QSs.out (A3 (C0 (qpv 0) (B9 (K:=K) (n:=3) rfl rfl (A5 (qgn 3 sc_a7) (A5 (qgn 4 sc_a7) (A5 (qgn 5 sc_a7) B8))) rfl rfl))
   (A3 (qst 6 sc_a7 (qix K (qcK (A7t (K:=K) T) hr.mo (A4r T) (A0 (qpv 0) (A0 (qpv 2) A1))) A2))
   (A3 (qst 7 sc_a7 (C7 A1))
   (A3 (G8 Zf rfl (G0 rfl T.z_range (A0 (qln K T.z_len (qpv 3)) A1)) (qgn 8 sc_a7)
    (A3 (qst 9 sc_a7 (qcK (K8 (K:=K) T) hr.mo (O5 T) (A0 (qpv 1) (A0 (B2 G4 A2 (qpv 8)) A1))))
    (A3 (D6 (qcK (B5 (K:=K) T) hr.mo (C5 T) (A0 (qpv 9) (A0 A2 A1))))
    (A3 (qst 10 sc_a7 (qcK (B0j (K:=K) T) hr.mo (B7e T) (A0 (qix K (qix K (qpv 3) (qpv 8)) A2) (A0 (qix K (qpv 6) (qpv 8)) (A0 (qpv 9) A1)))))
    (A3 (qst 11 sc_a7 (qcK (J3 (K:=K) T) hr.mo (K3 T) (A0 (qpv 9) (A0 J4 (A0 A2 A1)))))
    (A3 (C6 (A9 Y3 (qcK (B5 (K:=K) T) hr.mo (C5 T) (A0 (qpv 9) (A0 A2 A1))) A2 (B6 _))
     (A4 (qst 11 sc_a7 (A8 (A0 A2 (A0 A2 A1)))))
     C3)
    (A4 (D6 (G9 (K:=K) rfl Z1 Z2 Z3 F2 (qpv 7) (A0 (A8 (A0 (qpv 11) (A0 (qpv 10) A1))) A1))))))))))
   (A3 (E7 (i:=12) rfl sc_a7.nd rfl rfl (D5 ["_law_start","_law_time_here"] [none,none]) (F4 (K:=K) rfl (qpv 7)) (fun _ _ _=>(B9 (K:=K) (n:=2) rfl rfl (A5 (qgc 0 ["_law_start","_law_time_here"]) (A5 (qgc 1 ["_law_start","_law_time_here"]) B8)) rfl rfl)) (fun _ _ _=>G3) (fun _ _ _=>(qcK (D7 (K:=K) T) hr.mo (F5 T) (A0 (qpv 0) (A0 (qpv 1) A1)))) rfl)
   (A3 (qst 13 sc_a7 (C7 A1))
   (A3 (G8 Zf rfl (G0 rfl T.z_range (A0 (qln K T.z_len (qpv 4)) A1)) (qgn 14 sc_a7)
    (A3 (C0 (qix K (qpv 4) (qpv 14)) (B9 (K:=K) (n:=2) rfl rfl (A5 (qgn 15 sc_a7) (A5 (qgn 16 sc_a7) B8)) rfl rfl))
    (A4 (D6 (G9 (K:=K) rfl Z1 Z2 Z3 F2 (qpv 13) (A0 (A8 (A0 (qpv 15) (A0 (qpv 16) (A0 (qcK (J5 (K:=K) T) hr.mo (K5 T) (A0 (qcK (J5 (K:=K) T) hr.mo (K5 T) (A0 (qix K (qix K (qpv 7) (qpv 16)) A2) (A0 (qix K (qpv 12) (qpv 15)) A1))) (A0 (qcK (A1t (K:=K) T) hr.mo (A4q T) (A0 (qpv 1) (A0 (qpv 14) A1))) A1))) A1)))) A1))))))
   (A3 (qst 17 sc_a7 (C7 A1))
   (A3 (G8 Zf rfl (G0 rfl T.z_range (A0 (qln K T.z_len (qpv 5)) A1)) (qgn 14 sc_a7)
    (A3 (C0 (qix K (qpv 5) (qpv 14)) (B9 (K:=K) (n:=2) rfl rfl (A5 (qgn 18 sc_a7) (A5 (qgn 8 sc_a7) B8)) rfl rfl))
    (A3 (qst 19 sc_a7 (qcK (A1t (K:=K) T) hr.mo (A4q T) (A0 (qpv 1) (A0 (B2 G4 A2 (qpv 14)) A1))))
    (A4 (C6 (A9 (C8 (K:=K) rfl hr.units) (qpv 18) B1 (B6 _))
     (A4 (D6 (G9 (K:=K) rfl Z1 Z2 Z3 F2 (qpv 17) (A0 (A8 (A0 (qpv 18) (A0 (qpv 8) (A0 (qcK (J5 (K:=K) T) hr.mo (K5 T) (A0 (qix K (qix K (qpv 7) (qpv 8)) A2) (A0 (qpv 19) A1))) A1)))) A1))))
     (A4 (D6 (G9 (K:=K) rfl Z1 Z2 Z3 F2 (qpv 17) (A0 (A8 (A0 (qpv 18) (A0 (qpv 8) (A0 (qcK (D7 (K:=K) T) hr.mo (F5 T) (A0 (qix K (C7 (A0 (qix K (qix K (qpv 7) (qpv 8)) A2) (A0 (qix K (qpv 12) (qpv 8)) A1))) (P8 A2d (by rfl) T.z_int (by rfl) (A0 (G6 (C8 (K:=K) rfl hr.units) (qpv 18) B1 (B6 _)) A1))) (A0 (qpv 19) A1))) A1)))) A1)))))))))
   (A4 (B0 (A8 (A0 (A8 (A0 (qpv 3) (A0 (qpv 13) (A0 (qpv 17) (A0 (C7 A1) A1))))) (A0 (qpv 7) A1))))))))))))))),?_⟩
 refine Pu.G5 h ?_;rintro as Qp ⟨n,xs,vs,us,ns,pa,rfl,ok,l48,hpa,k⟩;have n0:=ok.n0;have n1:=ok.n1;have ln:=ok.ln;have vl:=ok.vl;have ul:=ok.ul;refine hd fun R hR=>?_;unfold shD;symm;left;refine ⟨n,xs,vs,us,pa,rfl,ok,l48,hpa,fun is os li lo hi _=>?_⟩;symm;left;left;refine ⟨by omega,?_⟩;refine U2 (fun i e=>∃ (ps:LR) (o8 o9 o10 o11:Option SV),e=[some (.d (.tuple [.list (xs.map kD),.list (vs.map pD),.list (us.map qD)])),some (.bor (ns.map .int)),some (.bor (pa.map paD)),some (.d (.list (xs.map kD))),some (.d (.list (vs.map pD))),some (.d (.list (us.map qD))),some (.d (.list (is.map dq))),some (.own (ps.map dcn)),o8,o9,o10,o11,none,none,none,none,none,none,none,none]/\ps.length=i/\(∀ p ∈ ps,0<=p.1/\On (LL * 4) (2 ^ 50) p.1/\On (LL * 4) (2 ^ 50) p.2)/\∀ (j:Nat) x p,xs[j]?=some x->ps[j]?=some p->Off x.2.1 x.2.2 p.2) ⟨[],_,_,_,_,rfl,rfl,(fun _ z=>nomatch z),fun j x p _ h=>nomatch h⟩ ?_ ?_
 ·rintro i e hi' ⟨ps,o8,o9,o10,o11,rfl,hl,hp,hof⟩;obtain ⟨x,ex⟩:∃ c,xs[i]?=some c:=⟨_,Zg (by omega)⟩;obtain ⟨r,er⟩:∃ c,is[i]?=some c:=⟨_,Zg (by omega)⟩;obtain ⟨hk,og,oc,op⟩:=ok.of x (Zm ex);symm;refine ⟨ns,_,rfl,by omega,by omega,?_⟩;symm;refine ⟨7919,rfl,by decide,J8 (B:=7919) (by omega) (by omega) (by decide),fun d d0 d1=>?_⟩;symm;refine A6 ex ?_;rw [show kD x=PyData.tuple [.str x.1,offD x.2.1 x.2.2] from rfl];symm;refine A6 er ?_;symm;refine ⟨x.2.1,x.2.2,r,rfl,hk,og.ok,oc,(hi r (Zm er)).p2 (by decide),fun t ot off=>?_⟩;symm;refine ⟨_,_,rfl,.inl rfl,fun q q0 _ sq _=>?_⟩;symm;refine ⟨4,rfl,by decide,sm4 4,fun z z0 z1=>?_⟩;symm;have fin:∀ (q:Rat),0<=q->On (LL * 4) (2 ^ 50) q->(∀ p ∈ ps++[(q,t)],0<=p.1/\On (LL * 4) (2 ^ 50) p.1/\On (LL * 4) (2 ^ 50) p.2)/\∀ (j:Nat) x p,xs[j]?=some x->(ps++[(q,t)])[j]?=some p->Off x.2.1 x.2.2 p.2:=fun q q0 oq=>by
   refine ⟨fun p h=>?_,fun j y p hx h=>?_⟩
   ·rcases Za h with z | z
    ·exact hp p z
    ·rw [Zn z]; exact ⟨q0,oq,ot⟩
   ·by_cases hj:j < ps.length
    ·rw [List.getElem?_append_left hj] at h;exact hof j y p hx h
    ·have hj2:j=ps.length:=by
      have:=(Zs h).1;rw [Ze,List.length_singleton] at this;omega
     rw [hj2,List.getElem?_append_right (Zv _),Nat.sub_self] at h;cases h;rw [hj2,hl,ex] at hx;cases hx;exact off
  refine ite2 (fun _=>?_) (fun _=>?_)
  ·symm;obtain ⟨f1,f2⟩:=fin 0 Rat.le_refl (On.zero.mono (Nat.zero_le _));exact ⟨by omega,ps++[(0,t)],_,_,_,_,by rw [Zc]; rfl,by rw [Ze,hl]; rfl,f1,f2⟩
  ·symm;obtain ⟨f1,f2⟩:=fin q q0 (((P2 sq).up (by decide)).p2 (by decide));exact ⟨by omega,ps++[(q,t)],_,_,_,_,by rw [Zc]; rfl,by rw [Ze,hl]; rfl,f1,f2⟩
 ·rintro e ⟨ps,o8,o9,o10,o11,rfl,hl,hp,hof⟩;symm;left;have B4:0 < LL * 4:=Nat.mul_pos C9 (by decide);have sp:∀ p ∈ ps,SmQ 3900 p.1/\SmQ 3900 p.2/\SmQ 3900 (enD p)/\On (LL * 4) (2 ^ 51) (enD p):=fun p h=>by
   obtain ⟨_,a,b⟩:=hp p h;have c:=a.add2 (b:=51) B4 b (by decide);exact ⟨a.q B4 (by ext) (by ext),b.q B4 (by ext) (by ext),c.q B4 (by ext) (by ext),c⟩
  refine ⟨by omega,J6 (f:=dcn) (xs:=ps) (fun i e ys=>∃ o1 o2:Option SV,e=[o1,o2]/\ys=((ps.take i).map enD).map dq) ⟨_,_,rfl,rfl⟩ ?_ ?_⟩
  ·rintro i p e ys hpi ⟨o1,o2,rfl,rfl⟩;obtain ⟨a,b,_,_⟩:=sp p (Zm hpi);symm;refine ⟨p.1,p.2,rfl,a,b,?_⟩;symm;exact ⟨_,_,rfl,by rw [List.take_succ,hpi,Zc,Zc]; rfl⟩
  rintro e ys ⟨o1,o2,rfl,rfl⟩;rw [List.take_length];symm;left;left;have st:∀ {y:Nat} {p:Rat × Rat},ps[y]?=some p->sat ps (y:Int)=p:=fun {y p} h=>by
   show ps.getD ((y:Int).toNat) (0,0)=p;rw [Int.toNat_natCast,List.getD_eq_getElem?_getD,h]; rfl
  refine ⟨by omega,?_⟩;refine U2 (fun i e=>∃ (ws:LW) (o14 o15 o16:Option SV),e=[some (.d (.tuple [.list (xs.map kD),.list (vs.map pD),.list (us.map qD)])),some (.bor (ns.map .int)),some (.bor (pa.map paD)),some (.d (.list (xs.map kD))),some (.d (.list (vs.map pD))),some (.d (.list (us.map qD))),some (.d (.list (is.map dq))),some (.d (.list (ps.map dcn))),o8,o9,o10,o11,some (.own ((ps.map enD).map dq)),some (.own (ws.map wD)),o14,o15,o16,none,none,none]/\ws.length=i/\ws.map (fun w=>(w.1,w.2.1))=vs.take i/\∀ w ∈ ws,On (LL * 4) (2 ^ 55) w.2.2/\0<=wSl ps w) ⟨[],_,_,_,rfl,rfl,rfl,fun _ z=>nomatch z⟩ ?_ ?_
  ·rintro i e hi' ⟨ws,o14,o15,o16,rfl,lw,ew,hw⟩;obtain ⟨⟨v1,v2⟩,ev⟩:∃ z,vs[i]?=some z:=⟨_,Zg (by omega)⟩;obtain ⟨⟨v10,v11⟩,v20,v21⟩:=ok.vk _ (Zm ev);obtain ⟨x,rfl⟩:=Zi v10;obtain ⟨y,rfl⟩:=Zi v20;obtain ⟨a,ea⟩:∃ z,ps[x]?=some z:=⟨_,Zg (by have:(x:Int) < (n:Int):=v11; omega)⟩;obtain ⟨b,eb⟩:∃ z,ps[y]?=some z:=⟨_,Zg (by have:(y:Int) < (n:Int):=v21; omega)⟩;obtain ⟨_,_,a3,a4⟩:=sp a (Zm ea);obtain ⟨b1,_,_,_⟩:=sp b (Zm eb);have ob:=(hp b (Zm eb)).2.1;have od:=(ob.p2 (b:=51) (by decide)).sub2 (b:=52) B4 a4 (by decide);symm;refine A6 ev ?_;rw [show pD ((x:Int),(y:Int))=PyData.tuple [.int (x:Int),.int (y:Int)] from rfl];symm;refine A6 eb ?_;symm;refine A6 (f:=dq) (xs:=ps.map enD) (n:=x) (by rw [Zh,ea]; rfl) ?_;symm;refine ⟨b.1,enD a,rfl,b1,a3,?_⟩;symm;refine ⟨ns,_,rfl,by omega,by omega,fun q q0 oq=>?_⟩;have oq4:On (LL * 4) (2 ^ 52) q:=(oq.up (by decide)).p2 (by decide);symm;refine ⟨b.1 - enD a,q,rfl,od.q B4 (by ext) (by ext),oq4.q B4 (by ext) (by ext),?_⟩;symm;refine ⟨by omega,ws++[((x:Int),(y:Int),b.1 - enD a - q)],_,_,_,by rw [Zc]; rfl,by rw [Ze,lw]; rfl,by rw [Zc,ew,List.take_succ,ev]; rfl,fun w h=>?_⟩;rcases Za h with z | z
   ·exact hw w z
   ·rw [Zn z];refine ⟨(od.sub2 (b:=53) B4 oq4 (by decide)).p2 (by decide),?_⟩;show 0<=(sat ps (y:Int)).1 - (enD (sat ps (x:Int)) + (b.1 - enD a - q));rw [st ea,st eb]; grind
  rintro e ⟨ws,o14,o15,o16,rfl,lw,ew,hw⟩;symm;left;left;refine ⟨by omega,?_⟩;refine U2 (fun i e=>∃ (hs:LH) (o8 o14 o18 o19:Option SV),e=[some (.d (.tuple [.list (xs.map kD),.list (vs.map pD),.list (us.map qD)])),some (.bor (ns.map .int)),some (.bor (pa.map paD)),some (.d (.list (xs.map kD))),some (.d (.list (vs.map pD))),some (.d (.list (us.map qD))),some (.d (.list (is.map dq))),some (.d (.list (ps.map dcn))),o8,o9,o10,o11,some (.own ((ps.map enD).map dq)),some (.own (ws.map wD)),o14,o15,o16,some (.own (hs.map hD)),o18,o19]/\hs.length=i/\hs.map (fun h=>(h.1,h.2.1))=us.take i/\∀ h ∈ hs,On (LL * 4) (2 ^ 55) h.2.2/\0<=hSl ps h) ⟨[],_,_,_,_,rfl,rfl,rfl,fun _ z=>nomatch z⟩ ?_ ?_
  ·rintro i e hi' ⟨hs,o8,o14,o18,o19,rfl,lh,eh,hh⟩;obtain ⟨⟨kd,v2⟩,ev⟩:∃ z,us[i]?=some z:=⟨_,Zg (by omega)⟩;obtain ⟨uk,v20,v21⟩:=ok.uk _ (Zm ev);have uk':Hk kd:=uk;obtain ⟨y,rfl⟩:=Zi v20;obtain ⟨b,eb⟩:∃ z,ps[y]?=some z:=⟨_,Zg (by have:(y:Int) < (n:Int):=v21; omega)⟩;obtain ⟨b1,_,b3,b4⟩:=sp b (Zm eb);have ob:=(hp b (Zm eb)).2.1.p2 (b:=52) (by decide);have oe:=b4.p2 (b:=52) (by decide);have add:∀ {kd':Str} {q:Rat},kd'=kd->On (LL * 4) (2 ^ 55) q->0<=hSl ps (kd',(y:Int),q)->(hs++[(kd',(y:Int),q)]).length=i + 1/\(hs++[(kd',(y:Int),q)]).map (fun h=>(h.1,h.2.1))=us.take (i + 1)/\∀ h ∈ hs++[(kd',(y:Int),q)],On (LL * 4) (2 ^ 55) h.2.2/\0<=hSl ps h:=fun {kd' q} e oq hq=>by
    refine ⟨by rw [Ze,lh]; rfl,by rw [Zc,eh,List.take_succ,ev,e]; rfl,fun h hm=>?_⟩;rcases Za hm with z | z
    ·exact hh h z
    ·rw [Zn z]; exact ⟨oq,hq⟩
   symm;refine A6 ev ?_;rw [show qD (kd,(y:Int))=PyData.tuple [.str kd,.int (y:Int)] from rfl];symm;refine ⟨ns,_,rfl,by omega,by omega,fun q q0 oq=>?_⟩;have oq4:On (LL * 4) (2 ^ 52) q:=(oq.up (by decide)).p2 (by decide);have sq:SmQ 3900 q:=oq4.q B4 (by ext) (by ext);symm;refine ⟨uk'.lay,by ext,?_⟩;refine ite2 (fun hf=>?_) (fun hf=>?_)
   ·refine A6 eb ?_;symm;refine ⟨b.1,q,rfl,b1,sq,?_⟩;symm;have ek:kd="from":=by
     rcases uk' with z | z | z
     ·exact z
     ·rw [z] at hf; exact absurd hf (by ext)
     ·rw [z] at hf; exact absurd hf (by ext)
    obtain ⟨r1,r2,r3⟩:=add (kd':=kd) rfl ((ob.sub2 (b:=53) B4 oq4 (by decide)).p2 (by decide)) (by
     unfold hSl;rw [if_pos ek];show 0<=(sat ps (y:Int)).1 - (b.1 - q);rw [st eb]; grind)
    exact ⟨by omega,hs++[(kd,(y:Int),b.1 - q)],_,_,_,_,by rw [Zc]; rfl,r1,r2,r3⟩
   ·refine A6 eb ?_;symm;refine A6 (f:=dq) (xs:=ps.map enD) (n:=y) (by rw [Zh,eb]; rfl) ?_;symm;refine ⟨uk'.lay,by ext,?_⟩;rcases uk' with z | z | z
    ·rw [z] at hf; exact absurd (by ext) hf
    ·have z':kd="till":=z;subst z';rw [if_neg (by ext)];symm;refine ⟨b.1,q,rfl,b1,sq,?_⟩;symm;obtain ⟨r1,r2,r3⟩:=add (kd':="till") rfl ((ob.add2 (b:=53) B4 oq4 (by decide)).p2 (by decide)) (by
      unfold hSl;rw [if_neg C2v,if_pos rfl];show 0<=b.1 + q - (sat ps (y:Int)).1;rw [st eb]; grind)
     exact ⟨by omega,hs++[(Str.ofString "till",(y:Int),b.1 + q)],_,_,_,_,by rw [Zc]; rfl,r1,r2,r3⟩
    ·have z':kd="by":=z;subst z';rw [if_pos (by ext)];symm;refine ⟨enD b,q,rfl,b3,sq,?_⟩;symm;obtain ⟨r1,r2,r3⟩:=add (kd':="by") rfl ((oe.add2 (b:=53) B4 oq4 (by decide)).p2 (by decide)) (by
      unfold hSl;rw [if_neg C2y,if_neg C2x];show 0<=enD b + q - enD (sat ps (y:Int));rw [st eb]; grind)
     exact ⟨by omega,hs++[(Str.ofString "by",(y:Int),enD b + q)],_,_,_,_,by rw [Zc]; rfl,r1,r2,r3⟩
  rintro e ⟨hs,o8,o14,o18,o19,rfl,lh,eh,hh⟩;symm;subst hR;symm;exact k ps ws hs (by omega) hp hof (ew.trans (List.take_of_length_le (by omega))) hw (eh.trans (List.take_of_length_le (by omega))) hh
def A1m:Pu.PSp:=fun as Q=>∃ q:Rat,as=[.d (dq q)]/\SmQ 3900 q/\Q (.d (.bool true))
def A1u (T:Txt K mg D):FnOk P w K mg base CX0 2 D.a_a3 D.d_a3 ["_law_found"] (Pu.spOf K [.dat] A1m):=by
 refine T.B.F_a3.ok sc_a3 (Zz rfl) (fun cdv A outer s H vs Q E hr h=>?_);refine ⟨_,(QSs.out (A3 (C6 (QW.pt (M0 (G7 (D8 (D1 (F9 (K:=K) rfl) (by rfl) T.z_isinstance (by rfl) (A0 (qpv 0) (A0 (J0 (v:=.ty "tuple") rfl T.z_tuple (by rfl) rfl) A1))))) (K4 (A9 (K7 (K:=K) rfl hr.units) (qln K T.z_len (qpv 0)) A2 (B6 _)))))
    (A4 (B0 J4))
    C3)
   (A3 (G8 Zf rfl (F4 (K:=K) rfl (qpv 0)) (qgn 1 sc_a3)
    (A4 (C6 (QW.pt (M0 (G7 (D8 (D1 (F9 (K:=K) rfl) (by rfl) T.z_isinstance (by rfl) (A0 (qpv 1) (A0 (J0 (v:=.ty "int") rfl T.z_int (by rfl) rfl) A1))))) (K4 (D8 (D1 (F9 (K:=K) rfl) (by rfl) T.z_isinstance (by rfl) (A0 (qpv 1) (A0 (J0 (v:=.ty "bool") rfl T.z_bool (by rfl) rfl) A1)))))))
     (A4 (B0 J4))
     C3)))
   (A4 (B0 (N1 (G6 Y3 (qix K (qpv 0) A2) A2 (B6 _)) (O9 (G6 (C8 (K:=K) rfl hr.units) (qcK (Q9 (K:=K) T) hr.mo (X9 T) (A0 (qix K (qpv 0) A2) (A0 (qix K (qpv 0) A2) A1))) (qpv 0) (B6 _))))))))),?_⟩
 refine Pu.G5 h ?_;rintro as Qp ⟨q,rfl,sq,k⟩;symm;refine B6y (fun i e=>∃ o:Option SV,e=[some (.d (dq q)),o]) ⟨_,rfl⟩ ?_ ?_
 ·rintro i x e hi ⟨o,rfl⟩;have hx:∃ z,x=.int z:=by
   match i,hi with
   | 0,hi=>cases hi; exact ⟨_,rfl⟩
   | 1,hi=>cases hi; exact ⟨_,rfl⟩
  obtain ⟨z,rfl⟩:=hx;symm;exact ⟨_,rfl⟩
 rintro e ⟨o,rfl⟩;symm;have hd0:(0:Int) < (q.den:Int):=by have:=q.den_pos; omega
 refine ite2 (fun _=>?_) (fun z=>absurd hd0 z);refine ⟨q.num,(q.den:Int),rfl,hd0,sq.1.mono (by decide),sq.2.mono (by decide),?_⟩;rw [Rat.num_divInt_den];symm;exact k
def A66:Pu.PSp:=fun as Q=>∃ (ns:List Int) (kz:List Str),as=[.bor (ns.map .int),.d (.list (kz.map .str))]/\ns.length<=63/\1<=kz.length/\kz.length<=3/\(∀ z ∈ kz,Kd z)/\∀ (n:Nat) (xs:List Wk) (vs:List (Int × Int)) (us:List (Str × Int)) (pa:List ((Str × Int) × Rat)) (ps:LR) (ws:LW) (hs:LH),ShOk n xs vs us->PB n vs us pa->ps.length=n->(∀ p ∈ ps,0<=p.1/\On (LL * 4) (2 ^ 50) p.1/\On (LL * 4) (2 ^ 50) p.2)->(∀ (i:Nat) x p,xs[i]?=some x->ps[i]?=some p->Off x.2.1 x.2.2 p.2)->ws.map (fun w=>(w.1,w.2.1))=vs->(∀ w ∈ ws,On (LL * 4) (2 ^ 55) w.2.2/\0<=wSl ps w)->hs.map (fun h=>(h.1,h.2.1))=us->(∀ h ∈ hs,On (LL * 4) (2 ^ 55) h.2.2/\0<=hSl ps h)->Q (.d (.tuple [netD xs ws hs [],.list (ps.map dcn),.list (pa.map paD)]))
def A7u (T:Txt K mg D):FnOk P w K mg base CX0 6 D.a_b0 D.d_b0 ["_law_script","_law_kinds"] (Pu.spOf K [.vw,.dat] A66):=by
 refine T.B.F_b0.ok sc_b0 (Zz rfl) (fun cdv A outer s H vs Q E hr h=>?_);refine ⟨_,(QSs.out (A3 (qst 2 sc_b0 (qcK (A7p (K:=K) T) hr.mo (B1p T) (A0 (qpv 0) (A0 (qpv 1) A1))))
   (A3 (qst 3 sc_b0 (qcK (A7q (K:=K) T) hr.mo (B1q T) (A0 (qpv 2) (A0 (qpv 0) (A0 A2 A1)))))
   (A3 (C0 (qcK (A2y (K:=K) T) hr.mo (A5x T) (A0 (qpv 2) (A0 (qpv 0) (A0 (qpv 3) A1)))) (B9 (K:=K) (n:=2) rfl rfl (A5 (qgn 4 sc_b0) (A5 (qgn 5 sc_b0) B8)) rfl rfl))
   (A4 (B0 (A8 (A0 (qpv 4) (A0 (qpv 5) (A0 (qpv 3) A1)))))))))),?_⟩
 refine Pu.G5 h ?_;rintro as Qp ⟨ns,kz,rfl,h63,k1,k3,hkz,k⟩;right;refine ⟨ns,kz,rfl,h63,k1,k3,hkz,fun n xs vs us ok=>?_⟩;symm;left;refine ⟨n,xs,vs,us,ns,0,rfl,by decide,by decide,ok,fun pa hpb=>?_⟩;symm;left;refine ⟨n,xs,vs,us,ns,pa,rfl,ok,hpb.ln,(fun p hp=>⟨(hpb.ar p hp).1,(hpb.ar p hp).2.1⟩),fun ps ws hs h1 h2 h3 h4 h5 h6 h7=>?_⟩;symm;subst hR;symm;exact k n xs vs us pa ps ws hs ok hpb h1 h2 h3 h4 h5 h6 h7
def A41:Pu.PSp:=fun as Q=>∃ x:PyData,as=[.d x]/\Q (.d (.bool (isW x)))
def T9 (T:Txt K mg D):FnOk P w K mg base CX0 1 D.a_ae D.d_ae ["thing"] (Pu.spOf K [.dat] A41):=by
 refine T.B.F_ae.ok sc_ae (Zz rfl) (fun cdv A outer s H vs Q E hr h=>?_);refine ⟨_,(QSs.out (A4 (B0 (N1 (D1 (F9 (K:=K) rfl) (by rfl) T.z_isinstance (by rfl) (A0 (qpv 0) (A0 (J0 (v:=.ty "int") rfl T.z_int (by rfl) rfl) A1))) (O9 (B3o (D1 (F9 (K:=K) rfl) (by rfl) T.z_isinstance (by rfl) (A0 (qpv 0) (A0 (J0 (v:=.ty "bool") rfl T.z_bool (by rfl) rfl) A1))))))))),?_⟩;refine Pu.G5 h ?_;rintro as Qp ⟨x,rfl,k⟩;symm;cases x <;> symm <;> exact k
def A1j:Pu.PSp:=fun as Q=>∃ (x:PyData) (n:Int),as=[.d x,.d (.int n)]/\Q (.d (.bool (isT n x)))
def P3 (T:Txt K mg D):FnOk P w K mg base CX0 1 D.a_a6 D.d_a6 ["thing","many"] (Pu.spOf K [.dat,.dat] A1j):=by
 refine T.B.F_a6.ok sc_a6 (Zz rfl) (fun cdv A outer s H vs Q E hr h=>?_);refine ⟨_,(QSs.out (A4 (B0 (N1 (D1 (F9 (K:=K) rfl) (by rfl) T.z_isinstance (by rfl) (A0 (qpv 0) (A0 (J0 (v:=.ty "tuple") rfl T.z_tuple (by rfl) rfl) A1))) (O9 (G6 (C8 (K:=K) rfl hr.units) (qln K T.z_len (qpv 0)) (qpv 1) (B6 _))))))),?_⟩;refine Pu.G5 h ?_;rintro as Qp ⟨x,n,rfl,k⟩;symm;cases x <;> symm <;> exact k
def A42:Pu.PSp:=fun as Q=>∃ x:PyData,as=[.d x]/\Q (.d (.bool (isR x)))
def A5d (T:Txt K mg D):FnOk P w K mg base CX0 2 D.a_ad D.d_ad ["thing"] (Pu.spOf K [.dat] A42):=by
 refine T.B.F_ad.ok sc_ad (Zz rfl) (fun cdv A outer s H vs Q E hr h=>?_);refine ⟨_,(QSs.out (A3 (C6 (G7 (D8 (qcK (P3 (K:=K) T) hr.mo (R5 T) (A0 (qpv 0) (A0 A2 A1)))))
    (A4 (B0 J4))
    C3)
   (A3 (C0 (qpv 0) (B9 (K:=K) (n:=2) rfl rfl (A5 (qgn 1 sc_ad) (A5 (qgn 2 sc_ad) B8)) rfl rfl))
   (A3 (C6 (QW.pt (M0 (G7 (D8 (qcK (T9 (K:=K) T) hr.mo (X6 T) (A0 (qpv 1) A1)))) (K4 (G7 (D8 (qcK (T9 (K:=K) T) hr.mo (X6 T) (A0 (qpv 2) A1)))))))
    (A4 (B0 J4))
    C3)
   (A4 (B0 (N1 (G6 B91 (qpv 2) A2 (B6 _)) (O9 (G6 (C8 (K:=K) rfl hr.units) (qcK (O2 (K:=K) T) hr.mo (P5 T) (A0 (qpv 1) (A0 (qpv 2) A1))) A2 (B6 _)))))))))),?_⟩
 refine Pu.G5 h ?_;rintro as Qp ⟨x,rfl,k⟩;symm;refine ⟨x,2,rfl,?_⟩;symm;by_cases ht:isT 2 x=false
 ·rw [if_pos ht];have:isR x=false:=by
   unfold isT at ht;unfold isR;split
   ·simp at ht
   ·rfl
  rw [this] at k; exact k
 ·rw [if_neg ht];obtain ⟨a,b,rfl⟩:∃ a b,x=.tuple [a,b]:=by
   unfold isT at ht;split at ht
   ·rename_i xs;match xs with
    | [a,b]=>exact ⟨a,b,rfl⟩
    | []=>simp at ht
    | [_]=>simp at ht
    | _ :: _ :: _ :: _=>simp at ht; omega
   ·exact absurd rfl ht
  symm;refine ⟨a,rfl,?_⟩;symm;by_cases ha:isW a=false
  ·rw [if_pos ha];have:isR (.tuple [a,b])=false:=by
    cases a with
    | int i=>simp [isW] at ha
    | _=>rfl
   rw [this] at k; exact k
  ·rw [if_neg ha];obtain ⟨i,rfl⟩:∃ i,a=.int i:=by
    cases a with
    | int i=>exact ⟨i,rfl⟩
    | _=>exact absurd rfl ha
   refine ⟨b,rfl,?_⟩;symm;by_cases hb:isW b=false
   ·rw [if_pos hb];have:isR (.tuple [.int i,b])=false:=by
     cases b with
     | int j=>simp [isW] at hb
     | _=>rfl
    rw [this] at k; exact k
   ·rw [if_neg hb];obtain ⟨j,rfl⟩:∃ j,b=.int j:=by
     cases b with
     | int j=>exact ⟨j,rfl⟩
     | _=>exact absurd rfl hb
    symm;have k:Qp (.d (.bool (decide (1<=j) && decide (((Int.gcd i j:Nat):Int)=1)))):=k;refine ite2 (fun h=>?_) (fun h=>?_)
    ·rw [Zk h,Bool.true_and] at k;refine ⟨_,_,rfl,?_⟩;symm;exact k
    ·rw [Zd h,Bool.false_and] at k;exact k
def U6:Pu.PSp:=fun as Q=>∃ x n,as=[.d x,.d (.int n)]/\Q (.d (.bool (isNb n x)))
def U7 (T:Txt K mg D):FnOk P w K mg base CX0 2 D.a_a0 D.d_a0 ["thing","many"] (Pu.spOf K [.dat,.dat] U6):=by
 refine T.B.F_a0.ok sc_a0 (Zz rfl) (fun cdv A outer s H vs Q E hr h=>?_);refine ⟨_,(QSs.out (A4 (B0 (N1 (qcK (T9 (K:=K) T) hr.mo (X6 T) (A0 (qpv 0) A1)) (O9 (A6p C2s A5c A2 (qpv 0) (qpv 1))))))),?_⟩;refine Pu.G5 h ?_;rintro as Qp ⟨x,n,rfl,k⟩;symm;refine ⟨x,rfl,?_⟩;symm;cases x with
 | int i =>
  have e:isW (.int i)=true:=rfl;symm;rw [if_pos e];have k:Qp (.d (.bool (decide (0<=i) && decide (i < n)))):=k;by_cases h:0<=i
  ·rw [if_pos h]; rw [Zk h,Bool.true_and] at k; exact k
  ·rw [if_neg h]; rw [Zd h,Bool.false_and] at k; exact k
 | none=>exact k
 | bool b=>exact k
 | str z=>exact k
 | list xs=>exact k
 | tuple xs=>exact k
 | dict xs=>exact k
def A90:Pu.PSp:=fun as Q=>∃ (xs:List Wk) (ws:LW) (hs:LH) (gs:LP) (x:PyData),as=[.d (netD xs ws hs gs),.d x]/\Q (.d (.bool (arB xs.length ws.length hs.length x)))
def B0h (T:Txt K mg D):FnOk P w K mg base CX0 3 D.a_c3 D.d_c3 ["net","thing"] (Pu.spOf K [.dat,.dat] A90):=by
 refine T.B.F_c3.ok sc_c3 (Zz rfl) (fun cdv A outer s H vs Q E hr h=>?_);refine ⟨_,(QSs.out (A3 (C6 (G7 (D8 (qcK (P3 (K:=K) T) hr.mo (R5 T) (A0 (qpv 1) (A0 A2 A1)))))
    (A4 (B0 J4))
    C3)
   (A3 (A9p (i:=2) (j:=3) (k:=4) rfl sc_c3.nd rfl rfl rfl (by decide) (by decide) (by decide) rfl rfl rfl (A0 (qix K (qpv 0) A2) (A0 (qix K (qpv 0) A2) (A0 (qix K (qpv 0) A2) A1))) rfl rfl)
   (A3 (qst 5 sc_c3 (A9s (V1 B1 (qln K T.z_len (qpv 2)) (V1 B1 (qln K T.z_len (qpv 2)) (V1 B1 (qln K T.z_len (qpv 3)) (V1 B1 (qln K T.z_len (qpv 4)) B3n)))) (by rfl) (by rfl) (by decide) (by decide)))
   (A3 (C0 (qpv 1) (B9 (K:=K) (n:=2) rfl rfl (A5 (qgn 6 sc_c3) (A5 (qgn 7 sc_c3) B8)) rfl rfl))
   (A4 (B0 (N1 (D1 (F9 (K:=K) rfl) (by rfl) T.z_isinstance (by rfl) (A0 (qpv 6) (A0 (J0 (v:=.ty "str") rfl T.z_str (by rfl) rfl) A1))) (N1 (B3p (u1 hr.units) (qpv 6) (qpv 5) (by with_unfolding_all rfl)) (O9 (qcK (U7 (K:=K) T) hr.mo (X7 T) (A0 (qpv 7) (A0 (A9t (u1 hr.units) (qpv 5) (qpv 6) (fun _ _=>rfl)) A1))))))))))))),?_⟩
 refine Pu.G5 h ?_;rintro as Qp ⟨xs,ws,hs,gs,x,rfl,k⟩;unfold netD;right;refine ⟨x,2,rfl,?_⟩;symm;by_cases ht:isT 2 x=false
 ·rw [C17 ht] at k;rw [if_pos ht];exact k
 rw [if_neg ht];obtain ⟨a,v,rfl⟩:=A8c ht;left;left;refine ⟨by ext,?_⟩;left;subst hR;symm;cases a with
 | str c =>
  symm;have k:Qp (.d (.bool (if c=Str.ofString "start" then isNb xs.length v else if c=Str.ofString "end" then isNb xs.length v else if c=Str.ofString "wait" then isNb ws.length v else if c=Str.ofString "hold" then isNb hs.length v else false))):=k;by_cases e1:c=Str.ofString "start"
  ·subst e1;rw [if_pos rfl] at k;refine ite2 (fun _=>⟨_,if_pos rfl,v,_,rfl,?_⟩) (fun z=>absurd (V5 (Zy)) z);symm;exact k
  rw [if_neg e1] at k;by_cases e2:c=Str.ofString "end"
  ·subst e2;rw [if_pos rfl] at k;refine ite2 (fun _=>⟨_,(if_neg w_se).trans (if_pos rfl),v,_,rfl,?_⟩) (fun z=>absurd (V5 (Zr _ Zy)) z);symm;exact k
  rw [if_neg e2] at k;by_cases e3:c=Str.ofString "wait"
  ·subst e3;rw [if_pos rfl] at k;refine ite2 (fun _=>⟨_,(if_neg w_sw).trans ((if_neg w_ew).trans (if_pos rfl)),v,_,rfl,?_⟩) (fun z=>absurd (V5 (Zr _ (Zr _ Zy))) z);symm;exact k
  rw [if_neg e3] at k;by_cases e4:c=Str.ofString "hold"
  ·subst e4;rw [if_pos rfl] at k;refine ite2 (fun _=>⟨_,(if_neg w_sh).trans ((if_neg w_eh).trans ((if_neg w_wh).trans (if_pos rfl))),v,_,rfl,?_⟩) (fun z=>absurd (V5 (Zr _ (Zr _ (Zr _ Zy)))) z);symm;exact k
  rw [if_neg e4] at k;refine ite2 (fun z=>absurd z (B6s (fun p hp=>?_) fun p hp=>?_)) (fun _=>k)
  ·simp only [List.mem_cons,List.not_mem_nil,or_false] at hp;rcases hp with rfl | rfl | rfl | rfl
   ·exact fun z=>e1 (PyData.str.inj z).symm
   ·exact fun z=>e2 (PyData.str.inj z).symm
   ·exact fun z=>e3 (PyData.str.inj z).symm
   ·exact fun z=>e4 (PyData.str.inj z).symm
  ·simp only [List.mem_cons,List.not_mem_nil,or_false] at hp;rcases hp with rfl | rfl | rfl | rfl
   ·exact ⟨_,rfl⟩
   ·exact ⟨_,rfl⟩
   ·exact ⟨_,rfl⟩
   ·exact ⟨_,rfl⟩
 | none=>symm; exact k
 | bool b=>symm; exact k
 | int b=>symm; exact k
 | list b=>symm; exact k
 | tuple b=>symm; exact k
 | dict b=>symm; exact k
def A1k:Pu.PSp:=fun as Q=>∃ (xs:List Wk) (ws:LW) (hs:LH) (gs:LP) (x:PyData),as=[.d (netD xs ws hs gs),.d x]/\((∃ p:(Str × Int) × Rat,x=paD p/\ArOk xs.length ws.length hs.length p.1/\SmQ 3900 p.2/\0 < p.2/\Q (.d (.bool true)))\/(OddC xs.length ws.length hs.length x/\Q (.d (.bool false))))
def U3 (T:Txt K mg D):FnOk P w K mg base CX0 4 D.a_a5 D.d_a5 ["net","thing"] (Pu.spOf K [.dat,.dat] A1k):=by
 refine T.B.F_a5.ok sc_a5 (Zz rfl) (fun cdv A outer s H vs Q E hr h=>?_);refine ⟨_,(QSs.out (A3 (C6 (G7 (D8 (qcK (P3 (K:=K) T) hr.mo (R5 T) (A0 (qpv 1) (A0 A2 A1)))))
    (A4 (B0 J4))
    C3)
   (A3 (C0 (qpv 1) (B9 (K:=K) (n:=2) rfl rfl (A5 (qgn 2 sc_a5) (A5 (qgn 3 sc_a5) B8)) rfl rfl))
   (A4 (B0 (N1 (qcK (B0h (K:=K) T) hr.mo (B7c T) (A0 (qpv 0) (A0 (qpv 2) A1))) (N1 (qcK (A5d (K:=K) T) hr.mo (A83 T) (A0 (qpv 3) A1)) (O9 (qcK (W5 (K:=K) T) hr.mo (A03 T) (A0 (S1 (v:=.ref D.k_NOUGHT) rfl T.c_NOUGHT rfl) (A0 (qpv 3) A1))))))))))),?_⟩
 haveI:=T.c2_NOUGHT
 refine Pu.G5 h ?_;rintro as Qp ⟨xs,ws,hs,gs,x,rfl,h⟩;right;refine ⟨x,2,rfl,?_⟩;symm;by_cases ht:isT 2 x=false
 ·rw [if_pos ht];rcases h with ⟨p,rfl,_⟩ | ⟨_,k⟩
  ·cases ht
  ·exact k
 rw [if_neg ht];obtain ⟨a,v,rfl⟩:=A8c ht;left;subst hR;symm;refine ⟨xs,ws,hs,gs,a,rfl,?_⟩;symm;rcases h with ⟨p,ep,ok,sp,p0,k⟩ | ⟨od,k⟩
 ·have ep:PyData.tuple [a,v]=.tuple [qD p.1,dq p.2]:=ep;cases ep;rw [if_pos (C16 ok)];refine ⟨dq p.2,rfl,?_⟩;rw [B2o];symm;refine ⟨0,p.2,rfl,smq0,sp,?_⟩;rw [Zk p0];symm;exact k
 ·refine ite2 (fun ha=>?_) (fun _=>k);rcases od with z | ⟨a',b',e,z⟩ | ⟨a',e⟩
  ·cases z
  ·cases e;rw [ha] at z; cases z
  ·cases e;refine ⟨dq 0,rfl,?_⟩;rw [B2o];symm;refine ⟨0,0,rfl,smq0,smq0,?_⟩;symm
   trace_state
   exact k
def A0o:Pu.PSp:=fun as Q=>∃ (xs:List Wk) (ws:LW) (hs:LH) (gs:LP) (pa:List ((Str × Int) × Rat)),as=[.d (netD xs ws hs gs),.bor (pa.map paD)]/\(∀ p ∈ pa,ArOk xs.length ws.length hs.length p.1/\SmQ 3900 p.2/\0 < p.2)/\(pa.map (·.1)).Nodup/\pa.length<=1000/\Q (.d .none)
def O1 (T:Txt K mg D):FnOk P w K mg base CX0 5 D.a_a2 D.d_a2 ["net","thing"] (Pu.spOf K [.dat,.vw] A0o):=by
 refine T.B.F_a2.ok sc_a2 (Zz rfl) (fun cdv A outer s H vs Q E hr h=>?_);refine ⟨_,(QSs.out (A3 (C6 (G7 (D8 (D1 (F9 (K:=K) rfl) (by rfl) T.z_isinstance (by rfl) (A0 (qpv 1) (A0 (J0 (v:=.ty "list") rfl T.z_list (by rfl) rfl) A1)))))
    (A4 W3)
    C3)
   (A3 (qst 2 sc_a2 A1g)
   (A4 (G8 Zf rfl (R9 (K:=K) rfl rfl T.z_enumerate (A0 (qpv 1) A1)) (B9 (K:=K) (n:=2) rfl rfl (A5 (qgn 3 sc_a2) (A5 (qgn 4 sc_a2) B8)) rfl rfl)
    (A3 (C6 (QW.pt (M0 (G7 (D8 (qcK (U3 (K:=K) T) hr.mo (X8 T) (A0 (qpv 0) (A0 (qpv 4) A1))))) (K4 (A6n (u1 hr.units) (qix K (qpv 4) A2) (qpv 2) (by with_unfolding_all rfl)))))
     (A4 W3)
     C3)
    (A4 (A3t (u1 hr.units) (qpv 2) (qix K (qpv 4) A2) J4 (by rfl))))))))),?_⟩
 refine Pu.G5 h ?_;rintro as Qp ⟨xs,ws,hs,gs,pa,rfl,ar,nd,ln,k⟩;right;left;subst hR;symm;refine A0z (f:=paD) (xs:=pa) (fun i e=>∃ o3 o4:Option SV,e=[some (.d (netD xs ws hs gs)),some (.bor (pa.map paD)),some (.dk ((pa.take i).map (·.1))),o3,o4]) ⟨_,_,rfl⟩ ?_ ?_
 ·rintro i p e hi ⟨o3,o4,rfl⟩;have hil:=(Zs hi).1;obtain ⟨h1,h2,h3⟩:=ar p (Zm hi);have nin:p.1 ∉ (pa.take i).map (·.1):=fun z=>by
   rw [List.map_take] at z;obtain ⟨j,hj,e⟩:=List.getElem_of_mem z;rw [List.length_take,Zl] at hj;rw [List.getElem_take] at e;have hp:(pa.map (·.1))[i]?=some p.1:=by rw [Zh,hi]; rfl
   obtain ⟨hi',ei⟩:=Zs hp;have:=(List.getElem_inj nd).mp (e.trans ei.symm);omega
  rw [show paD p=.tuple [qD p.1,dq p.2] from rfl];simp only [V2,A0n,A3u,A6r,List.set_cons_succ,List.set_cons_zero,List.length_cons,List.length_nil,Nat.zero_add,Nat.reduceAdd,true_and];right;refine ⟨xs,ws,hs,gs,paD p,rfl,.inl ⟨p,rfl,h1,h2,h3,?_⟩⟩;symm;show if p.1 ∈ List.map (fun x=>x.1) (List.take i pa) then _ else _;rw [if_neg nin];subst hR;symm;show p.1 ∉ List.map (fun x=>x.1) (List.take i pa)/\_/\_;exact ⟨nin,by rw [List.length_take]; omega,_,_,by rw [List.take_add_one,hi,Zc]; rfl⟩
 rintro e ⟨o3,o4,rfl⟩;exact k
def Y2:List SV->PyData->Prop:=fun as z=>∃ (xs:List Wk) (ws:LW) (hs:LH) (gs:LP) (x:PyData),as=[.d (netD xs ws hs gs),.d x]/\B7m xs.length ws.length hs.length x z
def Y4 (T:Txt K mg D):FnOk P w K mg base (CX2 P w) 5 D.a_a2 D.d_a2 ["net","thing"] (Pu.spE2 K [.dat,.dat] D.k_NoPaper "number" Y2):=by
 refine Pu.okxL T.B.F_a2 sc_a2 rfl (fun cdv A outer s H E w0 z hr hk=>(A3 (C6 (A6m (G7 (D8 (D1 (F9 (K:=K) rfl) (by rfl) T.z_isinstance (by rfl) (A0 (qpv 1) (A0 (J0 (v:=.ty "list") rfl T.z_list (by rfl) rfl) A1)))))) (A4 (T5 hk T.J_NoPaper.choose_spec.choose_spec hr.mo (by rfl) T.c_NoPaper P1)) C3) (A3 (A3r (qst 2 sc_a2 A1g)) (A4 (A3s (R9 (K:=K) rfl rfl T.z_enumerate (A0 (qpv 1) A1)) (B9 (K:=K) (n:=2) rfl rfl (A5 (qgn 3 sc_a2) (A5 (qgn 4 sc_a2) B8)) rfl rfl) (A3 (C6 (A6m (QW.pt (M0 (G7 (D8 (qcK (U3 (K:=K) T) hr.mo (X8 T) (A0 (qpv 0) (A0 (qpv 4) A1))))) (K4 (A6n (u1 hr.units) (qix K (qpv 4) A2) (qpv 2) (by with_unfolding_all rfl)))))) (A4 (T5 hk T.J_NoPaper.choose_spec.choose_spec hr.mo (by rfl) T.c_NoPaper (qpv 3))) C3) (A4 (A3r (A3t (u1 hr.units) (qpv 2) (qix K (qpv 4) A2) J4 (by rfl)))))))))) (fun w0 z=>inferInstance) ?_;rintro as z ⟨xs,ws,hs,gs,x,rfl,h⟩;right;rcases h with ⟨rfl,nl⟩ | ⟨pa,y,rest,rfl,ar,nd,ln,od,rfl⟩
 ·cases x with
  | list l=>exact absurd rfl (nl l)
  | none =>
   symm;rw [show kitB "NoneType" "list"=some false by decide];exact rfl
  | bool b =>
   symm;rw [show kitB "bool" "list"=some false by decide];exact rfl
  | int b =>
   symm;rw [show kitB "int" "list"=some false by decide];exact rfl
  | str b =>
   symm;rw [show kitB "str" "list"=some false by decide];exact rfl
  | tuple b =>
   symm;exact rfl
  | dict b =>
   symm;rw [show kitB "dict" "list"=some false by decide];exact rfl
 ·symm;left;subst hR;symm;generalize eL:pa.map paD++y :: rest=L;rw [show L4 L=L4 (L.map fun x=>x) by rw [List.map_id']];refine A0z (f:=fun x:PyData=>x) (xs:=L) (fun i e=>i<=pa.length/\∃ o3 o4:Option SV,e=[some (.d (netD xs ws hs gs)),some (.d (.list L)),some (.dk ((pa.take i).map (·.1))),o3,o4]) ⟨Nat.zero_le _,_,_,rfl⟩ ?_ ?_
  ·rintro i x e hi ⟨il,o3,o4,rfl⟩;simp only [V2,A0n,A3u,A6r,List.set_cons_succ,List.set_cons_zero,List.length_cons,List.length_nil,Nat.zero_add,Nat.reduceAdd,true_and];rcases Nat.lt_or_eq_of_le il with hil | rfl
   ·obtain ⟨p,hp,rfl⟩:∃ p,pa[i]?=some p/\x=paD p:=by
     rw [<- eL,List.getElem?_append_left (by rw [Zl]; exact hil),Zh] at hi;obtain ⟨p,hp,e⟩:=Zo hi;exact ⟨p,hp,e.symm⟩
    obtain ⟨h1,h2,h3⟩:=ar p (Zm hp);have nin:p.1 ∉ (pa.take i).map (·.1):=fun z=>by
     rw [List.map_take] at z;obtain ⟨j,hj,e⟩:=List.getElem_of_mem z;rw [List.length_take,Zl] at hj;rw [List.getElem_take] at e;have hp2:(pa.map (·.1))[i]?=some p.1:=by rw [Zh,hp]; rfl
     obtain ⟨hi',ei⟩:=Zs hp2;have:=(List.getElem_inj nd).mp (e.trans ei.symm);omega
    rw [show paD p=.tuple [qD p.1,dq p.2] from rfl];right;refine ⟨xs,ws,hs,gs,paD p,rfl,.inl ⟨p,rfl,h1,h2,h3,?_⟩⟩;symm;show if p.1 ∈ List.map (fun x=>x.1) (List.take i pa) then _ else _;rw [if_neg nin];subst hR;symm;show p.1 ∉ List.map (fun x=>x.1) (List.take i pa)/\_/\_;exact ⟨nin,by rw [List.length_take]; omega,by omega,_,_,by rw [List.take_add_one,hp,Zc]; rfl⟩
   ·obtain rfl:y=x:=by
     rw [<- eL,List.getElem?_append_right (by rw [Zl]; exact Zv _),Zl,Nat.sub_self] at hi;exact Zj hi
    right;rcases od with od | ⟨p,rfl,h1,h2,h3,pin⟩
    ·refine ⟨xs,ws,hs,gs,y,rfl,.inr ⟨od,?_⟩⟩;symm;exact rfl
    ·refine ⟨xs,ws,hs,gs,paD p,rfl,.inl ⟨p,rfl,h1,h2,h3,?_⟩⟩;rw [show paD p=.tuple [qD p.1,dq p.2] from rfl];symm;show if p.1 ∈ List.map (fun x=>x.1) (List.take pa.length pa) then _ else _;rw [List.take_length,if_pos pin];symm;exact rfl
  ·rintro e ⟨il,_⟩;rw [<- eL,Ze,Zl,List.length_cons] at il;omega
def A44:Pu.PMu:=fun xs ys zs Q=>∃ (h:Str × Int × Rat) (q:Rat) (is os:LQ) (o:Nat) (a b:Rat),xs=[hD h,dq q]/\ys=is.map dq/\zs=os.map dq/\Hk h.1/\h.2.1=(o:Int)/\is[o]?=some a/\os[o]?=some b/\SmQ 3900 q/\SmQ 3900 a/\SmQ 3900 b/\(h.1="from"->Q .none ((is.set o (a + q)).map dq) (os.map dq))/\(h.1="till"->Q .none ((is.set o (a - q)).map dq) (os.map dq))/\(h.1="by"->Q .none (is.map dq) ((os.set o (b + q)).map dq))
def A5e (T:Txt K mg D):FnOk P w K mg base CX0 4 D.a_ab D.d_ab ["hold","amount","amounts","offs"] (Pu.spMu K 2 A44):=by
 refine T.B.F_ab.ok sc_ab (Pu.spMu.len rfl) (fun cdv A outer s H vs Q E hr h=>?_);refine ⟨_,(QSs.out (A3 (C0 (qpv 0) (B9 (K:=K) (n:=3) rfl rfl (A5 (qgn 4 sc_ab) (A5 (qgn 5 sc_ab) (A5 (qgn 6 sc_ab) B8))) rfl rfl))
   (A4 (C6 (A9 (C8 (K:=K) rfl hr.units) (qpv 4) B1 (B6 _))
    (A4 (C0 (qcK (Q8 (K:=K) T) hr.mo (X5 T) (A0 (qix K (qMu (qpv 2)) (qpv 5)) (A0 (qpv 1) A1))) (E9 (qMu (qpv 2)) (qpv 5) D0)))
    (A4 (C6 (A9 (C8 (K:=K) rfl hr.units) (qpv 4) B1 (B6 _))
     (A4 (C0 (qcK (B0g (K:=K) T) hr.mo (B7b T) (A0 (qix K (qMu (qpv 2)) (qpv 5)) (A0 (qpv 1) A1))) (E9 (qMu (qpv 2)) (qpv 5) D0)))
     (A4 (C0 (qcK (Q8 (K:=K) T) hr.mo (X5 T) (A0 (qix K (qMu (qpv 3)) (qpv 5)) (A0 (qpv 1) A1))) (E9 (qMu (qpv 3)) (qpv 5) D0))))))))),?_⟩
 refine Pu.B62 h ?_;rintro xs ys zs p1 p2 Qp hpq ⟨h,q,is,os,o,a,b,rfl,rfl,rfl,hk,ho,ei,eo,sq,sa,sb,k1,k2,k3⟩;obtain ⟨kd,w,m⟩:=h;have ho:w=(o:Int):=ho;subst ho;rw [show hD (kd,(o:Int),m)=PyData.tuple [.str kd,.int (o:Int),dq m] from rfl];right;subst hR;symm;have hk:kd="from"\/kd="till"\/kd="by":=hk;refine ⟨Hk.lay hk,by ext,ite2 (fun z=>?_) (fun z=>⟨Hk.lay hk,by ext,ite2 (fun y=>?_) (fun y=>?_)⟩)⟩
 ·have e:kd="from":=by rw [S7] at z; exact of_decide_eq_true z
  refine A6 ei ?_;symm;refine ⟨_,_,rfl,sa,sq,?_⟩;symm;refine ⟨o,M6 (o:=(o:Int)) (by omega) (by have:=(Zs ei).1; omega),?_⟩;rw [<- List.map_set];exact ⟨_,_,rfl,rfl,k1 e⟩
 ·have e:kd="till":=by rw [S7] at y; exact of_decide_eq_true y
  refine A6 ei ?_;symm;refine ⟨_,_,rfl,sa,sq,?_⟩;symm;refine ⟨o,M6 (o:=(o:Int)) (by omega) (by have:=(Zs ei).1; omega),?_⟩;rw [<- List.map_set];exact ⟨_,_,rfl,rfl,k2 e⟩
 ·have e:kd="by":=by
   rcases hk with h | h | h
   ·exact absurd (by rw [S7]; exact Zk h) z
   ·exact absurd (by rw [S7]; exact Zk h) y
   ·exact h
  refine A6 eo ?_;symm;refine ⟨_,_,rfl,sb,sq,?_⟩;symm;refine ⟨o,M6 (o:=(o:Int)) (by omega) (by have:=(Zs eo).1; omega),?_⟩;rw [<- List.map_set];exact ⟨_,_,rfl,rfl,k3 e⟩
def A43:Pu.PSp:=fun as Q=>∃ (xs:List Wk) (ws:LW) (hs:LH) (gs:LP) (pa:List ((Str × Int) × Rat)),as=[.d (netD xs ws hs gs),.bor (pa.map paD)]/\NP xs.length ws hs/\PF xs.length (vsO ws) (usO hs) pa/\∀ p a b:Addr,Q (.tr (.nd false p (.cons (.nd true a (B3 (((List.range xs.length).map (FI xs.length (vsO ws) (usO hs) pa)).map dq))) (.cons (.nd true b (B3 (((List.range xs.length).map (FO xs.length (vsO ws) (usO hs) pa)).map dq))) .nil))))
def Z5 (T:Txt K mg D):FnOk P w K mg base CX0 5 D.a_ac D.d_ac ["net","paper"] (Pu.spOf K [.dat,.vw] A43):=by
 refine T.B.F_ac.ok sc_ac (Zz rfl) (fun cdv A outer s H vs Q E hr h=>?_);refine ⟨_,(QSs.out (A3 (W2 (i:=2) (j:=3) rfl sc_ac.nd rfl rfl (by decide) rfl rfl (A0 (qix K (qpv 0) A2) (A0 (qix K (qpv 0) A2) A1)) rfl)
   (A3 (E7 (i:=4) rfl sc_ac.nd rfl rfl (D5 ["work"] [none]) (F4 (K:=K) rfl (qix K (qpv 0) A2)) (fun _ _ _=>(qgc 0 ["work"])) (fun _ _ _=>G3) (fun _ _ _=>(S1 (v:=.ref D.k_NOUGHT) rfl T.c_NOUGHT rfl)) rfl)
   (A3 (E7 (i:=5) rfl sc_ac.nd rfl rfl (D5 ["work"] [none]) (F4 (K:=K) rfl (qix K (qpv 0) A2)) (fun _ _ _=>(qgc 0 ["work"])) (fun _ _ _=>G3) (fun _ _ _=>(S1 (v:=.ref D.k_NOUGHT) rfl T.c_NOUGHT rfl)) rfl)
   (A3 (G8 Zf rfl (F4 (K:=K) rfl (qpv 1)) (B9 (K:=K) (n:=2) rfl rfl (A5 (B9 (K:=K) (n:=2) rfl rfl (A5 (qgn 6 sc_ac) (A5 (qgn 7 sc_ac) B8)) rfl rfl) (A5 (qgn 8 sc_ac) B8)) rfl rfl)
    (A4 (C6 (A9 (C8 (K:=K) rfl hr.units) (qpv 6) B1 (B6 _))
     (A4 (C0 (qcK (Q8 (K:=K) T) hr.mo (X5 T) (A0 (qix K (qpv 4) (qpv 7)) (A0 (qpv 8) A1))) (E9 (qpv 4) (qpv 7) D0)))
     (A4 (C6 (A9 (C8 (K:=K) rfl hr.units) (qpv 6) B1 (B6 _))
      (A4 (C0 (qcK (Q8 (K:=K) T) hr.mo (X5 T) (A0 (qix K (qpv 5) (qpv 7)) (A0 (qpv 8) A1))) (E9 (qpv 5) (qpv 7) D0)))
      (A4 (C6 (A9 (C8 (K:=K) rfl hr.units) (qpv 6) B1 (B6 _))
       (A3 (C0 (qix K (qpv 2) (qpv 7)) (B9 (K:=K) (n:=3) rfl rfl (A5 (qgn 9 sc_ac) (A5 (qgn 10 sc_ac) (A5 (qgn 11 sc_ac) B8))) rfl rfl))
       (A3 (C0 (qcK (Q8 (K:=K) T) hr.mo (X5 T) (A0 (qix K (qpv 5) (qpv 9)) (A0 (qpv 8) A1))) (E9 (qpv 5) (qpv 9) D0))
       (A4 (C0 (qcK (Q8 (K:=K) T) hr.mo (X5 T) (A0 (qix K (qpv 4) (qpv 10)) (A0 (qpv 8) A1))) (E9 (qpv 4) (qpv 10) D0)))))
       (A4 (D6 (qcK (A5e (K:=K) T) hr.mo (A84 T) (A0 (qix K (qpv 3) (qpv 7)) (A0 (qpv 8) (A0 (qpv 4) (A0 (qpv 5) A1))))))))))))))
   (A4 (B0 (C2i (A8 (A0 (qpv 4) (A0 (qpv 5) A1))))))))))),?_⟩
 haveI:=T.c2_NOUGHT
 refine Pu.G5 h ?_;rintro as Qp ⟨xs,ws,hs,gs,pa,rfl,np,pb,k⟩;have n1:=np.n1;have wl:=np.wl;have hl:=np.hl;have pl:=pb.ln;unfold netD;right;left;refine ⟨by omega,J6 (f:=kD) (xs:=xs) (fun i e ys=>∃ o:Option SV,e=[o]/\ys=((List.range i).map fun _=>(0:Rat)).map dq) ⟨_,rfl,rfl⟩ ?_ ?_⟩
 ·rintro i x e ys hx ⟨o,rfl,rfl⟩;symm;exact ⟨_,rfl,by rw [List.range_succ,Zc,Zc]; rfl⟩
 rintro e ys ⟨o,rfl,rfl⟩;symm;left;refine ⟨by omega,J6 (f:=kD) (xs:=xs) (fun i e ys=>∃ o:Option SV,e=[o]/\ys=((List.range i).map fun _=>(0:Rat)).map dq) ⟨_,rfl,rfl⟩ ?_ ?_⟩
 ·rintro i x e ys hx ⟨o,rfl,rfl⟩;symm;exact ⟨_,rfl,by rw [List.range_succ,Zc,Zc]; rfl⟩
 rintro e ys ⟨o,rfl,rfl⟩;symm;left;have sm:∀ {f:Str × Int->Rat} {i:Nat},(∀ a,∃ z:Int,f a=(z:Rat)/\z.natAbs<=1)->SmQ 3900 (sA (pa.take i) f):=fun hf=>onL ((A4w (b:=51) (fun p hp=>(pb.ar p (List.mem_of_mem_take hp)).2.1) hf).mono (show _<=2 ^ 57 from Zx (Zu _ (show _<=64 by rw [List.length_take]; omega)) (by decide))) (by decide);refine R4 (f:=paD) (xs:=pa) (fun i e=>∃ (is os:LQ) (o6 o7 o8 o9 o10 o11:Option SV),e=[some (.d (.tuple [.list (xs.map kD),.list (ws.map wD),.list (hs.map hD),.list gs])),some (.bor (pa.map paD)),some (.d (.list (ws.map wD))),some (.d (.list (hs.map hD))),some (.own (is.map dq)),some (.own (os.map dq)),o6,o7,o8,o9,o10,o11]/\is=(List.range xs.length).map (FI xs.length (vsO ws) (usO hs) (pa.take i))/\os=(List.range xs.length).map (FO xs.length (vsO ws) (usO hs) (pa.take i))) ⟨_,_,_,_,_,_,_,_,rfl,rfl,rfl⟩ ?_ ?_
 ·rintro i p e hi ⟨is,os,o6,o7,o8,o9,o10,o11,rfl,hI,hO⟩;obtain ⟨h1,h2,h3⟩:=pb.ar p (Zm hi);have sq:SmQ 3900 p.2:=onL h2 (by decide);have sI:∀ v,SmQ 3900 (FI xs.length (vsO ws) (usO hs) (pa.take i) v):=fun v=>sm fun a=>(A24 a v).1;have sO:∀ v,SmQ 3900 (FO xs.length (vsO ws) (usO hs) (pa.take i) v):=fun v=>sm fun a=>(A24 a v).2;have li:is.length=xs.length:=by rw [hI]; simp
  have lo:os.length=xs.length:=by rw [hO]; simp
  have iI:∀ v,FI xs.length (vsO ws) (usO hs) (pa.take (i + 1)) v=FI xs.length (vsO ws) (usO hs) (pa.take i) v + p.2 * inA xs.length (vsO ws) (usO hs) p.1 v:=fun v=>V9 hi;have iO:∀ v,FO xs.length (vsO ws) (usO hs) (pa.take (i + 1)) v=FO xs.length (vsO ws) (usO hs) (pa.take i) v + p.2 * ofA xs.length (vsO ws) (usO hs) p.1 v:=fun v=>V9 hi;unfold inA at iI;unfold ofA at iO;generalize hF:FI xs.length (vsO ws) (usO hs) (pa.take i)=F at *;generalize hG:FO xs.length (vsO ws) (usO hs) (pa.take i)=G at *;generalize hF1:FI xs.length (vsO ws) (usO hs) (pa.take (i + 1))=F1 at *;generalize hG1:FO xs.length (vsO ws) (usO hs) (pa.take (i + 1))=G1 at *;have atI:∀ {o:Nat},o < xs.length->is[o]?=some (F o):=fun h=>by rw [hI]; exact A0m h
  have atO:∀ {o:Nat},o < xs.length->os[o]?=some (G o):=fun h=>by rw [hO]; exact A0m h
  have ixi:∀ {o:Nat},o < xs.length->ixN is.length (o:Int)=some o:=fun h=>M6 (o:=(_:Int)) (by omega) (by rw [li]; omega);have ixo:∀ {o:Nat},o < xs.length->ixN os.length (o:Int)=some o:=fun h=>M6 (o:=(_:Int)) (by omega) (by rw [lo]; omega);rcases A4s (ws:=ws) (hs:=hs) h1 rfl rfl (fun h hh=>(np.h h hh).1) with ⟨m,ea,hm,V⟩ | ⟨m,ea,hm,V⟩ | ⟨m,w,ea,ew,V⟩ | ⟨m,h,ea,eh,V⟩
  ·rw [V.h,V.l] at iI;rw [V.t,V.l] at iO;rw [show paD p=.tuple [.tuple [.str p.1.1,.int p.1.2],dq p.2] from rfl,ea];symm;refine ⟨by ext,by ext,?_⟩;refine A6 (atI hm) ?_;symm;refine ⟨_,_,rfl,sI m,sq,?_⟩;symm;exact ⟨m,ixi hm,is.set m (F m + p.2),os,_,_,_,_,_,_,by rw [List.map_set],by rw [hI]; exact L9 fun v hv=>by rw [iI v,if_neg (by decide),dl_m rfl],by rw [hO]; exact N0 fun v hv=>by rw [iO v,if_neg (by decide),P4 hv]; grind⟩
  ·rw [V.h,V.l] at iI;rw [V.t,V.l] at iO;rw [show paD p=.tuple [.tuple [.str p.1.1,.int p.1.2],dq p.2] from rfl,ea];symm;refine ⟨by ext,by ext,ite2 (fun h=>absurd h (by ext)) (fun _=>⟨by ext,by ext,?_⟩)⟩;refine A6 (atO hm) ?_;symm;refine ⟨_,_,rfl,sO m,sq,?_⟩;symm;exact ⟨m,ixo hm,is,os.set m (G m + p.2),_,_,_,_,_,_,by rw [List.map_set],by rw [hI]; exact N0 fun v hv=>by rw [iI v,if_neg (by decide),P4 hv]; grind,by rw [hO]; exact L9 fun v hv=>by rw [iO v,if_neg (by decide),U4]⟩
  ·rw [V.h,V.l] at iI;rw [V.t,V.l] at iO;obtain ⟨⟨a0,a1⟩,⟨b0,b1⟩,_⟩:=np.w w (Zm ew);obtain ⟨wa,wb,wq⟩:=w;obtain ⟨wa,rfl⟩:=Zi (show 0<=wa from a0);obtain ⟨wb,rfl⟩:=Zi (show 0<=wb from b0);have la:wa < xs.length:=by have:(wa:Int) < (xs.length:Int):=a1; omega
   have lb:wb < xs.length:=by have:(wb:Int) < (xs.length:Int):=b1; omega
   rw [show paD p=.tuple [.tuple [.str p.1.1,.int p.1.2],dq p.2] from rfl,ea];symm;refine ⟨by ext,by ext,ite2 (fun h=>absurd h (by ext)) (fun _=>⟨by ext,by ext,ite2 (fun h=>absurd h (by ext)) (fun _=>⟨by ext,by ext,?_⟩)⟩)⟩;refine A6 ew ?_;rw [show wD ((wa:Int),(wb:Int),wq)=PyData.tuple [.int (wa:Int),.int (wb:Int),dq wq] from rfl];symm;refine A6 (atO la) ?_;symm;refine ⟨_,_,rfl,sO wa,sq,?_⟩;symm;refine ⟨wa,ixo la,?_⟩;refine A6 (atI lb) ?_;symm;refine ⟨_,_,rfl,sI wb,sq,?_⟩;symm;exact ⟨wb,ixi lb,is.set wb (F wb + p.2),os.set wa (G wa + p.2),_,_,_,_,_,_,by rw [List.map_set,List.map_set],by rw [hI]; exact L9 fun v hv=>by rw [iI v,if_neg (by decide),dl_m rfl]; rfl,by rw [hO]; exact L9 fun v hv=>by rw [iO v,if_neg (by decide),U4]; rfl⟩
  ·obtain ⟨hk,⟨o0,o1⟩,_⟩:=np.h h (Zm eh);obtain ⟨kd,ho,hm⟩:=h;obtain ⟨ho,rfl⟩:=Zi (show 0<=ho from o0);have lo1:ho < xs.length:=by have:(ho:Int) < (xs.length:Int):=o1; omega
   rw [show paD p=.tuple [.tuple [.str p.1.1,.int p.1.2],dq p.2] from rfl,ea];symm;refine ⟨by ext,by ext,ite2 (fun h=>absurd h (by ext)) (fun _=>⟨by ext,by ext,ite2 (fun h=>absurd h (by ext)) (fun _=>⟨by ext,by ext,ite2 (fun h=>absurd h (by ext)) (fun _=>?_)⟩)⟩)⟩;refine A6 eh ?_;symm;refine ⟨by decide,(kd,(ho:Int),hm),p.2,is,os,ho,F ho,G ho,rfl,rfl,rfl,hk,rfl,atI lo1,atO lo1,sq,sI ho,sO ho,fun e=>?_,fun e=>?_,fun e=>?_⟩
   ·have e:kd="from":=e;rcases V with ⟨_,V⟩ | ⟨z,_⟩ | ⟨z,_⟩
    ·rw [V.h,V.l] at iI;rw [V.t,V.l] at iO;exact ⟨_,_,_,_,_,_,_,_,rfl,by rw [hI]; exact L9 fun v hv=>by rw [iI v,if_neg (by decide),dl_m rfl]; rfl,by rw [hO]; exact N0 fun v hv=>by rw [iO v,if_neg (by decide),P4 hv]; grind⟩
    ·exact absurd (e.symm.trans z) w_ft
    ·exact absurd (z.symm.trans e) w_bf
   ·have e:kd="till":=e;rcases V with ⟨z,_⟩ | ⟨_,V⟩ | ⟨z,_⟩
    ·exact absurd (z.symm.trans e) w_ft
    ·rw [V.h,V.t,V.l] at iI;rw [V.t,V.l] at iO;refine ⟨_,_,_,_,_,_,_,_,rfl,?_,by rw [hO]; exact N0 fun v hv=>by rw [iO v,if_pos rfl]; grind⟩;rw [hI,show F ho - p.2=F ho + (-p.2) by grind];refine L9 fun v hv=>?_;rw [iI v,if_pos rfl,P4 hv];show F v + p.2 * (0 - dl ho v)=_;unfold dl;split <;> grind
    ·exact absurd (z.symm.trans e) w_bt
   ·have e:kd="by":=e;rcases V with ⟨z,_⟩ | ⟨z,_⟩ | ⟨_,V⟩
    ·exact absurd (e.symm.trans z) w_bf
    ·exact absurd (e.symm.trans z) w_bt
    ·rw [V.h,V.l] at iI;rw [V.t,V.l] at iO;exact ⟨_,_,_,_,_,_,_,_,rfl,by rw [hI]; exact N0 fun v hv=>by rw [iI v,if_neg (by decide),P4 hv]; grind,by rw [hO]; exact L9 fun v hv=>by rw [iO v,if_neg (by decide),U4]; rfl⟩
 rintro e ⟨is,os,o6,o7,o8,o9,o10,o11,rfl,rfl,rfl⟩;rw [List.take_length];subst hR;symm;exact fun a b _ _=>⟨Nat.le_of_ble_eq_true rfl,fun p _=>k p a b⟩
def M3:Pu.PSp:=fun as Q=>∃ (xs:List Wk) (ws:LW) (hs:LH) (gs:LP) (pa:List ((Str × Int) × Rat)),as=[.d (netD xs ws hs gs),.bor (pa.map paD)]/\NP xs.length ws hs/\PB xs.length (vsO ws) (usO hs) pa/\Q (.own (((List.range xs.length).map (FI xs.length (vsO ws) (usO hs) pa)).map dq))
def M5 (T:Txt K mg D):FnOk P w K mg base CX0 6 D.a_a4 D.d_a4 ["net","paper"] (Pu.spOf K [.dat,.vw] M3):=by
 refine T.B.F_a4.ok sc_a4 (Zz rfl) (fun cdv A outer s H vs Q E hr h=>?_);refine ⟨_,(QSs.out (A3 (D6 (qcK (O1 (K:=K) T) hr.mo (M7 T) (A0 (qpv 0) (A0 (qpv 1) A1))))
   (A3 (C0 (qUn (qcK (Z5 (K:=K) T) hr.mo (A2l T) (A0 (qpv 0) (A0 (qpv 1) A1)))) (B9 (K:=K) (n:=2) rfl rfl (A5 (qgn 2 sc_a4) (A5 (qgn 3 sc_a4) B8)) rfl rfl))
   (A3 (G8 Zf rfl (R9 (K:=K) rfl rfl T.z_enumerate (A0 (qKp (qpv 2)) A1)) (B9 (K:=K) (n:=2) rfl rfl (A5 (qgn 4 sc_a4) (A5 (qgn 5 sc_a4) B8)) rfl rfl)
    (A4 (C6 (QW.pt (M0 (D8 (qcK (W5 (K:=K) T) hr.mo (A03 T) (A0 (qpv 5) (A0 (S1 (v:=.ref D.k_NOUGHT) rfl T.c_NOUGHT rfl) A1)))) (K4 (A9 (K7 (K:=K) rfl hr.units) (qpv 5) (qix K (qpv 3) (qpv 4)) (B6 _)))))
     (A4 W3)
     C3)))
   (A4 (B0 (qpv 2))))))),?_⟩
 haveI:=T.c2_NOUGHT
 refine Pu.G5 h ?_;rintro as Qp ⟨xs,ws,hs,gs,pa,rfl,np,pb,k⟩;have n1:=np.n1;have pl:=pb.ln;right;refine ⟨xs,ws,hs,gs,pa,rfl,fun p hp=>?_,pb.nd,by omega,?_⟩
 ·obtain ⟨h1,h2,h3⟩:=pb.ar p hp;rw [Zl,Zl] at h1;exact ⟨h1,onL h2 (by decide),h3⟩
 symm;left;refine ⟨xs,ws,hs,gs,pa,rfl,np,pb.pf,?_⟩;symm;subst hR;refine fun p1 a1 b1=>hd fun R hR=>?_;symm;have sI:∀ v,SmQ 3900 (FI xs.length (vsO ws) (usO hs) pa v):=fun v=>onL ((A4w (b:=51) (fun p hp=>(pb.ar p hp).2.1) fun a=>(A24 a v).1).mono (show _<=2 ^ 57 from Zx (Zu _ (show _<=64 by omega)) (by decide))) (by decide);refine B06 (f:=dq) (xs:=(List.range xs.length).map (FI xs.length (vsO ws) (usO hs) pa)) rfl (fun i e=>∃ o4 o5:Option SV,e=[some (.d (netD xs ws hs gs)),some (.bor (pa.map paD)),some (.own (((List.range xs.length).map (FI xs.length (vsO ws) (usO hs) pa)).map dq)),some (.own (((List.range xs.length).map (FO xs.length (vsO ws) (usO hs) pa)).map dq)),o4,o5]) ⟨_,_,rfl⟩ ?_ ?_ ?_
 ·rintro i e ⟨o4,o5,rfl⟩;rfl
 ·rintro i x e hx ⟨o4,o5,rfl⟩;have hil:i < xs.length:=by have:=(Zs hx).1; rwa [List.length_map,List.length_range] at this
  have ex:x=FI xs.length (vsO ws) (usO hs) pa i:=by rw [A0m hil] at hx; exact (Zj hx).symm
  have e2:=pb.eq hil;have nn:¬ x < 0:=by rw [ex,e2]; exact Rat.not_lt.mpr pb.nn
  symm;refine ⟨by decide,by decide,?_⟩;refine ⟨x,0,rfl,by rw [ex]; exact sI i,smq0,?_⟩;rw [Zd nn];symm;refine A6 (f:=dq) (n:=i) (A0m hil) ?_;rw [<- e2,<- ex];symm;exact ⟨_,_,rfl⟩
 rintro e ⟨o4,o5,rfl⟩;subst hR;symm;exact k
def S4:List SV->PyData->Prop:=fun as z=>∃ (xs:List Wk) (ws:LW) (hs:LH) (gs:LP) (x:PyData),as=[.d (netD xs ws hs gs),.d x]/\B7m xs.length ws.length hs.length x z
def A0t (T:Txt K mg D):FnOk P w K mg base (CX2 P w) 6 D.a_a4 D.d_a4 ["net","paper"] (Pu.spE2 K [.dat,.dat] D.k_NoPaper "number" S4):=by
 refine Pu.okxL T.B.F_a4 sc_a4 rfl (fun cdv A outer s H E w0 z hr hk=>(A3 (D6 (C2f (C2g (qcK (O1 (K:=K) T) hr.mo (M7 T) (A0 (qpv 0) (A0 (qpv 1) A1)))) (A4z hk (Y4 (K:=K) T) hr.mo rfl T.m_a2 T.B.F_a2.kp (M7 T).b (A0 (qpv 0) (A0 (qpv 1) A1))))) A1f)) (fun w0 z=>inferInstance) ?_;rintro as z ⟨xs,ws,hs,gs,x,rfl,h⟩;right;refine .inr ?_;symm;exact ⟨xs,ws,hs,gs,x,rfl,h⟩
def S3:List SV->PyData->Prop:=fun as z=>∃ (xs:List Wk) (ws:LW) (hs:LH) (gs:LP) (pa:List ((Str × Int) × Rat)) (i:Nat),as=[.d (netD xs ws hs gs),.d (.list (pa.map paD))]/\NP xs.length ws hs/\PF xs.length (vsO ws) (usO hs) pa/\Unb xs.length (vsO ws) (usO hs) pa i/\z=.int i
def A0s (T:Txt K mg D):FnOk P w K mg base (CX2 P w) 6 D.a_a4 D.d_a4 ["net","paper"] (Pu.spE2 K [.dat,.dat] D.k_Unbalanced "work" S3):=by
 haveI:=T.c2_NOUGHT
 refine Pu.okxL T.B.F_a4 sc_a4 rfl (fun cdv A outer s H E w0 z hr hk=>(A3 (A3r (D6 (qcK (O1 (K:=K) T) hr.mo (M7 T) (A0 (qpv 0) (A0 (qpv 1) A1))))) (A3 (A3r (C0 (qUn (qcK (Z5 (K:=K) T) hr.mo (A2l T) (A0 (qpv 0) (A0 (qpv 1) A1)))) (B9 (K:=K) (n:=2) rfl rfl (A5 (qgn 2 sc_a4) (A5 (qgn 3 sc_a4) B8)) rfl rfl))) (A3 (A3s (R9 (K:=K) rfl rfl T.z_enumerate (A0 (qpv 2) A1)) (B9 (K:=K) (n:=2) rfl rfl (A5 (qgn 4 sc_a4) (A5 (qgn 5 sc_a4) B8)) rfl rfl) (A4 (C6 (A6m (QW.pt (M0 (D8 (qcK (W5 (K:=K) T) hr.mo (A03 T) (A0 (qpv 5) (A0 (S1 (v:=.ref D.k_NOUGHT) rfl T.c_NOUGHT rfl) A1)))) (K4 (A9 (K7 (K:=K) rfl hr.units) (qpv 5) (qix K (qpv 3) (qpv 4)) (B6 _)))))) (A4 (T5 hk T.J_Unbalanced.choose_spec.choose_spec hr.mo (by rfl) T.c_Unbalanced (qpv 4))) C3))) A1f)))) (fun w0 z=>inferInstance) ?_;rintro as z ⟨xs,ws,hs,gs,pa,k,rfl,np,pb,⟨kn,kb,ki⟩,rfl⟩;have n1:=np.n1;have pl:=pb.ln;right;refine ⟨xs,ws,hs,gs,pa,rfl,fun p hp=>?_,pb.nd,by omega,?_⟩
 ·obtain ⟨h1,h2,h3⟩:=pb.ar p hp;rw [Zl,Zl] at h1;exact ⟨h1,onL h2 (by decide),h3⟩
 symm;left;refine ⟨xs,ws,hs,gs,pa,rfl,np,pb,?_⟩;symm;subst hR;refine fun p1 a1 b1=>hd fun R hR=>?_;symm;have sI:∀ v,SmQ 3900 (FI xs.length (vsO ws) (usO hs) pa v):=fun v=>onL ((A4w (b:=51) (fun p hp=>(pb.ar p hp).2.1) fun a=>(A24 a v).1).mono (show _<=2 ^ 57 from Zx (Zu _ (show _<=64 by omega)) (by decide))) (by decide);refine A0z (f:=dq) (xs:=(List.range xs.length).map (FI xs.length (vsO ws) (usO hs) pa)) (fun i e=>i<=k/\∃ o4 o5:Option SV,e=[some (.d (netD xs ws hs gs)),some (.d (.list (pa.map paD))),some (.d (.list (((List.range xs.length).map (FI xs.length (vsO ws) (usO hs) pa)).map dq))),some (.own (((List.range xs.length).map (FO xs.length (vsO ws) (usO hs) pa)).map dq)),o4,o5]) ⟨Nat.zero_le _,_,_,rfl⟩ ?_ ?_
 ·rintro i x e hx ⟨ik,o4,o5,rfl⟩;have hil:i < xs.length:=by have:=(Zs hx).1; rwa [List.length_map,List.length_range] at this
  have ex:x=FI xs.length (vsO ws) (usO hs) pa i:=by rw [A0m hil] at hx; exact (Zj hx).symm
  simp only [V2,A0n,A3u,A6r,List.set_cons_succ,List.set_cons_zero,List.length_cons,List.length_nil,Nat.zero_add,Nat.reduceAdd,true_and];symm;refine ⟨x,0,rfl,by rw [ex]; exact sI i,smq0,?_⟩;rcases Nat.lt_or_eq_of_le ik with hlt | rfl
  ·obtain ⟨e2,nn⟩:=kb i hlt;rw [Zd (by rw [ex]; exact nn)];symm;refine A6 (f:=dq) (n:=i) (A0m hil) ?_;rw [<- e2,<- ex];symm;exact ⟨by omega,_,_,rfl⟩
  ·by_cases hn:x < 0
   ·rw [Zk hn];symm;exact rfl
   ·rw [Zd hn];symm;refine A6 (f:=dq) (n:=i) (A0m hil) ?_;have ne:x≠FO xs.length (vsO ws) (usO hs) pa i:=by
     rcases ki with z | z
     ·rw [<- ex] at z; exact absurd z hn
     ·rw [<- ex] at z; exact z
    symm;rw [if_neg ne];exact rfl
 ·rintro e ⟨ik,_⟩;rw [Zl,List.length_range] at ik;omega
def A33 (T:Txt K mg D):∀ n:Nat,FnOk P w K mg base CX0 (n + 1) D.a_bc D.d_bc ["_law_thing"] (Pu.spOf K [.dat] (A3x n)):=by
 have step:∀ (n:Nat) (psI:Pu.PSp),FnOk P w K mg base CX0 n D.a_bc D.d_bc ["_law_thing"] (Pu.spOf K [.dat] psI)->(∀ xs,(okA n (.list xs)\/okA n (.tuple xs))->xs.length < 1000/\∀ x ∈ xs,∀ Q:SV->Prop,Q (outD x)->psI [.d x] Q) ->
   FnOk P w K mg base CX0 (n + 1) D.a_bc D.d_bc ["_law_thing"] (Pu.spOf K [.dat] (A3x n)):=by
  intro n psI IH hI;refine T.B.F_bc.ok sc_bc (Zz rfl) (fun cdv A outer s H vs Q E hr h=>?_);refine ⟨_,(QSs.out (A3 (C6 (D8 (D1 (F9 (K:=K) rfl) (by rfl) T.z_isinstance (by rfl) (A0 (qpv 0) (A0 (J0 (v:=.ty "list") rfl T.z_list (by rfl) rfl) A1))))
    (A4 (B0 (N9 rfl (D5 ["_law_one"] [none]) (F4 (K:=K) rfl (qpv 0)) (fun _ _ _=>(qgc 0 ["_law_one"])) (fun _ _ _=>G3) (fun _ _ _=>(qcK IH hr.mo (A05 T) (A0 (qpv 0) A1))))))
    C3)
   (A3 (C6 (D8 (D1 (F9 (K:=K) rfl) (by rfl) T.z_isinstance (by rfl) (A0 (qpv 0) (A0 (J0 (v:=.ty "tuple") rfl T.z_tuple (by rfl) rfl) A1))))
    (A4 (B0 (P8 (A2b (K:=K) rfl) (by rfl) T.z_tuple (by rfl) (A0 (N9 rfl (D5 ["_law_one"] [none]) (F4 (K:=K) rfl (qpv 0)) (fun _ _ _=>(qgc 0 ["_law_one"])) (fun _ _ _=>G3) (fun _ _ _=>(qcK IH hr.mo (A05 T) (A0 (qpv 0) A1)))) A1))))
    C3)
   (A4 (B0 (qpv 0)))))),?_⟩
  refine Pu.G5 h ?_;rintro as Qp ⟨x,rfl,ox,k⟩;cases x with
  | none =>
   symm;exact k
  | bool b =>
   symm;exact k
  | int i =>
   symm;exact k
  | str t =>
   symm;exact k
  | dict kvs=>unfold okA at ox; exact ox.elim
  | list xs =>
   obtain ⟨hl,hx⟩:=hI xs (.inl ox);symm;refine ⟨by omega,fun i e ys=>∃ o:Option SV,e=[o]/\ys=xs.take i,⟨_,rfl,rfl⟩,?_,?_⟩
   ·rintro i x e ys hi ⟨o,rfl,rfl⟩;symm;refine hx x (Zm hi) _ ?_;symm;refine B2h ?_;refine ⟨_,rfl,?_⟩;rw [List.take_add_one,hi]; rfl
   ·rintro e ys ⟨o,rfl,rfl⟩;rw [List.take_length];symm;exact k
  | tuple xs =>
   obtain ⟨hl,hx⟩:=hI xs (.inr ox);symm;refine ⟨by omega,fun i e ys=>∃ o:Option SV,e=[o]/\ys=xs.take i,⟨_,rfl,rfl⟩,?_,?_⟩
   ·rintro i x e ys hi ⟨o,rfl,rfl⟩;symm;refine hx x (Zm hi) _ ?_;symm;refine B2h ?_;refine ⟨_,rfl,?_⟩;rw [List.take_add_one,hi]; rfl
   ·rintro e ys ⟨o,rfl,rfl⟩;rw [List.take_length];symm;exact ⟨_,rfl,k⟩
 intro n;induction n with
 | zero=>exact step 0 _ (B07 rfl) fun xs h=>by rcases h with h | h <;> (unfold okA at h; exact h.elim)
 | succ n ih =>
  refine step (n + 1) _ ih fun xs h=>?_;have h':xs.length < 1000/\∀ x ∈ xs,okA n x:=by rcases h with h | h <;> (unfold okA at h; exact h)
  exact ⟨h'.1,fun x hx Q q=>⟨x,rfl,h'.2 x hx,q⟩⟩
def A45:Pu.PSp:=fun as Q=>∃ (xs:List Wk) (ws:LW) (hs:LH) (gs:LP) (pa:List ((Str × Int) × Rat)),as=[.d (netD xs ws hs gs),.st,.d (.list (pa.map paD))]/\1<=xs.length/\NP xs.length ws hs/\PB xs.length (vsO ws) (usO hs) pa/\∀ x y:PyData,Spo xs.length ws hs x y->Q (.d (.tuple [x,y]))
def A5f (T:Txt K mg D):FnOk P w K mg base CX0 3 D.a_aa D.d_aa ["_law_net","_law_state","_law_paper_here"] (Pu.spOf K [.dat,.st,.dat] A45):=by
 refine T.B.F_aa.ok sc_aa (Zz rfl) (fun cdv A outer s H vs Q E hr h=>?_);refine ⟨_,(QSs.out (A3 (qst 3 sc_aa (qcK (B5 (K:=K) T) hr.mo (C5 T) (A0 (qpv 1) (A0 (B2 G4 (qln K T.z_len (qpv 2)) A2) A1))))
   (A3 (qst 4 sc_aa (qcK (B5 (K:=K) T) hr.mo (C5 T) (A0 (qpv 1) (A0 (qln K T.z_len (qix K (qpv 0) A2)) A1))))
   (A3 (qst 5 sc_aa (C7 (A0 P1 (A0 (A8 (A0 (A8 (A0 B1 (A0 (qpv 4) A1))) (A0 (A8 (A0 A2 (A0 A2 A1))) A1))) (A0 (A8 (A0 (A8 (A0 B1 (A0 (A6o A53 A2) A1))) (A0 (A8 (A0 A2 (A0 A2 A1))) A1))) (A0 (A8 (A0 (A8 (A0 B1 (A0 A2 A1))) (A0 (A8 (A0 A2 (A0 A2 A1))) A1))) (A0 (A8 (A0 B1 (A0 (qpv 4) A1))) (A0 (C7 (A0 (A8 (A0 B1 (A0 (qpv 4) A1))) (A0 (A8 (A0 A2 (A0 A2 A1))) A1))) A1))))))))
   (A3 (qst 6 sc_aa (qcK (B5 (K:=K) T) hr.mo (C5 T) (A0 (qpv 1) (A0 A2 A1))))
   (A3 (C6 (A9 (C8 (K:=K) rfl hr.units) (qpv 6) A2 (B6 _))
    (A4 (B0 (A8 (A0 (qix K (C7 (A0 P1 (A0 (P8 (A2b (K:=K) rfl) (by rfl) T.z_tuple (by rfl) (A0 (qpv 2) A1)) (A0 A9r (A0 A2 A1))))) (qcK (B5 (K:=K) T) hr.mo (C5 T) (A0 (qpv 1) (A0 A2 A1)))) (A0 (A8 (A0 B1 (A0 P1 A1))) A1)))))
    C3)
   (A3 (C6 (QW.pt (T4 (A9 (C8 (K:=K) rfl hr.units) (qpv 6) A2 (B6 _)) (U9 (A9 (K7 (K:=K) rfl hr.units) (qpv 2) (C7 A1) (B6 _)))))
    (A4 (B0 (A8 (A0 (B2 (O0 (K:=K) rfl) (qpv 2) (K1 (P6 (K:=K) rfl) (qpv 2) M2 (M1 A2))) (A0 (A8 (A0 B1 (A0 (qln K T.z_len (qpv 2)) A1))) A1)))))
    C3)
   (A3 (C6 (QW.pt (T4 (A9 (C8 (K:=K) rfl hr.units) (qpv 6) A2 (B6 _)) (U9 (A9 (A5b (K:=K) rfl hr.units) (A8 (A0 B1 (A0 (qpv 4) A1))) (N9 rfl (D5 ["_law_arc","_law_amount_here"] [none,none]) (F4 (K:=K) rfl (qpv 2)) (fun _ _ _=>(B9 (K:=K) (n:=2) rfl rfl (A5 (qgc 0 ["_law_arc","_law_amount_here"]) (A5 (qgc 1 ["_law_arc","_law_amount_here"]) B8)) rfl rfl)) (fun _ _ _=>G3) (fun _ _ _=>(qpv 0))) (by with_unfolding_all rfl)))))
    (A4 (B0 (A8 (A0 (B2 (O0 (K:=K) rfl) (qpv 2) (C7 (A0 (A8 (A0 (A8 (A0 B1 (A0 (qpv 4) A1))) (A0 (qcK (J3 (K:=K) T) hr.mo (K3 T) (A0 (qpv 1) (A0 J4 (A0 A2 A1)))) A1))) A1))) (A0 (A8 (A0 B1 (A0 (qpv 4) A1))) A1)))))
    C3)
   (A4 (B0 (A8 (A0 (B2 (O0 (K:=K) rfl) (B2 (O0 (K:=K) rfl) (K1 (P6 (K:=K) rfl) (qpv 2) M2 (M1 (qpv 3))) (C7 (A0 (qix K (qpv 5) (qcK (B5 (K:=K) T) hr.mo (C5 T) (A0 (qpv 1) (A0 A2 A1)))) A1))) (K1 (P6 (K:=K) rfl) (qpv 2) (M1 (qpv 3)) M2)) (A0 (A8 (A0 B1 (A0 (qpv 3) A1))) A1))))))))))))),?_⟩
 refine Pu.G5 h ?_;rintro as Qp ⟨xs,ws,hs,gs,pa,rfl,x1,np,pb,k⟩;have n1:=np.n1;have pl:=pb.ln;right;refine ⟨_,rfl,by omega,J8 (B:=100) (by omega) (by omega) (by decide),fun at_ t0 t1=>?_⟩;symm;subst hR;unfold netD;right;refine ⟨_,rfl,by omega,J8 (B:=100) (by omega) (by omega) (by decide),fun i i0 i1=>?_⟩;symm;subst hR;refine hd fun R hR=>?_;refine B1u ?_;left;refine ⟨4,rfl,by decide,sm4 4,fun way w0 w1=>?_⟩;symm;left;refine ite2 (fun z=>?_) (fun z=>?_)
 ·refine ⟨_,rfl,4,rfl,by decide,sm4 4,fun d d0 d1=>?_⟩;symm;have ed:d=0\/d=1\/d=2\/d=3:=by omega
  rcases ed with rfl | rfl | rfl | rfl
  ·refine I0 (G2 (j:=0) rfl) ?_;symm;exact k _ _ (.inl ⟨.none,.inl ⟨rfl,fun l e=>by cases e⟩,rfl⟩)
  ·refine I0 (G2 (j:=1) rfl) ?_;symm;exact k _ _ (.inl ⟨.none,.inl ⟨rfl,fun l e=>by cases e⟩,rfl⟩)
  ·refine I0 (G2 (j:=2) rfl) ?_;symm;exact k _ _ (.inl ⟨.none,.inl ⟨rfl,fun l e=>by cases e⟩,rfl⟩)
  ·refine I0 (G2 (j:=3) rfl) ?_;symm;exact k _ _ (.inl ⟨.none,.inl ⟨rfl,fun l e=>by cases e⟩,rfl⟩)
 have pl1:(PyData.list (pa.map paD)).canLay0=true:=A74 fun p hp=>(pb.ar p hp).1;have pd1:(PyData.list (pa.map paD)).depth<=60:=B65 pa;left;refine ite2 (fun z1=>⟨pl1,pd1,ite2 (fun zp=>?_) (fun zp=>?_)⟩) (fun z1=>?_)
 ·have pne:pa≠[]:=fun e=>by rw [e] at zp; cases zp
  rw [show (some (1:Int))=some ((1:Nat):Int) from rfl,A4l (by have:=List.length_pos_iff.mpr pne; omega)];refine ⟨by rw [Zl,List.length_take]; omega,k _ _ (.inl ⟨_,.inr ?_,rfl⟩)⟩;cases pa with
  | nil=>exact absurd rfl pne
  | cons p r =>
   obtain ⟨h1,h2,h3⟩:=pb.ar p Zy;refine ⟨p :: r,paD p,[],rfl,fun q hq=>?_,pb.nd,by omega,.inr ⟨p,rfl,?_,onL h2 (by decide),h3,Zy⟩,rfl⟩
   ·obtain ⟨g1,g2,g3⟩:=pb.ar q hq;rw [Zl,Zl] at g1;exact ⟨g1,onL g2 (by decide),g3⟩
   ·rw [Zl,Zl] at h1;exact h1
 all_goals
  left;refine ite2 (fun z2=>⟨by omega,J6 (f:=paD) (xs:=pa) (fun j e ys=>∃ o1 o2:Option SV,e=[o1,o2]/\ys=((pa.take j).map fun p=>qD p.1)) ⟨_,_,rfl,rfl⟩ ?_ ?_⟩) (fun z2=>?_)
  ·rintro j p e ys hp ⟨o1,o2,rfl,rfl⟩;rw [show paD p=.tuple [qD p.1,dq p.2] from rfl];symm;refine ⟨_,_,rfl,?_⟩;rw [List.take_add_one,hp,Zc]; rfl
  ·rintro e ys ⟨o1,o2,rfl,rfl⟩;rw [List.take_length];symm;obtain ⟨i,rfl⟩:=Zi i0;have hi:i < xs.length:=by omega
   have sok:ArOk xs.length ws.length hs.length (Str.ofString "start",(i:Int)):=⟨i0,.inl ⟨rfl,i1⟩⟩;have eq1:(pa.map fun p=>qD p.1)=(pa.map (·.1)).map qD:=by rw [List.map_map]; rfl
   rw [eq1];refine ⟨V4 (n:=xs.length) (v:=(vsO ws).length) (u:=(usO hs).length) (fun a ha=>?_),sok.lay,A1i (Str.ofString "start",(i:Int)),ite2 (fun hy=>?_) (fun hy=>?_)⟩
   ·obtain ⟨p,hp,rfl⟩:=List.mem_map.mp ha;exact (pb.ar p hp).1
   ·refine ⟨false,1,rfl,.inr rfl,fun q q0 qp sq _=>?_⟩;symm;have nin:(Str.ofString "start",(i:Int)) ∉ pa.map (·.1):=fun hmem=>by
     have h3:(((pa.map (·.1)).map qD).any fun z=>z.eqv (qD (Str.ofString "start",(i:Int))))=true:=List.any_eq_true.mpr ⟨_,List.mem_map_of_mem (f:=qD) hmem,PySem.SeqAt.eqv_refl _ sok.lay⟩;have h2:(((pa.map (·.1)).map qD).any fun z=>z.eqv (qD (Str.ofString "start",(i:Int))))=false:=hy;rw [h2] at h3; cases h3
    obtain ⟨b1,b2⟩:=B1n pb hi (qp rfl) ((P2 sq).mono (Zp (by decide) (by decide))) nin;refine ⟨by omega,k _ _ (.inr ⟨_,i,?_,b1,b2,rfl⟩)⟩;rw [Zc]; rfl
   subst hR;symm;refine ⟨6,rfl,by decide,sm4 6,fun d d0 d1=>?_⟩;symm;obtain ⟨x,ex,ox⟩:=B2i (n:=xs.length) (m:=ws.length) (h:=hs.length) (i:=(i:Int)) np.wl d0 d1;refine I0 ex ?_;symm;obtain ⟨u,rfl⟩:=Zi t0;have hu:u<=pa.length:=by omega
   rw [A4l hu,A4m hu];have lt:(pa.take u).length=u:=by rw [List.length_take]; omega
   refine ⟨by rw [Zl,lt]; omega,by rw [Ze,Zl,Zl,lt,List.length_drop]; show u + 1 + _<=1000000; omega,k _ _ (.inl ⟨.int u,.inr ⟨pa.take u,x,(pa.drop u).map paD,by rw [List.append_assoc]; rfl,fun p hp=>?_,?_,by omega,.inl ox,by rw [lt]⟩,rfl⟩)⟩
   ·obtain ⟨g1,g2,g3⟩:=pb.ar p (List.mem_of_mem_take hp);rw [Zl,Zl] at g1;exact ⟨g1,onL g2 (by decide),g3⟩
   ·rw [List.map_take]; exact pb.nd.sublist (List.take_sublist _ _)
  subst hR;symm;refine ⟨6,rfl,by decide,sm4 6,fun d d0 d1=>?_⟩;symm;obtain ⟨x,ex,ox⟩:=B2i (n:=xs.length) (m:=ws.length) (h:=hs.length) (i:=i) np.wl d0 d1;refine I0 ex ?_;symm;obtain ⟨u,rfl⟩:=Zi t0;have hu:u<=pa.length:=by omega
  rw [A4l hu,A4m hu];have lt:(pa.take u).length=u:=by rw [List.length_take]; omega
  refine ⟨by rw [Zl,lt]; omega,by rw [Ze,Zl,Zl,lt,List.length_drop]; show u + 1 + _<=1000000; omega,k _ _ (.inl ⟨.int u,.inr ⟨pa.take u,x,(pa.drop u).map paD,by rw [List.append_assoc]; rfl,fun p hp=>?_,?_,by omega,.inl ox,by rw [lt]⟩,rfl⟩)⟩
  ·obtain ⟨g1,g2,g3⟩:=pb.ar p (List.mem_of_mem_take hp);rw [Zl,Zl] at g1;exact ⟨g1,onL g2 (by decide),g3⟩
  ·rw [List.map_take]; exact pb.nd.sublist (List.take_sublist _ _)
def A5h (T:Txt K mg D):FnOk P w K mg base CX0 5 D.a_b1 D.d_b1 ["_law_net","_law_paper_here"] (Pu.spOf K [.dat,.vw] A46):=by
 refine T.B.F_b1.ok sc_b1 (Zz rfl) (fun cdv A outer s H vs Q E hr h=>?_);refine ⟨_,(QSs.out (A3 (C0 (K1 (A6h (K:=K) rfl) (qpv 0) M2 (M1 A2)) (B9 (K:=K) (n:=3) rfl rfl (A5 (qgn 2 sc_b1) (A5 (qgn 3 sc_b1) (A5 (qgn 4 sc_b1) B8))) rfl rfl))
   (A3 (E7 (i:=5) rfl sc_b1.nd rfl rfl (D5 ["_law_work"] [none]) (F4 (K:=K) rfl (qpv 2)) (fun _ _ _=>(qgc 0 ["_law_work"])) (fun _ _ _=>G3) (fun _ _ _=>(A8 (A0 A2 (A0 A2 A1)))) rfl)
   (A3 (E7 (i:=6) rfl sc_b1.nd rfl rfl (D5 ["_law_work"] [none]) (F4 (K:=K) rfl (qpv 2)) (fun _ _ _=>(qgc 0 ["_law_work"])) (fun _ _ _=>G3) (fun _ _ _=>(A8 (A0 A2 (A0 A2 A1)))) rfl)
   (A3 (G8 Zf rfl (F4 (K:=K) rfl (qpv 1)) (B9 (K:=K) (n:=2) rfl rfl (A5 (B9 (K:=K) (n:=2) rfl rfl (A5 (qgn 7 sc_b1) (A5 (qgn 8 sc_b1) B8)) rfl rfl) (A5 (qgn 9 sc_b1) B8)) rfl rfl)
    (A4 (C6 (A9 (C8 (K:=K) rfl hr.units) (qpv 7) B1 (B6 _))
     (A4 (C0 (qcK (D7 (K:=K) T) hr.mo (F5 T) (A0 (qix K (qpv 5) (qpv 8)) (A0 (qpv 9) A1))) (E9 (qpv 5) (qpv 8) D0)))
     (A4 (C6 (A9 (C8 (K:=K) rfl hr.units) (qpv 7) B1 (B6 _))
      (A4 (C0 (qcK (D7 (K:=K) T) hr.mo (F5 T) (A0 (qix K (qpv 6) (qpv 8)) (A0 (qpv 9) A1))) (E9 (qpv 6) (qpv 8) D0)))
      (A4 (C6 (A9 (C8 (K:=K) rfl hr.units) (qpv 7) B1 (B6 _))
       (A3 (C0 (qcK (D7 (K:=K) T) hr.mo (F5 T) (A0 (qix K (qpv 6) (qix K (qix K (qpv 3) (qpv 8)) A2)) (A0 (qpv 9) A1))) (E9 (qpv 6) (qix K (qix K (qpv 3) (qpv 8)) A2) D0))
       (A4 (C0 (qcK (D7 (K:=K) T) hr.mo (F5 T) (A0 (qix K (qpv 5) (qix K (qix K (qpv 3) (qpv 8)) A2)) (A0 (qpv 9) A1))) (E9 (qpv 5) (qix K (qix K (qpv 3) (qpv 8)) A2) D0))))
       (A4 (C6 (A9 (C8 (K:=K) rfl hr.units) (qix K (qix K (qpv 4) (qpv 8)) A2) B1 (B6 _))
        (A4 (C0 (qcK (D7 (K:=K) T) hr.mo (F5 T) (A0 (qix K (qpv 6) (qix K (qix K (qpv 4) (qpv 8)) A2)) (A0 (qpv 9) A1))) (E9 (qpv 6) (qix K (qix K (qpv 4) (qpv 8)) A2) D0)))
        (A4 (C6 (A9 (C8 (K:=K) rfl hr.units) (qix K (qix K (qpv 4) (qpv 8)) A2) B1 (B6 _))
         (A4 (C0 (qcK (D7 (K:=K) T) hr.mo (F5 T) (A0 (qix K (qpv 5) (qix K (qix K (qpv 4) (qpv 8)) A2)) (A0 (qpv 9) A1))) (E9 (qpv 5) (qix K (qix K (qpv 4) (qpv 8)) A2) D0)))
         (A4 (C0 (qcK (J5 (K:=K) T) hr.mo (K5 T) (A0 (qix K (qpv 5) (qix K (qix K (qpv 4) (qpv 8)) A2)) (A0 (qpv 9) A1))) (E9 (qpv 5) (qix K (qix K (qpv 4) (qpv 8)) A2) D0))))))))))))))
   (A4 (B0 (A8 (A0 (qpv 5) (A0 (qpv 6) A1)))))))))),?_⟩
 haveI:=T.c2_NOUGHT
 refine Pu.G5 h ?_;rintro as Qp ⟨xs,ws,hs,gs,pa,rfl,np,pb,k⟩;have n1:=np.n1;have wl:=np.wl;have hl:=np.hl;have pl:=pb.ln;unfold netD;right;refine ⟨_,3,rfl,rfl,?_⟩;rw [show List.take 3 [PyData.list (xs.map kD),.list (ws.map wD),.list (hs.map hD),.list gs]=[PyData.list (xs.map kD),.list (ws.map wD),.list (hs.map hD)] from rfl];symm;left;refine ⟨by omega,J6 (f:=kD) (xs:=xs) (fun i e ys=>∃ o:Option SV,e=[o]/\ys=((List.range i).map fun _=>(0:Rat)).map dq) ⟨_,rfl,rfl⟩ ?_ ?_⟩
 ·rintro i x e ys hx ⟨o,rfl,rfl⟩;symm;exact ⟨_,rfl,by rw [List.range_succ,Zc,Zc]; rfl⟩
 rintro e ys ⟨o,rfl,rfl⟩;symm;left;refine ⟨by omega,J6 (f:=kD) (xs:=xs) (fun i e ys=>∃ o:Option SV,e=[o]/\ys=((List.range i).map fun _=>(0:Rat)).map dq) ⟨_,rfl,rfl⟩ ?_ ?_⟩
 ·rintro i x e ys hx ⟨o,rfl,rfl⟩;symm;exact ⟨_,rfl,by rw [List.range_succ,Zc,Zc]; rfl⟩
 rintro e ys ⟨o,rfl,rfl⟩;symm;subst hR;symm;have sm:∀ {f:Str × Int->Rat} {i:Nat},(∀ a,∃ z:Int,f a=(z:Rat)/\z.natAbs<=1)->SmQ 3900 (sA (pa.take i) f):=fun hf=>onL ((A4w (b:=51) (fun p hp=>(pb.ar p (List.mem_of_mem_take hp)).2.1) hf).mono (show _<=2 ^ 57 from Zx (Zu _ (show _<=64 by rw [List.length_take]; omega)) (by decide))) (by decide);refine R4 (f:=paD) (xs:=pa) (fun i e=>∃ (is os:LQ) (o7 o8 o9:Option SV),e=[some (.d (.tuple [.list (xs.map kD),.list (ws.map wD),.list (hs.map hD),.list gs])),some (.bor (pa.map paD)),some (.d (.list (xs.map kD))),some (.d (.list (ws.map wD))),some (.d (.list (hs.map hD))),some (.own (is.map dq)),some (.own (os.map dq)),o7,o8,o9]/\is=(List.range xs.length).map (FI xs.length (vsO ws) (usO hs) (pa.take i))/\os=(List.range xs.length).map (FO xs.length (vsO ws) (usO hs) (pa.take i))) ⟨_,_,_,_,_,rfl,rfl,rfl⟩ ?_ ?_
 ·rintro i p e hi ⟨is,os,o7,o8,o9,rfl,hI,hO⟩;obtain ⟨h1,h2,h3⟩:=pb.ar p (Zm hi);have sq:SmQ 3900 p.2:=onL h2 (by decide);have sI:∀ v,SmQ 3900 (FI xs.length (vsO ws) (usO hs) (pa.take i) v):=fun v=>sm fun a=>(A24 a v).1;have sO:∀ v,SmQ 3900 (FO xs.length (vsO ws) (usO hs) (pa.take i) v):=fun v=>sm fun a=>(A24 a v).2;have li:is.length=xs.length:=by rw [hI]; simp
  have lo:os.length=xs.length:=by rw [hO]; simp
  have iI:∀ v,FI xs.length (vsO ws) (usO hs) (pa.take (i + 1)) v=FI xs.length (vsO ws) (usO hs) (pa.take i) v + p.2 * inA xs.length (vsO ws) (usO hs) p.1 v:=fun v=>V9 hi;have iO:∀ v,FO xs.length (vsO ws) (usO hs) (pa.take (i + 1)) v=FO xs.length (vsO ws) (usO hs) (pa.take i) v + p.2 * ofA xs.length (vsO ws) (usO hs) p.1 v:=fun v=>V9 hi;unfold inA at iI;unfold ofA at iO;generalize hF:FI xs.length (vsO ws) (usO hs) (pa.take i)=F at *;generalize hG:FO xs.length (vsO ws) (usO hs) (pa.take i)=G at *;generalize hF1:FI xs.length (vsO ws) (usO hs) (pa.take (i + 1))=F1 at *;generalize hG1:FO xs.length (vsO ws) (usO hs) (pa.take (i + 1))=G1 at *;have atI:∀ {o:Nat},o < xs.length->is[o]?=some (F o):=fun h=>by rw [hI]; exact A0m h
  have atO:∀ {o:Nat},o < xs.length->os[o]?=some (G o):=fun h=>by rw [hO]; exact A0m h
  have ixi:∀ {o:Nat},o < xs.length->ixN is.length (o:Int)=some o:=fun h=>M6 (o:=(_:Int)) (by omega) (by rw [li]; omega);have ixo:∀ {o:Nat},o < xs.length->ixN os.length (o:Int)=some o:=fun h=>M6 (o:=(_:Int)) (by omega) (by rw [lo]; omega);rcases A4s (ws:=ws) (hs:=hs) h1 rfl rfl (fun h hh=>(np.h h hh).1) with ⟨m,ea,hm,V⟩ | ⟨m,ea,hm,V⟩ | ⟨m,w,ea,ew,V⟩ | ⟨m,h,ea,eh,V⟩
  ·rw [V.h,V.l] at iI;rw [V.t,V.l] at iO;rw [show paD p=.tuple [.tuple [.str p.1.1,.int p.1.2],dq p.2] from rfl,ea];symm;refine ⟨by ext,by ext,?_⟩;refine A6 (atI hm) ?_;symm;refine ⟨_,_,rfl,sI m,sq,?_⟩;symm;exact ⟨m,ixi hm,is.set m (F m + p.2),os,_,_,_,by rw [List.map_set],by rw [hI]; exact L9 fun v hv=>by rw [iI v,if_neg (by decide),dl_m rfl],by rw [hO]; exact N0 fun v hv=>by rw [iO v,if_neg (by decide),P4 hv]; grind⟩
  ·rw [V.h,V.l] at iI;rw [V.t,V.l] at iO;rw [show paD p=.tuple [.tuple [.str p.1.1,.int p.1.2],dq p.2] from rfl,ea];symm;refine ⟨by ext,by ext,ite2 (fun h=>absurd h (by ext)) (fun _=>⟨by ext,by ext,?_⟩)⟩;refine A6 (atO hm) ?_;symm;refine ⟨_,_,rfl,sO m,sq,?_⟩;symm;exact ⟨m,ixo hm,is,os.set m (G m + p.2),_,_,_,by rw [List.map_set],by rw [hI]; exact N0 fun v hv=>by rw [iI v,if_neg (by decide),P4 hv]; grind,by rw [hO]; exact L9 fun v hv=>by rw [iO v,if_neg (by decide),U4]⟩
  ·rw [V.h,V.l] at iI;rw [V.t,V.l] at iO;obtain ⟨⟨a0,a1⟩,⟨b0,b1⟩,_⟩:=np.w w (Zm ew);obtain ⟨wa,wb,wq⟩:=w;obtain ⟨wa,rfl⟩:=Zi (show 0<=wa from a0);obtain ⟨wb,rfl⟩:=Zi (show 0<=wb from b0);have la:wa < xs.length:=by have:(wa:Int) < (xs.length:Int):=a1; omega
   have lb:wb < xs.length:=by have:(wb:Int) < (xs.length:Int):=b1; omega
   rw [show paD p=.tuple [.tuple [.str p.1.1,.int p.1.2],dq p.2] from rfl,ea];symm;refine ⟨by ext,by ext,ite2 (fun h=>absurd h (by ext)) (fun _=>⟨by ext,by ext,ite2 (fun h=>absurd h (by ext)) (fun _=>⟨by ext,by ext,?_⟩)⟩)⟩;refine A6 ew ?_;rw [show wD ((wa:Int),(wb:Int),wq)=PyData.tuple [.int (wa:Int),.int (wb:Int),dq wq] from rfl];symm;refine A6 (atO la) ?_;symm;refine ⟨_,_,rfl,sO wa,sq,?_⟩;symm;refine A6 ew ?_;rw [show wD ((wa:Int),(wb:Int),wq)=PyData.tuple [.int (wa:Int),.int (wb:Int),dq wq] from rfl];symm;refine ⟨wa,ixo la,?_⟩;refine A6 ew ?_;rw [show wD ((wa:Int),(wb:Int),wq)=PyData.tuple [.int (wa:Int),.int (wb:Int),dq wq] from rfl];symm;refine A6 (atI lb) ?_;symm;refine ⟨_,_,rfl,sI wb,sq,?_⟩;symm;refine A6 ew ?_;rw [show wD ((wa:Int),(wb:Int),wq)=PyData.tuple [.int (wa:Int),.int (wb:Int),dq wq] from rfl];symm;exact ⟨wb,ixi lb,is.set wb (F wb + p.2),os.set wa (G wa + p.2),_,_,_,by rw [List.map_set,List.map_set],by rw [hI]; exact L9 fun v hv=>by rw [iI v,if_neg (by decide),dl_m rfl]; rfl,by rw [hO]; exact L9 fun v hv=>by rw [iO v,if_neg (by decide),U4]; rfl⟩
  ·obtain ⟨hk,⟨o0,o1⟩,_⟩:=np.h h (Zm eh);obtain ⟨kd,ho,hm⟩:=h;obtain ⟨ho,rfl⟩:=Zi (show 0<=ho from o0);have lo1:ho < xs.length:=by have:(ho:Int) < (xs.length:Int):=o1; omega
   rw [show paD p=.tuple [.tuple [.str p.1.1,.int p.1.2],dq p.2] from rfl,ea];symm;refine ⟨by ext,by ext,ite2 (fun h=>absurd h (by ext)) (fun _=>⟨by ext,by ext,ite2 (fun h=>absurd h (by ext)) (fun _=>⟨by ext,by ext,ite2 (fun h=>absurd h (by ext)) (fun _=>?_)⟩)⟩)⟩;refine A6 eh ?_;rw [show hD (kd,(ho:Int),hm)=PyData.tuple [.str kd,.int (ho:Int),dq hm] from rfl];symm;refine ⟨hk.lay,by ext,ite2 (fun e=>?_) (fun ne=>?_)⟩
   ·have e:kd=Str.ofString "by":=of_decide_eq_true e;refine A6 eh ?_;rw [show hD (kd,(ho:Int),hm)=PyData.tuple [.str kd,.int (ho:Int),dq hm] from rfl];symm;refine A6 (atO lo1) ?_;symm;refine ⟨_,_,rfl,sO ho,sq,?_⟩;symm;refine A6 eh ?_;rw [show hD (kd,(ho:Int),hm)=PyData.tuple [.str kd,.int (ho:Int),dq hm] from rfl];symm;refine ⟨ho,ixo lo1,?_⟩;rcases V with ⟨z,_⟩ | ⟨z,_⟩ | ⟨_,V⟩
    ·exact absurd (e.symm.trans z) w_bf
    ·exact absurd (e.symm.trans z) w_bt
    ·rw [V.h,V.l] at iI;rw [V.t,V.l] at iO;exact ⟨is,os.set ho (G ho + p.2),_,_,_,by rw [List.map_set],by rw [hI]; exact N0 fun v hv=>by rw [iI v,if_neg (by decide),P4 hv]; grind,by rw [hO]; exact L9 fun v hv=>by rw [iO v,if_neg (by decide),U4]; rfl⟩
   refine A6 eh ?_;rw [show hD (kd,(ho:Int),hm)=PyData.tuple [.str kd,.int (ho:Int),dq hm] from rfl];symm;refine ⟨hk.lay,by ext,ite2 (fun e=>?_) (fun nf=>?_)⟩
   ·have e:kd=Str.ofString "from":=of_decide_eq_true e;refine A6 eh ?_;rw [show hD (kd,(ho:Int),hm)=PyData.tuple [.str kd,.int (ho:Int),dq hm] from rfl];symm;refine A6 (atI lo1) ?_;symm;refine ⟨_,_,rfl,sI ho,sq,?_⟩;symm;refine A6 eh ?_;rw [show hD (kd,(ho:Int),hm)=PyData.tuple [.str kd,.int (ho:Int),dq hm] from rfl];symm;refine ⟨ho,ixi lo1,?_⟩;rcases V with ⟨_,V⟩ | ⟨z,_⟩ | ⟨z,_⟩
    ·rw [V.h,V.l] at iI;rw [V.t,V.l] at iO;exact ⟨is.set ho (F ho + p.2),os,_,_,_,by rw [List.map_set],by rw [hI]; exact L9 fun v hv=>by rw [iI v,if_neg (by decide),dl_m rfl]; rfl,by rw [hO]; exact N0 fun v hv=>by rw [iO v,if_neg (by decide),P4 hv]; grind⟩
    ·exact absurd (e.symm.trans z) w_ft
    ·exact absurd (z.symm.trans e) w_bf
   refine A6 eh ?_;rw [show hD (kd,(ho:Int),hm)=PyData.tuple [.str kd,.int (ho:Int),dq hm] from rfl];symm;refine A6 (atI lo1) ?_;symm;refine ⟨_,_,rfl,sI ho,sq,?_⟩;symm;refine A6 eh ?_;rw [show hD (kd,(ho:Int),hm)=PyData.tuple [.str kd,.int (ho:Int),dq hm] from rfl];symm;refine ⟨ho,ixi lo1,?_⟩;rcases V with ⟨z,_⟩ | ⟨_,V⟩ | ⟨z,_⟩
   ·exact absurd (Zk z) nf
   ·rw [V.h,V.t,V.l] at iI;rw [V.t,V.l] at iO;refine ⟨is.set ho (F ho - p.2),os,_,_,_,by rw [List.map_set],?_,by rw [hO]; exact N0 fun v hv=>by rw [iO v,if_pos rfl]; grind⟩;rw [hI,show F ho - p.2=F ho + (-p.2) by grind];refine L9 fun v hv=>?_;rw [iI v,if_pos rfl,P4 hv];show F v + p.2 * (0 - dl ho v)=_;unfold dl;split <;> grind
   ·exact absurd (Zk z) ne
 rintro e ⟨is,os,o7,o8,o9,rfl,rfl,rfl⟩;rw [List.take_length];symm;exact k
def A0u (T:Txt K mg D):FnOk P w K mg base (CX2 P w) 6 D.a_a4 D.d_a4 ["net","paper"] (Pu.A6d K [.dat,.dat] D.k_NoPaper D.k_Unbalanced "number" "work" S4 S3):=L2.FnOk.or (A0t T) (A0s T)
def A2x (T:Txt K mg D):FnOk P w K mg base CX0 8 D.a_a8 D.d_a8 ["_law_deed"] (spR P w K mg base 7 (hnd D.k_NoPaper D.k_Unbalanced "number" "work" "paper" "work")):=by
 refine T.B.F_a8.ok sc_a8 (by rintro vs H Q E ⟨f,Hc,sp,rfl,_⟩; rfl) (fun cdv A outer s H vs Q E hr h=>?_);refine ⟨_,(QSs.out (A3 (qst 1 sc_a8 P1)
   (A3 (A9o (k:=7) (i:=0) (by rfl) (Or.inl (by rfl)) hr.mo (C2e (A6q (C:=D.k_NoPaper) (i:=2) (tsu:=(fun a dx=>tAsg (tLst (F7 (tKE 2 a true) (F7 (tTup (F7 (tC (.str "paper")) (F7 (tHF 2 a dx "number") tNil))) tNil))) (O6 1))) (by rfl) T.c_NoPaper T.xm_NoPaper_NoPaper sc_a8.nd (by rfl) (by rfl) (fun a oe he nc=>A4 (N8 (X:=_) (i:=1) sc_a8.nd rfl (Or.inl rfl) (C7 (A0 (QE.mk ((B2n (B00 he (ExC.of T.xga_NoPaper T.xgn_NoPaper T.xgc_NoPaper T.xsb_NoPaper T.xso_NoPaper T.xhd_NoPaper T.xty_NoPaper) (by rfl) T.z_isinstance (by rfl) (Or.inl (by rfl)) (A4b (by rfl) T.c_HurryError) T.xi_NoPaper_HurryError) (B2l (B2m (B00 he (ExC.of T.xga_NoPaper T.xgn_NoPaper T.xgc_NoPaper T.xsb_NoPaper T.xso_NoPaper T.xhd_NoPaper T.xty_NoPaper) (by rfl) T.z_isinstance (by rfl) (Or.inl (by rfl)) (A4b (by rfl) T.c_Unbalanced) T.xi_NoPaper_Unbalanced))))).out) (A0 (A8 (A0 B1 (A0 (B8c T.J_NoPaper.choose_spec.choose_spec (ExC.of T.xga_NoPaper T.xgn_NoPaper T.xgc_NoPaper T.xsb_NoPaper T.xso_NoPaper T.xhd_NoPaper T.xty_NoPaper) he nc (by rfl) (Or.inl (by rfl))) A1))) A1)))))) (B3q (C:=D.k_Unbalanced) (by rfl) T.c_NoPaper T.xm_Unbalanced_NoPaper (A6q (C:=D.k_Unbalanced) (i:=2) (tsu:=(fun a dx=>tAsg (tLst (F7 (tKE 2 a true) (F7 (tTup (F7 (tC (.str "work")) (F7 (tHF 2 a dx "work") tNil))) tNil))) (O6 1))) (by rfl) T.c_Unbalanced T.xm_Unbalanced_Unbalanced sc_a8.nd (by rfl) (by rfl) (fun a oe he nc=>A4 (N8 (X:=_) (i:=1) sc_a8.nd rfl (Or.inl rfl) (C7 (A0 (QE.mk ((B2n (B00 he (ExC.of T.xga_Unbalanced T.xgn_Unbalanced T.xgc_Unbalanced T.xsb_Unbalanced T.xso_Unbalanced T.xhd_Unbalanced T.xty_Unbalanced) (by rfl) T.z_isinstance (by rfl) (Or.inl (by rfl)) (A4b (by rfl) T.c_HurryError) T.xi_Unbalanced_HurryError) (B2l (B2m (B00 he (ExC.of T.xga_Unbalanced T.xgn_Unbalanced T.xgc_Unbalanced T.xsb_Unbalanced T.xso_Unbalanced T.xhd_Unbalanced T.xty_Unbalanced) (by rfl) T.z_isinstance (by rfl) (Or.inl (by rfl)) (A4b (by rfl) T.c_NoPaper) T.xi_Unbalanced_NoPaper))))).out) (A0 (A8 (A0 B1 (A0 (B8c T.J_Unbalanced.choose_spec.choose_spec (ExC.of T.xga_Unbalanced T.xgn_Unbalanced T.xgc_Unbalanced T.xsb_Unbalanced T.xso_Unbalanced T.xhd_Unbalanced T.xty_Unbalanced) he nc (by rfl) (Or.inl (by rfl))) A1))) A1)))))))))
   (A4 (B0 (qpv 1)))))),?_⟩
 obtain ⟨f,Hc,sp,rfl,DO,hH,hs⟩:=h;have two:(2:Nat)<=sizeLine:=by rw [sizeLine_eq]; decide
 refine ⟨f,Hc,sp,rfl,DO,hH,hs _ _ (fun v H2 q=>⟨.non,rfl,q⟩) (fun cls dx H2 q=>?_)⟩;obtain ⟨d,v,rfl,pv,⟨rfl,hd,k⟩ | ⟨rfl,hd,k⟩⟩:=q
 ·refine .inl ⟨rfl,fun a hl=>⟨rfl,fun H3 sm=>?_⟩⟩;exact ⟨rfl,d,v,rfl,sm _ _ hd,pv,two,fun t ht=>⟨two,fun l hl=>⟨.ref l,rfl,k H3 sm t ht l hl⟩⟩⟩
 ·refine .inr ⟨rfl,rfl,fun a hl=>⟨rfl,fun H3 sm=>?_⟩⟩;exact ⟨rfl,d,v,rfl,sm _ _ hd,pv,two,fun t ht=>⟨two,fun l hl=>⟨.ref l,rfl,k H3 sm t ht l hl⟩⟩⟩
def A61:Pu.PSp:=fun as Q=>∃ qs:LQ,as=[.bor (qs.map dq),.d (.list (qs.map dq))]/\qs.length<=100/\(∀ q ∈ qs,SmQ 3900 q)/\Q (.d (.bool true))
def W6 (T:Txt K mg D):FnOk P w K mg base CX0 3 D.a_b6 D.d_b6 ["_law_found","_law_due"] (Pu.spOf K [.vw,.dat] A61):=by
 refine T.B.F_b6.ok sc_b6 (Zz rfl) (fun cdv A outer s H vs Q E hr h=>?_);refine ⟨_,(QSs.out (A3 (C6 (QW.pt (M0 (G7 (D8 (D1 (F9 (K:=K) rfl) (by rfl) T.z_isinstance (by rfl) (A0 (qpv 0) (A0 (J0 (v:=.ty "list") rfl T.z_list (by rfl) rfl) A1))))) (K4 (G7 (D8 (D1 (A80 (K:=K) rfl) (by rfl) T.z_all (by rfl) (A0 (N9 rfl (D5 ["_law_amount_here"] [none]) (F4 (K:=K) rfl (qpv 0)) (fun _ _ _=>(qgc 0 ["_law_amount_here"])) (fun _ _ _=>G3) (fun _ _ _=>(qcK (A1u (K:=K) T) hr.mo (A3b T) (A0 (qpv 0) A1)))) A1)))))))
    (A4 (B0 J4))
    C3)
   (A4 (B0 (G6 (C8 (K:=K) rfl hr.units) (qpv 0) (qpv 1) (B6 _)))))),?_⟩
 refine Pu.G5 h ?_;rintro as Qp ⟨qs,rfl,ln,sq,k⟩;symm;refine ⟨by omega,J6 (f:=dq) (xs:=qs) (fun i e ys=>∃ o:Option SV,e=[o]/\ys=((qs.take i).map fun _=>PyData.bool true)) ⟨_,rfl,rfl⟩ ?_ ?_⟩
 ·rintro j q e ys hq ⟨o,rfl,rfl⟩;symm;refine ⟨q,rfl,sq q (Zm hq),?_⟩;symm;refine ⟨_,rfl,?_⟩;rw [List.take_add_one,hq,Zc]; rfl
 rintro e ys ⟨o,rfl,rfl⟩;rw [List.take_length];symm;refine ⟨_,C13 qs,?_⟩;rw [if_neg (by rw [show (qs.map fun _=>true).all id=true from List.all_eq_true.mpr fun b hb=>by obtain ⟨_,_,rfl⟩:=List.mem_map.mp hb; rfl]; decide),PySem.SeqAt.eqv_refl _ (A0y qs)];exact ⟨A0y qs,A0y qs,A26 qs,k⟩
def B94 (T:Txt K mg D) {c Pa:Addr} (hc:D.d_c7.code=.ref c) (hP:W.CodeHd base c Pa) (hbl:L2.BlAt mg base):FnOk P w K mg base CX0 10 D.a_c7 D.d_c7 ["_law_script"] (Pu.spLawL K Pa):=by
 refine L2.Fun.okC T.F_c7 hc sc_c7 Pu.spLawL.len (fun A outer s H vs Q E hr h=>?_);refine ⟨_,(QSs.out (A3 (C0 (qcK (A7u (K:=K) T) hr.mo (B1t T) (A0 (qpv 0) (A0 (C7 (A0 B1 (A0 B1 (A0 B1 A1)))) A1))) (B9 (K:=K) (n:=3) rfl rfl (A5 (P7 (i:=1) sc_c7.nd rfl (Or.inr rfl) (Or.inl rfl)) (A5 (qgn 2 sc_c7) (A5 (qgn 3 sc_c7) B8))) rfl rfl))
   (A3 (qst 4 sc_c7 (qcK (K8 (K:=K) T) hr.mo (O5 T) (A0 (qpv 0) (A0 A2 A1))))
   (A3 (C0 (qcK (A5h (K:=K) T) hr.mo (A4r T) (A0 (qpv 1) (A0 (qpv 3) A1))) (B9 (K:=K) (n:=2) rfl rfl (A5 (qgn 5 sc_c7) (A5 (qgn 6 sc_c7) B8)) rfl rfl))
   (A3 (qst 7 sc_c7 (C2j (C7 (A0 (qcK (A33 (K:=K) T 8) hr.mo (A05 T) (A0 (qpv 1) A1)) (A0 (qcK (A33 (K:=K) T 8) hr.mo (A05 T) (A0 (qpv 3) A1)) A1)))))
   (A3 (qst 8 sc_c7 (qcK (M5 (K:=K) T) hr.mo (L6 T) (A0 (qPo (qix K (qpv 7) A2)) (A0 (qPo (qix K (qpv 7) A2)) A1))))
   (A3 (C6 (QW.pt (M0 (G7 (D8 (qcK (W6 (K:=K) T) hr.mo (A04 T) (A0 (qpv 8) (A0 (qpv 5) A1))))) (M0 (A9 (K7 (K:=K) rfl hr.units) (qpv 8) (qpv 6) (B6 _)) (K4 (A9 (K7 (K:=K) rfl hr.units) (qpv 7) (C7 (A0 (qpv 1) (A0 (qpv 3) A1))) (B6 _))))))
    (A4 (B0 J4))
    C3)
   (A3 (qst 9 sc_c7 (qcK (M5 (K:=K) T) hr.mo (L6 T) (A0 (qPo (qix K (qpv 7) A2)) (A0 (qPo (qix K (qpv 7) A2)) A1))))
   (A3 (D6 (G9 (K:=K) rfl Z1 Z2 Z3 F2 (qpv 8) (A0 P1 A1)))
   (A3 (D6 (A9v (K:=K) rfl Z1 PySem.F.slot_list_clear PySem.F.type_list_clear B0s (qPo (qix K (qpv 7) A2))))
   (A3 (C6 (QW.pt (M0 (G7 (D8 (qcK (W6 (K:=K) T) hr.mo (A04 T) (A0 (qcK (M5 (K:=K) T) hr.mo (L6 T) (A0 (qpv 1) (A0 (qpv 3) A1))) (A0 (qpv 5) A1))))) (K4 (A9 (K7 (K:=K) rfl hr.units) (qpv 9) (qpv 5) (B6 _)))))
    (A4 (B0 J4))
    C3)
   (A3 (C6 (G7 (D8 (qcK (W6 (K:=K) T) hr.mo (A04 T) (A0 (qcK (M5 (K:=K) T) hr.mo (L6 T) (A0 (qpv 1) (A0 (qPo (qix K (qpv 7) A2)) A1))) (A0 (N9 rfl (D5 ["_law_work"] [none]) (F4 (K:=K) rfl (qix K (qpv 1) A2)) (fun _ _ _=>(qgc 0 ["_law_work"])) (fun _ _ _=>G3) (fun _ _ _=>(A8 (A0 A2 (A0 A2 A1))))) A1)))))
    (A4 (B0 J4))
    C3)
   (A3 (C0 (qcK (A5f (K:=K) T) hr.mo (A85 T) (A0 (qpv 1) (A0 (qpv 4) (A0 (qpv 3) A1)))) (B9 (K:=K) (n:=2) rfl rfl (A5 (P7 (i:=10) sc_c7.nd rfl (Or.inr rfl) (Or.inl rfl)) (A5 (qgn 11 sc_c7) B8)) rfl rfl))
   (A4 (Pu.A2t (B0 (G6 (C8 (K:=K) rfl hr.units) (A9q (x1:="_law_net") (xr:=["_law_thing"]) (is:=[1,10]) ⟨rfl,hP,fun _=>rfl,hbl⟩ ⟨(_,_),[(_,_)],rfl,rfl⟩ (A0u (K:=K) T) T.B.F_a4.kp (L6 T).b T.m_a4 (A2x (K:=K) T) hr.mo T.B.F_a8.kp (A5w T).b (by rfl) T.m_a8 ⟨rfl,rfl,rfl,by ext,by ext,by rfl,by ext,by decide⟩ (by show ∀ z:Str × NameKind,z ∈ _->z.2=NameKind.free->(A7 s_c7).names.lookup z.1=some NameKind.cell; ext) (by show ∀ z:Str × Nat,z ∈ _->(["_law_script","_law_net","_law_plan","_law_paper_here","_law_state","_law_inward","_law_off","_law_handed","_law_found","_law_kept","_law_thing","_law_due"]:List Str)[z.2]?=some z.1; ext) rfl (fun _=>rfl) rfl (fun _ _ _ _=>rfl)) (C7 (A0 J4 (A0 (qpv 11) A1))) (B6 _)))))))))))))))))),?_⟩
 refine Pu.B09 h ?_;rintro as Qp ⟨ns,rfl,hns,k⟩;right;refine ⟨ns,["straight","straight","steps"],rfl,hns,by decide,by decide,fun z hz=>?_,fun n xs vs us pa ps ws hs ok pb0 h1 h2 h3 h4 h5 h6 h7=>?_⟩
 ·simp only [List.mem_cons,List.not_mem_nil,or_false] at hz;rcases hz with rfl | rfl | rfl
  ·exact .inl rfl
  ·exact .inl rfl
  ·exact .inr rfl
 have ln:=ok.ln;have n1:=ok.n1;have n0:=ok.n0;have wl:ws.length<=40:=by have:=ok.vl; rw [<- h4,Zl] at this; exact this
 have hl:hs.length<=40:=by have:=ok.ul; rw [<- h6,Zl] at this; exact this
 have np:NP xs.length ws hs:=⟨by omega,wl,hl,fun w hw=>by
   have:=ok.vk (w.1,w.2.1) (by rw [<- h4]; exact List.mem_map.mpr ⟨w,hw,rfl⟩);rw [ln]; exact ⟨this.1,this.2,(h5 w hw).1.p2 (by decide)⟩,fun h hh=>by
   have:=ok.uk (h.1,h.2.1) (by rw [<- h6]; exact List.mem_map.mpr ⟨h,hh,rfl⟩);rw [ln]; exact ⟨this.1,⟨this.2.1,this.2.2⟩,(h7 h hh).1.p2 (by decide)⟩⟩
 have pb:PB xs.length (vsO ws) (usO hs) pa:=by
  rw [ln]; show PB n (ws.map fun w=>(w.1,w.2.1)) (hs.map fun h=>(h.1,h.2.1)) _; rw [h4,h6]; exact pb0
 clear h1 h2 h3 h5 h7 pb0;have pl:=pb.ln;have okN:okA 8 (netD xs ws hs []):=B5d (fun x hx=>⟨ok.nm x hx,(ok.of x hx).1,by have:=(ok.of x hx).2.1.ok.le; omega⟩) (by omega) (by omega) (by omega) (fun h hh=>(np.h h hh).1) (by unfold okA; exact ⟨Nat.le_of_ble_eq_true rfl,fun z hz=>nomatch hz⟩);have okP:okA 8 (.list (pa.map paD)):=B96 (by omega) fun p hp=>(pb.ar p hp).1;have eIO:(List.range xs.length).map (FI xs.length (vsO ws) (usO hs) pa)=(List.range xs.length).map (FO xs.length (vsO ws) (usO hs) pa):=List.map_congr_left fun v hv=>pb.eq (List.mem_range.mp hv);have sI:∀ v,SmQ 3900 (FI xs.length (vsO ws) (usO hs) pa v):=fun v=>onL ((A4w (b:=51) (fun p hp=>(pb.ar p hp).2.1) fun a=>(A24 a v).1).mono (show _<=2 ^ 57 from Zx (Zu _ (show _<=64 by omega)) (by decide))) (by decide);generalize eN:netD xs ws hs []=NET at *;symm;left;refine ⟨ns,47,rfl,by decide,by decide,?_⟩;symm;left;refine ⟨xs,ws,hs,[],pa,by rw [eN],np,pb.pf,?_⟩;rw [<- eIO];generalize eI:(List.range xs.length).map (FI xs.length (vsO ws) (usO hs) pa)=IS at *;symm;left;refine ⟨NET,rfl,okN,?_⟩;rw [show outD NET=.d NET by rw [<- eN]; rfl];symm;refine ⟨.list (pa.map paD),rfl,okP,?_⟩;rw [show outD (.list (pa.map paD))=.own (pa.map paD) from rfl];symm;refine fun a _ _=>⟨Nat.le_of_ble_eq_true rfl,fun b _=>?_⟩;left;refine ⟨_,rfl,_,rfl,B2w ?_⟩;show M3 [.d NET,.bor (pa.map paD)] _;refine ⟨xs,ws,hs,[],pa,by rw [eN],np,pb,?_⟩;rw [eI];symm;left;have lI:IS.length=xs.length:=by rw [<- eI]; simp
 have qI:∀ q ∈ IS,SmQ 3900 q:=fun q hq=>by
  rw [<- eI] at hq;obtain ⟨v,_,rfl⟩:=List.mem_map.mp hq;exact sI v
 refine ⟨IS,rfl,by omega,qI,?_⟩;symm;have h1:=A0y IS;refine ⟨h1,h1,A26 IS,?_⟩;have ev1:(PyData.list (IS.map dq)).eqv (PyData.list (IS.map dq))=true:=PySem.SeqAt.eqv_refl _ h1;rw [ev1,if_neg (by decide)];obtain ⟨h2,h3⟩:=W7 9 (B5c okN okP);refine ⟨_,C1o,h2,h2,Zx h3 (by decide),?_⟩;have ev2:(PyData.list [NET,PyData.list (pa.map paD)]).eqv (PyData.list [NET,PyData.list (pa.map paD)])=true:=PySem.SeqAt.eqv_refl _ h2;rw [ev2,if_neg (by decide)];symm;left;refine ⟨_,rfl,_,rfl,B2w ?_⟩;show M3 [.d NET,.bor (pa.map paD)] _;refine ⟨xs,ws,hs,[],pa,by rw [eN],np,pb,?_⟩;rw [eI];symm;left;refine ⟨by omega,?_⟩;left;refine ⟨_,_,_,_,_,rfl,rfl,rfl,?_⟩;rw [C1k];left;refine ⟨xs,ws,hs,[],pa,by rw [eN],np,pb,?_⟩;rw [eI];symm;refine ⟨IS,rfl,by omega,qI,?_⟩;symm;refine ⟨h1,h1,A26 IS,?_⟩;rw [ev1,if_neg (by decide)];symm;left;refine ⟨_,rfl,B2w (xs:=[]) ?_⟩;show M3 [.d NET,.bor (([]:List ((Str × Int) × Rat)).map paD)] _;have pb9:PB xs.length (vsO ws) (usO hs) []:=⟨Nat.zero_le _,(fun _ h=>nomatch h),List.nodup_nil,fun _ _=>rfl⟩;have eZ:(List.range xs.length).map (FI xs.length (vsO ws) (usO hs) [])=(List.range xs.length).map fun _=>(0:Rat):=List.map_congr_left fun v _=>rfl;refine ⟨xs,ws,hs,[],[],by rw [eN],np,pb9,?_⟩;rw [eZ];rw [show NET=netD xs ws hs [] from eN.symm];unfold netD;symm;refine ⟨by omega,J6 (f:=kD) (xs:=xs) (fun i e ys=>∃ o:Option SV,e=[o]/\ys=((List.range i).map fun _=>(0:Rat)).map dq) ⟨_,rfl,rfl⟩ ?_ ?_⟩
 ·rintro i x e ys hx ⟨o,rfl,rfl⟩;symm;exact ⟨_,rfl,by rw [List.range_succ,Zc,Zc]; rfl⟩
 rintro e ys ⟨o,rfl,rfl⟩;symm;refine ⟨(List.range xs.length).map fun _=>(0:Rat),rfl,by rw [Zl,List.length_range]; omega,fun q hq=>by
  obtain ⟨_,_,rfl⟩:=List.mem_map.mp hq;exact smq0,?_⟩
 symm;left;refine ⟨xs,ws,hs,[],pa,rfl,by omega,np,pb,fun x y sp=>?_⟩;symm;subst hR;refine ⟨[netD xs ws hs [],x],y,rfl,?_,rfl,?_,k⟩
 ·exact .cons rfl (.cons rfl .nil)
 ·have wI:∀ i:Int,(PyData.int i).depth<=50:=fun _=>Nat.zero_le _;rcases sp with ⟨z,hz,rfl⟩ | ⟨pa2,i,rfl,pf,un,rfl⟩
  ·have lz:z.canLay0=true/\z.depth<=50:=by
    rcases hz with ⟨rfl,_⟩ | ⟨_,_,_,_,_,_,_,_,rfl⟩
    ·exact ⟨rfl,Nat.zero_le _⟩
    ·exact ⟨rfl,Nat.zero_le _⟩
   have lw:(PyData.str (Str.ofString "paper")).canLay0=true:=by ext
   have l2:(PyData.tuple [.str (Str.ofString "paper"),z]).canLay0=true:=by
    show ((PyData.str (Str.ofString "paper")).canLay0 && (z.canLay0 && true))=true;rw [lw,lz.1]; rfl
   have l3:(PyData.list [.bool true,.tuple [.str (Str.ofString "paper"),z]]).canLay0=true:=by
    show (true && ((PyData.tuple [.str (Str.ofString "paper"),z]).canLay0 && true))=true;rw [l2]; rfl
   exact ⟨Str.ofString "paper",z,.inl ⟨rfl,xs,ws,hs,[],x,rfl,hz⟩,l3,lz.2,l2,PySem.SeqAt.eqv_refl _ l3⟩
  ·have lw:(PyData.str (Str.ofString "work")).canLay0=true:=by ext
   have l2:(PyData.tuple [.str (Str.ofString "work"),.int i]).canLay0=true:=by
    show ((PyData.str (Str.ofString "work")).canLay0 && (true && true))=true;rw [lw]; rfl
   have l3:(PyData.list [.bool true,.tuple [.str (Str.ofString "work"),.int i]]).canLay0=true:=by
    show (true && ((PyData.tuple [.str (Str.ofString "work"),.int i]).canLay0 && true))=true;rw [l2]; rfl
   exact ⟨Str.ofString "work",.int i,.inr ⟨rfl,xs,ws,hs,[],pa2,i,rfl,np,pf,un,rfl⟩,l3,wI _,l2,PySem.SeqAt.eqv_refl _ l3⟩
end
def all_mk {l:W.OpenLaw} {w:World} {K:W.Frag} {h:Heap} {mg:Str->Option Value} {fa:Addr} (X:K.In h) (G:h.Ns mainGlobals mg) (hfa:mg "law"=some (.ref fa)) {a_ae a_a6 a_a1 a_ad a_c6 a_c4 a_bb a_a0 a_c3 a_a5 a_a2 a_ac a_ab a_a4 a_af a_c0 a_c5 a_bd a_b3 a_b9 a_ba a_a9 a_b4 a_b7 a_c2 a_be a_b5 a_b1 a_b2 a_c1 a_a7 a_b8 a_a3 a_bc a_aa a_a8 a_b0 a_b6 k_NOUGHT k_NoPaper k_Unbalanced k_HurryError:Addr} {d_ae d_a6 d_a1 d_ad d_c6 d_c4 d_bb d_a0 d_c3 d_a5 d_a2 d_ac d_ab d_a4 d_af d_c0 d_c5 d_bd d_b3 d_b9 d_ba d_a9 d_b4 d_b7 d_c2 d_be d_b5 d_b1 d_b2 d_c1 d_a7 d_b8 d_a3 d_bc d_aa d_a8 d_b0 d_b6:FuncData} (B:TxB K a_ae a_a6 a_a1 a_ad a_c6 a_c4 a_bb a_a0 a_c3 a_a5 a_a2 a_ac a_ab a_a4 a_af a_c0 a_c5 a_bd a_b3 a_b9 a_ba a_a9 a_b4 a_b7 a_c2 a_be a_b5 a_b1 a_b2 a_c1 a_a7 a_b8 a_a3 a_bc a_aa a_a8 a_b0 a_b6 k_NOUGHT k_NoPaper k_Unbalanced k_HurryError d_ae d_a6 d_a1 d_ad d_c6 d_c4 d_bb d_a0 d_c3 d_a5 d_a2 d_ac d_ab d_a4 d_af d_c0 d_c5 d_bd d_b3 d_b9 d_ba d_a9 d_b4 d_b7 d_c2 d_be d_b5 d_b1 d_b2 d_c1 d_a7 d_b8 d_a3 d_bc d_aa d_a8 d_b0 d_b6)
  {od_law an_law:Option Addr} {sl_law:Array (Option Value)} {oc_law kV_law dc_law pm_law cd_law ct_law:Value} {a_c7:Addr}
  {od_NOUGHT:Option Addr} {its_NOUGHT:Array Value} {n_NOUGHT:Nat} {sl_NOUGHT:Array (Option Value)} {t0_NOUGHT t1_NOUGHT:Tok}
  (g_c7:W.nsIn K mainGlobals "law"=some (some (.ref a_c7)))
  (l_law:K.lookup a_c7=some ⟨oc_law,od_law,.func (W.fnOf "law" "law" (J2 s_c7) (F6 s_c7) (A7 s_c7) .none kV_law dc_law pm_law an_law cd_law ct_law),sl_law⟩)
  (c_law:W.codeIn K cd_law "law"=true)
  (k_law:W.keepIn K (.ref a_c7)=true)
  (lq_NOUGHT:K.lookup k_NOUGHT=some ⟨.type "tuple",od_NOUGHT,.seq its_NOUGHT n_NOUGHT,sl_NOUGHT⟩)
  (vq_NOUGHT:its_NOUGHT=#[Value.int 0 t0_NOUGHT,Value.int 1 t1_NOUGHT])
  (J_NoPaper:∃ fI fd,InitX K k_NoPaper fI "number" "number" "NoPaper.__init__" s_NoPaperinit fd ["self","number"])
  (J_Unbalanced:∃ fI fd,InitX K k_Unbalanced fI "work" "work" "Unbalanced.__init__" s_Unbalancedinit fd ["self","work"])
  (xm_NoPaper_NoPaper:W.exmOne K (.ref k_NoPaper) (.ref k_NoPaper)=some true)
  (xga_NoPaper:W.findIn K (.ref k_NoPaper) "__getattribute__"=some (some (.builtin "BaseException.__getattribute__")))
  (xgn_NoPaper:W.findIn K (.ref k_NoPaper) "__getattr__"=some none)
  (xgc_NoPaper:W.findIn K (.ref k_NoPaper) "__class__"=some (some (.builtin "object.__class__")))
  (xsb_NoPaper:W.subIn K (.ref k_NoPaper) (.type "BaseException")=some true)
  (xso_NoPaper:W.subIn K (.ref k_NoPaper) (.type "object")=some true)
  (xhd_NoPaper:W.hasDictIn K k_NoPaper=true)
  (xty_NoPaper:(K.lookup k_NoPaper).map (·.cls)=some (.type "type"))
  (xi_NoPaper_Unbalanced:W.kitOne K (.ref k_NoPaper) (.ref k_Unbalanced)=some false)
  (xi_NoPaper_HurryError:W.kitOne K (.ref k_NoPaper) (.ref k_HurryError)=some true)
  (xm_Unbalanced_Unbalanced:W.exmOne K (.ref k_Unbalanced) (.ref k_Unbalanced)=some true)
  (xga_Unbalanced:W.findIn K (.ref k_Unbalanced) "__getattribute__"=some (some (.builtin "BaseException.__getattribute__")))
  (xgn_Unbalanced:W.findIn K (.ref k_Unbalanced) "__getattr__"=some none)
  (xgc_Unbalanced:W.findIn K (.ref k_Unbalanced) "__class__"=some (some (.builtin "object.__class__")))
  (xsb_Unbalanced:W.subIn K (.ref k_Unbalanced) (.type "BaseException")=some true)
  (xso_Unbalanced:W.subIn K (.ref k_Unbalanced) (.type "object")=some true)
  (xhd_Unbalanced:W.hasDictIn K k_Unbalanced=true)
  (xty_Unbalanced:(K.lookup k_Unbalanced).map (·.cls)=some (.type "type"))
  (xi_Unbalanced_NoPaper:W.kitOne K (.ref k_Unbalanced) (.ref k_NoPaper)=some false)
  (xi_Unbalanced_HurryError:W.kitOne K (.ref k_Unbalanced) (.ref k_HurryError)=some true)
  (xm_Unbalanced_NoPaper:W.exmOne K (.ref k_Unbalanced) (.ref k_NoPaper)=some false)
  : ∃ (fd:FuncData) (ob:Obj),K.lookup fa=some ob/\ob.data=.func fd/\(∀ (s:Shared) (v:Value),BindsTo s fd ⟨[v],[]⟩ [("_law_script",v)])/\∀ (base:Heap) (c Pa:Addr),K.In base->base.Ns mainGlobals mg->fd.code=.ref c->W.CodeHd base c Pa->L2.BlAt mg base->FnOk l.prog w K mg base CX0 10 fa fd ["_law_script"] (Pu.spLawL K Pa):=by
 have e:=hfa.symm.trans (Zq X G g_c7);cases e;have T:Txt K mg ⟨a_ae,d_ae,a_a6,d_a6,a_a1,d_a1,a_ad,d_ad,a_c6,d_c6,a_c4,d_c4,a_bb,d_bb,a_a0,d_a0,a_c3,d_c3,a_a5,d_a5,a_a2,d_a2,a_ac,d_ac,a_ab,d_ab,a_a4,d_a4,a_af,d_af,a_c0,d_c0,a_c5,d_c5,a_bd,d_bd,a_b3,d_b3,a_b9,d_b9,a_ba,d_ba,a_a9,d_a9,a_b4,d_b4,a_b7,d_b7,a_c2,d_c2,a_be,d_be,a_b5,d_b5,a_b1,d_b1,a_b2,d_b2,a_c1,d_c1,a_a7,d_a7,a_b8,d_b8,a_a3,d_a3,a_bc,d_bc,a_aa,d_aa,a_a8,d_a8,a_b0,d_b0,a_b6,d_b6,fa,W.fnOf "law" "law" (J2 s_c7) (F6 s_c7) (A7 s_c7) .none kV_law dc_law pm_law an_law cd_law ct_law,k_NOUGHT,k_NoPaper,k_Unbalanced,k_HurryError⟩:=⟨B,Zq X G B.g_ae,Zq X G B.g_a6,Zq X G B.g_a1,Zq X G B.g_ad,Zq X G B.g_c6,Zq X G B.g_c4,Zq X G B.g_bb,Zq X G B.g_a0,Zq X G B.g_c3,Zq X G B.g_a5,Zq X G B.g_a2,Zq X G B.g_ac,Zq X G B.g_ab,Zq X G B.g_a4,Zq X G B.g_af,Zq X G B.g_c0,Zq X G B.g_c5,Zq X G B.g_bd,Zq X G B.g_b3,Zq X G B.g_b9,Zq X G B.g_ba,Zq X G B.g_a9,Zq X G B.g_b4,Zq X G B.g_b7,Zq X G B.g_c2,Zq X G B.g_be,Zq X G B.g_b5,Zq X G B.g_b1,Zq X G B.g_b2,Zq X G B.g_c1,Zq X G B.g_a7,Zq X G B.g_b8,Zq X G B.g_a3,Zq X G B.g_bc,Zq X G B.g_aa,Zq X G B.g_a8,Zq X G B.g_b0,Zq X G B.g_b6,A4g (st:=s_c7) l_law c_law k_law,Zq X G g_c7,Zq X G B.gc_NOUGHT,Zq X G B.gc_NoPaper,Zq X G B.gc_Unbalanced,Zq X G B.gc_HurryError,W.mg_none_of X G B.z_abs,W.mg_none_of X G B.z_all,W.mg_none_of X G B.z_bool,W.mg_none_of X G B.z_enumerate,W.mg_none_of X G B.z_int,W.mg_none_of X G B.z_isinstance,W.mg_none_of X G B.z_len,W.mg_none_of X G B.z_list,W.mg_none_of X G B.z_max,W.mg_none_of X G B.z_min,W.mg_none_of X G B.z_range,W.mg_none_of X G B.z_str,W.mg_none_of X G B.z_tuple,⟨fun H=>.tup ⟨.inr ⟨_,its_NOUGHT,n_NOUGHT,lq_NOUGHT,rfl,rfl,by rw [vq_NOUGHT]; show 2<=sizeLine; decide,by rw [vq_NOUGHT]; exact .cons ⟨_,rfl⟩ (.cons ⟨_,rfl⟩ .nil)⟩,.inr L2.C0l⟩ (.cons (.int _) (.cons (.int _) .nil))⟩,J_NoPaper,J_Unbalanced,xm_NoPaper_NoPaper,xga_NoPaper,xgn_NoPaper,xgc_NoPaper,xsb_NoPaper,xso_NoPaper,xhd_NoPaper,xty_NoPaper,xi_NoPaper_Unbalanced,xi_NoPaper_HurryError,xm_Unbalanced_Unbalanced,xga_Unbalanced,xgn_Unbalanced,xgc_Unbalanced,xsb_Unbalanced,xso_Unbalanced,xhd_Unbalanced,xty_Unbalanced,xi_Unbalanced_NoPaper,xi_Unbalanced_HurryError,xm_Unbalanced_NoPaper⟩;exact ⟨_,_,l_law,rfl,fun s v=>.of_eq rfl,fun base c Pa _ _ hc hP hb=>B94 T hc hP hb⟩
def walk {l:W.OpenLaw} {q:Program} {loose:List Str} {XP:(Str->Option Value)->Heap->Prop} {YP:World->Heap->Prop} {d:DefRec} {K:Params->W.Frag} (hn:l.most=some 63) (hdf:d.params.defaults=[]) (hmem:d ∈ PyProof.Rows.recsOf q)
  (hY:∀ (w:World) (h:Heap),YP w h->(K w.params).In h) (hKc:∀ P:Params,((K P).all fun q=>L2.nnV q.2.cls)=true)
  (F:∀ (w:World) (mg:Str->Option Value) (fa:Addr) (h:Heap),(K w.params).In h->h.Ns mainGlobals mg->mg d.name=some (.ref fa) ->
   ∃ (fd:FuncData) (ob:Obj),(K w.params).lookup fa=some ob/\ob.data=.func fd/\(∀ (s:Shared) (u:Value),BindsTo s fd ⟨[u],[]⟩ [("_law_script",u)])/\∀ (base:Heap) (c Pa:Addr),(K w.params).In base->base.Ns mainGlobals mg->fd.code=.ref c->W.CodeHd base c Pa->L2.BlAt mg base->FnOk l.prog w (K w.params) mg base CX0 10 fa fd ["_law_script"] (Pu.spLawL (K w.params) Pa)) :
  W.WalkO q loose XP YP l.row.toRowW d [] (fun f vs=>PySem.call f vs) :=
 L2.A9b (n:=63) (k:=10) (x:="_law_script") (CX:=fun _=>CX0) (sp:=fun w Pa=>Pu.spLawL (K w.params) Pa) hn (by decide) hdf ⟨rfl,rfl,by decide,by decide⟩ hmem hY (fun w=>L2.C21 (hKc w.params)) F (fun _ _ a Pa ns hl hS hP hn=>⟨a,ns,rfl,hS,hl,hP,hn,fun _=>rfl,fun _ _ _ q=>q⟩) fun _ _ _ _ _ z=>z
def C0y:∀ P:Params,((kk P).all fun q=>L2.nnV q.2.cls)=true:=fun P=>by kernel_rfl
def B0w:((PyProof.Rows.recsOf qq).find? fun e=>e.name == ("law":Str)).isSome=true:=by kernel_rfl
def B57 {d:DefRec} {kwd:List (Str × Expr)} (h:W.defOf qq "law"=some (d,kwd)):d ∈ PyProof.Rows.recsOf qq:=L2.B67 h B0w
end Prf
open PySem PySem.W PyProof.Rows
set_option maxRecDepth 100000 in
set_option maxHeartbeats 0 in
theorem PySem.Challenge.cw_hurryprice_k18_amounts_of_works_holds : PySem.Challenge.rw_hurryprice_k18_amounts_of_works.Holds := by
 refine holds_law Prf.said fun ws=>?_;refine holds_open (q:=Prf.qq) (loose:=[]) (Xt:=Prf.xt) (XP:=XL Prf.qq []) (Yf:=Prf.hh.obs)
  (Ya:=Prf.hh.val) (YP:=Prf.hh.says) (N:=3988) Prf.left Prf.hh.of Prf.hh.keeps
  (fun s e=>xl_of s (Bool.and_eq_true_iff.mp e).1) XL.keeps
  (by rfl) (by rfl) (by rfl) (fun s e=>recFacts_of (Bool.and_eq_true_iff.mp e).2)
  (by rfl) ws (by decide +kernel)
  ⟨rfl,rfl,rfl,rfl,rfl,by decide +kernel⟩ ?hw ?hc
 case hw=>w_witness2
 refine Prf.walk (l:=PySem.Challenge.rw_hurryprice_k18_amounts_of_works) (K:=Prf.kk) rfl rfl (Prf.B57 rfl) (fun w h Y=>PySem.W.kIn_of Y) Prf.C0y ?F;case F =>
  intro w mg fa h KX G hmg
  k_fill
  refine' Prf.all_mk KX G hmg ⟨?g_ae,?F_ae,?g_a6,?F_a6,?g_a1,?F_a1,?g_ad,?F_ad,?g_c6,?F_c6,?g_c4,?F_c4,?g_bb,?F_bb,?g_a0,?F_a0,?g_c3,?F_c3,?g_a5,?F_a5,?g_a2,?F_a2,?g_ac,?F_ac,?g_ab,?F_ab,?g_a4,?F_a4,?g_af,?F_af,?g_c0,?F_c0,?g_c5,?F_c5,?g_bd,?F_bd,?g_b3,?F_b3,?g_b9,?F_b9,?g_ba,?F_ba,?g_a9,?F_a9,?g_b4,?F_b4,?g_b7,?F_b7,?g_c2,?F_c2,?g_be,?F_be,?g_b5,?F_b5,?g_b1,?F_b1,?g_b2,?F_b2,?g_c1,?F_c1,?g_a7,?F_a7,?g_b8,?F_b8,?g_a3,?F_a3,?g_bc,?F_bc,?g_aa,?F_aa,?g_a8,?F_a8,?g_b0,?F_b0,?g_b6,?F_b6,?gc_NOUGHT,?gc_NoPaper,?gc_Unbalanced,?gc_HurryError,?z_abs,?z_all,?z_bool,?z_enumerate,?z_int,?z_isinstance,?z_len,?z_list,?z_max,?z_min,?z_range,?z_str,?z_tuple⟩ ?g_c7 ?l_law ?c_law ?k_law ?lq_NOUGHT ?vq_NOUGHT ?J_NoPaper ?J_Unbalanced ?xm_NoPaper_NoPaper ?xga_NoPaper ?xgn_NoPaper ?xgc_NoPaper ?xsb_NoPaper ?xso_NoPaper ?xhd_NoPaper ?xty_NoPaper ?xi_NoPaper_Unbalanced ?xi_NoPaper_HurryError ?xm_Unbalanced_Unbalanced ?xga_Unbalanced ?xgn_Unbalanced ?xgc_Unbalanced ?xsb_Unbalanced ?xso_Unbalanced ?xhd_Unbalanced ?xty_Unbalanced ?xi_Unbalanced_NoPaper ?xi_Unbalanced_HurryError ?xm_Unbalanced_NoPaper
  (case g_ae | F_ae | g_a6 | F_a6 | g_a1 | F_a1 | g_ad | F_ad | g_c6 | F_c6 | g_c4 | F_c4 | g_bb | F_bb | g_a0 | F_a0 | g_c3 | F_c3 | g_a5 | F_a5 | g_a2 | F_a2 | g_ac | F_ac | g_ab | F_ab | g_a4 | F_a4 | g_af | F_af | g_c0 | F_c0 | g_c5 | F_c5 | g_bd | F_bd | g_b3 | F_b3 | g_b9 | F_b9 | g_ba | F_ba | g_a9 | F_a9 | g_b4 | F_b4 | g_b7 | F_b7 | g_c2 | F_c2 | g_be | F_be | g_b5 | F_b5 | g_b1 | F_b1 | g_b2 | F_b2 | g_c1 | F_c1 | g_a7 | F_a7 | g_b8 | F_b8 | g_a3 | F_a3 | g_bc | F_bc | g_aa | F_aa | g_a8 | F_a8 | g_b0 | F_b0 | g_b6 | F_b6=>first | (apply L2.A4g <;> k_is) | k_is)
  (case gc_NOUGHT=>k_is)
  (case gc_NoPaper=>k_is)
  (case gc_Unbalanced=>k_is)
  (case gc_HurryError=>k_is)
  (case z_abs=>k_is)
  (case z_all=>k_is)
  (case z_bool=>k_is)
  (case z_enumerate=>k_is)
  (case z_int=>k_is)
  (case z_isinstance=>k_is)
  (case z_len=>k_is)
  (case z_list=>k_is)
  (case z_max=>k_is)
  (case z_min=>k_is)
  (case z_range=>k_is)
  (case z_str=>k_is)
  (case z_tuple=>k_is)
  (case g_c7=>k_is)
  (case l_law=>k_is)
  (case c_law=>k_is)
  (case k_law=>k_is)
  (case lq_NOUGHT=>k_is)
  (case vq_NOUGHT=>exact rfl)
  (case J_NoPaper=>exact Exists.intro (nat_lit 41) (Exists.intro _ (L2.A4d (by apply L2.A4g <;> k_is) Prf.sc_NoPaperinit (by exact rfl) (by with_unfolding_all exact rfl) (by k_is) (by k_is) ⟨_,_,_,_,rfl,fun _=>rfl⟩ (bd:=fun _ _ _ _ _ _ us hl=>by obtain ⟨_,_,rfl⟩:=L2.us2 hl; rfl))))
  (case J_Unbalanced=>exact Exists.intro (nat_lit 60) (Exists.intro _ (L2.A4d (by apply L2.A4g <;> k_is) Prf.sc_Unbalancedinit (by exact rfl) (by with_unfolding_all exact rfl) (by k_is) (by k_is) ⟨_,_,_,_,rfl,fun _=>rfl⟩ (bd:=fun _ _ _ _ _ _ us hl=>by obtain ⟨_,_,rfl⟩:=L2.us2 hl; rfl))))
  (case xm_NoPaper_NoPaper=>exact rfl)
  (case xga_NoPaper=>k_is)
  (case xgn_NoPaper=>k_is)
  (case xgc_NoPaper=>k_is)
  (case xsb_NoPaper=>k_is)
  (case xso_NoPaper=>k_is)
  (case xhd_NoPaper=>k_is)
  (case xty_NoPaper=>exact rfl)
  (case xi_NoPaper_Unbalanced=>exact rfl)
  (case xi_NoPaper_HurryError=>exact rfl)
  (case xm_Unbalanced_Unbalanced=>exact rfl)
  (case xga_Unbalanced=>k_is)
  (case xgn_Unbalanced=>k_is)
  (case xgc_Unbalanced=>k_is)
  (case xsb_Unbalanced=>k_is)
  (case xso_Unbalanced=>k_is)
  (case xhd_Unbalanced=>k_is)
  (case xty_Unbalanced=>exact rfl)
  (case xi_Unbalanced_NoPaper=>exact rfl)
  (case xi_Unbalanced_HurryError=>exact rfl)
  (case xm_Unbalanced_NoPaper=>exact rfl)