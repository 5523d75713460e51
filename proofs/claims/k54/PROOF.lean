import PyProof.Rows.All
import Wide.All
import OpenK.AllK
import Wide.FinOn
import Lean
import PyProof.EqAt
import PyProof.EqKinds
import PyProof.TupleCall
import PySem.Challenge.RW_hurryprice_k54_plans_joined
set_option Elab.async false
set_option linter.all false
set_option maxRecDepth 100000
set_option maxHeartbeats 4000000
set_option compiler.extract_closed false
theorem Zm {α:Type u} {l:List α} {i:Nat} {a:α} (h:l[i]?=some a):a ∈ l:=List.mem_of_getElem? h
theorem Zg {α:Type u} {l:List α} {i:Nat} (h:i < l.length):l[i]?=some l[i]:=List.getElem?_eq_getElem h
theorem Zs {α:Type u} {l:List α} {i:Nat} {a:α} (h:l[i]?=some a):∃ h:i < l.length,l[i]=a:=List.getElem?_eq_some_iff.mp h
theorem Za {α:Type u} {a:α} {s t:List α} (h:a ∈ s++t):a ∈ s\/a ∈ t:=List.mem_append.mp h
theorem Zi {a:Int} (h:0<=a):∃ n:Nat,a=(n:Int):=Int.eq_ofNat_of_zero_le h
theorem Zo {α:Type u} {β:Type v} {f:α->β} {x:Option α} {b:β} (h:x.map f=some b):∃ a,x=some a/\f a=b:=Option.map_eq_some_iff.mp h
theorem Zn {α:Type u} {a b:α} (h:a ∈ [b]):a=b:=List.mem_singleton.mp h
theorem Zr {α:Type u} {a:α} {l:List α} (y:α) (h:a ∈ l):a ∈ y :: l:=List.mem_cons_of_mem y h
theorem Zu {m n:Nat} (k:Nat) (h:m<=n):m * k<=n * k:=Nat.mul_le_mul_right k h
theorem Zt {α:Type u} {a:α} {as:List α} (bs:List α) (h:a ∈ as):a ∈ as++bs:=List.mem_append_left bs h
theorem Zw {α:Type u} {b:α} (as:List α) {bs:List α} (h:b ∈ bs):b ∈ as++bs:=List.mem_append_right as h
theorem Zj {α:Type u} {a b:α} (h:some a=some b):a=b:=Option.some.inj h
theorem Zp {n m k:Nat} (h:n > 0) (g:m<=k):n ^ m<=n ^ k:=Nat.pow_le_pow_right h g
theorem Zv (n:Nat):n<=n:=Nat.le_refl n
theorem Zx {n m k:Nat} (a:n<=m) (b:m<=k):n<=k:=Nat.le_trans a b
theorem Zy {α:Type u} {a:α} {l:List α}:a ∈ a :: l:=List.mem_cons_self
theorem Zd {p:Prop} [Decidable p] (h:¬p):decide p=false:=decide_eq_false h
theorem Zk {p:Prop} [Decidable p] (h:p):decide p=true:=decide_eq_true h
def Zq:=@PySem.W.mg_of
def Z1:=@PySem.F.plainAttrs_list
def Z2:=@PySem.F.slot_list_append
def Z3:=@PySem.F.type_list_append
theorem Zl {α:Type u} {β:Type v} {as:List α} {f:α->β}:(as.map f).length=as.length:=List.length_map f
theorem Zh {α:Type u} {β:Type v} {f:α->β} {l:List α} {i:Nat}:(l.map f)[i]?=l[i]?.map f:=List.getElem?_map ..
theorem Zc {α:Type u} {β:Type v} {f:α->β} {l k:List α}:(l++k).map f=l.map f++k.map f:=List.map_append ..
theorem Ze {α:Type u} {as bs:List α}:(as++bs).length=as.length + bs.length:=List.length_append ..
namespace L2
open PySem PySem.Spec PyProof.Rows
def G5 (s:Stmt):Arguments:=match s with
  | .FunctionDef _ a _ _ _ _ _ _ _ _=>a
  | _=>{ posonlyargs:=[],args:=[],vararg:=none,kwonlyargs:=[],kw_defaults:=[],kwarg:=none,defaults:=[] }
def G1 (s:Stmt):List Stmt:=match s with
  | .FunctionDef _ _ b _ _ _ _ _ _ _=>b
  | _=>[]
def A6 (s:Stmt):Scope:=match s with
  | .FunctionDef _ _ _ _ _ _ sc _ _ _=>sc
  | _=>{ kind:=.function,names:=[],isGenerator:=false,isCoroutine:=false }
open PySem.W
def P4 (tb:String->Option Builtin) (p:Program) (w:World) (m:Nat) (ann:Option Value):Nat->SharedT->Thread->Option SharedT
  | 0,_,_=>none
  | n + 1,s,t=>match through t with
    | true=>some s
    | false=>match stepOk m ann t with
      | false=>none
      | true=>match stepT (denote tb) p w s t with
        | some x=>P4 tb p w m ann n x.1 x.2
        | none=>none
theorem U6 {tb:String->Option Builtin} {p:Program} {w:World} {m:Nat} {ann:Option Value}:∀ (n:Nat) (s r:SharedT) (t:Thread),P4 tb p w m ann n s t=some r->topRun tb p w m ann n s.abs t=some r.abs
  | 0,_,_,_,h=>by cases h
  | n + 1,s,r,t,h=>by
    unfold P4 at h;unfold topRun;cases a:through t with
    | true=>rw [a] at h; cases h; rfl
    | false =>
      rw [a] at h;cases b:stepOk m ann t with
      | false=>rw [b] at h; cases h
      | true =>
        rw [b] at h;cases c:stepT (denote tb) p w s t with
        | none=>rw [c] at h; cases h
        | some x =>
          rw [c] at h;rw [stepT_spec (s':=x.1) (t':=x.2) c];exact U6 n x.1 r x.2 h
def mkT (os:List Obj):Nat->Nat->Nat->BT
  | 0,_,_=>.nil
  | k + 1,a,b=>match os[b]? with
    | some o=>.node o (mkT os k (2 * a) (a + b)) (mkT os k (2 * a) (2 * a + b))
    | none=>.nil
noncomputable def A33 (w:World) (os:OsState):Shared:=⟨boot_heap w.params,Array.mk [],boot_drawn,boot_toks,os⟩
noncomputable def A9v (w:World) (os:OsState):SharedT:=⟨mkT (boot_heap w.params).objs.toList 12 1 0,(boot_heap w.params).objs.size,(boot_heap w.params).life,Array.mk [],boot_drawn,boot_toks,os⟩
theorem A9u (w:World) (os:OsState):(A9v w os).abs=A33 w os:=by kernel_rfl
theorem B6b (w:World) (os:OsState):((A33 w os).heap.isNs mainGlobals && (A33 w os).gens.size == 0)=true:=by kernel_rfl
theorem C3b {p q:Program} {loose:List Str} {Xt:Shared->Bool} {α:Type} {Yf:Shared->α} {Ya:World->α} {N:Nat} (ho:opening p=plainProg p.main.scope.names) (hN:Nat.ble 600 N=true) (hf:∀ s,fenceModules? p s=some s)
    (run:∀ (w:World) (os:OsState),(P4 treeTable p w (boot_heap w.params).objs.size ((boot_heap w.params).nsMap mainGlobals "__annotations__") N (A9v w os) (topStub p)).map
      (fun x=>(staticsOk (importedModules p.main.body) (boot_heap w.params) x.abs.heap && namesBound p x.abs.heap && gensDone x.abs && laidKept (boot_heap w.params) x.abs.heap,openSeen q loose (importedModules p.main.body) Xt true x.abs,Yf x.abs))=some (true,openGood q loose,Ya w)) :
    LeftO p q loose Xt Yf Ya N:=fun w=>by
  obtain ⟨⟨h,gs,d,k,os⟩,e,z⟩:=Zo (boot_open ho hN hf w);obtain ⟨rfl,rfl,rfl,rfl⟩:h=boot_heap w.params/\gs=Array.mk []/\d=boot_drawn/\k=boot_toks:=by simpa using z
  obtain ⟨x,r,v⟩:=Zo (run w os);have r:=U6 _ _ _ _ r;rw [A9u] at r;obtain ⟨v1,v2⟩:=Prod.mk.inj v;obtain ⟨v2,v3⟩:=Prod.mk.inj v2;show ((fencedOpening treeTable p w N).bind (topFrom treeTable p w N)).map _=_;rw [e];show (topFrom treeTable p w N (A33 w os)).map _=_;have t:topFrom treeTable p w N (A33 w os)=some x.abs:=by
    unfold topFrom;rw [B6b];show (topRun treeTable p w (boot_heap w.params).objs.size ((boot_heap w.params).nsMap mainGlobals "__annotations__") N (A33 w os) (topStub p)).bind _=_;rw [r];show (match staticsOk (importedModules p.main.body) (boot_heap w.params) x.abs.heap && namesBound p x.abs.heap && gensDone x.abs && laidKept (boot_heap w.params) x.abs.heap with | true=>some x.abs | false=>none)=_;rw [v1]
  rw [t];show some (openSeen q loose (importedModules p.main.body) Xt true x.abs,Yf x.abs)=_;rw [v2,v3]
noncomputable abbrev ranT (p:Program) (N:Nat) (w:World) (os:OsState):Option SharedT:=P4 treeTable p w (boot_heap w.params).objs.size ((boot_heap w.params).nsMap mainGlobals "__annotations__") N (A9v w os) (topStub p)
theorem C0e {p q:Program} {loose:List Str} {Xt:Shared->Bool} {α:Type} {Yf:Shared->α} {Ya:World->α} {N:Nat} (ho:opening p=plainProg p.main.scope.names) (hN:Nat.ble 600 N=true) (hf:∀ s,fenceModules? p s=some s)
    (a:∀ (w:World) (os:OsState),(ranT p N w os).map (fun x=>staticsOk (importedModules p.main.body) (boot_heap w.params) x.abs.heap && namesBound p x.abs.heap && gensDone x.abs && laidKept (boot_heap w.params) x.abs.heap)=some true)
    (b:∀ (w:World) (os:OsState),(ranT p N w os).map (fun x=>openSeen q loose (importedModules p.main.body) Xt true x.abs)=some (openGood q loose))
    (c:∀ (w:World) (os:OsState),(ranT p N w os).map (fun x=>Yf x.abs)=some (Ya w)):LeftO p q loose Xt Yf Ya N :=
  C3b ho hN hf fun w os=>by
    obtain ⟨x,r,e⟩:=Zo (a w os);have r':P4 treeTable p w (boot_heap w.params).objs.size ((boot_heap w.params).nsMap mainGlobals "__annotations__") N (A9v w os) (topStub p)=some x:=r;have f:openSeen q loose (importedModules p.main.body) Xt true x.abs=openGood q loose:=by have z:=b w os; rw [r] at z; exact Zj z
    have g:Yf x.abs=Ya w:=by have z:=c w os; rw [r] at z; exact Zj z
    rw [r'];show some (_,_,_)=_;rw [e,f,g]
theorem C0d {p q:Program} {loose:List Str} {Xt:Shared->Bool} {α:Type} {Yf:Shared->α} {Ya:World->α} {N:Nat} (ho:opening p=plainProg p.main.scope.names) (hN:Nat.ble 600 N=true) (hf:∀ s,fenceModules? p s=some s)
    (a:∀ (w:World) (os:OsState),(ranT p N w os).map (fun x=>staticsOk (importedModules p.main.body) (boot_heap w.params) x.abs.heap && namesBound p x.abs.heap && gensDone x.abs && laidKept (boot_heap w.params) x.abs.heap)=some true)
    (b:∀ (w:World) (os:OsState),(ranT p N w os).map (fun x=>seen ((recsOf q).map (·.name)) (ownsOf q) [] { heap:=x.abs.heap,drawn:=x.abs.drawn,toks:=x.abs.toks,os:=x.abs.os })=some (expectedOf q))
    (b1:∀ (w:World) (os:OsState),(ranT p N w os).map (fun x=>x.abs.heap.bltView)=some bltViewBooted)
    (k1:∀ (w:World) (os:OsState),(ranT p N w os).map (fun x=>x.abs.heap.keysOk (looseW q loose) ((recsOf q).map (·.name)) ((litsOf q).map (·.1)) ((clssOf q (looseW q loose)).map (·.name)))=some true)
    (k2:∀ (w:World) (os:OsState),(ranT p N w os).map (fun x=>x.abs.heap.accountedOkI (importedModules p.main.body) && x.abs.heap.isNs mainGlobals && x.abs.heap.isNs builtinsNs && tablesOk q x.abs.heap && Xt x.abs && x.abs.gens.size == 0)=some true)
    (b3:∀ (w:World) (os:OsState),(ranT p N w os).map (fun x=>(tabsOk q x.abs,pinSeenD q (drecsOf q) x.abs))=some (true,pinGoodD (drecsOf q)))
    (b5:∀ (w:World) (os:OsState),(ranT p N w os).map (fun x=>(plainSeenE q (looseW q loose) x.abs,plainSeenD q loose x.abs))=some (plainGoodE q (looseW q loose),plainGoodD q loose))
    (b4:∀ (w:World) (os:OsState),(ranT p N w os).map (fun x=>(wideSeen q x.abs,clsSeenW q loose x.abs))=some (wideGood q,clsGoodW q loose))
    (c:∀ (w:World) (os:OsState),(ranT p N w os).map (fun x=>Yf x.abs)=some (Ya w)):LeftO p q loose Xt Yf Ya N :=
  C0e ho hN hf a (fun w os=>by
    obtain ⟨x,r,e⟩:=Zo (b w os);have z1:=b1 w os;have z2:=k1 w os;have z3:=k2 w os;have z4:=b3 w os;have z6:=b4 w os;have z7:=b5 w os;rw [r] at z1 z2 z3 z4 z6 z7 ⊢;have z1:x.abs.heap.bltView=bltViewBooted:=Zj z1;have z2:x.abs.heap.keysOk (looseW q loose) ((recsOf q).map (·.name)) ((litsOf q).map (·.1)) ((clssOf q (looseW q loose)).map (·.name))=true:=Zj z2;have z3:(x.abs.heap.accountedOkI (importedModules p.main.body) && x.abs.heap.isNs mainGlobals && x.abs.heap.isNs builtinsNs && tablesOk q x.abs.heap && Xt x.abs && x.abs.gens.size == 0)=true:=Zj z3;obtain ⟨y1,y2⟩:=Prod.mk.inj (Zj z4);obtain ⟨y3,y4⟩:=Prod.mk.inj (Zj z7);obtain ⟨y5,y6⟩:=Prod.mk.inj (Zj z6);show some (seen ((recsOf q).map (·.name)) (ownsOf q) [] { heap:=x.abs.heap,drawn:=x.abs.drawn,toks:=x.abs.toks,os:=x.abs.os },x.abs.heap.bltView,(x.abs.heap.keysOk (looseW q loose) ((recsOf q).map (·.name)) ((litsOf q).map (·.1)) ((clssOf q (looseW q loose)).map (·.name)) && x.abs.heap.accountedOkI (importedModules p.main.body) && x.abs.heap.isNs mainGlobals && x.abs.heap.isNs builtinsNs && tablesOk q x.abs.heap && Xt x.abs && x.abs.gens.size == 0),tabsOk q x.abs,pinSeenD q (drecsOf q) x.abs,plainSeenE q (looseW q loose) x.abs,plainSeenD q loose x.abs,wideSeen q x.abs,clsSeenW q loose x.abs)=some (expectedOf q,bltViewBooted,true,true,pinGoodD (drecsOf q),plainGoodE q (looseW q loose),plainGoodD q loose,wideGood q,clsGoodW q loose);rw [z1,z2,Bool.true_and,z3,y1,y2,y3,y4,y5,y6];exact congrArg (fun z=>some (z,_)) e) c
end L2
namespace Prf
open PySem L2
def top (i:Nat):Stmt:=PySem.Challenge.pw_hurryprice_k54_plans_joined.main.body.getD i (.Pass ⟨0,0,0,0⟩)
abbrev s_commonpart:Stmt:=top 1
abbrev s_plus:Stmt:=top 4
abbrev s_minus:Stmt:=top 5
abbrev s_product:Stmt:=top 6
abbrev s_isless:Stmt:=top 7
abbrev s_isoffered:Stmt:=top 9
abbrev s_endof:Stmt:=top 11
abbrev s_waitslack:Stmt:=top 12
abbrev s_holdslack:Stmt:=top 13
abbrev s_takesonecorner:Stmt:=top 14
abbrev s_firstbelow:Stmt:=top 15
abbrev s_firstuntaken:Stmt:=top 16
abbrev s_firstbroken:Stmt:=top 17
abbrev s_plansbeside:Stmt:=top 19
abbrev s_planlater:Stmt:=top 20
abbrev s_planturned:Stmt:=top 21
abbrev s_planscaled:Stmt:=top 22
abbrev s_Lbegun:Stmt:=top 24
abbrev s_Ltake:Stmt:=top 25
abbrev s_Llow:Stmt:=top 26
abbrev s_Lplus:Stmt:=top 27
abbrev s_Lminus:Stmt:=top 28
abbrev s_Ltimes:Stmt:=top 29
abbrev s_Lunder:Stmt:=top 30
abbrev s_Lamount:Stmt:=top 31
abbrev s_Loffer:Stmt:=top 32
abbrev s_Lnames:Stmt:=top 33
abbrev s_Lorder:Stmt:=top 34
abbrev s_Llag:Stmt:=top 35
abbrev s_Lwaits:Stmt:=top 36
abbrev s_Lholds:Stmt:=top 37
abbrev s_Lgroups:Stmt:=top 38
abbrev s_Lnet:Stmt:=top 39
abbrev s_Lbeside:Stmt:=top 40
abbrev s_Lbehind:Stmt:=top 41
abbrev s_Lturned:Stmt:=top 42
abbrev s_Lscaled:Stmt:=top 43
abbrev s_Ltimesdrawn:Stmt:=top 44
abbrev s_Lstarts:Stmt:=top 45
abbrev s_Lwhole:Stmt:=top 46
abbrev s_Lplan:Stmt:=top 47
abbrev s_Ltoldright:Stmt:=top 48
abbrev s_Ljoinedright:Stmt:=top 49
abbrev s_Lalike:Stmt:=top 50
abbrev s_law:Stmt:=top 51
abbrev cO (n:Str) (a:Tok) (m:Str) (b c:Tok) (l p f:Int) (x y z u v:Value) (g k:Int) (d:Tok):Obj:=⟨.type "code",none,.fields #[.str n a,.str m b,.str "/claim/cut.py" c,.int l 0,.int p 0,.int 0 0,.int 0 0,.int f 0,x,.bool true,.int 181 0,y,.none,z,u,v,.int g 0,.int k 0,.str "/claim/cut.py" d],#[]⟩
abbrev fO (n:Str) (s:Stmt) (m:Str) (t:Tok) (c:Addr):Obj:=⟨.type "function",none,.func (PySem.W.fnOf n n (G5 s) (G1 s) (A6 s) .none .none .none (.str m t) none (.ref c) .none),#[]⟩
abbrev nE (P:Params) (x:Str) (t:Tok) (v:Value):DictEntry:=⟨PyData.keyHash P x,.str x t,v⟩
noncomputable def kk:Params->PySem.W.Frag:=fun P =>
  (nat_lit 3,⟨(.type "dict"),none,(.dict #[nE P "__name__" 165 (.str "law_hurryprice_k54_plans_joined" 342),nE P "__doc__" 166 .none,nE P "__package__" 167 .none,nE P "__loader__" 168 (.builtin "__main__.__loader__#opaque"),nE P "__spec__" 169 .none,nE P "__annotations__" 170 (.ref 6),nE P "__builtins__" 171 (.ref 4),nE P "__file__" 173 (.str "/claim/cut.py" 172),nE P "__cached__" 174 .none,nE P "common_part" 196 (.ref 21),nE P "NOUGHT" 201 (.ref 22),nE P "plus" 214 (.ref 29),nE P "minus" 222 (.ref 36),nE P "product" 232 (.ref 43),nE P "is_less" 240 (.ref 50),nE P "is_offered" 248 (.ref 55),nE P "end_of" 257 (.ref 62),nE P "wait_slack" 268 (.ref 69),nE P "hold_slack" 279 (.ref 76),nE P "takes_one_corner" 285 (.ref 81),nE P "first_below" 295 (.ref 88),nE P "first_untaken" 307 (.ref 95),nE P "first_broken" 313 (.ref 100),nE P "plans_beside" 323 (.ref 107),nE P "plan_later" 329 (.ref 112),nE P "plan_turned" 335 (.ref 117),nE P "plan_scaled" 341 (.ref 122),nE P "_law_begun" 352 (.ref 129),nE P "_law_take" 363 (.ref 136),nE P "_law_low" 373 (.ref 143),nE P "_law_plus" 381 (.ref 150),nE P "_law_minus" 389 (.ref 157),nE P "_law_times" 397 (.ref 164),nE P "_law_under" 405 (.ref 171),nE P "_law_amount" 416 (.ref 178),nE P "_law_offer" 422 (.ref 183),nE P "_law_names" 428 (.ref 188),nE P "_law_order" 438 (.ref 195),nE P "_law_lag" 447 (.ref 202),nE P "_law_waits" 462 (.ref 209),nE P "_law_holds" 476 (.ref 216),nE P "_law_groups" 482 (.ref 221),nE P "_law_net" 503 (.ref 228),nE P "_law_beside" 509 (.ref 233),nE P "_law_behind" 521 (.ref 240),nE P "_law_turned" 527 (.ref 245),nE P "_law_scaled" 533 (.ref 250),nE P "_law_times_drawn" 546 (.ref 257),nE P "_law_starts" 552 (.ref 262),nE P "_law_whole" 563 (.ref 269),nE P "_law_plan" 576 (.ref 276),nE P "_law_told_right" 582 (.ref 281),nE P "_law_joined_right" 599 (.ref 288),nE P "_law_alike" 612 (.ref 295),nE P "law" 618 (.ref 300)] 55),#[]⟩) ::
  (nat_lit 20,cO "common_part" 189 "common_part" 190 191 2 2 3 (.ref 15) (.ref 16) (.ref 17) (.ref 18) (.ref 19) 194 2 195) ::
  (nat_lit 21,fO "common_part" s_commonpart "hurryprice.names" 187 20) ::
  (nat_lit 22,⟨(.type "tuple"),none,(.seq #[(.int 0 199),(.int 1 200)] 0),#[]⟩) ::
  (nat_lit 28,cO "plus" 202 "plus" 203 204 9 2 3 (.ref 23) (.ref 24) (.ref 25) (.ref 26) (.ref 27) 212 9 213) ::
  (nat_lit 29,fO "plus" s_plus "hurryprice.ratios" 197 28) ::
  (nat_lit 35,cO "minus" 215 "minus" 216 217 15 2 3 (.ref 30) (.ref 31) (.ref 32) (.ref 33) (.ref 34) 220 15 221) ::
  (nat_lit 36,fO "minus" s_minus "hurryprice.ratios" 197 35) ::
  (nat_lit 42,cO "product" 223 "product" 224 225 17 2 3 (.ref 37) (.ref 38) (.ref 39) (.ref 40) (.ref 41) 230 17 231) ::
  (nat_lit 43,fO "product" s_product "hurryprice.ratios" 197 42) ::
  (nat_lit 49,cO "is_less" 233 "is_less" 234 235 20 2 3 (.ref 44) (.ref 45) (.ref 46) (.ref 47) (.ref 48) 238 20 239) ::
  (nat_lit 50,fO "is_less" s_isless "hurryprice.ratios" 197 49) ::
  (nat_lit 54,cO "is_offered" 243 "is_offered" 244 245 23 2 3 (.ref 51) (.ref 52) .none .none (.ref 53) 246 23 247) ::
  (nat_lit 55,fO "is_offered" s_isoffered "hurryprice.offers" 241 54) ::
  (nat_lit 61,cO "end_of" 251 "end_of" 252 253 29 1 3 (.ref 56) (.ref 57) (.ref 58) (.ref 59) (.ref 60) 255 29 256) ::
  (nat_lit 62,fO "end_of" s_endof "hurryprice.plans" 249 61) ::
  (nat_lit 68,cO "wait_slack" 258 "wait_slack" 259 260 31 2 3 (.ref 63) (.ref 64) (.ref 65) (.ref 66) (.ref 67) 266 31 267) ::
  (nat_lit 69,fO "wait_slack" s_waitslack "hurryprice.plans" 249 68) ::
  (nat_lit 75,cO "hold_slack" 269 "hold_slack" 270 271 34 2 3 (.ref 70) (.ref 71) (.ref 72) (.ref 73) (.ref 74) 277 34 278) ::
  (nat_lit 76,fO "hold_slack" s_holdslack "hurryprice.plans" 249 75) ::
  (nat_lit 80,cO "takes_one_corner" 280 "takes_one_corner" 281 282 41 3 3 (.ref 77) (.ref 78) .none .none (.ref 79) 283 41 284) ::
  (nat_lit 81,fO "takes_one_corner" s_takesonecorner "hurryprice.plans" 249 80) ::
  (nat_lit 87,cO "first_below" 286 "first_below" 287 288 47 2 3 (.ref 82) (.ref 83) (.ref 84) (.ref 85) (.ref 86) 293 47 294) ::
  (nat_lit 88,fO "first_below" s_firstbelow "hurryprice.plans" 249 87) ::
  (nat_lit 94,cO "first_untaken" 296 "first_untaken" 297 298 52 3 3 (.ref 89) (.ref 90) (.ref 91) (.ref 92) (.ref 93) 305 52 306) ::
  (nat_lit 95,fO "first_untaken" s_firstuntaken "hurryprice.plans" 249 94) ::
  (nat_lit 99,cO "first_broken" 308 "first_broken" 309 310 60 3 3 (.ref 96) (.ref 97) .none .none (.ref 98) 311 60 312) ::
  (nat_lit 100,fO "first_broken" s_firstbroken "hurryprice.plans" 249 99) ::
  (nat_lit 106,cO "plans_beside" 316 "plans_beside" 317 318 73 2 3 (.ref 101) (.ref 102) (.ref 103) (.ref 104) (.ref 105) 321 73 322) ::
  (nat_lit 107,fO "plans_beside" s_plansbeside "hurryprice.joins" 314 106) ::
  (nat_lit 111,cO "plan_later" 324 "plan_later" 325 326 75 2 3 (.ref 108) (.ref 109) .none .none (.ref 110) 327 75 328) ::
  (nat_lit 112,fO "plan_later" s_planlater "hurryprice.joins" 314 111) ::
  (nat_lit 116,cO "plan_turned" 330 "plan_turned" 331 332 77 2 3 (.ref 113) (.ref 114) .none .none (.ref 115) 333 77 334) ::
  (nat_lit 117,fO "plan_turned" s_planturned "hurryprice.joins" 314 116) ::
  (nat_lit 121,cO "plan_scaled" 336 "plan_scaled" 337 338 79 2 3 (.ref 118) (.ref 119) .none .none (.ref 120) 339 79 340) ::
  (nat_lit 122,fO "plan_scaled" s_planscaled "hurryprice.joins" 314 121) ::
  (nat_lit 128,cO "_law_begun" 344 "_law_begun" 345 346 82 2 3 (.ref 123) (.ref 124) (.ref 125) (.ref 126) (.ref 127) 350 82 351) ::
  (nat_lit 129,fO "_law_begun" s_Lbegun "law_hurryprice_k54_plans_joined" 342 128) ::
  (nat_lit 135,cO "_law_take" 353 "_law_take" 354 355 87 2 3 (.ref 130) (.ref 131) (.ref 132) (.ref 133) (.ref 134) 361 87 362) ::
  (nat_lit 136,fO "_law_take" s_Ltake "law_hurryprice_k54_plans_joined" 342 135) ::
  (nat_lit 142,cO "_law_low" 364 "_law_low" 365 366 98 2 3 (.ref 137) (.ref 138) (.ref 139) (.ref 140) (.ref 141) 371 98 372) ::
  (nat_lit 143,fO "_law_low" s_Llow "law_hurryprice_k54_plans_joined" 342 142) ::
  (nat_lit 149,cO "_law_plus" 374 "_law_plus" 375 376 104 2 3 (.ref 144) (.ref 145) (.ref 146) (.ref 147) (.ref 148) 379 104 380) ::
  (nat_lit 150,fO "_law_plus" s_Lplus "law_hurryprice_k54_plans_joined" 342 149) ::
  (nat_lit 156,cO "_law_minus" 382 "_law_minus" 383 384 106 2 3 (.ref 151) (.ref 152) (.ref 153) (.ref 154) (.ref 155) 387 106 388) ::
  (nat_lit 157,fO "_law_minus" s_Lminus "law_hurryprice_k54_plans_joined" 342 156) ::
  (nat_lit 163,cO "_law_times" 390 "_law_times" 391 392 108 2 3 (.ref 158) (.ref 159) (.ref 160) (.ref 161) (.ref 162) 395 108 396) ::
  (nat_lit 164,fO "_law_times" s_Ltimes "law_hurryprice_k54_plans_joined" 342 163) ::
  (nat_lit 170,cO "_law_under" 398 "_law_under" 399 400 110 2 3 (.ref 165) (.ref 166) (.ref 167) (.ref 168) (.ref 169) 403 110 404) ::
  (nat_lit 171,fO "_law_under" s_Lunder "law_hurryprice_k54_plans_joined" 342 170) ::
  (nat_lit 177,cO "_law_amount" 406 "_law_amount" 407 408 112 3 3 (.ref 172) (.ref 173) (.ref 174) (.ref 175) (.ref 176) 414 112 415) ::
  (nat_lit 178,fO "_law_amount" s_Lamount "law_hurryprice_k54_plans_joined" 342 177) ::
  (nat_lit 182,cO "_law_offer" 417 "_law_offer" 418 419 118 4 3 (.ref 179) (.ref 180) .none .none (.ref 181) 420 118 421) ::
  (nat_lit 183,fO "_law_offer" s_Loffer "law_hurryprice_k54_plans_joined" 342 182) ::
  (nat_lit 187,cO "_law_names" 423 "_law_names" 424 425 136 2 3 (.ref 184) (.ref 185) .none .none (.ref 186) 426 136 427) ::
  (nat_lit 188,fO "_law_names" s_Lnames "law_hurryprice_k54_plans_joined" 342 187) ::
  (nat_lit 194,cO "_law_order" 429 "_law_order" 430 431 150 2 3 (.ref 189) (.ref 190) (.ref 191) (.ref 192) (.ref 193) 436 150 437) ::
  (nat_lit 195,fO "_law_order" s_Lorder "law_hurryprice_k54_plans_joined" 342 194) ::
  (nat_lit 201,cO "_law_lag" 439 "_law_lag" 440 441 156 2 3 (.ref 196) (.ref 197) (.ref 198) (.ref 199) (.ref 200) 445 156 446) ::
  (nat_lit 202,fO "_law_lag" s_Llag "law_hurryprice_k54_plans_joined" 342 201) ::
  (nat_lit 208,cO "_law_waits" 448 "_law_waits" 449 450 161 3 3 (.ref 203) (.ref 204) (.ref 205) (.ref 206) (.ref 207) 460 161 461) ::
  (nat_lit 209,fO "_law_waits" s_Lwaits "law_hurryprice_k54_plans_joined" 342 208) ::
  (nat_lit 215,cO "_law_holds" 463 "_law_holds" 464 465 173 4 3 (.ref 210) (.ref 211) (.ref 212) (.ref 213) (.ref 214) 474 173 475) ::
  (nat_lit 216,fO "_law_holds" s_Lholds "law_hurryprice_k54_plans_joined" 342 215) ::
  (nat_lit 220,cO "_law_groups" 477 "_law_groups" 478 479 182 2 3 (.ref 217) (.ref 218) .none .none (.ref 219) 480 182 481) ::
  (nat_lit 221,fO "_law_groups" s_Lgroups "law_hurryprice_k54_plans_joined" 342 220) ::
  (nat_lit 227,cO "_law_net" 483 "_law_net" 484 485 192 6 3 (.ref 222) (.ref 223) (.ref 224) (.ref 225) (.ref 226) 501 192 502) ::
  (nat_lit 228,fO "_law_net" s_Lnet "law_hurryprice_k54_plans_joined" 342 227) ::
  (nat_lit 232,cO "_law_beside" 504 "_law_beside" 505 506 208 3 3 (.ref 229) (.ref 230) .none .none (.ref 231) 507 208 508) ::
  (nat_lit 233,fO "_law_beside" s_Lbeside "law_hurryprice_k54_plans_joined" 342 232) ::
  (nat_lit 239,cO "_law_behind" 510 "_law_behind" 511 512 225 3 3 (.ref 234) (.ref 235) (.ref 236) (.ref 237) (.ref 238) 519 225 520) ::
  (nat_lit 240,fO "_law_behind" s_Lbehind "law_hurryprice_k54_plans_joined" 342 239) ::
  (nat_lit 244,cO "_law_turned" 522 "_law_turned" 523 524 231 1 3 (.ref 241) (.ref 242) .none .none (.ref 243) 525 231 526) ::
  (nat_lit 245,fO "_law_turned" s_Lturned "law_hurryprice_k54_plans_joined" 342 244) ::
  (nat_lit 249,cO "_law_scaled" 528 "_law_scaled" 529 530 233 3 3 (.ref 246) (.ref 247) .none .none (.ref 248) 531 233 532) ::
  (nat_lit 250,fO "_law_scaled" s_Lscaled "law_hurryprice_k54_plans_joined" 342 249) ::
  (nat_lit 256,cO "_law_times_drawn" 534 "_law_times_drawn" 535 536 240 2 3 (.ref 251) (.ref 252) (.ref 253) (.ref 254) (.ref 255) 544 240 545) ::
  (nat_lit 257,fO "_law_times_drawn" s_Ltimesdrawn "law_hurryprice_k54_plans_joined" 342 256) ::
  (nat_lit 261,cO "_law_starts" 547 "_law_starts" 548 549 249 2 3 (.ref 258) (.ref 259) .none .none (.ref 260) 550 249 551) ::
  (nat_lit 262,fO "_law_starts" s_Lstarts "law_hurryprice_k54_plans_joined" 342 261) ::
  (nat_lit 268,cO "_law_whole" 553 "_law_whole" 554 555 260 1 3 (.ref 263) (.ref 264) (.ref 265) (.ref 266) (.ref 267) 561 260 562) ::
  (nat_lit 269,fO "_law_whole" s_Lwhole "law_hurryprice_k54_plans_joined" 342 268) ::
  (nat_lit 275,cO "_law_plan" 564 "_law_plan" 565 566 267 2 3 (.ref 270) (.ref 271) (.ref 272) (.ref 273) (.ref 274) 574 267 575) ::
  (nat_lit 276,fO "_law_plan" s_Lplan "law_hurryprice_k54_plans_joined" 342 275) ::
  (nat_lit 280,cO "_law_told_right" 577 "_law_told_right" 578 579 276 5 3 (.ref 277) (.ref 278) .none .none (.ref 279) 580 276 581) ::
  (nat_lit 281,fO "_law_told_right" s_Ltoldright "law_hurryprice_k54_plans_joined" 342 280) ::
  (nat_lit 287,cO "_law_joined_right" 583 "_law_joined_right" 584 585 290 5 3 (.ref 282) (.ref 283) (.ref 284) (.ref 285) (.ref 286) 597 290 598) ::
  (nat_lit 288,fO "_law_joined_right" s_Ljoinedright "law_hurryprice_k54_plans_joined" 342 287) ::
  (nat_lit 294,cO "_law_alike" 600 "_law_alike" 601 602 303 5 3 (.ref 289) (.ref 290) (.ref 291) (.ref 292) (.ref 293) 610 303 611) ::
  (nat_lit 295,fO "_law_alike" s_Lalike "law_hurryprice_k54_plans_joined" 342 294) ::
  (nat_lit 299,cO "law" 613 "law" 614 615 311 1 3 (.ref 296) (.ref 297) .none .none (.ref 298) 616 311 617) ::
  (nat_lit 300,fO "law" s_law "law_hurryprice_k54_plans_joined" 342 299) :: []
noncomputable def qq:Program:=PySem.W.view PySem.Challenge.pw_hurryprice_k54_plans_joined [1,3,4,5,6,7,9,11,12,13,14,15,16,17,19,20,21,22,24,25,26,27,28,29,30,31,32,33,34,35,36,37,38,39,40,41,42,43,44,45,46,47,48,49,50,51]
noncomputable def aa:List Nat:=[3,20,21,22,28,29,35,36,42,43,49,50,54,55,61,62,68,69,75,76,80,81,87,88,94,95,99,100,106,107,111,112,116,117,121,122,128,129,135,136,142,143,149,150,156,157,163,164,170,171,177,178,182,183,187,188,194,195,201,202,208,209,215,216,220,221,227,228,232,233,239,240,244,245,249,250,256,257,261,262,268,269,275,276,280,281,287,288,294,295,299,300]
theorem C3t:∀ P:Params,aa=(kk P).map (·.1):=fun P=>by kernel_rfl
noncomputable abbrev hh:PySem.W.Hook:=PySem.W.kHook kk aa C3t
noncomputable abbrev xt (s:Shared):Bool:=PySem.W.xlAt qq [] s && PySem.W.recOk (PySem.W.RowW.records PySem.Challenge.rw_hurryprice_k54_plans_joined.row.toRowW) s
theorem run1 (w:World) (os:OsState):(L2.ranT PySem.Challenge.pw_hurryprice_k54_plans_joined 3012 w os).map (fun x=>PySem.W.staticsOk (importedModules PySem.Challenge.pw_hurryprice_k54_plans_joined.main.body) (PySem.W.boot_heap w.params) x.abs.heap && PySem.W.namesBound PySem.Challenge.pw_hurryprice_k54_plans_joined x.abs.heap && PySem.W.gensDone x.abs && PySem.W.laidKept (PySem.W.boot_heap w.params) x.abs.heap)=some true:=by kernel_rfl
open PySem.W PySem.Spec PyProof.Rows
theorem run2 (w:World) (os:OsState):(L2.ranT PySem.Challenge.pw_hurryprice_k54_plans_joined 3012 w os).map (fun x=>seen ((recsOf qq).map (·.name)) (ownsOf qq) [] { heap:=x.abs.heap,drawn:=x.abs.drawn,toks:=x.abs.toks,os:=x.abs.os })=some (expectedOf qq):=by kernel_rfl
theorem run4 (w:World) (os:OsState):(L2.ranT PySem.Challenge.pw_hurryprice_k54_plans_joined 3012 w os).map (fun x=>x.abs.heap.bltView)=some bltViewBooted:=by kernel_rfl
theorem run5 (w:World) (os:OsState):(L2.ranT PySem.Challenge.pw_hurryprice_k54_plans_joined 3012 w os).map (fun x=>x.abs.heap.keysOk (looseW qq []) ((recsOf qq).map (·.name)) ((litsOf qq).map (·.1)) ((clssOf qq (looseW qq [])).map (·.name)))=some true:=by kernel_rfl
theorem run6 (w:World) (os:OsState):(L2.ranT PySem.Challenge.pw_hurryprice_k54_plans_joined 3012 w os).map (fun x=>x.abs.heap.accountedOkI (importedModules PySem.Challenge.pw_hurryprice_k54_plans_joined.main.body) && x.abs.heap.isNs mainGlobals && x.abs.heap.isNs builtinsNs && tablesOk qq x.abs.heap && xt x.abs && x.abs.gens.size == 0)=some true:=by kernel_rfl
theorem run7 (w:World) (os:OsState):(L2.ranT PySem.Challenge.pw_hurryprice_k54_plans_joined 3012 w os).map (fun x=>(tabsOk qq x.abs,pinSeenD qq (drecsOf qq) x.abs))=some (true,pinGoodD (drecsOf qq)):=by kernel_rfl
theorem run9 (w:World) (os:OsState):(L2.ranT PySem.Challenge.pw_hurryprice_k54_plans_joined 3012 w os).map (fun x=>(plainSeenE qq (looseW qq []) x.abs,plainSeenD qq [] x.abs))=some (plainGoodE qq (looseW qq []),plainGoodD qq []):=by kernel_rfl
theorem run8 (w:World) (os:OsState):(L2.ranT PySem.Challenge.pw_hurryprice_k54_plans_joined 3012 w os).map (fun x=>(wideSeen qq x.abs,clsSeenW qq [] x.abs))=some (wideGood qq,clsGoodW qq []):=by kernel_rfl
theorem run3 (w:World) (os:OsState):(L2.ranT PySem.Challenge.pw_hurryprice_k54_plans_joined 3012 w os).map (fun x=>hh.obs x.abs)=some (hh.val w):=by kernel_rfl
theorem left:PySem.W.LeftO PySem.Challenge.pw_hurryprice_k54_plans_joined qq [] xt hh.obs hh.val 3012:=L2.C0d (by kernel_rfl) (by decide) (fun s=>by kernel_rfl) run1 run2 run4 run5 run6 run7 run9 run8 run3
theorem said:PySem.Challenge.rw_hurryprice_k54_plans_joined.wellSaid=true:=by
  unfold PySem.W.OpenLaw.wellSaid
  repeat' with_reducible refine Bool.and_eq_true_iff.mpr ⟨?_,?_⟩
  all_goals decide +kernel
end Prf
namespace L2
open PySem PySem.Spec PyProof.Rows
abbrev Key:=Sum Int Str
def C0z:Key->Value->Bool
  | .inl k,v=>Value.isInt k v
  | .inr x,v=>Value.isStrOf x v
def keyH (w:World):Key->Int
  | .inl k=>hashInt k
  | .inr x=>hashStr w x
theorem F2:∀ {k:Key} {v:Value},C0z k v=true->(∃ i t,k=Sum.inl i/\v=Value.int i t)\/(∃ x t,k=Sum.inr x/\v=Value.str x t)
  | .inl i,v,h=>by
    obtain ⟨t,e⟩:=Value.isInt_shape (k:=i) (v:=v) h;exact .inl ⟨i,t,rfl,e⟩
  | .inr x,v,h=>by
    obtain ⟨t,e⟩:=Value.isStrOf_shape (x:=x) (v:=v) h;exact .inr ⟨x,t,rfl,e⟩
theorem C0y (a b:Int):decide ((Sum.inl a:Key)=Sum.inl b)=(a == b):=by
  by_cases e:a=b
  · subst e; simp
  · have h:¬ (Sum.inl a:Key)=Sum.inl b:=fun q=>e (Sum.inl.inj q)
    rw [Zd h];exact (beq_eq_false_iff_ne.mpr e).symm
theorem C0v (a b:Str):decide ((Sum.inr a:Key)=Sum.inr b)=decide (a=b):=by
  by_cases e:a=b
  · subst e; simp
  · have h:¬ (Sum.inr a:Key)=Sum.inr b:=fun q=>e (Sum.inr.inj q)
    rw [Zd h,Zd e]
theorem C0x (a:Int) (b:Str):decide ((Sum.inl a:Key)=Sum.inr b)=false:=Zd (fun q=>nomatch q)
theorem C0w (a:Str) (b:Int):decide ((Sum.inr a:Key)=Sum.inl b)=false:=Zd (fun q=>nomatch q)
def A5z (prog:Program) (w:World):PySem.KeyKind prog w Key where
  is:=C0z
  hash:=keyH w
  inj:=fun v a b ha hb=>by
    rcases F2 ha with ⟨i,t,rfl,rfl⟩ | ⟨x,t,rfl,rfl⟩
    · rcases F2 hb with ⟨j,u,rfl,e⟩ | ⟨y,u,rfl,e⟩
      · injection e with e1 _; rw [e1]
      · exact nomatch e
    · rcases F2 hb with ⟨j,u,rfl,e⟩ | ⟨y,u,rfl,e⟩
      · exact nomatch e
      · injection e with e1 _; rw [e1]
  byValue:=fun k v h=>by
    rcases F2 h with ⟨i,t,rfl,rfl⟩ | ⟨x,t,rfl,rfl⟩ <;> rfl
  pyHash:=fun hv h=>by
    rcases F2 hv with ⟨i,t,rfl,rfl⟩ | ⟨x,t,rfl,rfl⟩
    · exact wpAny_pyHash_int h
    · exact wpAny_pyHash_str h
  eqBool:=fun hu hv h=>by
    rcases F2 hu with ⟨i,t,rfl,rfl⟩ | ⟨x,t,rfl,rfl⟩
    · rcases F2 hv with ⟨j,u,rfl,rfl⟩ | ⟨y,u,rfl,rfl⟩
      · rw [C0y] at h; exact wpAny_eqBool_int h
      · rw [C0x] at h; exact SeqAt.EqAt.int_str i t y u _ _ _ _ h
    · rcases F2 hv with ⟨j,u,rfl,rfl⟩ | ⟨y,u,rfl,rfl⟩
      · rw [C0w] at h; exact SeqAt.EqAt.str_int x t j u _ _ _ _ h
      · rw [C0v] at h; exact wpAny_eqBool_str h
  «strs»:=fun k x t v h=>by
    rcases F2 h with ⟨i,u,rfl,e⟩ | ⟨y,u,rfl,e⟩
    · exact nomatch e
    · injection e with e1 _
      subst e1;cases v <;> rfl
end L2
namespace L2
open PySem PySem.Spec PyProof.Rows
inductive V where
  | non | bl (b:Bool) | int (i:Int) | str (x:Str) | byt (b:Array UInt8) | flt (b:UInt64) | ref (a:Addr) | ty (n:String)
  deriving DecidableEq
def RelV:V->Value->Prop
  | .non,u=>u=Value.none
  | .bl b,u=>u=Value.bool b
  | .int i,u=>∃ t,u=Value.int i t
  | .str x,u=>∃ t,u=Value.str x t
  | .byt b,u=>∃ t,u=Value.bytes b t
  | .flt b,u=>∃ t,u=Value.float b t
  | .ref a,u=>u=Value.ref a
  | .ty n,u=>u=Value.type n
abbrev Vals:List V->List Value->Prop:=Paired RelV
theorem Vals.length {xs:List V} {us:List Value} (r:Vals xs us):xs.length=us.length:=Paired.length r
theorem Vals.get:∀ {xs:List V} {us:List Value} {i:Nat} {x:V},Vals xs us->xs[i]?=some x->∃ u,us[i]?=some u/\RelV x u
  | _,_,_,_,.nil,e=>by simp at e
  | _,_,0,_,.cons r _,e=>by simp at e; subst e; exact ⟨_,rfl,r⟩
  | _,_,i + 1,x,.cons _ t,e=>by
    obtain ⟨u,h1,h2⟩:=Vals.get (i:=i) (x:=x) t (by simpa using e);exact ⟨u,by simpa using h1,h2⟩
theorem Vals.set {x:V} {u:Value} (r:RelV x u):∀ {xs:List V} {us:List Value} (i:Nat),Vals xs us->Vals (xs.set i x) (us.set i u)
  | _,_,_,.nil=>.nil
  | _,_,0,.cons _ t=>.cons r t
  | _,_,i + 1,.cons q t=>.cons q (Vals.set r i t)
theorem Vals.append:∀ {xs ys:List V} {us ws:List Value},Vals xs us->Vals ys ws->Vals (xs++ys) (us++ws)
  | _,_,_,_,.nil,s=>s
  | _,_,_,_,.cons r t,s=>.cons r (Vals.append t s)
theorem Vals.take:∀ {xs:List V} {us:List Value} (n:Nat),Vals xs us->Vals (xs.take n) (us.take n)
  | _,_,0,_=>.nil
  | _,_,_ + 1,.nil=>.nil
  | _,_,n + 1,.cons r t=>.cons r (Vals.take n t)
theorem Vals.drop:∀ {xs:List V} {us:List Value} (n:Nat),Vals xs us->Vals (xs.drop n) (us.drop n)
  | _,_,0,r=>r
  | _,_,_ + 1,.nil=>.nil
  | _,_,n + 1,.cons _ t=>Vals.drop n t
theorem Vals.none_of:∀ {xs:List V} {us:List Value} {i:Nat},Vals xs us->xs[i]?=none->us[i]?=none:=fun {xs us i} r e=>by
  have h1:=r.length;have h2:xs.length<=i:=List.getElem?_eq_none_iff.mp e;exact List.getElem?_eq_none_iff.mpr (by omega)
def RelO:Option V->Option Value->Prop
  | some v,some u=>RelV v u
  | none,none=>True
  | _,_=>False
def KV {κ:Type}:List (κ × V)->List (κ × Value)->Prop:=Paired fun (p:κ × V) (q:κ × Value)=>p.1=q.1/\RelV p.2 q.2
def kV:Key->V
  | .inl i=>.int i
  | .inr x=>.str x
inductive HO where
    | lst (xs:List V)
    | tup (xs:List V)
    | dK (kvs:List (Key × V)) | dT (kvs:List (List Key × V))
    | set (S:Int->Bool) (n:Nat)
    | ins (C dx:Addr) (fs:List (Str × V))
    | own (x:Addr)
    | xd (fs:List (Str × V))
    | met (f x:Addr)
    | rng (lo hi:Int)
    | frz (o:Obj) (u:HO)
    | tbl (ps:Array Value)
    | ext (φ:Heap->Prop)
abbrev Hp:=Addr->Option HO
def upd (H:Hp) (a:Addr) (o:HO):Hp:=fun b=>if b=a then some o else H b
theorem C6 {H:Hp} {a:Addr} {o:HO}:upd H a o a=some o:=by unfold upd; rw [if_pos rfl]
theorem C7 {H:Hp} {a b:Addr} {o:HO} (h:b≠a):upd H a o b=H b:=by unfold upd; rw [if_neg h]
theorem D9 {H:Hp} {a b:Addr} {o:HO} (h:H a=some o) (h':H b=none):a≠b:=by
  intro e; subst e; rw [h] at h'; cases h'
section
variable (P:Program) (w:World)
def ObjOk (H:Hp) (h:Heap) (a:Addr):HO->Prop
  | .lst xs=>xs.length<=sizeLine/\∃ (its:List Value) (n:Nat),Vals xs its/\h.get? a=some { cls:=.type "list",data:=.seq its.toArray n }
  | .tup xs=>xs.length<=sizeLine/\∃ its:List Value,Vals xs its/\IsTup h a its.toArray
  | .dK kvs=>kvs.length<=sizeLine/\(a == sysModules)=false/\∃ vs,KV kvs vs/\h.DictOf (A5z P w) a vs
  | .dT kvs=>kvs.length<=sizeLine/\(a == sysModules)=false/\∃ xs:List (List Key × Addr × Value),
      Paired (fun (p:List Key × V) (q:List Key × Addr × Value)=>p.1=q.1/\H q.2.1=some (.tup (p.1.map kV))/\RelV p.2 q.2.2) kvs xs /\
      ∃ o es ep,h.get? a=some o/\o.ExactDict/\o.data=.dict es ep/\es.toList=xs.map (entryOfKey (tupleKind (A5z P w)))/\(xs.map (·.1)).Nodup
  | .set S n=>h.SetOf (intKind P w) a S n
  | .ins C dx fs=>H dx=some (.own a)/\fs.length<=1000/\dx≠a/\h.get? a=some (PySem.W.instObj C dx) /\
      ∃ mA,h.Ns1 dx mA/\(∀ f,RelO (fs.lookup f) (mA f))/\PySem.Within mA (fs.map (·.1))
  | .own _=>∃ o,h.get? a=some o
  | .xd fs=>∃ mA,h.Ns1 a mA/\∀ f,RelO (fs.lookup f) (mA f)
  | .rng lo hi=>∃ t u v,h.get? a=some { cls:=.type "range",data:=.fields #[.int lo t,.int hi u,.int 1 v] }
  | .frz o u=>h.get? a=some o/\ObjOk H h a u
  | .tbl ps=>h.get? a=some { cls:=.none,data:=.fields ps }
  | .met f x=>h.get? a=some (PySem.W.methodObj (.ref f) (.ref x))
  | .ext φ=>φ h/\(∃ o,h.get? a=some o)/\∀ h1 h2:Heap,φ h1->(∀ o,h1.get? a=some o->h2.get? a=some o)->φ h2
def HOk (H:Hp) (h:Heap):Prop:=∀ a o,H a=some o->ObjOk P w H h a o
end
section
variable {P:Program} {w:World} {H H':Hp} {h h':Heap} {a:Addr} {o:HO}
theorem ObjOk.lt (x:ObjOk P w H h a o):a < h.objs.size:=by
  cases o with
  | lst xs=>obtain ⟨_,_,_,_,e⟩:=x; exact Heap.lt_size e
  | tup xs=>obtain ⟨_,_,_,p⟩:=x; exact p.lt
  | dK kvs=>obtain ⟨_,_,_,_,o,_,_,e,_⟩:=x; exact Heap.lt_size e
  | dT kvs=>obtain ⟨_,_,_,_,o,_,_,e,_⟩:=x; exact Heap.lt_size e
  | set S n=>obtain ⟨o,_,_,_,e,_⟩:=x; exact Heap.lt_size e
  | ins C dx fs=>obtain ⟨_,_,_,e,_⟩:=x; exact Heap.lt_size e
  | own y=>obtain ⟨_,e⟩:=x; exact Heap.lt_size e
  | xd fs=>obtain ⟨_,⟨_,_,_,e,_⟩,_⟩:=x; exact Heap.lt_size e
  | rng lo hi=>obtain ⟨_,_,_,e⟩:=x; exact Heap.lt_size e
  | frz ob u=>obtain ⟨e,_⟩:=x; exact Heap.lt_size e
  | tbl ps=>exact Heap.lt_size (show h.get? a=some _ from x)
  | met f y=>exact Heap.lt_size (show h.get? a=some _ from x)
  | ext φ=>obtain ⟨_,⟨_,e⟩,_⟩:=x; exact Heap.lt_size e
theorem Paired.mapP {α β:Type} {F G:α->β->Prop}:∀ {l₁:List α} {l₂:List β},Paired F l₁ l₂->(∀ a b,F a b->G a b)->Paired G l₁ l₂
  | _,_,.nil,_=>.nil
  | _,_,.cons r t,f=>.cons (f _ _ r) (Paired.mapP t f)
theorem ObjOk.stay (x:ObjOk P w H h a o) (k:∀ b u,(b=a\/H b=some (.own a))->h.get? b=some u->h'.get? b=some u)
    (ho:∀ b,H b=some (.own a)->H' b=some (.own a)) (ht:∀ b xs,H b=some (.tup xs)->H' b=some (.tup xs)):ObjOk P w H' h' a o:=by
  induction o with
  | lst xs=>obtain ⟨z,its,n,r,e⟩:=x; exact ⟨z,its,n,r,k _ _ (.inl rfl) e⟩
  | tup xs=>obtain ⟨z,its,r,ob,e,c⟩:=x; exact ⟨z,its,r,ob,k _ _ (.inl rfl) e,c⟩
  | dK kvs=>obtain ⟨z,y,vs,r,ob,es,ep,e,c⟩:=x; exact ⟨z,y,vs,r,ob,es,ep,k _ _ (.inl rfl) e,c⟩
  | dT kvs =>
    obtain ⟨z,y,xs,r,ob,es,ep,e,c⟩:=x;exact ⟨z,y,xs,Paired.mapP r fun p q z=>⟨z.1,ht _ _ z.2.1,z.2.2⟩,ob,es,ep,k _ _ (.inl rfl) e,c⟩
  | set S n=>obtain ⟨ob,es,ep,t,e,c⟩:=x; exact ⟨ob,es,ep,t,k _ _ (.inl rfl) e,c⟩
  | ins C dx fs =>
    obtain ⟨d,z,ne,e,mA,⟨od,es,ep,e2,c⟩,r⟩:=x;exact ⟨ho _ d,z,ne,k _ _ (.inl rfl) e,mA,⟨od,es,ep,k _ _ (.inr d) e2,c⟩,r⟩
  | own y=>obtain ⟨ob,e⟩:=x; exact ⟨ob,k _ _ (.inl rfl) e⟩
  | xd fs=>obtain ⟨mA,⟨od,es,ep,e,c⟩,r⟩:=x; exact ⟨mA,⟨od,es,ep,k _ _ (.inl rfl) e,c⟩,r⟩
  | rng lo hi=>obtain ⟨t,u,v,e⟩:=x; exact ⟨t,u,v,k _ _ (.inl rfl) e⟩
  | frz ob u ih=>obtain ⟨e,q⟩:=x; exact ⟨k _ _ (.inl rfl) e,ih q⟩
  | tbl ps =>
    have e:h.get? a=some { cls:=.none,data:=.fields ps }:=x;show h'.get? a=some { cls:=.none,data:=.fields ps };exact k a _ (.inl rfl) e
  | met f y =>
    have e:h.get? a=some (PySem.W.methodObj (.ref f) (.ref y)):=x;show h'.get? a=some (PySem.W.methodObj (.ref f) (.ref y));exact k a _ (.inl rfl) e
  | ext φ=>obtain ⟨p,⟨o,e⟩,st⟩:=x; exact ⟨st _ _ p fun o q=>k _ _ (.inl rfl) q,⟨o,k _ _ (.inl rfl) e⟩,st⟩
theorem HOk.lt (x:HOk P w H h) (e:H a=some o):a < h.objs.size:=(x a o e).lt
theorem HOk.fresh (x:HOk P w H h) (e:h.objs.size<=a):H a=none:=by
  cases q:H a with
  | none=>rfl
  | some u=>exact absurd (Nat.lt_of_lt_of_le (x.lt q) e) (Nat.lt_irrefl _)
theorem HOk.kept (x:HOk P w H h) (k:∀ b u,h.get? b=some u->h'.get? b=some u):HOk P w H h':=fun a o e =>
  (x a o e).stay (fun b u _ q=>k b u q) (fun _ q=>q) fun _ _ q=>q
theorem HOk.laid (x:HOk P w H h) (k:∀ b u,h.get? b=some u->h'.get? b=some u) (hp:h.objs.size<=a) (new:ObjOk P w (upd H a o) h' a o):HOk P w (upd H a o) h':=fun b u e=>by
  have hn:=x.fresh hp;by_cases hb:b=a
  · subst hb; rw [C6] at e; cases e; exact new
  · rw [C7 hb] at e
    exact (x b u e).stay (fun c v _ q=>k c v q) (fun c q=>by rw [C7 (D9 q hn)]; exact q) fun c xs q=>by rw [C7 (D9 q hn)]; exact q
end
def Rd (H:Hp) (a:Addr) (u:HO):Prop:=H a=some u\/∃ o,H a=some (.frz o u)
theorem Rd.ok {P:Program} {w:World} {H:Hp} {h:Heap} {a:Addr} {u:HO} (r:Rd H a u) (x:HOk P w H h):ObjOk P w H h a u:=by
  rcases r with r | ⟨o,r⟩
  · exact x a u r
  · obtain ⟨_,q⟩:=x a _ r
    exact q
def Mut:Option HO->Prop
  | some (.lst _)=>True
  | some (.dK _)=>True
  | some (.dT _)=>True
  | some (.set _ _)=>True
  | some (.ins _ _ _)=>True
  | some (.ext _)=>True
  | _=>False
section
variable {P:Program} {w:World} {H:Hp} {h h':Heap} {x e:Addr} {o':HO}
theorem HOk.write (ok:HOk P w H h) (mu:Mut (H x)) (he:e=x\/H e=some (.own x)) (k:∀ b u,b≠e->h.get? b=some u->h'.get? b=some u) (heo:∃ u,h'.get? e=some u)
    (new:ObjOk P w (upd H x o') h' x o'):HOk P w (upd H x o') h':=fun b u q=>by
  have nown:∀ c y,H c=some (.own y)->c≠x:=fun c y r z=>by subst z; rw [r] at mu; exact mu
  have ntup:∀ c xs,H c=some (.tup xs)->c≠x:=fun c xs r z=>by subst z; rw [r] at mu; exact mu
  by_cases hb:b=x
  · subst hb; rw [C6] at q; cases q; exact new
  · rw [C7 hb] at q
    by_cases hbe:b=e
    · have q':H b=some (.own x):=by
        rcases he with z | z
        · exact absurd (hbe.trans z) hb
        · rw [hbe]; exact z
      rw [q] at q'; cases q';obtain ⟨v,hv⟩:=heo;exact ⟨v,by rw [hbe]; exact hv⟩
    · refine (ok b u q).stay (fun c v hc r=>k c v ?_ r) (fun c r=>by rw [C7 (nown c b r)]; exact r) fun c xs r=>by rw [C7 (ntup c xs r)]; exact r
      rcases hc with rfl | hc
      · exact hbe
      · rintro rfl
        rcases he with z | z
        · exact nown c b hc z
        · rw [hc] at z; cases z; exact hb rfl
end
structure Un (fs ex:List Addr) (H H':Hp) (h h':Heap):Prop where
  keep:∀ b o,h.get? b=some o->H b=none->b ∉ fs->b ∉ ex->h'.get? b=some o
  slot:∀ b o,h.get? b=some o->H b=none->b ∈ fs->b ∉ ex->∃ sl,h'.get? b=some { o with slots:=sl }
  free:∀ b o,h.get? b=some o->H b=none->b ∉ ex->H' b=none
  there:∀ b o,h.get? b=some o->b ∉ ex->∃ o',h'.get? b=some o'
  tups:∀ b xs,H b=some (.tup xs)->H' b=some (.tup xs)
  frzs:∀ b o u,H b=some (.frz o u)->H' b=some (.frz o u)
  tbls:∀ b ps,H b=some (.tbl ps)->∃ more,H' b=some (.tbl (ps++more))
section
variable {fs fs' ex ex':List Addr} {H H1 H2:Hp} {h h1 h2 h':Heap} {a x e:Addr} {o:HO}
theorem Un.any (u:Un fs ex H H1 h h1) {b:Addr} {ob:Obj} (q:h.get? b=some ob) (n:H b=none) (hx:b ∉ ex):∃ sl,h1.get? b=some { ob with slots:=sl }:=by
  by_cases hb:b ∈ fs
  · exact u.slot b ob q n hb hx
  · exact ⟨ob.slots,u.keep b ob q n hb hx⟩
theorem Un.kept (k:∀ b u,h.get? b=some u->h'.get? b=some u):Un fs ex H H h h' :=
  ⟨fun b ob q _ _ _=>k b ob q,fun b ob q _ _ _=>⟨ob.slots,k b ob q⟩,fun _ _ _ n _=>n,fun b ob q _=>⟨ob,k b ob q⟩,fun _ _ q=>q,fun _ _ _ q=>q,fun _ ps q=>⟨#[],by rw [q]; simp⟩⟩
theorem Un.refl:Un fs ex H H h h:=Un.kept fun _ _ q=>q
theorem Un.laid (k:∀ b u,h.get? b=some u->h'.get? b=some u) (hp:h.objs.size<=a) (hn:H a=none):Un fs ex H (upd H a o) h h' where
  keep:=fun b u q _ _ _=>k b u q
  slot:=fun b u q _ _ _=>⟨u.slots,k b u q⟩
  free:=fun b u q n _=>by rw [C7 (Nat.ne_of_lt (Nat.lt_of_lt_of_le (Heap.lt_size q) hp))]; exact n
  there:=fun b u q _=>⟨u,k b u q⟩
  tups:=fun b xs q=>by rw [C7 (D9 q hn)]; exact q
  frzs:=fun b u xs q=>by rw [C7 (D9 q hn)]; exact q
  tbls:=fun b ps q=>⟨#[],by rw [C7 (D9 q hn),q]; simp⟩
theorem Un.write (mu:Mut (H x)) (he:e=x\/H e=some (.own x)) (k:∀ b u,b≠e->h.get? b=some u->h'.get? b=some u) (heo:∃ u,h'.get? e=some u):Un fs ex H (upd H x o) h h':=by
  have hx:∀ b,H b=none->b≠x:=fun b n z=>by subst z; rw [n] at mu; exact mu
  have hb:∀ b,H b=none->b≠e:=fun b n z=>by
    subst z;rcases he with r | r
    · exact hx b n r
    · rw [n] at r; cases r
  have hm:∀ b u,H b=some u->¬ Mut (some u)->b≠x:=fun b u q nm z=>by subst z; rw [q] at mu; exact nm mu
  refine ⟨fun b u q n _ _=>k b u (hb b n) q,fun b u q n _ _=>⟨u.slots,k b u (hb b n) q⟩,fun b u q n _=>by rw [C7 (hx b n)]; exact n,fun b u q _=>?_,
    fun b xs q=>by rw [C7 (hm b _ q fun z=>z)]; exact q,fun b u xs q=>by rw [C7 (hm b _ q fun z=>z)]; exact q,fun b ps q=>⟨#[],by rw [C7 (hm b _ q fun z=>z),q]; simp⟩⟩
  by_cases hbe:b=e
  · subst hbe; exact heo
  · exact ⟨u,k b u hbe q⟩
end
def trk (h:Heap) (H:Hp):List Addr:=(List.range h.objs.size).filter fun a=>(H a).isSome
def hidT (h:Heap) (H:Hp):Heap:=PySem.W.hideAll h (trk h H)
theorem A6f (h:Heap) (H:Hp):(hidT h H).objs.size=h.objs.size:=PySem.W.hideAll_size _ _
theorem A9i {h:Heap} {H:Hp} {b:Addr} {o:Obj} (e:h.get? b=some o) (n:H b=none):(hidT h H).get? b=some o :=
  PySem.W.hideAll_get _ e fun hm=>by
    have q:(H b).isSome=true:=(List.mem_filter.mp hm).2;rw [n] at q; simp at q
theorem B3q {h:Heap} {H:Hp} {b:Addr} {o:Obj} (e:(hidT h H).get? b=some o):h.get? b=some o/\H b=none:=by
  have e':h.get? b=some o:=PySem.W.of_hideAll (trk h H) e;refine ⟨e',?_⟩;cases q:H b with
  | none=>rfl
  | some x =>
    have hm:b ∈ trk h H:=List.mem_filter.mpr ⟨List.mem_range.mpr (Heap.lt_size e'),by simp [q]⟩;have z:(hidT h H).get? b=none:=PySem.W.hideAll_none (trk h H) hm;rw [z] at e; cases e
def B6g (g h:Heap) (L:Addr):List (Addr × Obj):=(List.range h.objs.size).filterMap fun a=>if a=L\/(g.get? a).isSome=true then none else (h.get? a).map fun o=>(a,o)
def rest (g h:Heap) (L d:Addr):List (Addr × Obj):=(B6g g h L).filter fun p=>decide (p.1≠d)
end L2
namespace L2
open PySem PySem.Spec PyProof.Rows
structure Mod (K:PySem.W.Frag) (mg:Str->Option Value) (base:Heap):Prop where
  kin:K.In base
  glob:base.Ns mainGlobals mg
  blt:∃ mb,base.Ns builtinsNs mb/\∀ x:Str,x≠"__name__"->mb x=bootBuiltins x
  nolimit:base.NoLimit
structure Cx where
  prog:Program
  w:World
  K:PySem.W.Frag
  mg:Str->Option Value
  base:Heap
  A:Around
  N:List Str
  s₀:Shared
  H₀:Hp
  env:Env
  outer:List Env
  stack:List Env
  ex:List Addr
  fn:Str->Bool
  calm:Bool
  pn:List (Addr × Obj)
  xe:Value->Shared->Prop
def frs (l:List Env):List Addr:=l.filterMap (·.frame)
abbrev Cx.fs (X:Cx):List Addr:=frs X.outer
def Vis (sc:Scope) (x:Str):Prop:=sc.names.lookup x=some .local\/sc.names.lookup x=some .cell\/sc.names.lookup x=some .free
def Loc (sc:Scope) (x:Str):Prop:=sc.names.lookup x=some .local\/sc.names.lookup x=some .cell
def Look (env:Env) (h:Heap) (m:Str->Option Value) (x:Str) (u:Value):Prop :=
  (env.kindOf x=some .local/\m x=some u)\/((env.kindOf x=some .cell\/env.kindOf x=some .free)/\∃ c,env.cells.lookup x=some c/\h.IsCell c (some u))
structure Cx.Ok (X:Cx):Prop where
  mod:Mod X.K X.mg X.base
  kind:X.env.scope.kind=.function
  glob:X.env.globals=mainGlobals
  blt:X.env.builtins=builtinsNs
  above:X.s₀.heap.objs.size<=X.env.locals
  inj:∀ x y c,X.env.cells.lookup x=some c->X.env.cells.lookup y=some c->x=y
  has:∀ x,(X.env.kindOf x=some .cell\/X.env.kindOf x=some .free)->∃ c,X.env.cells.lookup x=some c
  cab:∀ x c,X.fn x=true->X.env.cells.lookup x=some c->X.s₀.heap.objs.size<=c
  hd:X.calm=true->X.A.handled=none
  frames:X.A.frames=some X.stack
  stk:X.stack=X.outer\/(X.stack=X.env :: X.outer/\X.env.frame=some X.env.locals)
  exf:∀ b ∈ X.ex,b≠X.env.locals/\∀ x c,X.env.cells.lookup x=some c->c≠b
  bs:∀ b o,X.base.get? b=some o->X.s₀.heap.get? b=some o/\X.H₀ b=none
  bsz:X.base.objs.size<=X.s₀.heap.objs.size
  noex:∀ b o,X.base.get? b=some o->b ∉ X.ex
  exfs:∀ b ∈ X.ex,b ∉ X.fs
  funs:X.s₀.heap.FunFrames X.base X.outer
  frf:∀ b ∈ X.fs,X.H₀ b=none
structure Inv (X:Cx) (pins:List (Addr × Obj)) (σ:List (Option V)) (H:Hp) (s:Shared):Prop where
  ok:X.Ok
  os:s.os=X.s₀.os
  bare:AllBare s.gens
  base:Un X.fs X.ex X.H₀ H X.s₀.heap s.heap
  loc:∃ m,s.heap.Ns X.env.locals m/\∀ (i:Nat) (x:Str) (v:V),X.N[i]?=some x->σ[i]?=some (some v)->Vis X.env.scope x->∃ u,RelV v u/\Look X.env s.heap m x u
  cell:∀ x c,X.env.cells.lookup x=some c->∃ v,s.heap.IsCell c v
  free:H X.env.locals=none
  freeC:∀ x c,X.env.cells.lookup x=some c->H c=none
  pin:∀ p ∈ X.pn++pins,s.heap.get? p.1=some p.2/\H p.1=none/\p.1≠X.env.locals/\p.1 ∉ X.fs/\∀ v,p.2.data≠.cell v
  hok:HOk X.prog X.w H s.heap
  len:σ.length=X.N.length
section
variable {X:Cx} {pins:List (Addr × Obj)} {σ:List (Option V)} {H H':Hp} {s:Shared} {h':Heap}
theorem Cx.Ok.nofr (ok:X.Ok) {b:Addr} {o:Obj} (e:X.base.get? b=some o):b ∉ X.fs:=fun hb=>by
  have:=(ok.funs.mem hb).1;rw [e] at this; cases this
theorem Inv.bs (I:Inv X pins σ H s):∀ b o,X.base.get? b=some o->s.heap.get? b=some o/\H b=none:=fun b o e =>
  ⟨I.base.keep b o (I.ok.bs b o e).1 (I.ok.bs b o e).2 (I.ok.nofr e) (I.ok.noex b o e),I.base.free b o (I.ok.bs b o e).1 (I.ok.bs b o e).2 (I.ok.noex b o e)⟩
theorem Inv.bk (I:Inv X pins σ H s):∀ b o,X.base.get? b=some o->s.heap.get? b=some o:=fun b o e=>(I.bs b o e).1
theorem Inv.mod (I:Inv X pins σ H s):Mod X.K X.mg X.base:=I.ok.mod
theorem Inv.kIn (I:Inv X pins σ H s):X.K.In s.heap:=I.ok.mod.kin.keeps I.bk
theorem Inv.lt (I:Inv X pins σ H s):X.env.locals < s.heap.objs.size:=let ⟨_,hn,_⟩:=I.loc; hn.lt
theorem Inv.sz (I:Inv X pins σ H s):X.s₀.heap.objs.size<=s.heap.objs.size:=Zx I.ok.above (Nat.le_of_lt I.lt)
theorem Inv.nofs (I:Inv X pins σ H s) {a:Addr} (h:s.heap.objs.size<=a):a ∉ X.fs:=fun hb=>by
  obtain ⟨_,o,ho,_⟩:=I.ok.funs.mem hb;exact absurd (Nat.lt_of_lt_of_le (Heap.lt_size ho) (Zx I.sz h)) (Nat.lt_irrefl _)
theorem Inv.cne (I:Inv X pins σ H s):∀ x c,X.env.cells.lookup x=some c->c≠X.env.locals:=fun x c e z=>by
  obtain ⟨v,o,ho,hd⟩:=I.cell x c e;obtain ⟨m,⟨o',es,ep,ho',hd',_⟩,_⟩:=I.loc;rw [z,ho'] at ho; cases ho; rw [hd'] at hd; cases hd
theorem Inv.funs (I:Inv X pins σ H s):s.heap.FunFrames X.base X.outer:=by
  have all:∀ (l:List Env),(∀ b ∈ frs l,b ∈ X.fs)->X.s₀.heap.FunFrames X.base l->s.heap.FunFrames X.base l:=by
    intro l;induction l with
    | nil=>intro _ _; trivial
    | cons env r ih =>
      intro hs hl;obtain ⟨hk,⟨L,o,hf,hn,ho,hd⟩,hr⟩:=hl;have hL:L ∈ X.fs:=hs L (by unfold frs; rw [List.filterMap_cons,hf]; exact Zy);obtain ⟨sl,e⟩:=I.base.slot L o ho (I.ok.frf L hL) hL fun z=>I.ok.exfs L z hL;exact ⟨hk,⟨L,_,hf,hn,e,hd⟩,ih (fun b hb=>hs b (by unfold frs; rw [List.filterMap_cons,hf]; exact Zr _ hb)) hr⟩
  exact all X.outer (fun _ hb=>hb) I.ok.funs
theorem Inv.stack (I:Inv X pins σ H s):s.heap.FunFrames X.base X.stack:=by
  rcases I.ok.stk with e | ⟨e,hf⟩
  · rw [e]; exact I.funs
  · rw [e]
    obtain ⟨m,hn,_⟩:=I.loc;refine .cons (by rw [I.ok.kind]; decide) hf hn ?_ I.funs;exact Heap.get?_none_of_le (Zx I.ok.bsz I.ok.above)
theorem Inv.stkSub (I:Inv X pins σ H s):∀ b ∈ frs X.stack,b ∈ X.env.locals :: X.fs:=fun b hb=>by
  rcases I.ok.stk with e | ⟨e,hf⟩
  · rw [e] at hb; exact Zr _ hb
  · rw [e] at hb
    unfold frs at hb;rw [List.filterMap_cons,hf] at hb;exact hb
theorem Inv.stkFree (I:Inv X pins σ H s):∀ b ∈ frs X.stack,H b=none:=fun b hb=>by
  rcases List.mem_cons.mp (I.stkSub b hb) with e | hb
  · rw [e]; exact I.free
  · obtain ⟨_,o,ho,_⟩:=I.ok.funs.mem hb
    exact I.base.free b o ho (I.ok.frf b hb) fun z=>I.ok.exfs b z hb
theorem Inv.step {g':Array GenState} {t':Nat} {d':Drawn} {ch:List Addr} (I:Inv X pins σ H s)
    (hch:∀ b ∈ ch,(b ∈ X.ex\/X.s₀.heap.objs.size<=b)/\b≠X.env.locals/\(∀ x c,X.env.cells.lookup x=some c->c≠b)/\∀ p ∈ X.pn++pins,p.1≠b)
    (keep:∀ b o,b≠X.env.locals->b ∉ X.fs->b ∉ ch->s.heap.get? b=some o->H b=none->h'.get? b=some o)
    (slot:∀ b o,b≠X.env.locals->b ∈ X.fs->b ∉ ch->s.heap.get? b=some o->H b=none->∃ sl,h'.get? b=some { o with slots:=sl }) (free:∀ b o,b ∉ ch->s.heap.get? b=some o->H b=none->H' b=none)
    (there:∀ b o,b ∉ ch->s.heap.get? b=some o->∃ o',h'.get? b=some o')
    (tups:∀ b xs,H b=some (.tup xs)->H' b=some (.tup xs)) (frzs:∀ b o u,H b=some (.frz o u)->H' b=some (.frz o u)) (tbls:∀ b ps,H b=some (.tbl ps)->∃ more,H' b=some (.tbl (ps++more)))
    (ns:∀ m,s.heap.Ns X.env.locals m->h'.Ns X.env.locals m) (hok:HOk X.prog X.w H' h') (hg:AllBare g') :
    Inv X pins σ H' { s with heap:=h',gens:=g',drawn:=d',toks:=t' }:=by
  have neL:∀ b o,X.s₀.heap.get? b=some o->b≠X.env.locals:=fun b o e=>Nat.ne_of_lt (Nat.lt_of_lt_of_le (Heap.lt_size e) I.ok.above);have neC:∀ b o,X.s₀.heap.get? b=some o->b ∉ X.ex->b ∉ ch:=fun b o e hx hb=>by
    rcases (hch b hb).1 with z | z
    · exact hx z
    · exact absurd (Nat.lt_of_lt_of_le (Heap.lt_size e) z) (Nat.lt_irrefl _)
  have cellK:∀ x c,X.env.cells.lookup x=some c->∀ v,s.heap.IsCell c v->h'.IsCell c v:=fun x c e v ⟨o,ho,hd⟩=>by
    have nch:c ∉ ch:=fun z=>(hch c z).2.2.1 x c e rfl;by_cases hc:c ∈ X.fs
    · obtain ⟨sl,q⟩:=slot c o (I.cne x c e) hc nch ho (I.freeC x c e)
      exact ⟨_,q,hd⟩
    · exact ⟨o,keep c o (I.cne x c e) hc nch ho (I.freeC x c e),hd⟩
  refine ⟨I.ok,I.os,hg,⟨fun b o e n hb hx=>?_,fun b o e n hb hx=>?_,fun b o e n hx=>?_,fun b o e hx=>?_,fun b xs e=>tups b xs (I.base.tups b xs e),fun b o xs e=>frzs b o xs (I.base.frzs b o xs e),fun b ps e=>?_⟩,?_,fun x c e=>?_,?_,fun x c e=>?_,fun p hp=>?_,hok,I.len⟩
  · exact keep b o (neL b o e) hb (neC b o e hx) (I.base.keep b o e n hb hx) (I.base.free b o e n hx)
  · obtain ⟨sl,e1⟩:=I.base.slot b o e n hb hx
    obtain ⟨sl',e2⟩:=slot b _ (neL b o e) hb (neC b o e hx) e1 (I.base.free b o e n hx);exact ⟨sl',e2⟩
  · obtain ⟨o',e1⟩:=I.base.there b o e hx
    exact free b o' (neC b o e hx) e1 (I.base.free b o e n hx)
  · obtain ⟨o',e1⟩:=I.base.there b o e hx
    exact there b o' (neC b o e hx) e1
  · obtain ⟨m1,e1⟩:=I.base.tbls b ps e
    obtain ⟨m2,e2⟩:=tbls b _ e1;exact ⟨m1++m2,by rw [e2,Array.append_assoc]⟩
  · obtain ⟨m,hn,hl⟩:=I.loc
    refine ⟨m,ns m hn,fun i x v e1 e2 e3=>?_⟩;obtain ⟨u,r,l⟩:=hl i x v e1 e2 e3;refine ⟨u,r,?_⟩;rcases l with l | ⟨k,c,e,z⟩
    · exact .inl l
    · exact .inr ⟨k,c,e,cellK x c e _ z⟩
  · obtain ⟨v,z⟩:=I.cell x c e
    exact ⟨v,cellK x c e v z⟩
  · obtain ⟨m,⟨o,_,_,ho,_⟩,_⟩:=I.loc
    exact free _ o (fun z=>(hch _ z).2.1 rfl) ho I.free
  · obtain ⟨v,o,ho,hd⟩:=I.cell x c e
    exact free c o (fun z=>(hch c z).2.2.1 x c e rfl) ho (I.freeC x c e)
  · obtain ⟨e,n,ne,nf,d⟩:=I.pin p hp
    have nch:p.1 ∉ ch:=fun z=>(hch p.1 z).2.2.2 p hp rfl;exact ⟨keep p.1 p.2 ne nf nch e n,free p.1 p.2 nch e n,ne,nf,d⟩
theorem Inv.un {t':Nat} (I:Inv X pins σ H s) (u:Un X.fs [] H H' s.heap h') (hok:HOk X.prog X.w H' h'):Inv X pins σ H' { s with heap:=h',toks:=t' }:=by
  obtain ⟨m,⟨o,es,ep,ho,r⟩,_⟩:=id I.loc;obtain ⟨sl,hL⟩:=u.any ho I.free (by simp);exact I.step (g':=s.gens) (d':=s.drawn) (ch:=[]) (fun _ z=>nomatch z) (fun b o _ hb _ e n=>u.keep b o e n hb (by simp)) (fun b o _ hb _ e n=>u.slot b o e n hb (by simp)) (fun b o _ e n=>u.free b o e n (by simp)) (fun b o _ e=>u.there b o e (by simp)) u.tups u.frzs u.tbls (fun m' hm=>by
    obtain ⟨o',es',ep',ho',r'⟩:=hm;rw [ho] at ho'; cases ho';exact ⟨_,es',ep',hL,r'⟩) hok I.bare
theorem Inv.call {g':Array GenState} {t':Nat} {d':Drawn} {ch:List Addr} (I:Inv X pins σ H s) (u:Un (frs X.stack) ch H H' s.heap h') (hok:HOk X.prog X.w H' h') (hg:AllBare g')
    (hch:∀ b ∈ ch,(b ∈ X.ex\/X.s₀.heap.objs.size<=b)/\b≠X.env.locals/\(∀ x c,X.env.cells.lookup x=some c->c≠b)/\∀ p ∈ X.pn++pins,p.1≠b) :
    Inv X pins σ H' { s with heap:=h',gens:=g',drawn:=d',toks:=t' }:=by
  obtain ⟨m,⟨o,es,ep,ho,r⟩,_⟩:=id I.loc;obtain ⟨sl,hL⟩:=u.any ho I.free fun z=>(hch _ z).2.1 rfl;exact I.step (ch:=ch) hch (fun b o hL hb hc e n=>u.keep b o e n (fun z=>(List.mem_cons.mp (I.stkSub b z)).elim hL hb) hc) (fun b o _ _ hc e n=>u.any e n hc) (fun b o hc e n=>u.free b o e n hc) (fun b o hc e=>u.there b o e hc) u.tups u.frzs u.tbls (fun m' hm=>by
    obtain ⟨o',es',ep',ho',r'⟩:=hm;rw [ho] at ho'; cases ho';exact ⟨_,es',ep',hL,r'⟩) hok hg
theorem Inv.turned {t':Nat} {it:Addr} (I:Inv X pins σ H s) (k:∀ b o,b≠it->s.heap.get? b=some o->h'.get? b=some o) (hn:H it=none) (hL:it≠X.env.locals)
    (h1:it ∈ X.ex\/X.s₀.heap.objs.size<=it) (h2:∀ x c,X.env.cells.lookup x=some c->c≠it) (h3:∀ p ∈ X.pn++pins,p.1≠it):Inv X pins σ H { s with heap:=h',toks:=t' }:=by
  have nit:∀ b u,H b=some u->b≠it:=fun b u e z=>by rw [z,hn] at e; cases e
  refine I.step (g':=s.gens) (d':=s.drawn) (ch:=[it]) (fun b hb=>?_) (fun b o _ _ hc e _=>k b o (fun z=>hc (by simp [z])) e) (fun b o _ _ hc e _=>⟨o.slots,k b o (fun z=>hc (by simp [z])) e⟩) (fun _ _ _ _ n=>n)
    (fun b o hc e=>⟨o,k b o (fun z=>hc (by simp [z])) e⟩) (fun _ _ e=>e) (fun _ _ _ e=>e) (fun b ps e=>⟨#[],by rw [e]; simp⟩) (fun m hm=>?_) (fun b u e=>?_) I.bare
  · have e:b=it:=by simpa using hb
    subst e;exact ⟨h1,hL,h2,h3⟩
  · obtain ⟨o,es,ep,ho,r⟩:=hm
    exact ⟨o,es,ep,k _ o (Ne.symm hL) ho,r⟩
  · refine (I.hok b u e).stay (fun c v hc q=>k c v ?_ q) (fun _ q=>q) fun _ _ q=>q
    rcases hc with z | z
    · rw [z]; exact nit b u e
    · exact nit c _ z
theorem Inv.tok (I:Inv X pins σ H s) (t:Nat):Inv X pins σ H { s with toks:=t }:=I.un (h':=s.heap) (t':=t) Un.refl I.hok
theorem Inv.kept {t':Nat} (I:Inv X pins σ H s) (k:∀ b u,s.heap.get? b=some u->h'.get? b=some u):Inv X pins σ H { s with heap:=h',toks:=t' }:=I.un (Un.kept k) (I.hok.kept k)
theorem Inv.laid {a:Addr} {o:HO} {t':Nat} (I:Inv X pins σ H s) (k:∀ b u,s.heap.get? b=some u->h'.get? b=some u) (hp:s.heap.objs.size<=a) (new:ObjOk X.prog X.w (upd H a o) h' a o) :
    Inv X pins σ (upd H a o) { s with heap:=h',toks:=t' }:=I.un (Un.laid k hp (I.hok.fresh hp)) (I.hok.laid k hp new)
theorem Inv.write {x e:Addr} {o:HO} {t':Nat} (I:Inv X pins σ H s) (mu:Mut (H x)) (he:e=x\/H e=some (.own x)) (k:∀ b u,b≠e->s.heap.get? b=some u->h'.get? b=some u) (heo:∃ u,h'.get? e=some u)
    (new:ObjOk X.prog X.w (upd H x o) h' x o):Inv X pins σ (upd H x o) { s with heap:=h',toks:=t' }:=I.un (Un.write mu he k heo) (I.hok.write mu he k heo new)
theorem Inv.pins_of {pins':List (Addr × Obj)} (I:Inv X pins σ H s) (h:∀ p ∈ pins',s.heap.get? p.1=some p.2/\H p.1=none/\p.1≠X.env.locals/\p.1 ∉ X.fs/\∀ v,p.2.data≠.cell v):Inv X pins' σ H s :=
  ⟨I.ok,I.os,I.bare,I.base,I.loc,I.cell,I.free,I.freeC,fun p hp=>(Za hp).elim (fun z=>I.pin p (Zt _ z)) (h p),I.hok,I.len⟩
theorem A2r {N:List Str} (hN:N.Nodup) {i j:Nat} {x:Str} (a:N[i]?=some x) (b:N[j]?=some x):i=j:=by
  obtain ⟨h1,e1⟩:=Zs a;obtain ⟨h2,e2⟩:=Zs b;exact (List.getElem_inj hN).mp (e1.trans e2.symm)
theorem Y6 {M:Model} {A:Around} {E:Value->Shared->Prop} {i:Nat} {x:Str} {v:V} {u:Value} {Q:Unit->Shared->Prop} (I:Inv X pins σ H s) (hN:X.N.Nodup) (hi:X.N[i]?=some x) (hx:Loc X.env.scope x) (r:RelV v u)
    (h:∀ s',Inv X pins (σ.set i (some v)) H s'->(∃ a,Heap.SameBut a s.heap s'.heap/\(a=X.env.locals\/X.env.cells.lookup x=some a))->Q () s') (hf:X.fn x=true\/X.env.scope.names.lookup x=some .local:=by first | exact .inl rfl | exact .inr rfl | assumption):wpAny M A (storeName X.env x u) Q E s:=by
  obtain ⟨m,hn,hl⟩:=id I.loc;have hcls:(X.env.scope.kind == .class || (X.env.scope.kind == .module && X.env.locals != X.env.globals))=false:=by rw [I.ok.kind]; rfl
  have hiσ:i < σ.length:=by rw [I.len]; exact (Zs hi).1
  have cne:=I.cne;have tracked:∀ {a:Addr} {h':Heap},(∃ o,s.heap.get? a=some o/\H a=none)->Heap.SameBut a s.heap h'->HOk X.prog X.w H h':=fun {a h'} ha hs b ob e=>by
    obtain ⟨_,_,hfree⟩:=ha;refine (I.hok b ob e).stay (fun c w' hc q=>(hs.2 c ?_).trans q) (fun _ q=>q) fun _ _ q=>q;rintro rfl;rcases hc with rfl | hc
    · rw [hfree] at e; cases e
    · rw [hfree] at hc; cases hc
  rcases hx with hk | hk
  · refine wpAny_storeName_local hk hn (fun h' hn' hs=>?_) hcls
    obtain ⟨oL,_,_,hoL,_⟩:=id hn;refine h _ ⟨I.ok,I.os,I.bare,⟨fun b o e n hb hx=>?_,fun b o e n hb hx=>?_,I.base.free,fun b o e hx=>?_,I.base.tups,I.base.frzs,I.base.tbls⟩,⟨_,hn',fun j y v' e1 e2 e3=>?_⟩,fun y c e=>?_,I.free,I.freeC,fun p hp=>?_,tracked ⟨oL,hoL,I.free⟩ hs,by simpa using I.len⟩ ⟨_,hs,.inl rfl⟩
    · exact (hs.2 b (Nat.ne_of_lt (Nat.lt_of_lt_of_le (Heap.lt_size e) I.ok.above))).trans (I.base.keep b o e n hb hx)
    · obtain ⟨sl,e1⟩:=I.base.slot b o e n hb hx
      exact ⟨sl,(hs.2 b (Nat.ne_of_lt (Nat.lt_of_lt_of_le (Heap.lt_size e) I.ok.above))).trans e1⟩
    · obtain ⟨o',e1⟩:=I.base.there b o e hx
      exact ⟨o',(hs.2 b (Nat.ne_of_lt (Nat.lt_of_lt_of_le (Heap.lt_size e) I.ok.above))).trans e1⟩
    · by_cases hj:j=i
      · subst hj
        rw [hi] at e1; cases e1;rw [List.getElem?_set_self hiσ] at e2;cases e2;exact ⟨u,r,.inl ⟨hk,by simp⟩⟩
      · rw [List.getElem?_set_ne (Ne.symm hj)] at e2
        obtain ⟨u',r',q⟩:=hl j y v' e1 e2 e3;refine ⟨u',r',?_⟩;rcases q with ⟨k,e⟩ | ⟨k,c,e,z⟩
        · refine .inl ⟨k,?_⟩
          have:y≠x:=fun e=>hj (A2r hN e1 (e ▸ hi));simp [this,e]
        · exact .inr ⟨k,c,e,z.sameBut hs (cne y c e)⟩
    · obtain ⟨w',z⟩:=I.cell y c e
      exact ⟨w',z.sameBut hs (cne y c e)⟩
    · obtain ⟨e,n,ne,nf,d⟩:=I.pin p hp
      exact ⟨(hs.2 p.1 ne).trans e,n,ne,nf,d⟩
  · have hfn:X.fn x=true:=by
      rcases hf with z | z
      · exact z
      · rw [z] at hk; cases hk
    obtain ⟨c,hc⟩:=I.ok.has x (.inl hk);obtain ⟨w',z⟩:=I.cell x c hc;refine wpAny_storeName_cell I.ok.kind hk hc z (fun h' hc' hs=>?_);obtain ⟨oc,hoc,hocd⟩:=id z;refine h { s with heap:=h' } ⟨I.ok,I.os,I.bare,⟨fun b o e n hb hx=>?_,fun b o e n hb hx=>?_,I.base.free,fun b o e hx=>?_,I.base.tups,I.base.frzs,I.base.tbls⟩,⟨m,hn.sameBut hs (Ne.symm (cne x c hc)),fun j y v' e1 e2 e3=>?_⟩,fun y c' e=>?_,I.free,I.freeC,fun p hp=>?_,tracked ⟨oc,hoc,I.freeC x c hc⟩ hs,by simpa using I.len⟩ ⟨c,hs,.inr hc⟩
    · exact (hs.2 b (Nat.ne_of_lt (Nat.lt_of_lt_of_le (Heap.lt_size e) (I.ok.cab x c hfn hc)))).trans (I.base.keep b o e n hb hx)
    · obtain ⟨sl,e1⟩:=I.base.slot b o e n hb hx
      exact ⟨sl,(hs.2 b (Nat.ne_of_lt (Nat.lt_of_lt_of_le (Heap.lt_size e) (I.ok.cab x c hfn hc)))).trans e1⟩
    · obtain ⟨o',e1⟩:=I.base.there b o e hx
      exact ⟨o',(hs.2 b (Nat.ne_of_lt (Nat.lt_of_lt_of_le (Heap.lt_size e) (I.ok.cab x c hfn hc)))).trans e1⟩
    · by_cases hj:j=i
      · subst hj
        rw [hi] at e1; cases e1;rw [List.getElem?_set_self hiσ] at e2;cases e2;exact ⟨u,r,.inr ⟨.inl hk,c,hc,hc'⟩⟩
      · rw [List.getElem?_set_ne (Ne.symm hj)] at e2
        obtain ⟨u',r',q⟩:=hl j y v' e1 e2 e3;refine ⟨u',r',?_⟩;rcases q with q | ⟨k,c',e,z'⟩
        · exact .inl q
        · refine .inr ⟨k,c',e,z'.sameBut hs ?_⟩
          rintro rfl;exact hj (A2r hN e1 (I.ok.inj _ _ _ e hc ▸ hi))
    · by_cases hcc:c'=c
      · subst hcc; exact ⟨_,hc'⟩
      · obtain ⟨w2,z2⟩:=I.cell y c' e
        exact ⟨w2,z2.sameBut hs hcc⟩
    · obtain ⟨e,n,ne,nf,d⟩:=I.pin p hp
      refine ⟨(hs.2 p.1 ?_).trans e,n,ne,nf,d⟩;intro q;rw [q,hoc] at e;have q':oc=p.2:=Zj e;exact d w' (by rw [<- q']; exact hocd)
theorem R8 {M:Model} {A:Around} {E:Value->Shared->Prop} {i:Nat} {x:Str} {v:V} {u:Value} {Q:Unit->Shared->Prop} (I:Inv X pins σ H s) (hN:X.N.Nodup) (hi:X.N[i]?=some x) (hx:Loc X.env.scope x) (r:RelV v u)
    (h:∀ s',Inv X pins (σ.set i (some v)) H s'->Q () s') (hf:X.fn x=true\/X.env.scope.names.lookup x=some .local:=by first | exact .inl rfl | exact .inr rfl | assumption):wpAny M A (storeName X.env x u) Q E s :=
  Y6 I hN hi hx r (fun s' I' _=>h s' I') hf
theorem Inv.call' {s':Shared} {ch:List Addr} (I:Inv X pins σ H s) (ho:s'.os=s.os) (u:Un (frs X.stack) ch H H' s.heap s'.heap) (hok:HOk X.prog X.w H' s'.heap) (hg:AllBare s'.gens)
    (hch:∀ b ∈ ch,(b ∈ X.ex\/X.s₀.heap.objs.size<=b)/\b≠X.env.locals/\(∀ x c,X.env.cells.lookup x=some c->c≠b)/\∀ p ∈ X.pn++pins,p.1≠b):Inv X pins σ H' s':=by
  obtain ⟨h',g',d',t',o'⟩:=s';have e:o'=s.os:=ho;subst e;exact I.call (g':=g') (t':=t') (d':=d') u hok hg hch
end
abbrev XK:=Value->Option Addr->Hp->Prop
abbrev St:=List (Option V)
abbrev VK:=V->Hp->Prop
abbrev TE:=St->Hp->VK->Prop
abbrev TT:=St->Hp->(Bool->Hp->Prop)->Prop
abbrev TA:=St->Hp->(List V->Hp->Prop)->Prop
structure Ends where
  nx:St->Hp->Prop
  rt:VK
  bk:St->Hp->Prop:=fun _ _=>False
  ct:St->Hp->Prop:=fun _ _=>False
abbrev TS:=Ends->St->Hp->Prop
def EP (X:Cx) (pins:List (Addr × Obj)) (σ:St) (Q:VK) (u:Value) (s':Shared):Prop:=∃ v H',Inv X pins σ H' s'/\RelV v u/\Q v H'
def TP (X:Cx) (pins:List (Addr × Obj)) (σ:St) (Q:Bool->Hp->Prop) (b:Bool) (s':Shared):Prop:=∃ H',Inv X pins σ H' s'/\Q b H'
def AP (X:Cx) (pins:List (Addr × Obj)) (σ:St) (Q:List V->Hp->Prop) (us:List Value) (s':Shared):Prop:=∃ vs H',Inv X pins σ H' s'/\Vals vs us/\Q vs H'
def SP (X:Cx) (pins:List (Addr × Obj)) (D:Ends) (f:Flow) (s':Shared):Prop :=
  match f with
  | .next=>∃ σ' H',Inv X pins σ' H' s'/\D.nx σ' H'
  | .brk=>∃ σ' H',Inv X pins σ' H' s'/\D.bk σ' H'
  | .cont=>∃ σ' H',Inv X pins σ' H' s'/\D.ct σ' H'
  | .ret u=>∃ v σ' H',Inv X pins σ' H' s'/\RelV v u/\D.rt v H'
def PE (X:Cx) (e:Expr) (t:TE):Prop :=
  ∀ (pins:List (Addr × Obj)) (s:Shared) (σ:St) (H:Hp) (Q:VK),Inv X pins σ H s->t σ H Q->wpAny (model X.prog X.w) X.A (eval e X.env) (EP X pins σ Q) X.xe s
def PT (X:Cx) (e:Expr) (t:TT):Prop :=
  ∀ (pins:List (Addr × Obj)) (s:Shared) (σ:St) (H:Hp) (Q:Bool->Hp->Prop),Inv X pins σ H s->t σ H Q->wpAny (model X.prog X.w) X.A (isTrue e X.env (eval e X.env)) (TP X pins σ Q) X.xe s
def PW (X:Cx) (e:Expr) (t:TT):Prop :=
  ∀ (whole:Sem Value) (pins:List (Addr × Obj)) (s:Shared) (σ:St) (H:Hp) (Q:Bool->Hp->Prop),Inv X pins σ H s->t σ H Q->wpAny (model X.prog X.w) X.A (isTrue e X.env whole) (TP X pins σ Q) X.xe s
theorem PW.pt {X:Cx} {e:Expr} {t:TT} (h:PW X e t):PT X e t:=h _
def PA (X:Cx) (es:List Expr) (t:TA):Prop :=
  ∀ (pos:Pos) (pins:List (Addr × Obj)) (s:Shared) (σ:St) (H:Hp) (Q:List V->Hp->Prop),Inv X pins σ H s->t σ H Q->wpAny (model X.prog X.w) X.A (spliced (backTo pos (starEach es X.env))) (AP X pins σ Q) X.xe s
def PS (X:Cx) (st:Stmt) (t:TS):Prop :=
  ∀ (pins:List (Addr × Obj)) (s:Shared) (σ:St) (H:Hp) (D:Ends),Inv X pins σ H s->t D σ H->wpAny (model X.prog X.w) X.A (exec st X.env) (SP X pins D) X.xe s
def PSs (X:Cx) (st:List Stmt) (t:TS):Prop :=
  ∀ (pins:List (Addr × Obj)) (s:Shared) (σ:St) (H:Hp) (D:Ends),Inv X pins σ H s->t D σ H->wpAny (model X.prog X.w) X.A (execs st X.env) (SP X pins D) X.xe s
theorem thn {α:Type} {t:Sem α} {Q Q':α->Shared->Prop} {M:Model} {A:Around} {E:Value->Shared->Prop} {s:Shared} (h:wpAny M A t Q E s) (hQ:∀ a s,Q a s->Q' a s):wpAny M A t Q' E s:=wpAny_mono h hQ fun _ _ x=>x
end L2
namespace L2
open PySem PySem.Spec PyProof.Rows
section
variable {X:Cx}
theorem bin {a b:Expr} {ta tb:TE} (ha:PE X a ta) (hb:PE X b tb) {pins:List (Addr × Obj)} {s:Shared} {σ:St} {H:Hp} {R:V->V->Hp->Prop} (I:Inv X pins σ H s) (h:ta σ H fun x H1=>tb σ H1 fun y H2=>R x y H2)
    {α:Type} {Q:α->Shared->Prop} {f:Value->Value->Sem α}
    (hf:∀ v u s2 x y H2,Inv X pins σ H2 s2->RelV x v->RelV y u->R x y H2->wpAny (model X.prog X.w) X.A (f v u) Q X.xe s2) :
    wpAny (model X.prog X.w) X.A (eval a X.env) (fun v s₁=>wpAny (model X.prog X.w) X.A (eval b X.env) (fun u s₂=>wpAny (model X.prog X.w) X.A (f v u) Q X.xe s₂) X.xe s₁) X.xe s:=by
  refine thn (ha pins s σ H _ I h) fun v s1 ⟨x,H1,I1,r1,q1⟩=>?_;refine thn (hb pins s1 σ H1 _ I1 q1) fun u s2 ⟨y,H2,I2,r2,q2⟩=>?_;exact hf v u s2 x y H2 I2 r1 r2 q2
def tVar (i:Nat):TE:=fun σ H Q=>∃ v,σ[i]?=some (some v)/\Q v H
def tC (v:V):TE:=fun _ H Q=>Q v H
theorem B7k {i:Nat} {x:Str} {pos:Pos} (hN:X.N[i]?=some x) (hv:Vis X.env.scope x) (hd:(x == ("__debug__":Str))=false:=by decide) (hcd:(x == ("__classdict__":Str))=false:=by decide):PE X (.Name x pos) (tVar i):=by
  intro pins s σ H Q I h;obtain ⟨v,e,h⟩:=h;obtain ⟨m,hn,hl⟩:=I.loc;obtain ⟨u,r,l⟩:=hl i x v hN e hv;have fin:EP X pins σ Q u s:=⟨v,H,I,r,h⟩;rcases l with ⟨hk,hm⟩ | ⟨hk,c,hc,hcell⟩
  · exact wpAny_Name (wpAny_loadName_local I.ok.kind hk hn hm fin) hd
  · rcases hk with hk | hk
    · exact wpAny_Name (wpAny_loadName_cell I.ok.kind hk hc hcell fin) hd
    · exact wpAny_Name (wpAny_loadName_free I.ok.kind hk hc hcell fin hcd) hd
theorem E7 {i j pos}:PE X (.Constant (.int i) j pos) (tC (.int i)):=fun _ _ _ H _ I h=>wpAny_Constant_int ⟨.int i,H,I.tok _,⟨_,rfl⟩,h⟩
theorem C15 {b j pos}:PE X (.Constant (.bool b) j pos) (tC (.bl b)):=fun _ _ _ H _ I h=>Constant_bool ⟨.bl b,H,I,rfl,h⟩
theorem B7p {j pos}:PE X (.Constant .none j pos) (tC .non):=fun _ _ _ H _ I h=>Constant_none ⟨.non,H,I,rfl,h⟩
theorem B7m {x j pos}:PE X (.Constant (.str x) j pos) (tC (.str x)):=fun _ _ _ H _ I h=>Calls.Constant_str ⟨.str x,H,I.tok _,⟨_,rfl⟩,h⟩
def Gl (X:Cx) (x:Str):Prop:=X.env.kindOf x=some .globalImplicit
theorem A52 {E:Value->Shared->Prop} {pins:List (Addr × Obj)} {s:Shared} {σ:St} {H:Hp} {x:Str} {u:Value} {pos:Pos} {Q:Value->Shared->Prop} (I:Inv X pins σ H s) (hg:Gl X x) (hm:X.mg x=some u) (h:Q u s)
    (hd:(x == ("__debug__":Str))=false:=by decide):wpAny (model X.prog X.w) X.A (eval (.Name x pos) X.env) Q E s :=
  Calls.Name_function_global I.ok.kind hg (Calls.loadGlobal_global (by rw [I.ok.glob]; exact I.mod.glob.keeps I.bk) hm h) hd
theorem Q6 {E:Value->Shared->Prop} {pins:List (Addr × Obj)} {s:Shared} {σ:St} {H:Hp} {x:Str} {u:Value} {pos:Pos} {Q:Value->Shared->Prop} (I:Inv X pins σ H s) (hg:Gl X x) (hm:X.mg x=none) (hv:bootBuiltins x=some u) (h:Q u s)
    (hn:x≠"__name__":=by decide) (hd:(x == ("__debug__":Str))=false:=by decide):wpAny (model X.prog X.w) X.A (eval (.Name x pos) X.env) Q E s:=by
  obtain ⟨mb,h1,h2⟩:=I.mod.blt;exact Calls.Name_function_global I.ok.kind hg (Calls.loadGlobal_builtin (by rw [I.ok.glob]; exact I.mod.glob.keeps I.bk) hm (by rw [I.ok.blt]; exact h1.keeps I.bk) ((h2 x hn).trans hv) h) hd
theorem B2c {x:Str} {v:V} {u:Value} {pos:Pos} (hg:Gl X x) (hm:X.mg x=some u) (r:RelV v u) (hd:(x == ("__debug__":Str))=false:=by decide):PE X (.Name x pos) (tC v) :=
  fun _ _ _ H _ I h=>A52 I hg hm ⟨v,H,I,r,h⟩ hd
theorem B2f {x:Str} {v:V} {u:Value} {pos:Pos} (hg:Gl X x) (hm:X.mg x=none) (hv:bootBuiltins x=some u) (r:RelV v u) (hn:x≠"__name__":=by decide) (hd:(x == ("__debug__":Str))=false:=by decide):PE X (.Name x pos) (tC v) :=
  fun _ _ _ H _ I h=>Q6 I hg hm hv ⟨v,H,I,r,h⟩ hn hd
variable {a b:Expr} {ta tb:TE} {pos:Pos}
def PC (X:Cx) (op:CmpOp) (a b:Expr) (t:TE):Prop :=
  ∀ (pins:List (Addr × Obj)) (s:Shared) (σ:St) (H:Hp) (Q:VK),Inv X pins σ H s->t σ H Q ->
    wpAny (model X.prog X.w) X.A (eval a X.env) (fun v s₁=>wpAny (model X.prog X.w) X.A (eval b X.env) (fun u s₂=>wpAny (model X.prog X.w) X.A (compareOp op v u) (EP X pins σ Q) X.xe s₂) X.xe s₁) X.xe s
theorem A8s (b:Expr) {op:CmpOp} (h:op≠.In) (h2:op≠.NotIn):behindInMarks op b=false:=by
  have e1:(op == CmpOp.In)=false:=by cases op <;> first | rfl | exact absurd rfl h
  have e2:(op == CmpOp.NotIn)=false:=by cases op <;> first | rfl | exact absurd rfl h2
  cases b <;> simp [behindInMarks,e1,e2]
def tB (t:TE):TT:=fun σ H Q=>t σ H fun x H1=>∃ c,x=.bl c/\Q c H1
theorem C3x {op:CmpOp} {t:TE} (h:PC X op a b t) (h1:behindInMarks op b=false:=by first | exact A8s _ (by decide) (by decide) | rfl):PT X (.Compare a [op] [b] pos) (tB t):=by
  intro pins s σ H Q I hw;refine wpAny_isTrue_Compare1 (thn (h pins s σ H _ I hw) fun v s1 h1=>thn h1 fun u s2 h2=>thn h2 fun c s3 ⟨x,H1,I1,r1,q1⟩=>?_) h1;obtain ⟨d,rfl,q⟩:=q1;cases r1;exact wpAny_truthy_bool ⟨H1,I1,q⟩
theorem A99 {e:Expr} {t:TE} (h:PE X e t) (he:∀ whole,isTrue e X.env whole=(do let v <- whole; standAt e.pos; holding [v] (truthy v)):=by intro _; rfl):PT X e (tB t):=by
  intro pins s σ H Q I hw;refine isTrue_plain (thn (h pins s σ H _ I hw) fun v s1 ⟨x,H1,I1,r1,q1⟩=>?_) (he _);obtain ⟨d,rfl,q⟩:=q1;cases r1;exact wpAny_truthy_bool ⟨H1,I1,q⟩
variable {tA tB':TT} {rest:List Expr}
def tAnd (t u:TT):TT:=fun σ H Q=>t σ H fun c H1=>if c=true then u σ H1 Q else Q false H1
def tOr (t u:TT):TT:=fun σ H Q=>t σ H fun c H1=>if c=true then Q true H1 else u σ H1 Q
def tNot (t:TT):TT:=fun σ H Q=>t σ H fun c H1=>Q (!c) H1
theorem B1y (ha:PT X a tA):PW X (.BoolOp .And [a] pos) tA:=by
  intro wh pins s σ H Q I h;refine isTrue_and (thn (ha pins s σ H Q I h) fun c s1 e=>?_);cases c with
  | true=>exact isTrue_and_nil e
  | false=>exact e
theorem B7c (ha:PT X a tA):PW X (.BoolOp .Or [a] pos) tA:=by
  intro wh pins s σ H Q I h;refine isTrue_or (thn (ha pins s σ H Q I h) fun c s1 e=>?_);cases c with
  | false=>exact isTrue_or_nil e
  | true=>exact e
theorem B7d (ha:PT X a tA) (hb:PW X (.BoolOp .And (b :: rest) pos) tB'):PW X (.BoolOp .And (a :: b :: rest) pos) (tAnd tA tB'):=by
  intro wh pins s σ H Q I h;refine isTrue_and (thn (ha pins s σ H _ I h) fun c s1 ⟨H1,I1,q1⟩=>?_);cases c with
  | true=>exact hb wh pins s1 σ H1 Q I1 q1
  | false=>exact ⟨H1,I1,q1⟩
theorem C11 (ha:PT X a tA) (hb:PW X (.BoolOp .Or (b :: rest) pos) tB'):PW X (.BoolOp .Or (a :: b :: rest) pos) (tOr tA tB'):=by
  intro wh pins s σ H Q I h;refine isTrue_or (thn (ha pins s σ H _ I h) fun c s1 ⟨H1,I1,q1⟩=>?_);cases c with
  | true=>exact ⟨H1,I1,q1⟩
  | false=>exact hb wh pins s1 σ H1 Q I1 q1
theorem B7e (ha:PT X a tA):PT X (.UnaryOp .Not a pos) (tNot tA):=by
  intro pins s σ H Q I h;exact isTrue_not (ha pins s σ H (fun c H1=>Q (!c) H1) I h)
def B1e (ta tb:TE):TE:=fun σ H Q=>ta σ H fun x H1=>∃ c,x=.bl c/\if c=true then tb σ H1 Q else Q (.bl false) H1
def B1b (ta:TE):TE:=fun σ H Q=>ta σ H fun x H1=>∃ c,x=.bl c/\Q (.bl (!c)) H1
theorem B7n {op} {t:TE} (h:PE X a t):PE X (.BoolOp op [a] pos) t:=fun pins s σ H Q I hw=>BoolOp_one (h pins s σ H Q I hw)
theorem B7r (ha:PE X a ta) (hb:PE X (.BoolOp .And (b :: rest) pos) tb):PE X (.BoolOp .And (a :: b :: rest) pos) (B1e ta tb):=by
  intro pins s σ H Q I h;refine BoolOp_and (thn (ha pins s σ H _ I h) fun v s1 ⟨x,H1,I1,r1,q1⟩=>?_);obtain ⟨c,rfl,q1⟩:=q1;cases r1;refine wpAny_truthy_bool ?_;cases c with
  | true=>exact hb pins s1 σ H1 Q I1 q1
  | false=>exact ⟨.bl false,H1,I1,rfl,q1⟩
theorem B7o (ha:PE X a ta):PE X (.UnaryOp .Not a pos) (B1b ta):=by
  intro pins s σ H Q I h;refine UnaryOp_ (thn (ha pins s σ H _ I h) fun v s1 ⟨x,H1,I1,r1,q1⟩=>?_);obtain ⟨c,rfl,q1⟩:=q1;cases r1;exact not_of (wpAny_truthy_bool ⟨.bl (!c),H1,I1,rfl,q1⟩)
end
end L2
namespace L2
open PySem PySem.Spec PyProof.Rows
def SqL (K:PySem.W.Frag) (H:Hp) (a:Addr) (xs:List V):Prop :=
  Rd H a (.lst xs) \/
    ∃ (o:Obj) (its:Array Value) (n:Nat),K.lookup a=some o/\o.cls=.type "list"/\o.dict=none/\o.data=.seq its n/\its.size<=sizeLine/\Vals xs its.toList
def SqT (K:PySem.W.Frag) (H:Hp) (a:Addr) (xs:List V):Prop :=
  Rd H a (.tup xs) \/
    ∃ (o:Obj) (its:Array Value) (n:Nat),K.lookup a=some o/\o.cls=.type "tuple"/\o.data=.seq its n/\its.size<=sizeLine/\Vals xs its.toList
def absV:Value->Option V
  | .none=>some .non
  | .bool b=>some (.bl b)
  | .int i _=>some (.int i)
  | .str x _=>some (.str x)
  | .bytes b _=>some (.byt b)
  | .float b _=>some (.flt b)
  | .ref a=>some (.ref a)
  | .type n=>some (.ty n)
  | _=>none
theorem RelV.abs {x:V} {u:Value} (r:RelV x u):absV u=some x:=by
  cases x with
  | non=>cases r; rfl
  | bl _=>cases r; rfl
  | int _=>obtain ⟨t,rfl⟩:=r; rfl
  | str _=>obtain ⟨t,rfl⟩:=r; rfl
  | byt _=>obtain ⟨t,rfl⟩:=r; rfl
  | flt _=>obtain ⟨t,rfl⟩:=r; rfl
  | ref _=>cases r; rfl
  | ty _=>cases r; rfl
theorem RelV.inj {x y:V} {u:Value} (r:RelV x u) (q:RelV y u):x=y:=Zj (r.abs.symm.trans q.abs)
theorem Vals.inj:∀ {xs ys:List V} {us:List Value},Vals xs us->Vals ys us->xs=ys
  | _,_,_,.nil,.nil=>rfl
  | _,_,_,.cons r t,.cons r' t'=>by rw [r.inj r',Vals.inj t t']
section
variable {X:Cx} {pins:List (Addr × Obj)} {σ:St} {H:Hp} {s:Shared} {a:Addr} {xs ys:List V}
theorem SqL.of {K:PySem.W.Frag} (h:H a=some (.lst xs)):SqL K H a xs:=.inl (.inl h)
theorem SqT.of {K:PySem.W.Frag} (h:H a=some (.tup xs)):SqT K H a xs:=.inl (.inl h)
theorem Inv.list (I:Inv X pins σ H s) (h:SqL X.K H a xs):∃ its:List Value,Vals xs its/\PlainL s.heap a its.toArray/\xs.length<=sizeLine:=by
  rcases h with h | ⟨o,its,n,hk,hc,hd,hs,hz,r⟩
  · obtain ⟨z,its,n,r,e⟩:=h.ok I.hok
    exact ⟨its,r,⟨_,n,e,rfl,rfl,rfl⟩,z⟩
  · refine ⟨its.toList,r,⟨o,n,I.kIn a o hk,hc,hd,by simpa using hs⟩,?_⟩
    have e:=r.length;simp only [Array.length_toList] at e;omega
theorem Inv.tuple (I:Inv X pins σ H s) (h:SqT X.K H a xs):∃ its:List Value,Vals xs its/\IsTup s.heap a its.toArray/\xs.length<=sizeLine:=by
  rcases h with h | ⟨o,its,n,hk,hc,hs,hz,r⟩
  · obtain ⟨z,its,r,p⟩:=h.ok I.hok
    exact ⟨its,r,p,z⟩
  · refine ⟨its.toList,r,⟨o,I.kIn a o hk,hc,n,by simpa using hs⟩,?_⟩
    have e:=r.length;simp only [Array.length_toList] at e;omega
theorem Inv.list_inj (I:Inv X pins σ H s) (h:SqL X.K H a xs) (h':SqL X.K H a ys):xs=ys:=by
  obtain ⟨its,r,⟨o,n,e,_,_,d⟩,_⟩:=I.list h;obtain ⟨its',r',⟨o',n',e',_,_,d'⟩,_⟩:=I.list h';rw [e] at e'; cases e';rw [d] at d';injection d' with d1 _
  have:its=its':=by simpa using congrArg Array.toList d1
  subst this;exact r.inj r'
theorem Inv.tuple_inj (I:Inv X pins σ H s) (h:SqT X.K H a xs) (h':SqT X.K H a ys):xs=ys:=by
  obtain ⟨its,r,⟨o,e,_,n,d⟩,_⟩:=I.tuple h;obtain ⟨its',r',⟨o',e',_,n',d'⟩,_⟩:=I.tuple h';rw [e] at e'; cases e';rw [d] at d';injection d' with d1 _
  have:its=its':=by simpa using congrArg Array.toList d1
  subst this;exact r.inj r'
end
abbrev Cx.wish (X:Cx) (E:Value->Shared->Prop):Cx:={ X with xe:=E }
abbrev Cx.nox (X:Cx):Cx:=X.wish fun _ _=>False
theorem Cx.Ok.wish {X:Cx} (ok:X.Ok) (E:Value->Shared->Prop):(X.wish E).Ok :=
  ⟨ok.mod,ok.kind,ok.glob,ok.blt,ok.above,ok.inj,ok.has,ok.cab,ok.hd,ok.frames,ok.stk,ok.exf,ok.bs,ok.bsz,ok.noex,ok.exfs,ok.funs,ok.frf⟩
theorem Cx.Ok.unwish {X:Cx} {E:Value->Shared->Prop} (ok:(X.wish E).Ok):X.Ok :=
  ⟨ok.mod,ok.kind,ok.glob,ok.blt,ok.above,ok.inj,ok.has,ok.cab,ok.hd,ok.frames,ok.stk,ok.exf,ok.bs,ok.bsz,ok.noex,ok.exfs,ok.funs,ok.frf⟩
section
variable {X:Cx} {pins:List (Addr × Obj)} {σ:St} {H:Hp} {s:Shared} {E:Value->Shared->Prop}
theorem Inv.wish (I:Inv X pins σ H s) (E:Value->Shared->Prop):Inv (X.wish E) pins σ H s:=⟨I.ok.wish E,I.os,I.bare,I.base,I.loc,I.cell,I.free,I.freeC,I.pin,I.hok,I.len⟩
theorem Inv.unwish (I:Inv (X.wish E) pins σ H s):Inv X pins σ H s:=⟨I.ok.unwish,I.os,I.bare,I.base,I.loc,I.cell,I.free,I.freeC,I.pin,I.hok,I.len⟩
theorem SP.unwish {D:Ends} {f:Flow} {s':Shared} (h:SP (X.wish E) pins D f s'):SP X pins D f s':=by
  cases f with
  | next=>obtain ⟨σ',H',I,q⟩:=h; exact ⟨σ',H',I.unwish,q⟩
  | brk=>obtain ⟨σ',H',I,q⟩:=h; exact ⟨σ',H',I.unwish,q⟩
  | cont=>obtain ⟨σ',H',I,q⟩:=h; exact ⟨σ',H',I.unwish,q⟩
  | ret u=>obtain ⟨v,σ',H',I,r,q⟩:=h; exact ⟨v,σ',H',I.unwish,r,q⟩
theorem PSs.nox {st:List Stmt} {t:TS} (h:PSs X.nox st t):PSs X st t:=fun pins s σ H D I hw =>
  wpAny_mono (h pins s σ H D (I.wish _) hw) (fun _ _ q=>q.unwish) fun _ _ z=>False.elim z
end
section
variable {X:Cx} {st:Stmt} {rest:List Stmt} {t u:TS} {e:Expr} {te:TE} {pos:Pos}
def B1c:TS:=fun D σ H=>D.nx σ H
def tSeq (t u:TS):TS:=fun D σ H=>t { D with nx:=u D } σ H
theorem A1i:PSs X [] B1c:=fun _ _ σ H _ I h=>wpAny_execs_nil ⟨σ,H,I,h⟩
theorem G6 (h1:PS X st t) (h2:PSs X rest u):PSs X (st :: rest) (tSeq t u):=by
  intro pins s σ H D I h;refine wpAny_execs_cons (thn (h1 pins s σ H { D with nx:=u D } I h) fun f s1 q=>?_);cases f with
  | next =>
    obtain ⟨σ',H',I',q⟩:=q;exact h2 pins s1 σ' H' D I' q
  | ret v=>exact q
  | brk=>exact q
  | cont=>exact q
theorem P6 (h1:PS X st t):PSs X [st] t:=by
  intro pins s σ H D I h;refine wpAny_execs_cons (thn (h1 pins s σ H D I h) fun f s1 q=>?_);cases f with
  | next=>exact wpAny_execs_nil q
  | ret v=>exact q
  | brk=>exact q
  | cont=>exact q
theorem Inv.quiet {pins:List (Addr × Obj)} {σ:St} {H:Hp} {s:Shared} (I:Inv X pins σ H s):interactive X.env=false:=by simp [interactive,I.ok.kind]
def A3d (te:TE):TS:=fun D σ H=>te σ H fun _ H1=>D.nx σ H1
theorem B13 (he:PE X e te) (hs:swapsWith e none pos.line X.env=pure false:=by rfl):PS X (.Expr e pos) (A3d te):=by
  intro pins s σ H D I h;exact wpAny_Expr_any (thn (he pins s σ H _ I h) fun v s1 ⟨x,H1,I1,r1,q1⟩=>⟨σ,H1,I1,q1⟩) I.quiet hs
def tRet (te:TE):TS:=fun D σ H=>te σ H D.rt
theorem A2g (he:PE X e te):PS X (.Return (some e) pos) (tRet te):=by
  intro pins s σ H D I h;exact wpAny_Return_some (thn (he pins s σ H _ I h) fun v s1 ⟨x,H1,I1,r1,q1⟩=>⟨x,σ,H1,I1,r1,q1⟩)
def tIfS (c:TT) (t u:TS):TS:=fun D σ H=>c σ H fun b H1=>if b=true then t D σ H1 else u D σ H1
theorem B12 {c:Expr} {a b:List Stmt} {tc:TT} (hc:PT X c tc) (ha:PSs X a t) (hb:PSs X b u):PS X (.If c a b pos) (tIfS tc t u):=by
  intro pins s σ H D I h;refine wpAny_If (thn (hc pins s σ H _ I h) fun d s1 ⟨H1,I1,q1⟩=>?_);cases d with
  | true=>exact ha pins s1 σ H1 D I1 q1
  | false=>exact hb pins s1 σ H1 D I1 q1
end
abbrev TG:=V->St->Hp->(St->Hp->Prop)->Prop
abbrev TGs:=List V->St->Hp->(St->Hp->Prop)->Prop
def PG (X:Cx) (target:Expr) (t:TG):Prop :=
  ∀ (pins:List (Addr × Obj)) (s:Shared) (σ:St) (H:Hp) (v:V) (u:Value) (Q:St->Hp->Prop),Inv X pins σ H s->RelV v u->t v σ H Q ->
    wpAny (model X.prog X.w) X.A (assign target X.env u) (fun _ s'=>∃ σ' H',Inv X pins σ' H' s'/\Q σ' H') X.xe s
def PGs (X:Cx) (ts:List Expr) (t:TGs):Prop :=
  ∀ (pins:List (Addr × Obj)) (s:Shared) (σ:St) (H:Hp) (vs:List V) (us:List Value) (Q:St->Hp->Prop),Inv X pins σ H s->Vals vs us->t vs σ H Q ->
    wpAny (model X.prog X.w) X.A (assignInOrder ((assignEach ts X.env).map (·.2)) us) (fun _ s'=>∃ σ' H',Inv X pins σ' H' s'/\Q σ' H') X.xe s
abbrev TSet:=V->V->V->Hp->(Hp->Prop)->Prop
def PSet (X:Cx) (t:TSet):Prop :=
  ∀ (pins:List (Addr × Obj)) (s:Shared) (σ:St) (H:Hp) (o i v:V) (ov iv u:Value) (Q:Hp->Prop),Inv X pins σ H s->RelV o ov->RelV i iv->RelV v u->t o i v H Q ->
    wpAny (model X.prog X.w) X.A (setItem ov iv u) (fun _ s'=>∃ H',Inv X pins σ H' s'/\Q H') X.xe s
section
variable {X:Cx} {pos:Pos}
def O8 (i:Nat):TG:=fun v σ H Q=>Q (σ.set i (some v)) H
theorem A5a {i:Nat} {x:Str} (hN:X.N.Nodup) (hi:X.N[i]?=some x) (hx:Loc X.env.scope x) (hf:X.fn x=true\/X.env.scope.names.lookup x=some .local:=by first | exact .inl rfl | exact .inr rfl | assumption):PG X (.Name x pos) (O8 i):=by
  intro pins s σ H v u Q I r h;exact wpAny_assign_Name (R8 I hN hi hx r (fun s' I'=>⟨_,H,I',h⟩) hf)
def gNil:TGs:=fun vs σ H Q=>vs=[]/\Q σ H
def A1o (t:TG) (u:TGs):TGs:=fun vs σ H Q=>∃ v r,vs=v :: r/\t v σ H fun σ' H'=>u r σ' H' Q
theorem B2a:PGs X [] gNil:=by
  intro pins s σ H vs us Q I r h;obtain ⟨e,h⟩:=h;subst e;cases r;exact assignInOrder_nil ⟨σ,H,I,h⟩
theorem A79 {e:Expr} {es:List Expr} {t:TG} {u:TGs} (h1:PG X e t) (h2:PGs X es u)
    (hs:(assignEach (e :: es) X.env).map (·.2)=assign e X.env :: (assignEach es X.env).map (·.2):=by rfl):PGs X (e :: es) (A1o t u):=by
  intro pins s σ H vs us Q I r h;obtain ⟨v,vr,e1,h⟩:=h;subst e1;cases r with
  | cons r rr =>
    rw [hs];refine assignInOrder_cons (thn (h1 pins s σ H _ _ _ I r h) fun _ s1 ⟨σ1,H1,I1,q1⟩=>?_);exact h2 pins s1 σ1 H1 _ _ Q I1 rr q1
def gTup (K:PySem.W.Frag) (n:Nat) (t:TGs):TG:=fun v σ H Q=>∃ a xs,v=.ref a/\SqT K H a xs/\xs.length=n/\t xs σ H Q
theorem B7j {es:List Expr} {k:Nat} {t:TGs} {n:Nat} (hc:X.calm=true) (h:PGs X es t)
    (hn:(assignEach es X.env).length=n:=by rfl) (hst:(assignEach es X.env).findIdx? (·.1)=none:=by rfl):PG X (.Tuple es k pos) (gTup X.K n t):=by
  intro pins s σ H v u Q I r hw;obtain ⟨a,xs,e1,hq,hl,hw⟩:=hw;subst e1;cases r;obtain ⟨its,rv,ht,hz⟩:=I.tuple hq;refine assign_Tuple_tuple (I.ok.hd hc) ht (by simp [hn,<- hl,rv.length]) hst fun h' hx=>?_;have I1:Inv X pins σ H { s with heap:=h' }:=I.kept (t':=s.toks) fun b o e=>hx b o (Nat.ne_of_lt (Heap.lt_size e)) e;exact h pins _ σ H xs _ Q I1 (by simpa using rv) hw
def gSub (to ti:TE) (t:TSet):TG:=fun v σ H Q=>to σ H fun o H1=>ti σ H1 fun i H2=>t o i v H2 fun H3=>Q σ H3
theorem A2j {o i:Expr} {to ti:TE} {t:TSet} (ho:PE X o to) (hi:PE X i ti) (hs:PSet X t)
    (ha:∀ v,assign (.Subscript o i pos) X.env v=(do
      let ov <- holding [v] (eval o X.env)
      let iv <- holding [v,ov] (eval i X.env)
      standAt pos
      holding [v,ov,iv] (setItem ov iv v)
      release [v,ov,iv] []):=by intro _; rfl):PG X (.Subscript o i pos) (gSub to ti t):=by
  intro pins s σ H v u Q I r h;rw [ha];refine wpAny_bind (wpAny_holding (thn (ho pins s σ H _ I h) fun ov s1 ⟨x,H1,I1,r1,q1⟩=>?_));refine wpAny_bind (wpAny_holding (thn (hi pins s1 σ H1 _ I1 q1) fun iv s2 ⟨y,H2,I2,r2,q2⟩=>?_));refine wpAny_bind (wpAny_standAt (wpAny_bind (wpAny_holding (thn (hs pins s2 σ H2 x y v ov iv u _ I2 r1 r2 r q2) fun _ s3 ⟨H3,I3,q3⟩=>?_))));exact wpAny_release ⟨σ,H3,I3,q3⟩
def tAsg (te:TE) (g:TG):TS:=fun D σ H=>te σ H fun x H1=>g x σ H1 D.nx
theorem A2i {tg e:Expr} {te:TE} {g:TG} (he:PE X e te) (hg:PG X tg g) (hs:swapsWithSole [tg] e pos.line X.env=pure false:=by rfl) (hw:swappedStores [tg] e X.env=pure none:=by rfl)
    (h1:(assignEach [tg] X.env).map (·.2)=[assign tg X.env]:=by rfl):PS X (.Assign [tg] e pos) (tAsg te g):=by
  intro pins s σ H D I h;refine wpAny_Assign_stores (thn (he pins s σ H _ I h) fun v s1 ⟨x,H1,I1,r1,q1⟩=>?_) hs hw;rw [h1];exact thn (hg pins s1 σ H1 x v _ I1 r1 q1) fun _ s2 q=>q
theorem U8 {i:Nat} {x:Str} {e:Expr} {te:TE} {pos':Pos} (hN:X.N.Nodup) (hi:X.N[i]?=some x) (hx:Loc X.env.scope x) (he:PE X e te) (hs:swapsWith e (some (.Name x pos')) pos.line X.env=pure false:=by rfl) (hf:X.fn x=true\/X.env.scope.names.lookup x=some .local:=by first | exact .inl rfl | exact .inr rfl | assumption) :
    PS X (.Assign [.Name x pos'] e pos) (tAsg te (O8 i)):=by
  intro pins s σ H D I h;refine wpAny_Assign_Name (thn (he pins s σ H _ I h) fun v s1 ⟨y,H1,I1,r1,q1⟩=>?_) hs;exact R8 I1 hN hi hx r1 (fun s2 I2=>⟨_,H1,I2,q1⟩) hf
def tPar (i j:Nat) (ta:TA):TS:=fun D σ H=>ta σ H fun vs H1=>∃ v w,vs=[v,w]/\D.nx ((σ.set i (some v)).set j (some w)) H1
theorem B7f {i j:Nat} {x y:Str} {a b:Expr} {ta:TA} {px py pt:Pos} {kt k2 pt2} (hc:X.calm=true) (hN:X.N.Nodup) (hi:X.N[i]?=some x) (hj:X.N[j]?=some y) (hij:i≠j)
    (hx:X.env.scope.names.lookup x=some .local) (hy:X.env.scope.names.lookup y=some .local) (ha:PA X [a,b] ta)
    (hw:swappedStores [.Tuple [.Name x px,.Name y py] kt pt] (.Tuple [a,b] k2 pt2) X.env=pure (some [x,y]))
    (hs:swapsWithSole [.Tuple [.Name x px,.Name y py] kt pt] (.Tuple [a,b] k2 pt2) pos.line X.env=pure false:=by rfl) :
    PS X (.Assign [.Tuple [.Name x px,.Name y py] kt pt] (.Tuple [a,b] k2 pt2) pos) (tPar i j ta):=by
  intro pins s σ H D I h;rw [exec_Assign_arm];refine wpAny_bind (wpAny_standAt ?_);rw [hs];refine wpAny_bind (wpAny_pure ?_);rw [if_neg (by decide)];refine wpAny_bind (Tuple_ (thn (ha _ pins s σ H _ I h) fun us s1 ⟨vs,H1,I1,r1,q1⟩=>?_));obtain ⟨v,w,e1,q1⟩:=q1;subst e1;obtain ⟨u1,u2,rfl,rv,rw'⟩:∃ u1 u2,us=[u1,u2]/\RelV v u1/\RelV w u2:=by
    cases r1 with
    | cons p q =>
      cases q with
      | cons p' q' =>
        cases q';exact ⟨_,_,rfl,p,p'⟩
  refine wpAny_newObj_type ?_ (by show 2<=sizeLine; decide);have I2:Inv X pins σ H1 { s1 with heap:=s1.heap.push { cls:=.type "tuple",data:=.seq [u1,u2].toArray } }:=I1.kept (t':=s1.toks) fun b o e=>Heap.get?_push_of_some _ e;rw [hw];refine wpAny_bind (wpAny_pure ?_);show wpAny (model X.prog X.w) X.A (do rule "assign.swapped-stores"; let items <- unpackItems (.ref s1.heap.objs.size) 2 none; assignInOrder [fun v=>bindName X.env y v,fun v=>bindName X.env x v] items.reverse; pure Flow.next) _ _ _;refine wpAny_bind (wpAny_rule (wpAny_bind (unpackItems_tuple (items:=#[u1,u2]) (I.ok.hd hc) (IsTup.new s1.heap _) fun h' hx'=>?_)));have I3:=I2.kept (h':=h') (t':=s1.toks) fun b o e=>hx' b o (Nat.ne_of_lt (Heap.lt_size e)) e;show wpAny _ _ (assignInOrder [fun v=>bindName X.env y v,fun v=>bindName X.env x v] [u2,u1] >>= fun _=>pure Flow.next) _ _ _;refine wpAny_bind (assignInOrder_cons (wpAny_bindName (R8 I3 hN hj (.inl hy) rw' (fun s2 I4=>?_) (.inr hy))));refine assignInOrder_cons (wpAny_bindName (R8 I4 hN hi (.inl hx) rv (fun s3 I5=>assignInOrder_nil (wpAny_pure ?_)) (.inr hx)));rw [List.set_comm _ _ (Ne.symm hij)] at I5;exact ⟨_,H1,I5,q1⟩
end
section
variable {X:Cx} {pos:Pos}
def A4h (c:TT) (tb:TS):TS:=fun D σ H=>∃ W:Nat->St->Hp->Prop,(∃ m,W m σ H)/\∀ m σ H,W m σ H ->
  c σ H fun b H1=>if b=true then ∃ N:St->Hp->Prop,(∀ σ' H',N σ' H'->∃ m',m' < m/\W m' σ' H')/\tb { D with nx:=N,ct:=N,bk:=D.nx } σ H1 else D.nx σ H1
theorem A75 {c:Expr} {body:List Stmt} {tc:TT} {tb:TS} (hp:PassesOwn (model X.prog X.w) X.A X.env X.xe) (hc:PT X c tc) (hb:PSs X body tb):PS X (.While c body [] pos) (A4h tc tb):=by
  intro pins s σ H D I h;obtain ⟨W,⟨m0,w0⟩,turn⟩:=h;refine wpAny_While (codeAny_whileLoop (fun n s'=>∃ σ' H',Inv X pins σ' H' s'/\W n σ' H') ?_ m0 ⟨σ,H,I,w0⟩);rintro n s1 ⟨σ1,H1,I1,w1⟩;refine wpAny_passesOwn hp (thn (hc pins s1 σ1 H1 _ I1 (turn n σ1 H1 w1)) fun b s2 ⟨H2,I2,q2⟩=>?_);cases b with
  | true =>
    obtain ⟨N,hN,q2⟩:=q2;rw [if_pos rfl];refine wpAny_passesOwn hp (thn (hb pins s2 σ1 H2 _ I2 q2) fun f s3 q3=>?_);cases f with
    | next =>
      obtain ⟨σ3,H3,I3,n3⟩:=q3;obtain ⟨m',hm,w3⟩:=hN σ3 H3 n3;exact ⟨m',hm,σ3,H3,I3,w3⟩
    | cont =>
      obtain ⟨σ3,H3,I3,n3⟩:=q3;obtain ⟨m',hm,w3⟩:=hN σ3 H3 n3;exact ⟨m',hm,σ3,H3,I3,w3⟩
    | brk=>exact q3
    | ret v=>exact q3
  | false =>
    rw [if_neg Bool.false_ne_true];exact wpAny_execs_nil ⟨σ1,H2,I2,q2⟩
end
structure It where
  go:Nat->Hp->Prop
  yld:Nat->Hp->V->Hp->Prop
  stop:Nat->Hp->Prop
def FpOk (X:Cx) (pins:List (Addr × Obj)) (H:Hp) (b:Addr):Prop :=
  H b=none/\b≠X.env.locals/\b ∉ X.fs/\(b ∈ X.ex\/X.s₀.heap.objs.size<=b)/\(∀ x c,X.env.cells.lookup x=some c->c≠b)/\∀ p ∈ X.pn++pins,p.1≠b
theorem Inv.fpOk {X:Cx} {pins:List (Addr × Obj)} {σ:St} {H H':Hp} {s:Shared} {b:Addr} (I:Inv X pins σ H s) (hb:s.heap.objs.size<=b) (hn:H' b=none):FpOk X pins H' b:=by
  refine ⟨hn,Nat.ne_of_gt (Nat.lt_of_lt_of_le I.lt hb),I.nofs hb,.inr (Zx I.sz hb),fun x c e z=>?_,fun p hp z=>?_⟩
  · obtain ⟨v,q⟩:=I.cell x c e
    exact absurd (Nat.lt_of_lt_of_le q.lt (by rw [z]; exact hb)) (Nat.lt_irrefl _)
  · exact absurd (Nat.lt_of_lt_of_le (Heap.lt_size (I.pin p hp).1) (by rw [z]; exact hb)) (Nat.lt_irrefl _)
structure Turn (P:Program) (w:World) (K:PySem.W.Frag) (tg:Expr) (J:It) (fp:List Addr) (it:Addr) (tn:Nat->Heap->Prop):Prop where
  mem:it ∈ fp
  obj:∀ i h,tn i h->∀ b ∈ fp,∃ o,h.get? b=some o/\∀ v,o.data≠.cell v
  keep:∀ i h h',tn i h->(∀ b ∈ fp,∀ o,h.get? b=some o->h'.get? b=some o)->tn i h'
  item:∀ (X:Cx),X.prog=P->X.w=w->X.K=K->X.calm=true->∀ (i:Nat) (pins:List (Addr × Obj)) (s:Shared) (σ:St) (H:Hp) (E:Value->Shared->Prop),Inv X pins σ H s->(∀ b ∈ fp,FpOk X pins H b)->tn i s.heap->J.go i H ->
    wpAny (model P w) X.A (pyNext (.ref it)) (fun r s1=>∃ u,r=some u /\
      wpAny (model P w) X.A (letOwnedTupleGo tg (.ref it) u) (fun _ s2=>∃ x H',Inv X pins σ H' s2/\RelV x u/\J.yld i H x H'/\tn (i + 1) s2.heap/\∀ b ∈ fp,H' b=none) E s1) E s
  done:∀ (X:Cx),X.prog=P->X.w=w->X.K=K->X.calm=true->∀ (i:Nat) (pins:List (Addr × Obj)) (s:Shared) (σ:St) (H:Hp) (E:Value->Shared->Prop),Inv X pins σ H s->(∀ b ∈ fp,FpOk X pins H b)->tn i s.heap->J.stop i H ->
    wpAny (model P w) X.A (pyNext (.ref it)) (fun r s1=>r=none/\Inv X pins σ H s1) E s
  self:∀ (A:Around) (i:Nat) (s:Shared) (Q:Value->Shared->Prop) (E:Value->Shared->Prop),tn i s.heap->Q (.ref it) s->wpAny (model P w) A (pyIter (.ref it)) Q E s
abbrev TI:=St->Hp->(It->Hp->Prop)->Prop
def PIE (X:Cx) (pins:List (Addr × Obj)) (σ:St) (tg:Expr) (R:It->Hp->Prop) (itv:Value) (s2:Shared):Prop :=
  ∃ (it:Addr) (fp:List Addr) (tn:Nat->Heap->Prop) (J:It) (H':Hp),itv=.ref it/\Inv X pins σ H' s2/\Turn X.prog X.w X.K tg J fp it tn/\tn 0 s2.heap/\(∀ b ∈ fp,FpOk X pins H' b)/\R J H'
def PI (X:Cx) (tg iter:Expr) (wi:TI):Prop :=
  ∀ (pins:List (Addr × Obj)) (s:Shared) (σ:St) (H:Hp) (R:It->Hp->Prop),Inv X pins σ H s->wi σ H R ->
    wpAny (model X.prog X.w) X.A (eval iter X.env) (fun v s1=>wpAny (model X.prog X.w) X.A (pyIter v) (PIE X pins σ tg R) X.xe s1) X.xe s
theorem A30 {M:Model} {A:Around} {E:Value->Shared->Prop} {s:Shared} {tg:Expr} {it:Addr} {u:Value} {o:Obj} {n:String} {vs:Array Value} {Q:Unit->Shared->Prop} (ho:s.heap.get? it=some o) (hc:o.cls=.type n) (hd:o.data=.fields vs)
    (hn:["enumerate","zip","dict_itemiterator","dict_reverseitemiterator","odict_iterator","itertools.zip_longest","itertools.pairwise"].contains n=false) (hQ:Q () s):wpAny M A (letOwnedTupleGo tg (.ref it) u) Q E s:=by
  unfold letOwnedTupleGo;cases tg <;> first
    | exact wpAny_pure hQ
    | (cases u <;> first
        | exact wpAny_pure hQ
        | (refine wpAny_bind (wpAny_load ho ?_)
           rw [hc,hd];show wpAny M A (if (["enumerate","zip","dict_itemiterator","dict_reverseitemiterator","odict_iterator","itertools.zip_longest","itertools.pairwise"].contains n && vs[0]? == some (rawInt _))=true then _ else _) Q E s;rw [if_neg (by intro h; rw [hn,Bool.false_and] at h; cases h)];exact wpAny_pure hQ))
def Itl (K:PySem.W.Frag) (a:Addr):It :=
  ⟨fun i H=>∃ xs x,SqL K H a xs/\xs[i]?=some x,fun i H x H'=>H'=H/\∀ xs,SqL K H a xs->xs[i]?=some x,fun i H=>∃ xs,SqL K H a xs/\xs.length<=i⟩
def Itt (K:PySem.W.Frag) (a:Addr):It :=
  ⟨fun i H=>∃ xs x,SqT K H a xs/\xs[i]?=some x,fun i H x H'=>H'=H/\∀ xs,SqT K H a xs->xs[i]?=some x,fun i H=>∃ xs,SqT K H a xs/\xs.length<=i⟩
def Itr (lo:Int) (n:Nat):It:=⟨fun i _=>i < n,fun i H x H'=>H'=H/\x=.int (lo + i),fun i _=>n<=i⟩
theorem A4f {P:Program} {w:World} {K:PySem.W.Frag} {tg:Expr} (a it:Addr):Turn P w K tg (Itl K a) [it] it (fun i h=>h.IsListIter it a i) where
  mem:=by simp
  obj:=fun i h st b hb=>by
    have e:b=it:=by simpa using hb
    subst e;obtain ⟨o,e,c,d⟩:=st;exact ⟨o,e,fun v z=>by rw [d] at z; cases z⟩
  keep:=fun i h h' st k=>st.at fun o e=>k it (by simp) o e
  item:=by
    intro X hP hw hK hc i pins s σ H E I hf st hg;subst hP hw hK;obtain ⟨xs,x,hq,hx⟩:=hg;obtain ⟨its,rv,p,hz⟩:=I.list hq;obtain ⟨u,hu,ru⟩:=rv.get hx;obtain ⟨f0,f1,f2,f3,f4,f5⟩:=hf it (by simp);refine wpAny_pyNext_list_item st p.isList (x:=u) (by simpa using hu) fun h' st' sb=>?_;have I1:Inv X pins σ H { s with heap:=h' }:=I.turned (t':=s.toks) (fun b o hb e=>(sb.2 b hb).trans e) f0 f1 f3 f4 f5;obtain ⟨o,e,c,d⟩:=id st';exact ⟨u,rfl,A30 (s:={ s with heap:=h' }) e c d (by decide) ⟨x,H,I1,ru,⟨rfl,fun ys hy=>by rw [I.list_inj hy hq]; exact hx⟩,st',fun b hb=>(hf b hb).1⟩⟩
  done:=by
    intro X hP hw hK hc i pins s σ H E I hf st hg;subst hP hw hK;obtain ⟨xs,hq,hx⟩:=hg;obtain ⟨its,rv,p,hz⟩:=I.list hq;obtain ⟨f0,f1,f2,f3,f4,f5⟩:=hf it (by simp);have hl:=rv.length;exact wpAny_pyNext_list_end (I.ok.hd hc) st p.isList (by simp; omega) fun h' eb=>⟨rfl,I.turned (t':=s.toks) (fun b o hb e=>eb b o hb e) f0 f1 f3 f4 f5⟩
  self:=fun _ _ _ _ _ st h=>wpAny_pyIter_listiter st h
theorem A3a {P:Program} {w:World} {K:PySem.W.Frag} {tg:Expr} (a it:Addr):Turn P w K tg (Itt K a) [it] it (fun i h=>h.IsTupleIter it a i) where
  mem:=by simp
  obj:=fun i h st b hb=>by
    have e:b=it:=by simpa using hb
    subst e;obtain ⟨o,e,c,d⟩:=st;exact ⟨o,e,fun v z=>by rw [d] at z; cases z⟩
  keep:=fun i h h' st k=>st.at fun o e=>k it (by simp) o e
  item:=by
    intro X hP hw hK hc i pins s σ H E I hf st hg;subst hP hw hK;obtain ⟨xs,x,hq,hx⟩:=hg;obtain ⟨its,rv,p,hz⟩:=I.tuple hq;obtain ⟨u,hu,ru⟩:=rv.get hx;obtain ⟨f0,f1,f2,f3,f4,f5⟩:=hf it (by simp);refine wpAny_pyNext_tuple_item st (show s.heap.IsTuple a its.toArray from p) (x:=u) (by simpa using hu) fun h' st' sb=>?_;have I1:Inv X pins σ H { s with heap:=h' }:=I.turned (t':=s.toks) (fun b o hb e=>(sb.2 b hb).trans e) f0 f1 f3 f4 f5;obtain ⟨o,e,c,d⟩:=id st';exact ⟨u,rfl,A30 (s:={ s with heap:=h' }) e c d (by decide) ⟨x,H,I1,ru,⟨rfl,fun ys hy=>by rw [I.tuple_inj hy hq]; exact hx⟩,st',fun b hb=>(hf b hb).1⟩⟩
  done:=by
    intro X hP hw hK hc i pins s σ H E I hf st hg;subst hP hw hK;obtain ⟨xs,hq,hx⟩:=hg;obtain ⟨its,rv,p,hz⟩:=I.tuple hq;obtain ⟨f0,f1,f2,f3,f4,f5⟩:=hf it (by simp);have hl:=rv.length;exact wpAny_pyNext_tuple_end (I.ok.hd hc) st (show s.heap.IsTuple a its.toArray from p) (by simp; omega) fun h' eb=>⟨rfl,I.turned (t':=s.toks) (fun b o hb e=>eb b o hb e) f0 f1 f3 f4 f5⟩
  self:=fun _ _ _ _ _ st h=>wpAny_pyIter_tupleiter st h
theorem A3b {P:Program} {w:World} {K:PySem.W.Frag} {tg:Expr} (it:Addr) (lo:Int) (n:Nat):Turn P w K tg (Itr lo n) [it] it (fun i h=>IsRangeIter h it (lo + (i:Nat) * 1) ((n:Int) - (i:Nat)) 1) where
  mem:=by simp
  obj:=fun i h st b hb=>by
    have e:b=it:=by simpa using hb
    subst e;exact ⟨_,st,fun v z=>by
      have z':Data.fields _=Data.cell v:=z;cases z'⟩
  keep:=fun i h h' st k=>k it (by simp) _ st
  item:=by
    intro X hP hw hK hc i pins s σ H E I hf st hg;subst hP hw hK;obtain ⟨f0,f1,f2,f3,f4,f5⟩:=hf it (by simp);have W:=Walks.range (prog:=X.prog) (w:=X.w) (I.ok.hd hc) it lo 1 n;refine W.item i s _ _ hg st fun v h' tk hv st' kk=>?_;obtain ⟨t,rfl⟩:=hv;have I1:Inv X pins σ H { s with heap:=h',toks:=tk }:=I.turned (fun b o hb e=>kk b o (by simpa using hb) e) f0 f1 f3 f4 f5;refine ⟨_,rfl,A30 (s:={ s with heap:=h',toks:=tk }) (n:="range_iterator") st' rfl rfl (by decide) ⟨.int (lo + i),H,I1,⟨t,?_⟩,⟨rfl,rfl⟩,st',fun b hb=>(hf b hb).1⟩⟩;rw [Int.mul_one]
  done:=by
    intro X hP hw hK hc i pins s σ H E I hf st hg;subst hP hw hK;obtain ⟨f0,f1,f2,f3,f4,f5⟩:=hf it (by simp);exact wpAny_pyNext_range_end (I.ok.hd hc) st (by have:n<=i:=hg; omega) fun h' eb=>⟨rfl,I.turned (t':=s.toks) (fun b o hb e=>eb b o hb e) f0 f1 f3 f4 f5⟩
  self:=fun _ _ _ _ _ st h=>wpAny_pyIter_rangeiter st h
end L2
namespace L2
open PySem PySem.Spec PyProof.Rows
section
variable {X:Cx} {tg:Expr}
theorem A7x {pins:List (Addr × Obj)} {σ:St} {H:Hp} {s:Shared} {R:It->Hp->Prop} {E:Value->Shared->Prop} {lo hi:Int} {t u v:Tok} {tk:Nat} (I:Inv X pins σ H s) (h1:-(2 ^ 62)<=lo) (h2:lo < 2 ^ 62) (h3:-(2 ^ 62)<=hi) (h4:hi < 2 ^ 62)
    (q:R (Itr lo (hi - lo).toNat) H):wpAny (model X.prog X.w) X.A (pyIter (.ref s.heap.objs.size)) (PIE X pins σ tg R) E { s with heap:=s.heap.push { cls:=.type "range",data:=.fields #[.int lo t,.int hi u,.int 1 v] },toks:=tk }:=by
  refine wpAny_pyIter_range (IsRange.new ..) (small_one h1 h2 h3 h4) ?_;have I1:Inv X pins σ H { s with heap:=s.heap.push { cls:=.type "range",data:=.fields #[.int lo t,.int hi u,.int 1 v] },toks:=tk }:=I.kept fun b o e=>Heap.get?_push_of_some _ e;refine ⟨(s.heap.push { cls:=.type "range",data:=.fields #[.int lo t,.int hi u,.int 1 v] }).objs.size,[(s.heap.push { cls:=.type "range",data:=.fields #[.int lo t,.int hi u,.int 1 v] }).objs.size],_,_,H,rfl,
    I1.kept (t':=tk) fun b o e=>Heap.get?_push_of_some _ e,A3b _ lo (hi - lo).toNat,?_,fun b hb=>?_,q⟩
  · have e1:lo + ((0:Nat):Int) * 1=lo:=by simp
    have e2:(((hi - lo).toNat:Nat):Int) - ((0:Nat):Int)=Builtin.Range.rangeSize lo hi 1:=by rw [rangeSize_one]; split <;> omega
    show IsRangeIter _ _ (lo + ((0:Nat):Int) * 1) ((((hi - lo).toNat:Nat):Int) - ((0:Nat):Int)) 1;rw [e1,e2];exact Heap.get?_push_size _ rfl
  · have e:b=(s.heap.push { cls:=.type "range",data:=.fields #[.int lo t,.int hi u,.int 1 v] }).objs.size:=by simpa using hb
    subst e;exact I1.fpOk (Zv _) (I1.hok.fresh (Zv _))
def B5r (ta:TA):TI:=fun σ H R=>ta σ H fun vs H1=>∃ j:Int,vs=[.int j]/\-(2 ^ 62)<=j/\j < 2 ^ 62/\R (Itr 0 j.toNat) H1
theorem A0a {a:Expr} {ta:TA} {p pos:Pos} (hg:Gl X "range") (hm:X.mg "range"=none) (ha:PA X [a] ta) (hs:starEach [a] X.env=[(false,eval a X.env)]:=by rfl):PI X tg (.Call (.Name "range" p) [a] [] pos) (B5r ta):=by
  intro pins s σ H R I h;refine Call_ (Q6 I hg hm boot_range (PyProof.Rows.callWith_type1 (thn (ha pos pins s σ H _ I h) fun us s1 ⟨vs,H1,I1,r1,q1⟩=>?_) hs rfl));obtain ⟨j,e,q1,q2,q⟩:=q1;subst e;cases r1 with
  | cons r rr =>
    cases rr;obtain ⟨t,rfl⟩:=r;exact call_range_1 (A7x I1 (by omega) (by omega) q1 q2 (by simpa using q))
def tFor (wi:TI) (g:TG) (tb:TS):TS:=fun D σ H=>wi σ H fun J H1=>∃ W:Nat->Nat->St->Hp->Prop,(∃ m,W 0 m σ H1)/\∀ i m σ H,W i m σ H ->
  (J.stop i H/\D.nx σ H)\/(J.go i H/\∃ N:St->Hp->Prop,(∀ σ' H',N σ' H'->∃ m',m' < m/\W (i + 1) m' σ' H')/\∀ x H',J.yld i H x H'->g x σ H' fun σ2 H2=>tb { D with nx:=N,ct:=N,bk:=D.nx } σ2 H2)
def Z9 (fp:List Addr) (h:Heap):List (Addr × Obj):=fp.filterMap fun b=>(h.get? b).map fun o=>(b,o)
theorem N6 {fp:List Addr} {h:Heap} {b:Addr} {o:Obj} (hb:b ∈ fp) (e:h.get? b=some o):(b,o) ∈ Z9 fp h:=List.mem_filterMap.mpr ⟨b,hb,by rw [e]; rfl⟩
theorem A5u {fp:List Addr} {h:Heap} {p:Addr × Obj} (hp:p ∈ Z9 fp h):p.1 ∈ fp/\h.get? p.1=some p.2:=by
  obtain ⟨b,hb,e⟩:=List.mem_filterMap.mp hp;cases q:h.get? b with
  | none=>rw [q] at e; cases e
  | some o =>
    rw [q] at e;have e':(b,o)=p:=Zj e;subst e';exact ⟨hb,q⟩
theorem Inv.pinned {pins:List (Addr × Obj)} {σ:St} {H:Hp} {s:Shared} {fp:List Addr} (I:Inv X pins σ H s) (hf:∀ b ∈ fp,FpOk X pins H b) (ho:∀ b ∈ fp,∃ o,s.heap.get? b=some o/\∀ v,o.data≠.cell v):Inv X (pins++Z9 fp s.heap) σ H s :=
  I.pins_of fun p hp=>(Za hp).elim (fun z=>I.pin p (Zw _ z)) fun z=>by
    obtain ⟨hb,e⟩:=A5u z;obtain ⟨f0,f1,f2,_⟩:=hf p.1 hb;obtain ⟨o,e',d⟩:=ho p.1 hb;rw [e] at e'; cases e';exact ⟨e,f0,f1,f2,d⟩
theorem Inv.unpinned {pins pl:List (Addr × Obj)} {σ:St} {H:Hp} {s:Shared} (I:Inv X (pins++pl) σ H s):Inv X pins σ H s:=I.pins_of fun p hp=>I.pin p (Zw _ (Zt _ hp))
theorem B0a {iter:Expr} {body:List Stmt} {wi:TI} {g:TG} {tb:TS} {pos:Pos} (hp:PassesOwn (model X.prog X.w) X.A X.env X.xe) (hc:X.calm=true) (hi:PI X tg iter wi) (hg:PG X tg g) (hb:PSs X body tb)
    (hs:∀ x,foldedSetIterable iter X.env x=pure x:=by intro _; rfl):PS X (.For tg iter body [] pos) (tFor wi g tb):=by
  intro pins s σ H D I h;refine wpAny_For (thn (hi pins s σ H _ I h) fun v s1 h1=>thn h1 fun itv s2 h2=>?_) hs;obtain ⟨it,fp,tn,J,H2,e,I2,T,st2,f2,W,⟨m0,w0⟩,turn⟩:=h2;subst e;have stat:∀ {H':Hp},(∀ b ∈ fp,H' b=none)->∀ b ∈ fp,FpOk X pins H' b:=fun hn b hb=>⟨hn b hb,(f2 b hb).2⟩;refine codeAny_forLoop_any (fun n s'=>∃ i σ' H',Inv X pins σ' H' s'/\tn i s'.heap/\(∀ b ∈ fp,H' b=none)/\W i n σ' H') ?_ m0 ⟨0,σ,H2,I2,st2,fun b hb=>(f2 b hb).1,w0⟩;rintro n s3 ⟨i,σ3,H3,I3,st3,fr3,w3⟩;rcases turn i n σ3 H3 w3 with ⟨stop,qn⟩ | ⟨go,N,hN,step⟩
  · refine wpAny_passesOwn hp (thn (T.done X rfl rfl rfl hc i pins s3 σ3 H3 X.xe I3 (stat fr3) st3 stop) fun r s4 ⟨hr,I4⟩=>?_)
    subst hr;exact wpAny_execs_nil ⟨σ3,H3,I4,qn⟩
  · refine wpAny_passesOwn hp (thn (T.item X rfl rfl rfl hc i pins s3 σ3 H3 X.xe I3 (stat fr3) st3 go) fun r s4 ⟨u,hr,h4⟩=>?_)
    subst hr;refine wpAny_passesOwn hp (thn h4 fun _ s5 ⟨x,H5,I5,r5,y5,st5,fr5⟩=>?_);have I5':=I5.pinned (stat fr5) (T.obj _ _ st5);refine wpAny_passesOwn hp (thn (hg _ s5 σ3 H5 x u _ I5' r5 (step x H5 y5)) fun _ s6 ⟨σ6,H6,I6,q6⟩=>?_);refine wpAny_passesOwn hp (thn (hb _ s6 σ6 H6 _ I6 q6) fun f s7 q7=>?_);have again:∀ {σ7:St} {H7:Hp},Inv X (pins++Z9 fp s5.heap) σ7 H7 s7->N σ7 H7->∃ m,m < n/\∃ i σ' H',Inv X pins σ' H' s7/\tn i s7.heap/\(∀ b ∈ fp,H' b=none)/\W i m σ' H':=fun {σ7 H7} I7 n7=>by
      obtain ⟨m',hm,w7⟩:=hN σ7 H7 n7;refine ⟨m',hm,i + 1,σ7,H7,I7.unpinned,T.keep _ _ _ st5 fun b hb o e=>(I7.pin (b,o) (Zw _ (Zw _ (N6 hb e)))).1,fun b hb=>?_,w7⟩;obtain ⟨o,e,d⟩:=T.obj _ _ st5 b hb;exact (I7.pin (b,o) (Zw _ (Zw _ (N6 hb e)))).2.1
    cases f with
    | next=>obtain ⟨σ7,H7,I7,n7⟩:=q7; exact again I7 n7
    | cont=>obtain ⟨σ7,H7,I7,n7⟩:=q7; exact again I7 n7
    | brk=>obtain ⟨σ7,H7,I7,q7⟩:=q7; exact ⟨σ7,H7,I7.unpinned,q7⟩
    | ret v=>obtain ⟨x7,σ7,H7,I7,r7,q7⟩:=q7; exact ⟨x7,σ7,H7,I7.unpinned,r7,q7⟩
end
theorem A6i {lo:Int} {n:Nat} {g:TG} {tb:TS} {D:Ends} {σ:St} {H:Hp} (Pv:Nat->St->Hp->Prop) (h0:Pv 0 σ H)
    (hs:∀ i σ H,i < n->Pv i σ H->g (.int (lo + i)) σ H fun σ2 H2=>tb { D with nx:=Pv (i + 1),ct:=Pv (i + 1),bk:=D.nx } σ2 H2) (hd:∀ σ H,Pv n σ H->D.nx σ H) :
    ∃ W:Nat->Nat->St->Hp->Prop,(∃ m,W 0 m σ H)/\∀ i m σ H,W i m σ H ->
      ((Itr lo n).stop i H/\D.nx σ H)\/((Itr lo n).go i H/\∃ N:St->Hp->Prop,(∀ σ' H',N σ' H'->∃ m',m' < m/\W (i + 1) m' σ' H')/\∀ x H',(Itr lo n).yld i H x H'->g x σ H' fun σ2 H2=>tb { D with nx:=N,ct:=N,bk:=D.nx } σ2 H2):=by
  refine ⟨fun i m σ H=>m=n - i/\i<=n/\Pv i σ H,⟨n,by simp,Nat.zero_le _,h0⟩,?_⟩;rintro i m σ H ⟨rfl,hi,p⟩;by_cases hlt:i < n
  · refine .inr ⟨hlt,Pv (i + 1),fun σ' H' p'=>⟨n - (i + 1),by omega,rfl,hlt,p'⟩,fun x H' y=>?_⟩
    obtain ⟨e,y⟩:=y;subst e y;exact hs i σ _ hlt p
  · have e:i=n:=by omega
    subst e;exact .inl ⟨Zv _,hd σ H p⟩
end L2
namespace L2
open PySem PySem.Spec PyProof.Rows
abbrev R2:=V->V->Hp->VK->Prop
def OpR (X:Cx) (f:Value->Value->Sem Value) (r:R2):Prop :=
  ∀ (pins:List (Addr × Obj)) (s:Shared) (σ:St) (H:Hp) (x y:V) (v u:Value) (Q:VK),Inv X pins σ H s->RelV x v->RelV y u->r x y H Q ->
    wpAny (model X.prog X.w) X.A (f v u) (EP X pins σ Q) X.xe s
def UnR (X:Cx) (f:Value->Sem Value) (r:V->Hp->VK->Prop):Prop :=
  ∀ (pins:List (Addr × Obj)) (s:Shared) (σ:St) (H:Hp) (x:V) (v:Value) (Q:VK),Inv X pins σ H s->RelV x v->r x H Q ->
    wpAny (model X.prog X.w) X.A (f v) (EP X pins σ Q) X.xe s
def CallR (X:Cx) (f:Value) (r:List V->Hp->VK->Prop):Prop :=
  ∀ (pins:List (Addr × Obj)) (s:Shared) (σ:St) (H:Hp) (xs:List V) (us:List Value) (Q:VK),Inv X pins σ H s->Vals xs us->r xs H Q ->
    wpAny (model X.prog X.w) X.A (call f us) (EP X pins σ Q) X.xe s
def tOp (r:R2) (ta tb:TE):TE:=fun σ H Q=>ta σ H fun x H1=>tb σ H1 fun y H2=>r x y H2 Q
def tUn (r:V->Hp->VK->Prop) (ta:TE):TE:=fun σ H Q=>ta σ H fun x H1=>r x H1 Q
def rI (C:Int->Int->Prop) (g:Int->Int->V):R2:=fun x y H Q=>∃ i j,x=.int i/\y=.int j/\C i j/\Q (g i j) H
def rI0 (g:Int->Int->V):R2:=fun x y H Q=>∃ i j,x=.int i/\y=.int j/\Q (g i j) H
def rU (g:Int->V):V->Hp->VK->Prop:=fun x H Q=>∃ i,x=.int i/\Q (g i) H
section
variable {X:Cx} {a b c:Expr} {ta tb tc:TE} {pos:Pos}
theorem binT (ha:PE X a ta) (hb:PE X b tb) {pins:List (Addr × Obj)} {s:Shared} {σ:St} {H:Hp} {R:V->V->Hp->Prop} (I:Inv X pins σ H s)
    (h:ta σ H fun x H1=>tb σ H1 fun y H2=>R x y H2) {Q:Value->Shared->Prop} {f:Value->Value->Sem Value}
    (hf:∀ v u s2 x y H2,Inv X pins σ H2 s2->RelV x v->RelV y u->R x y H2->wpAny (model X.prog X.w) X.A (f v u) Q X.xe s2) :
    wpAny (model X.prog X.w) X.A (eval a X.env) (fun v s₁=>wpAny (model X.prog X.w) X.A (eval b X.env) (fun u s₂=>wpAny (model X.prog X.w) X.A (f v u) Q X.xe s₂) X.xe s₁) X.xe s:=by
  refine thn (ha pins s σ H _ I h) fun v s1 ⟨x,H1,I1,r1,q1⟩=>?_;refine thn (hb pins s1 σ H1 _ I1 q1) fun u s2 ⟨y,H2,I2,r2,q2⟩=>?_;exact hf v u s2 x y H2 I2 r1 r2 q2
theorem J9 {op:Operator} {r:R2} (ho:OpR X (binaryOp op) r) (ha:PE X a ta) (hb:PE X b tb):PE X (.BinOp a op b pos) (tOp r ta tb):=by
  intro pins s σ H Q I h;exact wpAny_BinOp (binT ha hb I h fun v u s2 x y H2 I2 rx ry q=>ho pins s2 σ H2 x y v u Q I2 rx ry q)
theorem C13 {op:UnaryOp} {r:V->Hp->VK->Prop} (ho:UnR X (unaryOp op) r) (ha:PE X a ta):PE X (.UnaryOp op a pos) (tUn r ta):=by
  intro pins s σ H Q I h;exact UnaryOp_ (thn (ha pins s σ H _ I h) fun v s1 ⟨x,H1,I1,r1,q1⟩=>ho pins s1 σ H1 x v Q I1 r1 q1)
theorem opI {f:Value->Value->Sem Value} {C:Int->Int->Prop} {g:Int->Int->Int}
    (rule:∀ (i j:Int) (t u:Tok) (s:Shared) (Q:Value->Shared->Prop) (E:Value->Shared->Prop),C i j->Q (.int (g i j) s.toks) { s with toks:=s.toks + 1 }->wpAny (model X.prog X.w) X.A (f (.int i t) (.int j u)) Q E s) :
    OpR X f (rI C fun i j=>.int (g i j)):=by
  intro pins s σ H x y v u Q I rx ry h;obtain ⟨i,j,rfl,rfl,hc,q⟩:=h;obtain ⟨t,rfl⟩:=rx;obtain ⟨t',rfl⟩:=ry;exact rule i j t t' s _ _ hc ⟨.int (g i j),H,I.tok _,⟨_,rfl⟩,q⟩
theorem opI0 {f:Value->Value->Sem Value} {g:Int->Int->Int}
    (rule:∀ (i j:Int) (t u:Tok) (s:Shared) (Q:Value->Shared->Prop) (E:Value->Shared->Prop),Q (.int (g i j) s.toks) { s with toks:=s.toks + 1 }->wpAny (model X.prog X.w) X.A (f (.int i t) (.int j u)) Q E s) :
    OpR X f (rI0 fun i j=>.int (g i j)):=by
  intro pins s σ H x y v u Q I rx ry h;obtain ⟨i,j,rfl,rfl,q⟩:=h;obtain ⟨t,rfl⟩:=rx;obtain ⟨t',rfl⟩:=ry;exact rule i j t t' s _ _ ⟨.int (g i j),H,I.tok _,⟨_,rfl⟩,q⟩
theorem opB0 {f:Value->Value->Sem Value} {g:Int->Int->Bool}
    (rule:∀ (i j:Int) (t u:Tok) (s:Shared) (Q:Value->Shared->Prop) (E:Value->Shared->Prop),Q (.bool (g i j)) s->wpAny (model X.prog X.w) X.A (f (.int i t) (.int j u)) Q E s) :
    OpR X f (rI0 fun i j=>.bl (g i j)):=by
  intro pins s σ H x y v u Q I rx ry h;obtain ⟨i,j,rfl,rfl,q⟩:=h;obtain ⟨t,rfl⟩:=rx;obtain ⟨t',rfl⟩:=ry;exact rule i j t t' s _ _ ⟨.bl (g i j),H,I,rfl,q⟩
def CPow (i j:Int):Prop:=0<=j/\j<=1000000/\i.natAbs < 2 ^ 64
theorem E8:OpR X (binaryOp .Add) (rI0 fun i j=>.int (i + j)):=opI0 fun _ _ _ _ _ _ _ q=>add_int q
theorem A5h:OpR X (binaryOp .Sub) (rI0 fun i j=>.int (i - j)):=opI0 fun _ _ _ _ _ _ _ q=>sub_int q
theorem M1:OpR X (binaryOp .Mod) (rI (fun _ j=>0 < j) fun i j=>.int (i % j)):=opI fun i j _ _ _ _ _ hc q=>by
  have h1:(0:Int) < j:=hc;exact mod_int' (by omega) (by rw [Int.fmod_eq_emod_of_nonneg i (by omega)]; exact q)
theorem A5i:OpR X (binaryOp .Pow) (rI CPow fun i j=>.int (i ^ j.toNat)):=opI fun _ _ _ _ _ _ _ hc q=>pow_int_small hc.1 hc.2.1 hc.2.2 q
theorem unI {f:Value->Sem Value} {g:Int->Int}
    (rule:∀ (i:Int) (t:Tok) (s:Shared) (Q:Value->Shared->Prop) (E:Value->Shared->Prop),Q (.int (g i) s.toks) { s with toks:=s.toks + 1 }->wpAny (model X.prog X.w) X.A (f (.int i t)) Q E s) :
    UnR X f (rU fun i=>.int (g i)):=by
  intro pins s σ H x v Q I rx h;obtain ⟨i,rfl,q⟩:=h;obtain ⟨t,rfl⟩:=rx;exact rule i t s _ _ ⟨.int (g i),H,I.tok _,⟨_,rfl⟩,q⟩
theorem A13:UnR X (unaryOp .USub) (rU fun i=>.int (-i)):=unI fun _ _ _ _ _ q=>neg_int q
end
section
variable {X:Cx} {a b c:Expr} {ta tb tc:TE} {pos:Pos}
theorem B0p {pins:List (Addr × Obj)} {σ:St} {H:Hp} {s:Shared} {Q:VK} {k k':Bool} (I:Inv X pins σ H s) (q:Q (.bl k) H) (e:k=k'):EP X pins σ Q (.bool k') s:=by
  subst e;exact ⟨.bl k,H,I,rfl,q⟩
theorem A8k:OpR X (compareOp .Lt) (rI0 fun i j=>.bl (decide (i < j))):=opB0 fun _ _ _ _ _ _ _ q=>lt_int q
theorem A3p:OpR X (compareOp .Gt) (rI0 fun i j=>.bl (decide (j < i))):=opB0 fun _ _ _ _ _ _ _ q=>gt_int q
theorem C20:OpR X (compareOp .GtE) (rI0 fun i j=>.bl (decide (j<=i))):=opB0 fun _ _ _ _ _ _ _ q=>ge_int q
theorem B9j:OpR X (compareOp .Is) (fun x y H Q=>y=.non/\Q (.bl (decide (x=.non))) H):=by
  intro pins s σ H x y v u Q I rx ry h;obtain ⟨rfl,q⟩:=h;cases ry;refine is_none_gen (B0p I q ?_);cases x <;> first
    | (cases rx; rfl)
    | (obtain ⟨t,rfl⟩:=rx; rfl)
theorem B3l:OpR X (compareOp .IsNot) (fun x y H Q=>y=.non/\Q (.bl (!decide (x=.non))) H):=by
  intro pins s σ H x y v u Q I rx ry h;obtain ⟨rfl,q⟩:=h;cases ry;refine isnot_none_gen (B0p I q ?_);cases x <;> first
    | (cases rx; rfl)
    | (obtain ⟨t,rfl⟩:=rx; rfl)
theorem B5 (b:Expr) {op:CmpOp} (h:op≠.In:=by decide) (h2:op≠.NotIn:=by decide):behindInMarks op b=false:=by
  have e1:(op == CmpOp.In)=false:=by cases op <;> first | rfl | exact absurd rfl h
  have e2:(op == CmpOp.NotIn)=false:=by cases op <;> first | rfl | exact absurd rfl h2
  cases b <;> simp [behindInMarks,e1,e2]
theorem W7 {op:CmpOp} {r:R2} (ho:OpR X (compareOp op) r) (ha:PE X a ta) (hb:PE X b tb) (hm:behindInMarks op b=false):PE X (.Compare a [op] [b] pos) (tOp r ta tb):=by
  intro pins s σ H Q I h;exact wpAny_Compare1 (binT ha hb I h fun v u s2 x y H2 I2 rx ry q=>ho pins s2 σ H2 x y v u Q I2 rx ry q) hm
def B09 (t:TE):TT:=fun σ H Q=>t σ H fun x H'=>∃ k,x=.bl k/\Q k H'
theorem A4x {op:CmpOp} {r:R2} (ho:OpR X (compareOp op) r) (ha:PE X a ta) (hb:PE X b tb) (hm:behindInMarks op b=false):PT X (.Compare a [op] [b] pos) (B09 (tOp r ta tb)):=by
  intro pins s σ H Q I h;refine wpAny_isTrue_Compare1 (thn (ha pins s σ H _ I h) fun v s1 ⟨x,H1,I1,r1,q1⟩=>thn (hb pins s1 σ H1 _ I1 q1) fun u s2 ⟨y,H2,I2,r2,q2⟩ =>
    thn (ho pins s2 σ H2 x y v u _ I2 r1 r2 q2) fun c s3 ⟨z,H3,I3,r3,k,e,q3⟩=>?_) hm
  subst e;cases r3;exact wpAny_truthy_bool ⟨H3,I3,q3⟩
theorem V4:(sizeLine:Nat) < 2 ^ 63:=by rw [sizeLine_eq]; decide
theorem A3q:OpR X (binaryOp .Add) (fun x y H Q=>∃ i j,x=.str i/\y=.str j/\i.length + j.length<=sizeLine/\Q (.str (i++j)) H):=by
  intro pins s σ H x y v u Q I rx ry h;obtain ⟨i,j,rfl,rfl,hz,q⟩:=h;obtain ⟨t,rfl⟩:=rx;obtain ⟨t',rfl⟩:=ry;exact add_str (fun t' tk=>⟨.str (i++j),H,I.tok _,⟨_,rfl⟩,q⟩) hz
theorem A09 {x:V} {us:List Value} (r:Vals [x] us):∃ u,us=[u]/\RelV x u:=by
  cases r with
  | cons r1 r2=>cases r2; exact ⟨_,rfl,r1⟩
theorem B6j {x y:V} {us:List Value} (r:Vals [x,y] us):∃ u w',us=[u,w']/\RelV x u/\RelV y w':=by
  cases r with
  | cons r1 r2 =>
    cases r2 with
    | cons r3 r4=>cases r4; exact ⟨_,_,rfl,r1,r3⟩
theorem A9s:CallR X (.builtin "abs") (fun xs H Q=>∃ i,xs=[.int i]/\Q (.int (if i < 0 then -i else i)) H):=by
  intro pins s σ H xs us Q I r h;obtain ⟨i,rfl,q⟩:=h;obtain ⟨u,rfl,t,rfl⟩:=A09 r;exact call_abs_int fun u tk=>⟨.int (if i < 0 then -i else i),H,I.tok _,⟨_,rfl⟩,q⟩
theorem A62 (hc:X.calm=true):CallR X (.builtin "max") (fun xs H Q=>∃ i j,xs=[.int i,.int j]/\Q (.int (if j > i then j else i)) H):=by
  intro pins s σ H xs us Q I r h;obtain ⟨i,j,rfl,q⟩:=h;obtain ⟨u,w',rfl,⟨t,rfl⟩,⟨t',rfl⟩⟩:=B6j r;refine max_two_ints (I.ok.hd hc) fun h' tk k=>⟨_,H,I.kept k,?_,q⟩;by_cases hj:j > i
  · rw [if_pos hj,if_pos hj]; exact ⟨_,rfl⟩
  · rw [if_neg hj,if_neg hj]; exact ⟨_,rfl⟩
theorem A60 (hc:X.calm=true):CallR X (.builtin "min") (fun xs H Q=>∃ i j,xs=[.int i,.int j]/\Q (.int (if j < i then j else i)) H):=by
  intro pins s σ H xs us Q I r h;obtain ⟨i,j,rfl,q⟩:=h;obtain ⟨u,w',rfl,⟨t,rfl⟩,⟨t',rfl⟩⟩:=B6j r;refine min_two_ints (I.ok.hd hc) fun h' tk k=>⟨_,H,I.kept k,?_,q⟩;by_cases hj:j < i
  · rw [if_pos hj,if_pos hj]; exact ⟨_,rfl⟩
  · rw [if_neg hj,if_neg hj]; exact ⟨_,rfl⟩
theorem A00:CallR X (.type "int") (fun xs H Q=>(∃ i,xs=[.int i]/\Q (.int i) H)\/∃ k,xs=[.bl k]/\Q (.int (if k then 1 else 0)) H):=by
  intro pins s σ H xs us Q I r h;rcases h with ⟨i,rfl,q⟩ | ⟨k,rfl,q⟩
  · obtain ⟨u,rfl,t,rfl⟩:=A09 r
    exact call_int_int ⟨.int i,H,I,⟨_,rfl⟩,q⟩
  · obtain ⟨u,rfl,r1⟩:=A09 r
    cases r1;exact call_int_bool ⟨.int (if k then 1 else 0),H,I.tok _,⟨_,rfl⟩,q⟩
end
end L2
namespace L2
open PySem PySem.Spec PyProof.Rows
section
variable {prog:Program} {w:World} {A:Around} {E:Value->Shared->Prop} {s:Shared} {K:PySem.W.Frag} {x dx C f:Addr} {mA:Str->Option Value} {name:Str} {v:Value}
end
theorem RelO.none_of {o:Option Value} (r:RelO none o):o=none:=by
  cases o with
  | none=>rfl
  | some u=>exact (show False from r).elim
section
variable {P:Program} {w:World} {H H':Hp} {h h':Heap} {a C dx:Addr} {fs fs':List (Str × V)}
end
structure Cls (K:PySem.W.Frag) (C:Addr):Prop where
  pg:PySem.W.plainGet K C Str.empty=true
  hd:PySem.W.hasDictIn K C=true
  po:PySem.W.plainOver K C=true
  sa:PySem.W.findIn K (.ref C) "__setattr__"=some (some (.builtin "object.__setattr__"))
theorem Cls.get {K:PySem.W.Frag} {C:Addr} (c:Cls K C) (f:Str):PySem.W.plainGet K C f=true:=c.pg
section
variable {X:Cx} {pins:List (Addr × Obj)} {σ:St} {H:Hp} {s:Shared} {a C dx:Addr} {fs:List (Str × V)} {f:Str} {v:V} {A:Around} {E:Value->Shared->Prop}
end
section
variable {X:Cx} {o e value:Expr} {f:Str} {pos pos' tpos:Pos} {ta tv:TE}
end
section
variable {X:Cx} {pins:List (Addr × Obj)} {σ:St} {H:Hp} {s:Shared} {A:Around} {E:Value->Shared->Prop} {Q:Value->Shared->Prop} {c:Value} {b:Bool}
end
end L2
namespace L2
open PySem PySem.Spec PyProof.Rows
structure Room (k:Nat) (A:Around):Prop where
  hd:A.handled=none
  gd:A.guards=some []
  dp:A.depth + 3 * k + 5 < recursionLimit
  un:A.units + 16 * k + 200 < cLine
theorem Room.mono {j k:Nat} {A:Around} (r:Room k A) (h:j<=k):Room j A:=⟨r.hd,r.gd,by have:=r.dp; omega,by have:=r.un; omega⟩
theorem Room.mo {j k:Nat} {A:Around} (r:Room k A) (h:j<=k:=by first | decide | omega):Room j A:=r.mono h
theorem Room.deeper {k:Nat} {A:Around} (r:Room (k + 1) A) (env:Env):Room k (A.deeper env) :=
  ⟨r.hd,r.gd,by have:=r.dp; show A.depth + 1 + 3 * k + 5 < _; omega,by have:=r.un; show A.units + 3 + 16 * k + 200 < _; omega⟩
theorem Room.depth {k:Nat} {A:Around} (r:Room k A):A.depth < recursionLimit:=by have:=r.dp; omega
theorem Room.units {k:Nat} {A:Around} (r:Room k A):A.units + 64 < cLine:=by have:=r.un; omega
def tNil:TA:=fun _ H Q=>Q [] H
def K6 (ta:TE) (tr:TA):TA:=fun σ H Q=>ta σ H fun x H1=>tr σ H1 fun xs H2=>Q (x :: xs) H2
section
variable {X:Cx} {e:Expr} {es:List Expr} {te:TE} {t:TA} {pos:Pos}
theorem A0c:PA X [] tNil:=fun _ _ _ _ H Q I h=>Calls.spliced_nil ⟨[],H,I,.nil,h⟩
theorem O0 (ha:PE X e te) (hr:PA X es t) (hs:starEach (e :: es) X.env=(false,eval e X.env) :: starEach es X.env:=by rfl):PA X (e :: es) (K6 te t):=by
  intro pos pins s σ H Q I h;rw [hs];show wpAny _ _ (spliced ((false,eval e X.env) :: backTo pos (starEach es X.env))) _ _ s;refine Calls.spliced_cons (thn (ha pins s σ H _ I h) fun u s1 ⟨x,H1,I1,r1,q1⟩=>?_);exact thn (hr pos pins s1 σ H1 _ I1 q1) fun us s2 ⟨xs,H2,I2,r2,q2⟩=>⟨x :: xs,H2,I2,.cons r1 r2,q2⟩
def tTup (t:TA):TE:=fun σ H Q=>t σ H fun xs H1=>xs.length<=sizeLine/\∀ p,H1 p=none->Q (.ref p) (upd H1 p (.tup xs))
def tLst (t:TA):TE:=fun σ H Q=>t σ H fun xs H1=>xs.length<=sizeLine/\∀ p,H1 p=none->Q (.ref p) (upd H1 p (.lst xs))
theorem B7l {x1} (h:PA X es t):PE X (.Tuple es x1 pos) (tTup t):=by
  intro pins s σ H Q I hq;refine wpAny_Tuple_spliced (thn (h pos pins s σ H _ I hq) fun us s1 ⟨xs,H1,I1,r,z,q⟩=>⟨by rw [<- r.length]; exact z,?_⟩);have hf:H1 s1.heap.objs.size=none:=I1.hok.fresh (Zv _);refine ⟨.ref s1.heap.objs.size,upd H1 s1.heap.objs.size (.tup xs),I1.laid (t':=s1.toks) (fun b u e=>Heap.get?_push_of_some _ e) (Zv _) ?_,rfl,q _ hf⟩;exact ⟨z,us,r,⟨_,Heap.get?_push_size _ rfl,rfl,_,rfl⟩⟩
theorem B0b (h:PA X es t):PE X (.List es pos) (tLst t):=by
  intro pins s σ H Q I hq;refine wpAny_List_spliced (thn (h pos pins s σ H _ I hq) fun us s1 ⟨xs,H1,I1,r,z,q⟩=>⟨by rw [<- r.length]; exact z,?_⟩);have hf:H1 s1.heap.objs.size=none:=I1.hok.fresh (Zv _);refine ⟨.ref s1.heap.objs.size,upd H1 s1.heap.objs.size (.lst xs),I1.laid (t':=s1.toks) (fun b u e=>Heap.get?_push_of_some _ e) (Zv _) ?_,rfl,q _ hf⟩;exact ⟨z,us,0,r,Heap.get?_push_size _ rfl⟩
end
abbrev Sp:=List V->Hp->VK->XK->Prop
abbrev CXT:=List Env->Hp->Shared->XK->Value->Shared->Prop
structure Env0 (P:Program) (w:World) (K:PySem.W.Frag) (mg:Str->Option Value) (base:Heap) (A:Around) (outer:List Env) (s:Shared) (H:Hp):Prop where
  frames:A.frames=some outer
  mod:Mod K mg base
  bs:∀ b o,base.get? b=some o->s.heap.get? b=some o/\H b=none
  bsz:base.objs.size<=s.heap.objs.size
  funs:s.heap.FunFrames base outer
  frf:∀ b ∈ frs outer,H b=none
  hok:HOk P w H s.heap
  bare:AllBare s.gens
def CE (outer:List Env) (P:Program) (w:World) (H:Hp) (s:Shared) (Q:VK) (u:Value) (s':Shared):Prop :=
  ∃ v H',s'.os=s.os/\AllBare s'.gens/\Un (frs outer) [] H H' s.heap s'.heap/\HOk P w H' s'.heap/\RelV v u/\Q v H'
def CR (CX:CXT) (outer:List Env) (P:Program) (w:World) (H:Hp) (s:Shared) (Q:VK) (E:XK) (r:Result) (s':Shared):Prop :=
  match r with
  | .ok (.ret u)=>CE outer P w H s Q u s'
  | .ok _=>False
  | .error e=>CX outer H s E e s'
structure FnOk (P:Program) (w:World) (K:PySem.W.Frag) (mg:Str->Option Value) (base:Heap) (CX:CXT) (k:Nat) (f:Addr) (fd:FuncData) (ps:List Str) (sp:Sp):Prop where
  len:∀ vs H Q E,sp vs H Q E->vs.length=ps.length
  run:∀ (A:Around) (outer:List Env) (s:Shared) (H:Hp) (args:Args) (us:List Value) (vs:List V) (Q:VK) (E:XK),Room k A->Env0 P w K mg base A outer s H->BindsTo s fd args (ps.zip us)->Vals vs us->sp vs H Q E ->
    codeAny (model P w) A (.call (.ref f) args) (CR CX outer P w H s Q E) s
theorem FnOk.imp {P:Program} {w:World} {K:PySem.W.Frag} {mg:Str->Option Value} {base:Heap} {CX:CXT} {k:Nat} {f:Addr} {fd:FuncData} {ps:List Str} {sp sp':Sp} (F:FnOk P w K mg base CX k f fd ps sp)
    (h:∀ vs H Q E,sp' vs H Q E->sp vs H Q E):FnOk P w K mg base CX k f fd ps sp' :=
  ⟨fun vs H Q E q=>F.len vs H Q E (h _ _ _ _ q),fun A outer s H args us vs Q E hr he hb hv hs=>F.run A outer s H args us vs Q E hr he hb hv (h _ _ _ _ hs)⟩
section
variable {X:Cx} {pins:List (Addr × Obj)} {σ:St} {H:Hp} {s s':Shared}
theorem Inv.env0 (I:Inv X pins σ H s):Env0 X.prog X.w X.K X.mg X.base X.A X.stack s H :=
  ⟨I.ok.frames,I.ok.mod,I.bs,Zx I.ok.bsz I.sz,I.stack,I.stkFree,I.hok,I.bare⟩
theorem Inv.after {Q:VK} {u:Value} (I:Inv X pins σ H s) (h:CE X.stack X.prog X.w H s Q u s'):EP X pins σ Q u s':=by
  obtain ⟨v,H',os,bare,un,hok,r,q⟩:=h;obtain ⟨hh,g,d,t,os'⟩:=s';obtain rfl:os'=s.os:=os;exact ⟨v,H',I.call (h':=hh) (g':=g) (d':=d) (t':=t) (ch:=[]) un hok bare (fun b z=>absurd z (by simp)),r,q⟩
end
def A7s (sp:Sp) (dvs:List V) (E:XK) (t:TA):TE:=fun σ H Q=>t σ H fun vs H1=>sp (vs++dvs) H1 Q E
def Binds (K:PySem.W.Frag) (fd:FuncData) (ps:List Str) (ds:List Value):Prop :=
  ∀ (s:Shared) (us:List Value),K.In s.heap->(us++ds).length=ps.length->BindsTo s fd ⟨us,[]⟩ (ps.zip (us++ds))
theorem Binds.all {K:PySem.W.Frag} {fd:FuncData} {ps:List Str} (h:∀ us:List Value,us.length=ps.length->bindArgs fd ⟨us,[]⟩=pure (ps.zip us)):Binds K fd ps []:=fun s us _ hl=>by
  rw [List.append_nil] at hl ⊢;exact .of_eq (h us hl)
def A29 (CX:CXT) (X:Cx) (E:XK):Prop:=∀ (pins:List (Addr × Obj)) (σ:St) (H:Hp) (s:Shared) (e:Value) (s':Shared),Inv X pins σ H s->CX X.stack H s E e s'->X.xe e s'
section
variable {X:Cx} {CX:CXT} {k:Nat} {f C:Addr} {fd:FuncData} {ps:List Str} {sp:Sp} {dvs:List V} {ds:List Value} {E:XK} {x m:Str} {p pos apos:Pos} {e o:Expr} {es:List Expr} {ta:TE} {t:TA}
theorem B60 {pins:List (Addr × Obj)} {σ:St} {H:Hp} {s:Shared} {Q:VK} {us:List Value} {vs:List V} (F:FnOk X.prog X.w X.K X.mg X.base CX k f fd ps sp) (hr:Room k X.A) (hb:Binds X.K fd ps ds) (hd:Vals dvs ds) (hx:A29 CX X E)
    (I:Inv X pins σ H s) (r:Vals vs us) (h:sp (vs++dvs) H Q E):wpAny (model X.prog X.w) X.A (call (.ref f) us) (EP X pins σ Q) X.xe s:=by
  have r2:Vals (vs++dvs) (us++ds):=r.append hd;have hl:(us++ds).length=ps.length:=by rw [<- r2.length]; exact F.len _ _ _ _ h
  refine wpAny_call (codeAny_mono (F.run X.A X.stack s H ⟨us,[]⟩ (us++ds) (vs++dvs) Q E hr I.env0 (hb s us I.kIn hl) r2 h) fun r s' hq=>?_);cases r with
  | error e=>exact hx pins σ H s e s' I hq
  | ok fl =>
    cases fl with
    | ret u=>exact I.after hq
    | next=>exact False.elim hq
    | brk=>exact False.elim hq
    | cont=>exact False.elim hq
theorem B2e (F:FnOk X.prog X.w X.K X.mg X.base CX k f fd ps sp) (hr:Room k X.A) (hg:Gl X x) (hm:X.mg x=some (.ref f)) (hk:PySem.W.keepIn X.K (.ref f)=true) (hb:Binds X.K fd ps ds) (hd:Vals dvs ds) (hx:A29 CX X E)
    (ha:PA X (e :: es) t) (hdb:(x == ("__debug__":Str))=false:=by decide) (he:starEach (e :: es) X.env=(false,eval e X.env) :: starEach es X.env:=by rfl) (hpl:(backTo pos (starEach es X.env)).any (·.1)=false:=by rfl) :
    PE X (.Call (.Name x p) (e :: es) [] pos) (A7s sp dvs E t):=by
  intro pins s σ H Q I h;refine wpAny_Call_Name_kw (A52 I hg hm ?_ hdb);refine PySem.W.callWith_K (h₀:=X.base) I.ok.mod.kin hk (thn (ha pos pins s σ H _ I h) fun us s1 ⟨vs,H1,I1,r,q⟩=>⟨I1.kIn,?_⟩) he hpl;exact B60 F hr hb hd hx I1 r q
end
section
variable {X:Cx} {CX:CXT} {k:Nat} {f C:Addr} {fd:FuncData} {ps ks:List Str} {sp:Sp} {E:XK} {x m:Str} {p pos apos kpos:Pos} {e o:Expr} {es:List Expr} {kws:List Keyword} {te ta:TE} {t tk:TA} {nm:Option Str}
variable {g:List Value->List Value->List Value} {gV:List V->List V->List V}
end
structure FnScope (N P:List Str) (sc:Scope):Prop where
  kind:sc.kind=.function
  co:sc.isCoroutine=false
  gen:sc.isGenerator=false
  nd:N.Nodup
  pre:N.take P.length=P
  par:∀ x ∈ P,sc.names.lookup x=some .local\/sc.names.lookup x=some .cell
  nofree:∀ y ∈ sc.names,y.2≠.free
theorem A03 {kindOf:Str->Option NameKind} {x:Str}:∀ {binds:List (Str × Value)} {m:Str->Option Value},(∀ v,(x,v) ∉ binds)->bindL kindOf binds m x=m x
  | [],_,_=>rfl
  | (n,v) :: r,m,h=>by
    unfold bindL;rw [A03 fun w hw=>h w (Zr _ hw)];split
    · have:x≠n:=by rintro rfl; exact h v Zy
      simp [this]
    · rfl
theorem A05 {kindOf:Str->Option NameKind} {x:Str}:∀ {binds:List (Str × Value)} {m:Str->Option Value},(∀ v,(x,v) ∉ binds)->bindC kindOf binds m x=m x
  | [],_,_=>rfl
  | (n,v) :: r,m,h=>by
    unfold bindC;rw [A05 fun w hw=>h w (Zr _ hw)];split
    · rfl
    · have:x≠n:=by rintro rfl; exact h v Zy
      simp [this]
theorem A04 {kindOf:Str->Option NameKind} {x:Str} {v:Value}:∀ {P:List Str} {vs:List Value} {i:Nat} {m:Str->Option Value},P.Nodup->P[i]?=some x->vs[i]?=some v->kindOf x=some .local ->
    bindL kindOf (P.zip vs) m x=some v
  | [],_,_,_,_,h,_,_=>by simp at h
  | _ :: _,[],_,_,_,_,h,_=>by simp at h
  | p :: P,w :: vs,0,m,nd,h1,h2,hk=>by
    simp at h1 h2; subst h1; subst h2;show bindL kindOf ((p,w) :: P.zip vs) m p=_;unfold bindL;rw [A03 fun v hv=>(List.nodup_cons.mp nd).1 (List.of_mem_zip hv).1,if_pos hk];simp
  | p :: P,w :: vs,i + 1,m,nd,h1,h2,hk=>by
    show bindL kindOf ((p,w) :: P.zip vs) m x=_;unfold bindL;exact A04 (i:=i) (List.nodup_cons.mp nd).2 (by simpa using h1) (by simpa using h2) hk
theorem A06 {kindOf:Str->Option NameKind} {x:Str} {v:Value}:∀ {P:List Str} {vs:List Value} {i:Nat} {m:Str->Option Value},P.Nodup->P[i]?=some x->vs[i]?=some v->kindOf x≠some .local ->
    bindC kindOf (P.zip vs) m x=some v
  | [],_,_,_,_,h,_,_=>by simp at h
  | _ :: _,[],_,_,_,_,h,_=>by simp at h
  | p :: P,w :: vs,0,m,nd,h1,h2,hk=>by
    simp at h1 h2; subst h1; subst h2;show bindC kindOf ((p,w) :: P.zip vs) m p=_;unfold bindC;rw [A05 fun v hv=>(List.nodup_cons.mp nd).1 (List.of_mem_zip hv).1,if_neg hk];simp
  | p :: P,w :: vs,i + 1,m,nd,h1,h2,hk=>by
    show bindC kindOf ((p,w) :: P.zip vs) m x=_;unfold bindC;exact A06 (i:=i) (List.nodup_cons.mp nd).2 (by simpa using h1) (by simpa using h2) hk
def start (N:List Str) (vs:List V):St:=vs.map some++List.replicate (N.length - vs.length) none
def cxOf (CX:CXT) (P:Program) (w:World) (K:PySem.W.Frag) (mg:Str->Option Value) (base:Heap) (N:List Str) (qual:Str) (scope:Scope) (f:Addr) (cd:Value) (A:Around) (outer:List Env) (s:Shared) (H:Hp) (E:XK):Cx where
  prog:=P
  w:=w
  K:=K
  mg:=mg
  base:=base
  A:=A.deeper (envOfC qual scope s.heap.objs.size f cd)
  N:=N
  s₀:=s
  H₀:=H
  env:=envOfC qual scope s.heap.objs.size f cd
  outer:=outer
  stack:=envOfC qual scope s.heap.objs.size f cd :: outer
  ex:=[]
  calm:=true
  fn:=fun _=>true
  pn:=[]
  xe:=fun e s'=>wpAny (model P w) (A.deeper (envOfC qual scope s.heap.objs.size f cd)) (leaving (envOfC qual scope s.heap.objs.size f cd) e) (fun _ s''=>CX outer H s E e s'') (fun e' s''=>CX outer H s E e' s'') s'
theorem A23 {sc:Scope} {n:Nat} {x:Str} (h:sc.names.lookup x=some .cell):∃ c,(cellsFrom n sc.names []).lookup x=some c:=by
  have q:=PySem.W.cellsFrom_some sc.names n [] (.inl h);exact Option.isSome_iff_exists.mp q
theorem A6d {CX:CXT} {P:Program} {w:World} {K:PySem.W.Frag} {mg:Str->Option Value} {base:Heap} {N ps:List Str} {qual:Str} {scope:Scope} {f:Addr} {cd:Value} {A:Around} {outer:List Env} {s s1:Shared} {H:Hp} {E:XK} {us:List Value} {vs:List V}
    (S:FnScope N ps scope) (hd:A.handled=none) (e0:Env0 P w K mg base A outer s H) (hl:vs.length=ps.length) (r:Vals vs us)
    (x:InCallC s s.heap.objs.size (bindL (envOfC qual scope s.heap.objs.size f cd).kindOf (ps.zip us) fun _=>none) (cellsFrom (s.heap.objs.size + 1) scope.names []) (bindC (envOfC qual scope s.heap.objs.size f cd).kindOf (ps.zip us) fun _=>none) s1) :
    Inv (cxOf CX P w K mg base N qual scope f cd A outer s H E) [] (start N vs) H s1:=by
  have hpl:ps.length<=N.length:=by have:=congrArg List.length S.pre; rw [List.length_take] at this; omega
  obtain ⟨h1,tk,rfl,hk⟩:=x.done;have noA:∀ b:Addr,b ∉ (cxOf CX P w K mg base N qual scope f cd A outer s H E).ex:=fun b z=>absurd (show b ∈ ([]:List Addr) from z) (by simp);refine ⟨⟨e0.mod,S.kind,rfl,rfl,Zv _,fun y z c h1 h2=>?_,fun y hy=>?_,fun y c _ h=>?_,fun _=>hd,Around.frames_deeper e0.frames,.inr ⟨rfl,rfl⟩,fun b z=>absurd z (noA b),e0.bs,e0.bsz,fun b _ _=>noA b,fun b z=>absurd z (noA b),e0.funs,e0.frf⟩,
    rfl,e0.bare,Un.kept hk,⟨_,x.toInCall.ns,fun i y v h1 h2 h3=>?_⟩,fun y c h=>⟨_,x.cell y c h⟩,e0.hok.fresh (Zv _),fun y c h=>?_,fun p hp=>absurd (show p ∈ ([]:List (Addr × Obj)) from hp) (by simp),e0.hok.kept hk,?_⟩
  · exact name_of_addr x.apart (PySem.mem_of_lookup h1) (PySem.mem_of_lookup h2)
  · have hy:scope.names.lookup y=some .cell\/scope.names.lookup y=some .free:=hy
    rcases hy with hy | hy
    · exact A23 hy
    · exact absurd rfl (S.nofree _ (PySem.mem_of_lookup hy))
  · exact Nat.le_of_lt (x.above y c (PySem.mem_of_lookup h))
  · have hi:i < vs.length:=by
      unfold start at h2;by_cases hi:i < vs.length
      · exact hi
      · rw [List.getElem?_append_right (by simpa using hi)] at h2
        rw [List.getElem?_replicate] at h2;split at h2 <;> cases h2
    have ha:vs[i]?=some v:=by
      unfold start at h2;rw [List.getElem?_append_left (by simpa using hi),Zh] at h2;cases e:vs[i]? with
      | none=>rw [e] at h2; cases h2
      | some a=>rw [e] at h2; cases h2; rfl
    obtain ⟨u,hu,rv⟩:=r.get ha;have hp:ps[i]?=some y:=by
      rw [<- S.pre,List.getElem?_take_of_lt (by omega)]; exact h1
    have ndP:ps.Nodup:=by rw [<- S.pre]; exact S.nd.sublist (List.take_sublist _ _)
    refine ⟨u,rv,?_⟩;rcases S.par y (Zm hp) with k | k
    · exact .inl ⟨k,A04 ndP hp hu k⟩
    · obtain ⟨c,e⟩:=A23 (n:=s.heap.objs.size + 1) k
      refine .inr ⟨.inl k,c,e,?_⟩;have q:=x.cell y c e;rw [A06 ndP hp hu (by show scope.names.lookup y≠_; rw [k]; decide)] at q;exact q
  · exact e0.hok.fresh (Nat.le_of_lt (x.above y c (PySem.mem_of_lookup h)))
  · unfold start
    show _=N.length;rw [Ze,Zl,List.length_replicate];omega
theorem C3h {CX:CXT} {P:Program} {w:World} {K:PySem.W.Frag} {mg:Str->Option Value} {base:Heap} {k:Nat} {f:Addr} {name qual:Str} {params:Arguments} {body:List Stmt} {scope:Scope} {dV kV doc pm cdv ct oc:Value} {an od:Option Addr}
    {osl:Array (Option Value)} {N ps:List Str} {sp:Sp} (lk:K.lookup f=some ⟨oc,od,.func (PySem.W.fnOf name qual params body scope dV kV doc pm an cdv ct),osl⟩) (hcd:PySem.W.codeIn K cdv qual=true) (S:FnScope N ps scope)
    (len:∀ vs H Q E,sp vs H Q E->vs.length=ps.length)
    (hbody:∀ (A:Around) (outer:List Env) (s:Shared) (H:Hp) (vs:List V) (Q:VK) (E:XK),Room k (A.deeper (envOfC qual scope s.heap.objs.size f cdv))->sp vs H Q E ->
      ∃ t,PSs (cxOf CX P w K mg base N qual scope f cdv A outer s H E) body t/\t { nx:=fun _ H'=>Q .non H',rt:=Q } (start N vs) H) :
    FnOk P w K mg base CX (k + 1) f (PySem.W.fnOf name qual params body scope dV kV doc pm an cdv ct) ps sp:=by
  refine ⟨len,fun A outer s H args us vs Q E hr e0 hb r hsp=>?_⟩;have hl:=len _ _ _ _ hsp;have KX:K.In s.heap:=e0.mod.kin.keeps fun b o e=>(e0.bs b o e).1;have lim:s.heap.NoLimit:=e0.mod.nolimit.keeps fun b o e=>(e0.bs b o e).1;have hkind:∀ y ∈ ps.zip us,scope.names.lookup y.1=some .local\/(scope.names.lookup y.1=some .cell/\((cellsFrom (s.heap.objs.size + 1) scope.names []).lookup y.1).isSome=true):=fun ⟨n,v⟩ hy=>by
    rcases S.par n (List.of_mem_zip hy).1 with q | q
    · exact .inl q
    · exact .inr ⟨q,PySem.W.cellsFrom_some _ _ _ (.inl q)⟩
  refine codeAny_call_function hr.depth (KX _ _ lk) rfl S.co S.gen rfl (PySem.W.codeRec_of KX hcd) (hb _ _ _ _ ?_);refine wpAny_newFunctionEnv_cells S.kind hkind fun env he s1 x=>?_;subst he;refine ⟨lim.keeps x.toInCall.keep,codeAny_func ?_⟩;obtain ⟨t,ht,hq⟩:=hbody A outer s H vs Q E (hr.deeper _) hsp;have I:Inv (cxOf CX P w K mg base N qual scope f cdv A outer s H E) [] (start N vs) H s1:=A6d S hr.hd e0 hl r x;refine wpAny_mono (ht [] s1 (start N vs) H _ I hq) (fun fl s' hs=>?_) fun e s' hs=>hs;have fin:∀ {σ':St} {H':Hp} {v:V} {u:Value},Inv (cxOf CX P w K mg base N qual scope f cdv A outer s H E) [] σ' H' s'->RelV v u->Q v H'->CE outer P w H s Q u s' :=
    fun {σ' H' v u} J rv q=>⟨v,H',J.os,J.bare,J.base,J.hok,rv,q⟩
  cases fl with
  | ret u =>
    obtain ⟨v,σ',H',J,rv,q⟩:=hs;exact fin J rv q
  | next =>
    obtain ⟨σ',H',J,q⟩:=hs;exact fin (v:=V.non) (u:=Value.none) J rfl q
  | brk =>
    obtain ⟨_,_,_,q⟩:=hs;exact False.elim q
  | cont =>
    obtain ⟨_,_,_,q⟩:=hs;exact False.elim q
end L2
namespace L2
open PySem PySem.Spec PyProof.Rows
section
variable {X:Cx} {x:Str} {p pos:Pos} {e:Expr} {es:List Expr} {t:TA} {id T:String} {r:List V->Hp->VK->Prop}
def tCB (r:List V->Hp->VK->Prop) (t:TA):TE:=fun σ H Q=>t σ H fun vs H1=>r vs H1 Q
theorem A2k (hc:CallR X (.builtin id) r) (hg:Gl X x) (hm:X.mg x=none) (hv:bootBuiltins x=some (.builtin id)) (ha:PA X (e :: es) t) (hn:x≠"__name__":=by decide) (hdb:(x == ("__debug__":Str))=false:=by decide)
    (he:starEach (e :: es) X.env=(false,eval e X.env) :: starEach es X.env:=by rfl) (hpl:(backTo pos (starEach es X.env)).any (·.1)=false:=by rfl):PE X (.Call (.Name x p) (e :: es) [] pos) (tCB r t):=by
  intro pins s σ H Q I h;refine wpAny_Call_Name_kw (Q6 I hg hm hv ?_ hn hdb);exact PyProof.Rows.callWith_builtin1 (thn (ha pos pins s σ H _ I h) fun us s1 ⟨vs,H1,I1,r1,q1⟩=>hc pins s1 σ H1 vs us Q I1 r1 q1) he hpl
theorem A0b (hc:CallR X (.type T) r) (hg:Gl X x) (hm:X.mg x=none) (hv:bootBuiltins x=some (.type T)) (ha:PA X (e :: es) t) (hn:x≠"__name__":=by decide) (hdb:(x == ("__debug__":Str))=false:=by decide)
    (he:starEach (e :: es) X.env=(false,eval e X.env) :: starEach es X.env:=by rfl) (hpl:(backTo pos (starEach es X.env)).any (·.1)=false:=by rfl):PE X (.Call (.Name x p) (e :: es) [] pos) (tCB r t):=by
  intro pins s σ H Q I h;refine wpAny_Call_Name_kw (Q6 I hg hm hv ?_ hn hdb);exact PyProof.Rows.callWith_type1 (thn (ha pos pins s σ H _ I h) fun us s1 ⟨vs,H1,I1,r1,q1⟩=>hc pins s1 σ H1 vs us Q I1 r1 q1) he hpl
end
end L2
namespace HT
open PySem PyProof.Rows
section
open PySem.SeqAt
open PySem.AutoSeq1 (wpAny_loadPart')
open PySem.MeetsSeq PySem.MeetsSeq2 PySem.MeetsSeq3
end
section
variable {prog:Program} {w:World} {A:Around} {E:Value->Shared->Prop} {s:Shared}
def sIx (n d:Nat):Option Int->Nat
  | none=>d
  | some v=>if v < 0 then (v + (n:Int)).toNat else min v.toNat n
theorem sIx_none (n d:Nat):sIx n d none=d:=rfl
theorem sIx_nat (n d k:Nat):sIx n d (some (k:Int))=min k n:=by
  show (if (k:Int) < 0 then ((k:Int) + (n:Int)).toNat else min (k:Int).toNat n)=min k n;rw [if_neg (by omega),Int.toNat_natCast]
end
end HT
namespace L2
open PySem PySem.Spec PyProof.Rows
abbrev TO:=St->Hp->(Option Int->Hp->Prop)->Prop
def PO (X:Cx) (e:Option Expr) (t:TO):Prop :=
  ∀ (pins:List (Addr × Obj)) (s:Shared) (σ:St) (H:Hp) (Q:Option Int->Hp->Prop),Inv X pins σ H s->t σ H Q ->
    wpAny (model X.prog X.w) X.A (evalPart e X.env) (fun u s'=>∃ o H',Inv X pins σ H' s'/\IsPart u o/\Q o H') X.xe s
def A1a:TO:=fun _ H Q=>Q none H
def B1a (t:TE):TO:=fun σ H Q=>t σ H fun x H1=>∃ i,x=.int i/\Q (some i) H1
section
variable {X:Cx} {e:Expr} {te:TE} {lo hi:Option Expr} {tl th:TO} {pos p2:Pos}
theorem B17:PO X none A1a:=by
  intro pins s σ H Q I h;rw [evalPart_none];exact wpAny_pure ⟨none,H,I,.none,h⟩
theorem B16 (h:PE X e te):PO X (some e) (B1a te):=by
  intro pins s σ H Q I hw;rw [evalPart_some];refine thn (h pins s σ H _ I hw) fun u s1 ⟨x,H1,I1,r1,q1⟩=>?_;obtain ⟨i,rfl,q⟩:=q1;obtain ⟨t,rfl⟩:=r1;exact ⟨some i,H1,I1,.int i t,q⟩
def SlR (X:Cx) (r:V->Option Int->Option Int->Hp->VK->Prop):Prop :=
  ∀ (pins:List (Addr × Obj)) (s:Shared) (σ:St) (H:Hp) (x:V) (v vl vu:Value) (lo hi:Option Int) (sl:Addr) (Q:VK),Inv X pins σ H s->RelV x v->s.heap.IsSliceOf sl vl vu .none->IsPart vl lo->IsPart vu hi->r x lo hi H Q ->
    ∃ T id,typeLookup (.type T) "__getitem__"=pure (some (.builtin id))/\s.TypeIs v T/\wpAny (model X.prog X.w) X.A (getItem v (.ref sl)) (EP X pins σ Q) X.xe s
def tSl (r:V->Option Int->Option Int->Hp->VK->Prop) (te:TE) (tl th:TO):TE:=fun σ H Q=>te σ H fun x H1=>tl σ H1 fun l H2=>th σ H2 fun u H3=>r x l u H3 Q
theorem A8a {r:V->Option Int->Option Int->Hp->VK->Prop} (hr:SlR X r) (he:PE X e te) (hl:PO X lo tl) (hu:PO X hi th):PE X (.Subscript e (.Slice lo hi none p2) pos) (tSl r te tl th):=by
  intro pins s σ H Q I h;refine Subscript_ (thn (he pins s σ H _ I h) fun v s1 ⟨x,H1,I1,r1,q1⟩=>?_);refine wpAny_Slice (thn (hl pins s1 σ H1 _ I1 q1) fun vl s2 ⟨l,H2,I2,pl,q2⟩=>thn (hu pins s2 σ H2 _ I2 q2) fun vu s3 ⟨u,H3,I3,pu,q3⟩=>?_);rw [evalPart_none];refine wpAny_pure ?_;have I4:Inv X pins σ H3 { s3 with heap:=s3.heap.push { cls:=.type "slice",data:=.fields #[vl,vu,.none] } }:=I3.kept (t':=s3.toks) fun b ob q=>Heap.get?_push_of_some _ q;obtain ⟨T,id,hT,ht,hg⟩:=hr pins { s3 with heap:=s3.heap.push { cls:=.type "slice",data:=.fields #[vl,vu,.none] } } σ H3 x v vl vu l u s3.heap.objs.size Q I4 r1 (Heap.IsSliceOf.new ..) pl pu q3;show wpAny (model X.prog X.w) X.A (subscriptTail e (.Slice lo hi none p2) v (.ref s3.heap.objs.size)) (EP X pins σ Q) X.xe { s3 with heap:=s3.heap.push { cls:=.type "slice",data:=.fields #[vl,vu,.none] } };exact tail_any (ops:=[.ref s3.heap.objs.size,v]) ht hT hg (by with_unfolding_all rfl)
def cutV (xs:List V) (lo hi:Option Int):List V:=(xs.drop (HT.sIx xs.length 0 lo)).take (HT.sIx xs.length xs.length hi - HT.sIx xs.length 0 lo)
theorem A1r (xs:List V) (lo hi:Option Int):(cutV xs lo hi).length<=xs.length:=by
  unfold cutV;rw [List.length_take,List.length_drop];omega
theorem Vals.nil_iff {xs:List V} {us:List Value} (r:Vals xs us):us=[] ↔ xs=[]:=by
  cases r with
  | nil=>simp
  | cons _ _=>simp
end
end L2
namespace L2
open PySem PySem.Spec PyProof.Rows
def ixN (n:Nat) (i:Int):Option Nat:=if 0<=i then (if i < n then some i.toNat else none) else if -(n:Int)<=i then some (i + n).toNat else none
def atI {α:Type} (xs:List α) (i:Int):Option α:=(ixN xs.length i).bind fun j=>xs[j]?
theorem A59 {n:Nat} {i:Int} {j:Nat} (h:ixN n i=some j):seqIndex? i n=some j/\j < n/\-(n:Int)<=i/\i < n:=by
  unfold ixN at h;by_cases h0:0<=i
  · rw [if_pos h0] at h
    by_cases h1:i < n
    · rw [if_pos h1] at h
      have e:i.toNat=j:=Zj h;exact ⟨by rw [seqIndex_of h0 h1,e],by omega,by omega,h1⟩
    · rw [if_neg h1] at h; cases h
  · rw [if_neg h0] at h
    by_cases h1:-(n:Int)<=i
    · rw [if_pos h1] at h
      have e:(i + n).toNat=j:=Zj h;exact ⟨by rw [seqIndex_neg (by omega) h1,e],by omega,h1,by omega⟩
    · rw [if_neg h1] at h; cases h
theorem A1x {α:Type} {xs:List α} {i:Int} {v:α} (h:atI xs i=some v):∃ j,seqIndex? i xs.length=some j/\xs[j]?=some v/\j < xs.length/\-(xs.length:Int)<=i/\i < xs.length:=by
  unfold atI at h;cases e:ixN xs.length i with
  | none=>rw [e] at h; cases h
  | some j =>
    rw [e] at h;obtain ⟨h1,h2,h3,h4⟩:=A59 e;exact ⟨j,h1,h,h2,h3,h4⟩
theorem F5 {α:Type} {xs:List α} {j:Nat} {v:α} (h:xs[j]?=some v):atI xs (j:Int)=some v:=by
  have hj:j < xs.length:=(Zs h).1;have e:ixN xs.length (j:Int)=some j:=by
    unfold ixN;rw [if_pos (by omega),if_pos (by omega)]; simp
  unfold atI; rw [e]; exact h
def A1y (b:Expr):Prop:=∀ o i,subscripted b false o i=operate [o,i] (getItem o i)
def IxR (X:Cx) (r:R2):Prop :=
  ∀ (value slice:Expr) (pins:List (Addr × Obj)) (s:Shared) (σ:St) (H:Hp) (x y:V) (v u:Value) (Q:VK),Inv X pins σ H s->RelV x v->RelV y u->r x y H Q ->
    subscripted slice false v u=operate [v,u] (getItem v u)->wpAny (model X.prog X.w) X.A (subscriptTail value slice v u) (EP X pins σ Q) X.xe s
def MtR (X:Cx) (id:String) (r:V->List V->Hp->VK->Prop):Prop :=
  ∀ (pins:List (Addr × Obj)) (s:Shared) (σ:St) (H:Hp) (x:V) (xs:List V) (v:Value) (us:List Value) (Q:VK),Inv X pins σ H s->RelV x v->Vals xs us->r x xs H Q ->
    wpAny (model X.prog X.w) X.A (call (.builtin id) (v :: us)) (EP X pins σ Q) X.xe s
section
variable {X:Cx} {a b:Expr} {ta tb:TE} {pos:Pos}
theorem IxR.or {r r':R2} (h:IxR X r) (h':IxR X r'):IxR X (fun x y H Q=>r x y H Q\/r' x y H Q):=by
  intro value slice pins s σ H x y v u Q I rx ry q hs;rcases q with q | q
  · exact h value slice pins s σ H x y v u Q I rx ry q hs
  · exact h' value slice pins s σ H x y v u Q I rx ry q hs
theorem W6 {r:R2} (hr:IxR X r) (ha:PE X a ta) (hb:PE X b tb) (hs:A1y b):PE X (.Subscript a b pos) (tOp r ta tb):=by
  intro pins s σ H Q I h;exact Subscript_ (binT ha hb I h fun v u s2 x y H2 I2 rx ry q=>hr a b pins s2 σ H2 x y v u Q I2 rx ry q (hs _ _))
def rIxL (K:PySem.W.Frag):R2:=fun x y H Q=>∃ p xs i v,x=.ref p/\y=.int i/\SqL K H p xs/\atI xs i=some v/\Q v H
def rIxT (K:PySem.W.Frag):R2:=fun x y H Q=>∃ p xs i v,x=.ref p/\y=.int i/\SqT K H p xs/\atI xs i=some v/\Q v H
def rIxS:R2:=fun x y H Q=>∃ z i c,x=.str z/\y=.int i/\z.length<=sizeLine/\atI z.cps.toList i=some c/\Q (.str ⟨#[c]⟩) H
theorem ix_list:IxR X (rIxL X.K):=by
  intro value slice pins s σ H x y v u Q I rx ry h hs;obtain ⟨p,xs,i,z,rfl,rfl,hq,he,q⟩:=h;cases rx;obtain ⟨t,rfl⟩:=ry;obtain ⟨its,r,pl,hz⟩:=I.list hq;obtain ⟨j,h1,h2,h3,h4,h5⟩:=A1x he;obtain ⟨w,ew,rw'⟩:=r.get h2;have hl:=r.length;have hn:=V4;have fin:EP X pins σ Q w s:=⟨z,H,I,rw',q⟩;by_cases h0:0<=i
  · have hj:i.toNat=j:=by
      rw [seqIndex_of h0 h5] at h1;exact Zj h1
    exact item_listR pl.isList h0 (by omega) (by rw [hj]; simpa using ew) fin hs
  · have hj:(i + (its.toArray.size:Int)).toNat=j:=by
      rw [seqIndex_neg (by omega) h4] at h1;rw [List.size_toArray,<- hl];exact Zj h1
    exact subscriptTail_builtinR (x:=w) pl.isList.typeIs slot_list_getitem.lookup
      (wpAny_getItem_list_neg (Q:=fun r s'=>r=w/\EP X pins σ Q r s') pl.isList (by omega) (by rw [List.size_toArray] <;> omega) (by omega) (by rw [hj]; simpa using ew) ⟨rfl,fin⟩) hs
theorem ix_tup:IxR X (rIxT X.K):=by
  intro value slice pins s σ H x y v u Q I rx ry h hs;obtain ⟨p,xs,i,z,rfl,rfl,hq,he,q⟩:=h;cases rx;obtain ⟨t,rfl⟩:=ry;obtain ⟨its,r,pl,hz⟩:=I.tuple hq;obtain ⟨j,h1,h2,h3,h4,h5⟩:=A1x he;obtain ⟨w,ew,rw'⟩:=r.get h2;have hl:=r.length;have hn:=V4;have fin:EP X pins σ Q w s:=⟨z,H,I,rw',q⟩;exact subscriptTail_builtinR (x:=w) pl.typeIs slot_tuple_getitem.lookup
    (getItem_tuple (j:=j) (Q:=fun r s'=>r=w/\EP X pins σ Q r s') pl (by omega) (by omega) (by rw [List.size_toArray,<- hl]; exact h1) (by simpa using ew) ⟨rfl,fin⟩) hs
theorem C00:IxR X rIxS:=by
  intro value slice pins s σ H x y v u Q I rx ry h hs;obtain ⟨z,i,c,rfl,rfl,hz,he,q⟩:=h;obtain ⟨t,rfl⟩:=rx;obtain ⟨t',rfl⟩:=ry;obtain ⟨j,h1,h2,h3,h4,h5⟩:=A1x he;have hl:z.cps.toList.length=z.length:=by simp [Str.length]
  rw [hl] at h1 h4 h5;have hn:=V4;exact tail_any (typeIs_str s z t) slot_str_getitem.lookup (getItem_str (c:=c) (by
    have e1:decide (i < -(2 ^ 63:Int))=false:=Zd (by omega);have e2:decide (i ≥ 2 ^ 63)=false:=Zd (by omega);rw [e1,e2,Bool.or_false]) (by rw [h1]; simpa using h2) ⟨.str ⟨#[c]⟩,H,I.tok _,⟨_,rfl⟩,q⟩) hs
def rIx (K:PySem.W.Frag):R2:=fun x y H Q=>rIxL K x y H Q\/rIxT K x y H Q\/rIxS x y H Q
theorem C01:IxR X (rIx X.K):=ix_list.or (ix_tup.or C00)
theorem A3y (its:List Value) (n j:Nat) (u:Value):Obj.mapSeq (·.setIfInBounds j u) { cls:=.type "list",data:=.seq its.toArray n }={ cls:=.type "list",data:=.seq (its.set j u).toArray n }:=by
  simp [Obj.mapSeq]
theorem Inv.lst {pins:List (Addr × Obj)} {σ:St} {H:Hp} {s:Shared} {p:Addr} {xs:List V} (I:Inv X pins σ H s) (h:H p=some (.lst xs)) :
    ∃ (its:List Value) (n:Nat),Vals xs its/\s.heap.get? p=some { cls:=.type "list",data:=.seq its.toArray n }/\xs.length<=sizeLine:=by
  obtain ⟨z,its,n,r,e⟩:=I.hok p _ h;exact ⟨its,n,r,e,z⟩
theorem Inv.lstUpd {pins:List (Addr × Obj)} {σ:St} {H:Hp} {s:Shared} {p:Addr} {xs ys:List V} {its its':List Value} {n n':Nat} {f:Obj->Obj} (I:Inv X pins σ H s) (h:H p=some (.lst xs))
    (ho:s.heap.get? p=some { cls:=.type "list",data:=.seq its.toArray n }) (hf:f { cls:=.type "list",data:=.seq its.toArray n }={ cls:=.type "list",data:=.seq its'.toArray n' }) (r:Vals ys its') (hz:ys.length<=sizeLine) (t:Nat) :
    Inv X pins σ (upd H p (.lst ys)) { s with heap:=s.heap.update p f,toks:=t }:=by
  have e:(s.heap.update p f).get? p=some { cls:=.type "list",data:=.seq its'.toArray n' }:=by
    rw [Heap.get?_update_self f ho (by rw [hf] <;> rfl),hf]
  refine I.write (x:=p) (e:=p) (by rw [h]; trivial) (.inl rfl) (fun b u hb q=>(Heap.get?_update_other _ _ (Ne.symm hb)).trans q) ⟨_,e⟩ ?_;exact ⟨hz,its',n',r,e⟩
def B62:V->V->V->Hp->(Hp->Prop)->Prop:=fun o i v H Q=>∃ p xs k j,o=.ref p/\i=.int k/\H p=some (.lst xs)/\ixN xs.length k=some j/\Q (upd H p (.lst (xs.set j v)))
theorem N3:PSet X B62:=by
  intro pins s σ H o i v ov iv u Q I ro ri rv h;obtain ⟨p,xs,k,j,rfl,rfl,hp,hj,q⟩:=h;cases ro;obtain ⟨t,rfl⟩:=ri;obtain ⟨its,n,r,ho,hz⟩:=I.lst hp;obtain ⟨h1,h2,h3,h4⟩:=A59 hj;have hl:=r.length;have hn:=V4;have I':Inv X pins σ (upd H p (.lst (xs.set j v))) { s with heap:=s.heap.update p (Obj.mapSeq (·.setIfInBounds j u)) } :=
    I.lstUpd hp ho (A3y its n j u) (r.set rv j) (by rw [List.length_set]; exact hz) s.toks
  by_cases h0:0<=k
  · have hk:k.toNat=j:=by
      rw [seqIndex_of h0 h4] at h1;exact Zj h1
    exact PySem.W.ki_setAt ho h0 (by omega) (by rw [List.size_toArray,<- hl]; exact h4) (by rw [hk]; exact ⟨_,I',q⟩)
  · have hk:(k + (its.toArray.size:Int)).toNat=j:=by
      rw [seqIndex_neg (by omega) h3] at h1;rw [List.size_toArray,<- hl];exact Zj h1
    exact PySem.W.ki_setBack ho (by omega) (by rw [List.size_toArray,<- hl]; exact h3) (by omega) (by rw [hk]; exact ⟨_,I',q⟩)
theorem Y9 (lo hi:Option Int) (n:Nat):(sliceBounds lo hi none n).1=((HT.sIx n 0 lo:Nat):Int)/\(sliceBounds lo hi none n).2.1=((HT.sIx n n hi:Nat):Int)/\(sliceBounds lo hi none n).2.2=1:=by
  refine ⟨?_,?_,rfl⟩
  · cases lo with
    | none=>simp [sliceBounds,HT.sIx]
    | some i =>
      simp only [sliceBounds,HT.sIx,Option.getD_none,show (1:Int) > 0 by decide,if_true];by_cases h:i < 0
      · simp only [h,if_true] <;> omega
      · simp only [h,if_false] <;> omega
  · cases hi with
    | none=>simp [sliceBounds,HT.sIx]
    | some i =>
      simp only [sliceBounds,HT.sIx,Option.getD_none,show (1:Int) > 0 by decide,if_true];by_cases h:i < 0
      · simp only [h,if_true] <;> omega
      · simp only [h,if_false] <;> omega
theorem W0 (its:List Value) (lo hi:Option Int):slicePick its.toArray lo hi none=((its.drop (HT.sIx its.length 0 lo)).take (HT.sIx its.length its.length hi - HT.sIx its.length 0 lo)).toArray:=by
  obtain ⟨h1,h2,h3⟩:=Y9 lo hi its.toArray.size;unfold slicePick;rw [h1,h2,h3];simp only [sliceRange_one,pick_run,List.size_toArray] <;> rfl
def rSlL (K:PySem.W.Frag):V->Option Int->Option Int->Hp->VK->Prop:=fun x lo hi H Q=>∃ a xs,x=.ref a/\SqL K H a xs/\∀ p,H p=none->Q (.ref p) (upd H p (.lst (cutV xs lo hi)))
theorem B1k:SlR X (rSlL X.K):=by
  intro pins s σ H x v vl vu lo hi sl Q I rx hs pl pu h;obtain ⟨a,xs,rfl,hx,q⟩:=h;cases rx;obtain ⟨its,r,ht,hz⟩:=I.list hx;have hlen:=r.length;refine ⟨"list",_,slot_list_getitem.lookup,ht.isList.typeIs,?_⟩;refine wpAny_getItem_list_slice ht.isList hs pl pu .none (by simp) ?_ (by rw [List.size_toArray] <;> omega)
  rw [W0,<- hlen];refine ⟨.ref s.heap.objs.size,_,I.laid (t':=s.toks) (o:=.lst (cutV xs lo hi)) (fun b ob q=>Heap.get?_push_of_some _ q) (Zv _) ?_,rfl,q _ (I.hok.fresh (Zv _))⟩;exact ⟨Zx (A1r xs lo hi) hz,_,0,(r.drop (HT.sIx xs.length 0 lo)).take (HT.sIx xs.length xs.length hi - HT.sIx xs.length 0 lo),Heap.get?_push_size _ rfl⟩
theorem call_len_seq:CallR X (.builtin "len") (fun xs H Q=>∃ p ys,xs=[.ref p]/\(SqL X.K H p ys\/SqT X.K H p ys)/\Q (.int ys.length) H):=by
  intro pins s σ H xs us Q I r h;obtain ⟨p,ys,rfl,hq,q⟩:=h;obtain ⟨u,rfl,rx⟩:=A09 r;cases rx;have hn:=V4;rcases hq with hq | hq
  · obtain ⟨its,r',pl,hz⟩:=I.list hq
    have hlen:=r'.length;exact Calls.call_len_list pl.isList (by simp only [List.size_toArray] <;> omega) ⟨.int ys.length,H,I.tok _,⟨s.toks + 1,by rw [List.size_toArray,hlen]⟩,q⟩
  · obtain ⟨its,r',pl,hz⟩:=I.tuple hq
    have hlen:=r'.length;exact len_tuple pl (by simp only [List.size_toArray] <;> omega) ⟨.int ys.length,H,I.tok _,⟨s.toks + 1,by rw [List.size_toArray,hlen]⟩,q⟩
theorem A0y:CallR X (.builtin "len") (fun xs H Q=>∃ z,xs=[.str z]/\z.length<=sizeLine/\Q (.int z.length) H):=by
  intro pins s σ H xs us Q I r h;obtain ⟨z,rfl,hz,q⟩:=h;obtain ⟨u,rfl,t,rfl⟩:=A09 r;have hn:=V4;exact len_str (by omega) ⟨.int z.length,H,I.tok _,⟨_,rfl⟩,q⟩
theorem CallR.or {f:Value} {r r':List V->Hp->VK->Prop} (h:CallR X f r) (h':CallR X f r'):CallR X f (fun xs H Q=>r xs H Q\/r' xs H Q):=by
  intro pins s σ H xs us Q I rs q;rcases q with q | q
  · exact h pins s σ H xs us Q I rs q
  · exact h' pins s σ H xs us Q I rs q
theorem A0x:CallR X (.type "list") (fun xs H Q=>∃ p ys,xs=[.ref p]/\(SqL X.K H p ys\/SqT X.K H p ys)/\∀ l,H l=none->Q (.ref l) (upd H l (.lst ys))):=by
  intro pins s σ H xs us Q I r h;obtain ⟨p,ys,rfl,hq,q⟩:=h;obtain ⟨u,rfl,rx⟩:=A09 r;cases rx;have fin:∀ (its:List Value),Vals ys its->ys.length<=sizeLine->∀ (h':Heap) (c':Nat),(∀ b o',s.heap.get? b=some o'->h'.get? b=some o') ->
      h'.get? s.heap.objs.size=some { cls:=.type "list",dict:=none,data:=.seq its.toArray c',slots:=#[] }->EP X pins σ Q (.ref s.heap.objs.size) { s with heap:=h' }:=fun its r' hz h' c' kp e =>
    ⟨.ref s.heap.objs.size,_,I.laid (t':=s.toks) kp (Zv _) (show ObjOk X.prog X.w _ h' _ (.lst ys) from ⟨hz,its,c',r',e⟩),rfl,q _ (I.hok.fresh (Zv _))⟩
  rcases hq with hq | hq
  · obtain ⟨its,r',pl,hz⟩:=I.list hq
    have hlen:=r'.length;obtain ⟨o,ho,hc,n,hd⟩:=pl.isList;exact call_list_seq p (.inl rfl) ho hc hd (fun h' c' kp e=>fin its r' hz h' c' kp e) (by simp only [List.size_toArray] <;> omega)
  · obtain ⟨its,r',pl,hz⟩:=I.tuple hq
    have hlen:=r'.length;obtain ⟨o,ho,hc,n,hd⟩:=pl;exact call_list_seq p (.inr rfl) ho hc hd (fun h' c' kp e=>fin its r' hz h' c' kp e) (by simp only [List.size_toArray] <;> omega)
def tyV (K:PySem.W.Frag) (T:String) (x:V) (H:Hp):Prop:=match x with
  | .str _=>T="str"
  | .int _=>T="int"
  | .ref p=>(T="list"/\∃ xs,SqL K H p xs)\/(T="tuple"/\∃ o,K.lookup p=some o/\o.cls=.type "tuple"/\o.dict=none) \/
      (T="dict"/\((∃ kvs,H p=some (.dK kvs))\/∃ kvs,H p=some (.dT kvs)))\/(T="set"/\∃ S n,H p=some (.set S n))
  | _=>False
theorem A94 {pins:List (Addr × Obj)} {σ:St} {H:Hp} {s:Shared} {T:String} {x:V} {v:Value} (I:Inv X pins σ H s) (r:RelV x v) (ty:tyV X.K T x H) :
    s.TypeIs v T/\∀ a,v=.ref a->∃ ob,s.heap.get? a=some ob/\ob.dict=none:=by
  cases x with
  | str z =>
    obtain ⟨t,rfl⟩:=r;cases (show T="str" from ty);exact ⟨typeIs_str s z t,fun _ e=>nomatch e⟩
  | int i =>
    obtain ⟨t,rfl⟩:=r;cases (show T="int" from ty);exact ⟨typeIs_int s i t,fun _ e=>nomatch e⟩
  | ref p =>
    cases r;rcases ty with ⟨rfl,xs,hq⟩ | ⟨rfl,o,hk,hc,hd⟩ | ⟨rfl,hk⟩ | ⟨rfl,S,n,hk⟩
    · obtain ⟨its,_,pl,_⟩:=I.list hq
      refine ⟨pl.isList.typeIs,fun a e=>?_⟩;cases e;obtain ⟨o,n,e,c,hd,_⟩:=pl;exact ⟨o,e,hd⟩
    · refine ⟨⟨o,I.kIn p o hk,hc⟩,fun a e=>?_⟩
      cases e;exact ⟨o,I.kIn _ o hk,hd⟩
    · have z:∃ o,s.heap.get? p=some o/\o.ExactDict:=by
        rcases hk with ⟨kvs,hk⟩ | ⟨kvs,hk⟩
        · obtain ⟨_,_,_,_,o,_,_,e,ex,_⟩:=I.hok p _ hk
          exact ⟨o,e,ex⟩
        · obtain ⟨_,_,_,_,o,_,_,e,ex,_⟩:=I.hok p _ hk
          exact ⟨o,e,ex⟩
      obtain ⟨o,e,ex⟩:=z;refine ⟨⟨o,e,ex.1⟩,fun a e2=>?_⟩;cases e2;exact ⟨o,e,ex.2.1⟩
    · obtain ⟨o,_,_,_,e,ex,_⟩:=I.hok p _ hk
      refine ⟨⟨o,e,ex.1⟩,fun a e2=>?_⟩;cases e2;exact ⟨o,e,ex.2.1⟩
  | _=>exact False.elim ty
def tBM0 (K:PySem.W.Frag) (T:String) (r:V->List V->Hp->VK->Prop) (to:TE):TE:=fun σ H Q=>to σ H fun x H1=>tyV K T x H1/\r x [] H1 Q
def tBM (K:PySem.W.Frag) (T:String) (r:V->List V->Hp->VK->Prop) (to:TE) (t:TA):TE:=fun σ H Q=>to σ H fun x H1=>tyV K T x H1/\t σ H1 fun xs H2=>r x xs H2 Q
variable {o e:Expr} {es:List Expr} {to:TE} {t:TA} {name:Str} {apos cpos:Pos} {T id:String} {r:V->List V->Hp->VK->Prop}
theorem B7q (pa:PlainAttrs T) (slot:Slot T name id) (hty:typeOf (.builtin id)=pure (.type "method_descriptor")) (hm:MtR X id r) (ho:PE X o to)
    (hbase:attributeBase o name X.env (eval o X.env)=eval o X.env:=by rfl) (hline:(apos.endLine == cpos.line)=true:=by rfl):PE X (.Call (.Attribute o name apos) [] [] cpos) (tBM0 X.K T r to):=by
  intro pins s σ H Q I h;refine wpAny_Call_method0_late hbase hline (thn (ho pins s σ H _ I h) fun v s1 ⟨x,H1,I1,r1,ty,q1⟩=>?_);obtain ⟨h1,h2⟩:=A94 I1 r1 ty;exact ⟨T,id,pa,slot,hty,h1,h2,Calls.callWith_builtin rfl (PySem.evalArgs_none (hm pins s1 σ H1 x [] v [] Q I1 r1 .nil q1))⟩
theorem C14 (pa:PlainAttrs T) (slot:Slot T name id) (hty:typeOf (.builtin id)=pure (.type "method_descriptor")) (hm:MtR X id r) (ho:PE X o to) (ha:PA X (e :: es) t)
    (hbase:attributeBase o name X.env (eval o X.env)=eval o X.env:=by rfl)
    (hfew:((backTo cpos (starEach (e :: es) X.env)).all (fun x=>!x.1) && (backToKw cpos (keywordEach [] X.env)).all (fun x=>x.1.isSome)
      && decide ((e :: es).length + ([]:List Keyword).length + (if ([]:List Keyword).isEmpty then 0 else 1) < 30))=true:=by rfl)
    (hline:(apos.endLine == cpos.line)=true:=by rfl) (hs:starEach (e :: es) X.env=(false,eval e X.env) :: starEach es X.env:=by rfl) (hplain:(backTo cpos (starEach es X.env)).any (·.1)=false:=by rfl) :
    PE X (.Call (.Attribute o name apos) (e :: es) [] cpos) (tBM X.K T r to t):=by
  intro pins s σ H Q I h;refine wpAny_Call_method_late hbase hfew hline rfl (thn (ho pins s σ H _ I h) fun v s1 ⟨x,H1,I1,r1,ty,q1⟩=>?_);obtain ⟨h1,h2⟩:=A94 I1 r1 ty;refine ⟨T,id,pa,slot,hty,h1,h2,?_⟩;have hA:=ha cpos pins s1 σ H1 _ I1 q1;rw [hs] at hA ⊢;refine Calls.callWith_builtin (by show (false || (backTo cpos (starEach es X.env)).any (·.1))=false; rw [hplain] <;> rfl) (Calls.evalArgs_plain ?_)
  exact thn hA fun us s2 ⟨vs,H2,I2,r2,q2⟩=>hm pins s2 σ H2 x vs v us Q I2 r1 r2 q2
end
end L2
namespace L2
open PySem PySem.Spec PyProof.Rows
def MtM (X:Cx) (id:String) (r:V->List V->Hp->VK->Prop):Prop :=
  ∀ (pins:List (Addr × Obj)) (s:Shared) (σ:St) (H:Hp) (x:V) (xs:List V) (v:Value) (us:List Value) (Q:VK),Inv X pins σ H s->RelV x v->Vals xs us->r x xs H Q ->
    wpAny (model X.prog X.w) X.A (call (.builtin id) (v :: us)) (EP X pins σ Q) X.xe s
theorem Vals.one:∀ {x:V} {us:List Value},Vals [x] us->∃ u,us=[u]/\RelV x u
  | _,_,.cons r .nil=>⟨_,rfl,r⟩
theorem Vals.two:∀ {x y:V} {us:List Value},Vals [x,y] us->∃ u v,us=[u,v]/\RelV x u/\RelV y v
  | _,_,_,.cons r (.cons q .nil)=>⟨_,_,rfl,r,q⟩
theorem Vals.zero:∀ {us:List Value},Vals [] us->us=[]
  | _,.nil=>rfl
theorem Vals.dropLast {xs:List V} {us:List Value} (h:Vals xs us):Vals xs.dropLast us.dropLast:=by
  induction h with
  | nil=>exact .nil
  | cons r t ih =>
    cases t with
    | nil=>exact .nil
    | cons q t'=>exact .cons r ih
theorem Vals.eraseIdx:∀ {xs:List V} {us:List Value} (i:Nat),Vals xs us->Vals (xs.eraseIdx i) (us.eraseIdx i)
  | _,_,_,.nil=>.nil
  | _,_,0,.cons _ t=>t
  | _,_,i + 1,.cons r t=>.cons r (Vals.eraseIdx i t)
theorem Vals.reverse {xs:List V} {us:List Value} (h:Vals xs us):Vals xs.reverse us.reverse:=by
  induction h with
  | nil=>exact .nil
  | cons r t ih=>rw [List.reverse_cons,List.reverse_cons]; exact Vals.append ih (.cons r .nil)
theorem Vals.rep {xs:List V} {us:List Value} (h:Vals xs us):∀ k:Nat,Vals (List.replicate k xs).flatten (List.replicate k us).flatten
  | 0=>.nil
  | k + 1=>by
    rw [List.replicate_succ,List.replicate_succ,List.flatten_cons,List.flatten_cons];exact Vals.append h (Vals.rep h k)
theorem A31 {α:Type} (l:List α):l.eraseIdx (l.length - 1)=l.dropLast:=by
  induction l with
  | nil=>rfl
  | cons a r ih =>
    cases r with
    | nil=>rfl
    | cons b r =>
      have e:(a :: b :: r).length - 1=((b :: r).length - 1) + 1:=by
        have h1:(a :: b :: r).length=r.length + 2:=rfl;have h2:(b :: r).length=r.length + 1:=rfl;omega
      rw [e,List.eraseIdx_cons_succ,ih];all_goals rfl
theorem A0l {α:Type}:∀ (l:List α) (i:Nat),(l.eraseIdx i).length<=l.length
  | [],_=>Zv _
  | _ :: _,0=>Nat.le_succ _
  | _ :: r,i + 1=>Nat.succ_le_succ (A0l r i)
section
variable {X:Cx} {pins:List (Addr × Obj)} {σ:St} {H:Hp} {s:Shared} {l b:Addr} {xs ys zs:List V}
theorem Inv.lset {its its':List Value} {n:Nat} {f:Array Value->Array Value} {t':Nat} (I:Inv X pins σ H s) (hH:H l=some (.lst xs))
    (e:s.heap.get? l=some { cls:=.type "list",data:=.seq its.toArray n }) (hf:f its.toArray=its'.toArray) (hv:Vals ys its') (hz:ys.length<=sizeLine) :
    Inv X pins σ (upd H l (.lst ys)) { s with heap:=s.heap.update l (Obj.mapSeq f),toks:=t' }:=by
  have q:=PySem.IsL.update e f;rw [hf] at q;refine I.write (x:=l) (e:=l) (by rw [hH]; exact trivial) (.inl rfl) (fun b' u hb hu=>(Heap.get?_update_other s.heap (Obj.mapSeq f) (Ne.symm hb)).trans hu) ⟨_,q⟩ ?_;exact ⟨hz,its',_,hv,q⟩
theorem Inv.lnew {its:List Value} {t':Nat} (I:Inv X pins σ H s) (hv:Vals ys its) (hz:ys.length<=sizeLine) :
    Inv X pins σ (upd H s.heap.objs.size (.lst ys)) { s with heap:=s.heap.push { cls:=.type "list",data:=.seq its.toArray },toks:=t' } :=
  I.laid (fun _ _ q=>Heap.get?_push_of_some _ q) (Zv _) ⟨hz,its,0,hv,Heap.get?_push_size _ rfl⟩
theorem Inv.fresh (I:Inv X pins σ H s):H s.heap.objs.size=none:=I.hok.fresh (Zv _)
theorem Inv.lstM (I:Inv X pins σ H s) (hH:H l=some (.lst xs)):xs.length<=sizeLine/\∃ (its:List Value) (n:Nat),Vals xs its/\xs.length=its.length/\s.heap.get? l=some { cls:=.type "list",data:=.seq its.toArray n }:=by
  obtain ⟨z,its,n,r,e⟩:=I.hok l _ hH;exact ⟨z,its,n,r,r.length,e⟩
end
section
variable {X:Cx}
def A1f:V->List V->Hp->VK->Prop:=fun x vs H Q=>∃ l xs y,x=.ref l/\vs=[y]/\H l=some (.lst xs)/\xs.length < sizeLine/\Q .non (upd H l (.lst (xs++[y])))
theorem C8:MtM X "list.append" A1f:=by
  intro pins s σ H x vs v us Q I rx rv h;obtain ⟨l,xs,y,rfl,rfl,hH,hz,q⟩:=h;cases rx;obtain ⟨u,rfl,ru⟩:=rv.one;obtain ⟨z,its,n,r,hl,e⟩:=I.lstM hH;refine call_meets F.slot_list_append ⟨_,e,rfl⟩ F.entry_list_append (F.args_list_append_2 _ _) (PySem.list_append l its.toArray n u (by rw [List.size_toArray]; omega)) ⟨e,?_⟩;refine ⟨.non,_,I.lset (its':=its++[u]) hH e (by simp) (r.append (.cons ru .nil)) ?_,rfl,q⟩;rw [Ze,List.length_singleton];omega
def rPop:V->List V->Hp->VK->Prop:=fun x vs H Q=>∃ l xs y,x=.ref l/\vs=[]/\H l=some (.lst xs)/\xs[xs.length - 1]?=some y/\Q y (upd H l (.lst xs.dropLast))
theorem C3y:MtM X "list.pop" rPop:=by
  intro pins s σ H x vs v us Q I rx rv h;obtain ⟨l,xs,y,rfl,rfl,hH,hy,q⟩:=h;cases rx;have hus:=rv.zero;subst hus;obtain ⟨z,its,n,r,hl,e⟩:=I.lstM hH;obtain ⟨u,hu,ru⟩:=r.get hy;have hy':its.toArray[its.toArray.size - 1]?=some u:=by
    show its.toArray[its.length - 1]?=some u;rw [<- Array.getElem?_toList,<- hl];exact hu
  refine call_meets F.slot_list_pop ⟨_,e,rfl⟩ F.entry_list_pop (F.args_list_pop_1 _) (MeetsSeq.list_pop_last l its.toArray n u hy' (by rw [List.size_toArray]; omega)) ⟨e,?_⟩;refine ⟨y,_,I.lset (its':=its.dropLast) hH e ?_ r.dropLast ?_,ru,q⟩
  · show its.toArray.eraseIdxIfInBounds (its.toArray.size - 1)=its.dropLast.toArray
    rw [List.size_toArray,List.eraseIdxIfInBounds_toArray,A31]
  · rw [List.length_dropLast]
    omega
def A97:V->List V->Hp->VK->Prop:=fun x vs H Q=>∃ l xs i k y,x=.ref l/\vs=[.int i]/\H l=some (.lst xs)/\-(2 ^ 63)<=i/\i < 2 ^ 63/\seqIndex? i xs.length=some k/\xs[k]?=some y/\Q y (upd H l (.lst (xs.eraseIdx k)))
theorem A8v:MtM X "list.pop" A97:=by
  intro pins s σ H x vs v us Q I rx rv h;obtain ⟨l,xs,i,k,y,rfl,rfl,hH,h1,h2,hk,hy,q⟩:=h;cases rx;obtain ⟨u,rfl,ru⟩:=rv.one;obtain ⟨t,rfl⟩:=ru;obtain ⟨z,its,n,r,hl,e⟩:=I.lstM hH;obtain ⟨w,hw,rw'⟩:=r.get hy;refine call_meets F.slot_list_pop ⟨_,e,rfl⟩ F.entry_list_pop (F.args_list_pop_2 _ _)
    (MeetsSeq.list_pop_at l its.toArray n i t k w (fitsIndex_both h1 h2) (by rw [List.size_toArray,<- hl]; exact hk) (by rw [<- Array.getElem?_toList]; exact hw) (by rw [List.size_toArray]; omega)) ⟨e,?_⟩
  refine ⟨y,_,I.lset (its':=its.eraseIdx k) hH e ?_ (r.eraseIdx k) ?_,rw',q⟩
  · show its.toArray.eraseIdxIfInBounds k=(its.eraseIdx k).toArray
    rw [List.eraseIdxIfInBounds_toArray]
  · have:=A0l xs k
    omega
def A4t:V->List V->Hp->VK->Prop:=fun x vs H Q=>∃ l xs,x=.ref l/\vs=[]/\H l=some (.lst xs)/\Q .non (upd H l (.lst []))
theorem A8x:MtM X "list.clear" A4t:=by
  intro pins s σ H x vs v us Q I rx rv h;obtain ⟨l,xs,rfl,rfl,hH,q⟩:=h;cases rx;have hus:=rv.zero;subst hus;obtain ⟨z,its,n,r,hl,e⟩:=I.lstM hH;refine call_meets F.slot_list_clear ⟨_,e,rfl⟩ F.entry_list_clear (F.args_list_clear_1 _) (AutoSeq1.list_clear_list_0 l its.toArray n (by rw [List.size_toArray]; omega)) ⟨e,?_⟩;exact ⟨.non,_,I.lset (its':=[]) (ys:=[]) hH e rfl .nil (Nat.zero_le _),rfl,q⟩
end
section
variable {prog:Program} {w:World} {A:Around} {E:Value->Shared->Prop} {s:Shared}
end
section
variable {X:Cx}
end
end L2
namespace Att
open PySem PySem.W PySem.Calls PyProof.Rows
theorem T5 {P:Params} {h:Heap}:∀ (ns:List Int) (vs:List Value),WellAll P h vs (ns.map WData.int)->IntsAre vs ns:=by
  intro ns;induction ns with
  | nil =>
    intro vs w;rw [List.map_nil] at w;cases w;exact .nil
  | cons n ns ih =>
    intro vs w;rw [List.map_cons] at w;cases w with
    | cons a b =>
      cases a;exact .cons _ _ (ih _ b)
theorem A4p {l:OpenLaw} {n:Nat} (hn:l.most=some n) {P:Params} {h:Heap} {args:List WData} {vals:List Value}
    (hpre:l.row.toRowW.claim.pre args=true) (hwl:WellAll P h vals args) :
    ∃ a vs ns,vals=[Value.ref a]/\args=[WData.list (ns.map WData.int)]/\h.get? a=some { cls:=.type "list",data:=.seq vs.toArray }/\IntsAre vs ns/\ns.length<=n:=by
  have hsh:WShape.hasAll [] args [.list .int]=true:=(pre_splitW hpre).1;have hc:l.pre.holds [] { args:=args }=true:=(pre_splitW hpre).2;obtain ⟨d,r,rfl,h1,h2⟩:=hasAllW_cons hsh;obtain rfl:=hasAllW_nil h2;obtain ⟨xs,rfl,h3⟩:=hasW_list h1;obtain ⟨ns,rfl⟩:=items_int h3;have hlen:ns.length<=n:=by
    unfold OpenLaw.pre at hc;have h4:(WTm.not (.lt (.lit (.int (n:Int))) (.len (.arg 0)))).holds [] { args:=[.list (ns.map .int)] }=true:=by
      have h4:=(holds_andW hc).1;rw [hn] at h4;exact h4
    have h5:=condW_of h4 (w_not (w_lt w_lit (w_len_list (w_arg rfl))));rw [Zl] at h5;refine Nat.le_of_not_lt fun q=>?_;have q':(n:Int) < ((ns.length:Nat):Int):=by omega
    first
      | (rw [Zk q'] at h5; exact absurd h5 (by decide))
      | (simp at h5; omega)
  cases hwl with
  | cons w1 w2 =>
    cases w2;cases w1 with
    | list ho hall=>exact ⟨_,_,ns,rfl,rfl,ho,T5 ns _ hall,hlen⟩
theorem A48 (l:OpenLaw) (args:List WData):l.row.toRowW.claim.post args (.bool true) args=true :=
  postW_of (r:=l.row.toRowW) (X:=(true == true))
    (show WShape.has [] (.bool true) .bool=true by first | rfl | decide | simp [WShape.has,WShape.arms,WShape.armsAll])
    (show (WTm.eq .res (.lit (.bool true))).value [] { args:=args,res:=some (.bool true),after:=args }=some (.bool (true == true)) from w_eq_bool (w_res rfl) w_lit) rfl
theorem attach_call {l:OpenLaw} {n:Nat} {q:Program} {loose:List Str} {XP:(Str->Option Value)->Heap->Prop} {YP:World->Heap->Prop} {d:DefRec}
    (hn:l.most=some n) (hdf:d.params.defaults=[])
    (call:∀ (w:World) (s₀ s₁:Shared) (mg mb:Str->Option Value) (fa:Addr) (o:Obj) (pm cd doc:Value) (a:Addr) (vs:List Value) (ns:List Int),
      Ground q loose [] XP w s₀ mg mb s₁.heap->YP w s₁.heap ->
      s₁.heap.get? fa=some o->o.data=.func (docDef d.name d.params d.body d.scope pm cd doc)->s₁.heap.CodeRec cd d.name->mg d.name=some (.ref fa) ->
      s₁.heap.get? a=some { cls:=.type "list",data:=.seq vs.toArray }->IntsAre vs ns->ns.length<=n->s₁.gens=#[] ->
      codeAny (model l.prog w) callerA (.call (.ref fa) ⟨[.ref a],[]⟩) (fun r s'=>r=.ok (.ret (.bool true))/\OldK s₁.heap s'.heap/\s'.os=s₁.os/\AllBare s'.gens) s₁) :
    WalkO q loose XP YP l.row.toRowW d [] (fun f vs=>PySem.call f vs):=by
  intro w s₀ s₁ mg mb G Y fa o pm cd doc dV kV ho hd hcd hD hmg hg args vals as hpre hlay hrd hwl hlo;obtain rfl:dV=.none:=Dflts.none hD hdf;obtain rfl:kV=.none:=Dflts.noKw hD;obtain ⟨a,vs,ns,rfl,rfl,hobj,hints,hlen⟩:=A4p hn hpre hwl;refine enter_call (codeAny_mono (call w s₀ s₁ mg mb fa o pm cd doc a vs ns G Y ho (fd_plain hd) hcd hmg hobj hints hlen hg) fun r s' hq=>?_);obtain ⟨rfl,h2,h3,h4⟩:=hq;exact ⟨.inl ⟨.bool true,.bool true,[],rfl,fun _=>rfl,.bool true,A48 l _,fun _=>⟨List.Pairwise.nil,fun _ hm=>(nomatch hm)⟩⟩,h2,h3,h4⟩
section
variable {prog:Program} {w:World} {A:Around} {E:Value->Shared->Prop} {s:Shared} {K:Frag}
end
end Att
namespace L2
open PySem PySem.Spec PyProof.Rows
theorem Y1:∀ {vs:List Value} {ns:List Int},IntsAre vs ns->Vals (ns.map V.int) vs
  | _,_,.nil=>.nil
  | _,_,.cons n t h=>.cons ⟨t,rfl⟩ (Y1 h)
def Only (H:Hp):Prop:=∀ b,H b=none\/∃ o xs,H b=some (.frz o (.lst xs))
theorem A83 {P:Program} {w:World} {K:PySem.W.Frag} {mg mb:Str->Option Value} {CX:CXT} {k:Nat} {fa a:Addr} {fd:FuncData} {x:Str} {sp:Sp} {s₁:Shared} {vs:List Value} {ns:List Int}
    (KX:K.In s₁.heap) (hns:s₁.heap.Ns mainGlobals mg) (hb:s₁.heap.Ns builtinsNs mb) (hbb:∀ x:Str,x≠"__name__"->mb x=bootBuiltins x) (hlim:s₁.heap.NoLimit) (hg:s₁.gens=#[])
    (ha:s₁.heap.get? a=some { cls:=.type "list",data:=.seq vs.toArray }) (hi:IntsAre vs ns) (hl:ns.length<=sizeLine) (hr:Room k callerA)
    (F:∀ base:Heap,K.In base->base.Ns mainGlobals mg->FnOk P w K mg base CX k fa fd [x] sp) (hbind:∀ (s:Shared) (u:Value),BindsTo s fd ⟨[u],[]⟩ [(x,u)])
    (hsp:∀ H:Hp,Only H->SqL K H a (ns.map V.int)->sp [.ref a] H (fun v _=>v=.bl true) fun _ _ _=>False)
    (hCX:∀ H e s',CX [] H s₁ (fun _ _ _=>False) e s'->False) :
    codeAny (model P w) callerA (.call (.ref fa) ⟨[.ref a],[]⟩) (fun r s'=>r=.ok (.ret (.bool true))/\OldK s₁.heap s'.heap/\s'.os=s₁.os/\AllBare s'.gens) s₁:=by
  have rv:=Y1 hi;have lenV:=hi.length;have core:∀ H:Hp,Only H->SqL K H a (ns.map V.int)->HOk P w H s₁.heap->(∀ b,H b≠none->b=a)->(H a≠none->K.lookup a=none) ->
      codeAny (model P w) callerA (.call (.ref fa) ⟨[.ref a],[]⟩) (fun r s'=>r=.ok (.ret (.bool true))/\OldK s₁.heap s'.heap/\s'.os=s₁.os/\AllBare s'.gens) s₁:=by
    intro H hO hS hok hA hK;have base_of:∀ {b:Addr} {o:Obj},s₁.heap.get? b=some o->H b=none->(hidT s₁.heap H).get? b=some o:=fun e n=>A9i e n;have noA:∀ {b:Addr} {o:Obj} {es:Array DictEntry} {ep:Nat},s₁.heap.get? b=some o->o.data=.dict es ep->H b=none:=fun {b o es ep} e d=>by
      cases q:H b with
      | none=>rfl
      | some u =>
        have e':b=a:=hA b (by rw [q]; simp);subst e';rw [ha] at e; cases e;have d':Data.seq vs.toArray _=Data.dict es ep:=d;cases d'
    have nsK:∀ {b:Addr} {m:Str->Option Value},s₁.heap.Ns b m->(hidT s₁.heap H).Ns b m:=fun {b m} ⟨o,es,ep,e,d,r⟩=>⟨o,es,ep,base_of e (noA e d),d,r⟩;have hKb:K.In (hidT s₁.heap H):=fun b o e=>base_of (KX b o e) (by
      cases q:H b with
      | none=>rfl
      | some u =>
        have e':b=a:=hA b (by rw [q]; simp);subst e';rw [hK (by rw [q]; simp)] at e; cases e)
    have hM:Mod K mg (hidT s₁.heap H):=⟨hKb,nsK hns,⟨mb,nsK hb,hbb⟩,let ⟨mc,h1,h2⟩:=hlim; ⟨mc,nsK h1,h2⟩⟩;have e0:Env0 P w K mg (hidT s₁.heap H) callerA [] s₁ H:=⟨rfl,hM,fun b o e=>B3q e,Nat.le_of_eq (A6f _ _),trivial,fun b hb=>absurd (show b ∈ ([]:List Addr) from hb) (by simp),hok,.of_eq hg⟩;refine codeAny_mono ((F _ hKb (nsK hns)).run callerA [] s₁ H ⟨[.ref a],[]⟩ [.ref a] [.ref a] _ _ hr e0 (hbind s₁ (.ref a)) (.cons rfl .nil) (hsp H hO hS)) fun r s' h=>?_;cases r with
    | error e=>exact (hCX H e s' h).elim
    | ok fl =>
      cases fl with
      | next=>exact False.elim h
      | brk=>exact False.elim h
      | cont=>exact False.elim h
      | ret u =>
        obtain ⟨v,H',os,bare,un,hok',r',q⟩:=h;have q':v=.bl true:=q;subst q';obtain rfl:u=Value.bool true:=r';refine ⟨rfl,OldK.of_keep fun b o e=>?_,os,bare⟩;cases q:H b with
        | none=>exact un.keep b o e q (by intro z; exact absurd (show b ∈ ([]:List Addr) from z) (by simp)) (by simp)
        | some u =>
          rcases hO b with z | ⟨ob,xs,z⟩
          · rw [q] at z; cases z
          · have z2:=un.frzs b ob _ z
            obtain ⟨e1,_⟩:=hok b _ z;obtain ⟨e2,_⟩:=hok' b _ z2;rw [e] at e1; cases e1;exact e2
  cases hk:K.lookup a with
  | some o =>
    have e:=KX a o hk;rw [ha] at e;cases e;refine core (fun _=>none) (fun _=>.inl rfl) (.inr ⟨_,vs.toArray,_,hk,rfl,rfl,rfl,by rw [List.size_toArray,lenV]; exact hl,by simpa using rv⟩) (fun b u z=>by have z':(none:Option HO)=some u:=z; cases z') (fun b z=>absurd rfl z) fun z=>absurd rfl z
  | none =>
    refine core (fun b=>if b=a then some (.frz { cls:=.type "list",data:=.seq vs.toArray } (.lst (ns.map V.int))) else none) (fun b=>?_) (.inl (.inr ⟨{ cls:=.type "list",data:=.seq vs.toArray },if_pos rfl⟩)) (fun b u z=>?_) (fun b z=>?_) fun _=>hk
    · by_cases hb:b=a
      · exact .inr ⟨_,_,if_pos hb⟩
      · exact .inl (if_neg hb)
    · by_cases hb:b=a
      · have z':=(if_pos hb).symm.trans z
        cases z';subst hb;exact ⟨ha,by rw [Zl]; exact hl,vs,_,rv,ha⟩
      · have z':=(if_neg hb).symm.trans z
        cases z'
    · by_cases hb:b=a
      · exact hb
      · exact absurd (if_neg hb) z
end L2
namespace L2
open PySem PySem.Spec PyProof.Rows
theorem B0z {l:PySem.W.OpenLaw} {n k:Nat} {q:Program} {loose:List Str} {XP:(Str->Option Value)->Heap->Prop} {YP:World->Heap->Prop} {d:DefRec} {K:Params->PySem.W.Frag} {CX:World->CXT} {sp:World->Sp} {x:Str}
    (hn:l.most=some n) (hn2:n<=sizeLine) (hdf:d.params.defaults=[]) (hr:Room k callerA)
    (hY:∀ (w:World) (h:Heap),YP w h->(K w.params).In h)
    (F:∀ (w:World) (mg:Str->Option Value) (fa:Addr) (h:Heap),(K w.params).In h->h.Ns mainGlobals mg->mg d.name=some (.ref fa) ->
      ∃ fd:FuncData,(∀ (s:Shared) (u:Value),BindsTo s fd ⟨[u],[]⟩ [(x,u)]) /\
        ∀ base:Heap,(K w.params).In base->base.Ns mainGlobals mg->FnOk l.prog w (K w.params) mg base (CX w) k fa fd [x] (sp w))
    (hsp:∀ (w:World) (H:Hp) (a:Addr) (ns:List Int),ns.length<=n->Only H->SqL (K w.params) H a (ns.map V.int)->sp w [.ref a] H (fun v _=>v=.bl true) fun _ _ _=>False)
    (hCX:∀ (w:World) (H:Hp) (s:Shared) (e:Value) (s':Shared),CX w [] H s (fun _ _ _=>False) e s'->False) :
    PySem.W.WalkO q loose XP YP l.row.toRowW d [] (fun f vs=>PySem.call f vs):=by
  refine Att.attach_call hn hdf fun w s₀ s₁ mg mb fa o pm cd doc a vs ns G Y ho hd hcd hmg hobj hints hlen hg=>?_;have KX:=hY w _ Y;obtain ⟨fd,hb,hF⟩:=F w mg fa _ KX G.T.g hmg;exact A83 KX G.T.g G.T.b G.T.builtins G.T.nolimit hg hobj hints (Zx hlen hn2) hr hF hb (fun H hO hS=>hsp w H a ns hlen hO hS) fun H e s'=>hCX w H s₁ e s'
end L2
namespace L2
open PySem PySem.Spec PyProof.Rows
abbrev CX0:CXT:=fun _ _ _ _ _ _=>False
abbrev E0:XK:=fun _ _ _=>False
theorem C16 {X:Cx}:A29 CX0 X E0:=fun _ _ _ _ _ _ _ h=>h.elim
structure Fun (K:PySem.W.Frag) (x qual:Str) (st:Stmt) (f:Addr) (fd:FuncData):Prop where
  ex:∃ (oc:Value) (od:Option Addr) (kV doc pm:Value) (an:Option Addr) (cdv ct:Value) (osl:Array (Option Value)),
    fd=PySem.W.fnOf x qual (G5 st) (G1 st) (A6 st) .none kV doc pm an cdv ct/\K.lookup f=some ⟨oc,od,.func fd,osl⟩/\PySem.W.codeIn K cdv qual=true
  kp:PySem.W.keepIn K (.ref f)=true
section
variable {P:Program} {w:World} {K:PySem.W.Frag} {mg:Str->Option Value} {base:Heap}
theorem Fun.ok {x qual:Str} {st:Stmt} {f:Addr} {fd:FuncData} {N ps:List Str} {k:Nat} {sp:Sp} (F:Fun K x qual st f fd) (S:FnScope N ps (A6 st)) (len:∀ vs H Q E,sp vs H Q E->vs.length=ps.length)
    (hbody:∀ (cdv:Value) (A:Around) (outer:List Env) (s:Shared) (H:Hp) (vs:List V) (Q:VK) (E:XK),Room k (A.deeper (envOfC qual (A6 st) s.heap.objs.size f cdv))->sp vs H Q E ->
      ∃ t,PSs (cxOf CX0 P w K mg base N qual (A6 st) f cdv A outer s H E).nox (G1 st) t/\t { nx:=fun _ H'=>Q .non H',rt:=Q } (start N vs) H):FnOk P w K mg base CX0 (k + 1) f fd ps sp:=by
  obtain ⟨oc,od,kV,doc,pm,an,cdv,ct,osl,rfl,lk,hcd⟩:=F.ex;refine C3h lk hcd S len fun A outer s H vs Q E hr hsp=>?_;obtain ⟨t,h,q⟩:=hbody cdv A outer s H vs Q E hr hsp;exact ⟨t,h.nox,q⟩
theorem Fun.binds {x qual:Str} {st:Stmt} {f:Addr} {fd:FuncData} {ps:List Str} (F:Fun K x qual st f fd)
    (h:∀ (kV doc pm:Value) (an:Option Addr) (cdv ct:Value) (us:List Value),us.length=ps.length->bindArgs (PySem.W.fnOf x qual (G5 st) (G1 st) (A6 st) .none kV doc pm an cdv ct) ⟨us,[]⟩=pure (ps.zip us)):Binds K fd ps []:=by
  obtain ⟨oc,od,kV,doc,pm,an,cdv,ct,osl,rfl,lk,hcd⟩:=F.ex;exact .all (h kV doc pm an cdv ct)
theorem B0n {x qual:Str} {st:Stmt} {f:Addr} {oc:Value} {od an:Option Addr} {osl:Array (Option Value)} {kV doc pm cdv ct:Value} (l:K.lookup f=some ⟨oc,od,.func (PySem.W.fnOf x qual (G5 st) (G1 st) (A6 st) .none kV doc pm an cdv ct),osl⟩)
    (c:PySem.W.codeIn K cdv qual=true) (k:PySem.W.keepIn K (.ref f)=true):Fun K x qual st f (PySem.W.fnOf x qual (G5 st) (G1 st) (A6 st) .none kV doc pm an cdv ct):=⟨⟨oc,od,kV,doc,pm,an,cdv,ct,osl,rfl,l,c⟩,k⟩
end
theorem S3 {n:Nat} (h:n<=1000):n < sizeLine:=Nat.lt_of_le_of_lt h (by decide)
section
variable {X:Cx}
theorem pv (i:Nat) {x:Str} {pos:Pos} (hN:X.N[i]?=some x:=by rfl) (hv:Vis X.env.scope x:=by first | exact Or.inl rfl | exact Or.inr (Or.inl rfl) | exact Or.inr (Or.inr rfl)) (hd:(x == ("__debug__":Str))=false:=by decide)
    (hcd:(x == ("__classdict__":Str))=false:=by decide):PE X (.Name x pos) (tVar i):=B7k hN hv hd hcd
end
theorem iteF {A B:Prop} (h:B):if false=true then A else B:=by
  rw [if_neg Bool.false_ne_true];exact h
theorem iteT {A B:Prop} (h:A):if true=true then A else B:=by
  rw [if_pos rfl];exact h
theorem ite2 {c A B:Prop} [Decidable c] (h1:c->A) (h2:¬ c->B):if c then A else B:=by
  by_cases h:c
  · rw [if_pos h]
    exact h1 h
  · rw [if_neg h]
    exact h2 h
def Same (H H':Hp):Prop:=∀ b o,H b=some o->H' b=some o
theorem Same.refl (H:Hp):Same H H:=fun _ _ h=>h
theorem Same.trans {H H1 H2:Hp} (a:Same H H1) (b:Same H1 H2):Same H H2:=fun c o h=>b c o (a c o h)
theorem Same.seq {K:PySem.W.Frag} {H H':Hp} {a:Addr} {xs:List V} (e:Same H H') (h:SqL K H a xs):SqL K H' a xs:=by
  rcases h with (h | ⟨o,h⟩) | h
  · exact .inl (.inl (e _ _ h))
  · exact .inl (.inr ⟨o,e _ _ h⟩)
  · exact .inr h
end L2
namespace My
def Sm (k:Nat) (x:Int):Prop:=x.natAbs < 2 ^ k
theorem Sm.mono {k l:Nat} {x:Int} (h:Sm k x) (e:k<=l):Sm l x:=Nat.lt_of_lt_of_le h (Zp (by decide) e)
theorem Sm.mul {k l:Nat} {x y:Int} (h:Sm k x) (g:Sm l y):Sm (k + l) (x * y):=by
  unfold Sm at *;rw [Int.natAbs_mul,Nat.pow_add];rcases Nat.eq_zero_or_pos y.natAbs with e | e
  · rw [e,Nat.mul_zero]; exact Nat.mul_pos (Nat.two_pow_pos _) (Nat.two_pow_pos _)
  · exact Nat.lt_of_lt_of_le (Nat.mul_lt_mul_of_pos_right h e) (Nat.mul_le_mul_left _ (Nat.le_of_lt g))
theorem Sm.add {k:Nat} {x y:Int} (h:Sm k x) (g:Sm k y):Sm (k + 1) (x + y):=by
  unfold Sm at *;rw [Nat.pow_succ];have:=Int.natAbs_add_le x y;omega
theorem Sm.neg {k:Nat} {x:Int} (h:Sm k x):Sm k (-x):=by
  unfold Sm at *;rw [Int.natAbs_neg]; exact h
theorem Sm.sub {k:Nat} {x y:Int} (h:Sm k x) (g:Sm k y):Sm (k + 1) (x - y):=by
  rw [Int.sub_eq_add_neg]; exact h.add g.neg
theorem Sm.le {k:Nat} {x y:Int} (h:Sm k x) (g:y.natAbs<=x.natAbs):Sm k y:=Nat.lt_of_le_of_lt g h
theorem Sm.log {k:Nat} {x:Int} (h:Sm k x) (hk:0 < k):x.natAbs.log2 < k:=by
  by_cases h0:x.natAbs=0
  · rw [h0]; exact hk
  · exact (Nat.log2_lt h0).mpr h
theorem A6h (a b:Int):Int.gcd b (a % b)=Int.gcd a b:=by
  have h:a % b=a + b * (-(a / b)):=by
    have:=Int.emod_def a b;rw [this,Int.mul_neg]; omega
  rw [h,Int.gcd_add_mul_left_right,Int.gcd_comm]
theorem B5v (a b:Int):Int.gcd (if a < 0 then -a else a) (if b < 0 then -b else b)=Int.gcd a b:=by
  unfold Int.gcd;congr 1
  · split <;> omega
  · split <;> omega
theorem A2v (a:Int) (h:0<=a):((Int.gcd a 0:Nat):Int)=a:=by
  rw [Int.gcd_zero_right]; omega
def sh (t b:Int):Int:=if b < 0 then -((Int.gcd t b:Nat):Int) else ((Int.gcd t b:Nat):Int)
theorem B6w {t b:Int} (h:b≠0):sh t b≠0:=by
  have:Int.gcd t b≠0:=fun e=>h (Int.gcd_eq_zero_iff.mp e).2;unfold sh; split <;> omega
theorem B6x (t b:Int):(sh t b).natAbs=Int.gcd t b:=by
  unfold sh; split <;> omega
theorem A17 (t b:Int):sh t b ∣ t:=by
  unfold sh; split
  · exact Int.neg_dvd.mpr (Int.gcd_dvd_left ..)
  · exact Int.gcd_dvd_left ..
theorem A7v (t b:Int):sh t b ∣ b:=by
  unfold sh; split
  · exact Int.neg_dvd.mpr (Int.gcd_dvd_right ..)
  · exact Int.gcd_dvd_right ..
theorem A51 {t b:Int} (h:b≠0):t.fdiv (sh t b)=(Rat.divInt t b).num:=by
  rw [Int.fdiv_eq_ediv_of_dvd (A17 t b),Rat.num_divInt,Int.gcd_comm b t];unfold sh;split
  · rename_i h1
    rw [Int.sign_eq_neg_one_of_neg h1,Int.ediv_neg,Int.neg_one_mul,Int.neg_ediv_of_dvd (Int.gcd_dvd_left ..)]
  · rename_i h1
    rw [Int.sign_eq_one_of_pos (by omega),Int.one_mul]
theorem B4m {t b:Int} (h:b≠0):b.fdiv (sh t b)=((Rat.divInt t b).den:Int):=by
  rw [Int.fdiv_eq_ediv_of_dvd (A7v t b),Rat.den_divInt,if_neg h,Int.gcd_comm b t];unfold sh;split
  · rename_i h1
    rw [Int.ediv_neg,Int.natCast_ediv];have e:(b.natAbs:Int)=-b:=by omega
    rw [e,Int.neg_ediv_of_dvd (Int.gcd_dvd_right ..)]
  · rename_i h1
    rw [Int.natCast_ediv];have e:(b.natAbs:Int)=b:=by omega
    rw [e]
theorem B96 (t b:Int):(Rat.divInt t b).num.natAbs<=t.natAbs:=by
  by_cases h:b=0
  · subst h; simp [Rat.divInt_zero]
  · rw [<- A51 h,Int.fdiv_eq_ediv_of_dvd (A17 t b)]
    have:=Int.natAbs_ediv_le_natAbs t (sh t b);exact this
theorem C1r {t b:Int} (h:b≠0):(Rat.divInt t b).den<=b.natAbs:=by
  rw [Rat.den_divInt,if_neg h];exact Nat.div_le_self _ _
def SmQ (k:Nat) (q:Rat):Prop:=Sm k q.num/\Sm k (q.den:Int)
theorem den0 (q:Rat):(q.den:Int)≠0:=by have:=q.den_nz; omega
theorem denp (q:Rat):0 < (q.den:Int):=by have:=q.den_nz; omega
theorem den2 (p q:Rat):(p.den:Int) * (q.den:Int)≠0:=Int.mul_ne_zero (den0 p) (den0 q)
theorem B67 (p q:Rat):Rat.divInt (p.num * q.den + q.num * p.den) ((p.den:Int) * q.den)=p + q:=by
  rw [<- Rat.divInt_add_divInt _ _ (den0 p) (den0 q),Rat.num_divInt_den,Rat.num_divInt_den]
theorem B65 (p q:Rat):Rat.divInt (p.num * q.den - q.num * p.den) ((p.den:Int) * q.den)=p - q:=by
  rw [<- Rat.divInt_sub_divInt _ _ (den0 p) (den0 q),Rat.num_divInt_den,Rat.num_divInt_den]
theorem B66 (p q:Rat):Rat.divInt (p.num * q.num) ((p.den:Int) * q.den)=p * q:=by
  rw [<- Rat.divInt_mul_divInt,Rat.num_divInt_den,Rat.num_divInt_den]
theorem C10 (p q:Rat):Rat.divInt (p.num * q.den) ((p.den:Int) * q.num)=p / q:=by
  rw [Rat.div_def,Rat.inv_def,<- Rat.divInt_mul_divInt,Rat.num_divInt_den]
def W:List Rat->Nat
  | []=>1
  | q :: r=>q.den * W r
def S:List Rat->Rat
  | []=>0
  | q :: r=>q + S r
end My
namespace My
def SmR (n d:Nat) (q:Rat):Prop:=Sm n q.num/\Sm d (q.den:Int)
theorem SmR.mono {n d n' d':Nat} {q:Rat} (h:SmR n d q) (h1:n<=n') (h2:d<=d'):SmR n' d' q:=⟨h.1.mono h1,h.2.mono h2⟩
theorem SmR.q {n d:Nat} {q:Rat} (h:SmR n d q) (h1:n<=3900) (h2:d<=3900):SmQ 3900 q:=⟨h.1.mono h1,h.2.mono h2⟩
theorem SmR.low {n d:Nat} {t b:Int} (h:Sm n t) (g:Sm d b) (hb:b≠0):SmR n d (Rat.divInt t b) :=
  ⟨h.le (B96 t b),g.le (by simpa using C1r hb)⟩
theorem SmR.add {a b c e:Nat} {p q:Rat} (h:SmR a b p) (g:SmR c e q):SmR (max (a + e) (c + b) + 1) (b + e) (p + q):=by
  rw [<- B67];exact SmR.low (((h.1.mul g.2).mono (Nat.le_max_left ..)).add ((g.1.mul h.2).mono (Nat.le_max_right ..))) (h.2.mul g.2) (den2 p q)
theorem SmR.sub {a b c e:Nat} {p q:Rat} (h:SmR a b p) (g:SmR c e q):SmR (max (a + e) (c + b) + 1) (b + e) (p - q):=by
  rw [<- B65];exact SmR.low (((h.1.mul g.2).mono (Nat.le_max_left ..)).sub ((g.1.mul h.2).mono (Nat.le_max_right ..))) (h.2.mul g.2) (den2 p q)
theorem SmR.mul {a b c e:Nat} {p q:Rat} (h:SmR a b p) (g:SmR c e q):SmR (a + c) (b + e) (p * q):=by
  rw [<- B66];exact SmR.low (h.1.mul g.1) (h.2.mul g.2) (den2 p q)
theorem B95 {q:Rat} (h:q≠0):q.num≠0:=fun e=>h (Rat.num_eq_zero.mp e)
theorem SmR.div {a b c e:Nat} {p q:Rat} (h:SmR a b p) (g:SmR c e q) (hq:q≠0):SmR (a + e) (b + c) (p / q):=by
  rw [<- C10];exact SmR.low (h.1.mul g.2) (h.2.mul g.1) (Int.mul_ne_zero (den0 p) (B95 hq))
theorem A2e {t b:Int} (h:0<=t) (hb:0 < b):0<=Rat.divInt t b:=(Rat.divInt_nonneg_iff_of_pos_right hb).mpr h
theorem C1z {t b:Int} (h:0 < t) (hb:0 < b):0 < Rat.divInt t b:=by
  refine Rat.lt_of_le_of_ne (A2e (by omega) hb) fun e=>?_;have h1:Rat.divInt 0 b=Rat.divInt t b:=by rw [Rat.zero_divInt]; exact e
  have:=(Rat.divInt_eq_divInt_iff (by omega) (by omega)).mp h1;have h2:t * b=0:=by simpa using this.symm
  rcases Int.mul_eq_zero.mp h2 with z | z <;> omega
theorem A2t (p q:Rat):decide (p.num * q.den < q.num * p.den)=decide (p < q):=by
  rw [Bool.eq_iff_iff,decide_eq_true_iff,decide_eq_true_iff,Rat.lt_iff]
def Dec:List (Rat × Rat)->Prop
  | []=>True
  | [_]=>True
  | c :: d :: r=>d.1 < c.1/\Dec (d :: r)
theorem Dec.snoc:∀ {r:List (Rat × Rat)} {c d:Rat × Rat},Dec (r++[c])->d.1 < c.1->Dec (r++[c]++[d])
  | [],c,d,_,h=>⟨h,trivial⟩
  | [e],c,d,hd,h=>⟨hd.1,h,trivial⟩
  | e :: f :: r,c,d,hd,h=>⟨hd.1,Dec.snoc (r:=f :: r) hd.2 h⟩
end My
namespace L2
open PySem PySem.Spec PyProof.Rows
section
variable {X:Cx}
theorem V6 {x:Int} (h:My.Sm 8000 x):Builtin.Int.intBits x<=2 ^ 20:=by
  have e:(2:Nat) ^ 20=1048576:=by decide
  have h2:=h.log (by decide);unfold Builtin.Int.intBits;split <;> omega
def B6h (i j:Int):Prop:=My.Sm 8000 i/\My.Sm 8000 j
def C3v (_ j:Int):Prop:=j≠0/\My.Sm 8000 j
theorem D1:OpR X (binaryOp .Mult) (rI B6h fun i j=>.int (i * j)):=opI fun _ _ _ _ _ _ _ hc q=>mul_int q (.of_bits (V6 hc.1) (V6 hc.2))
theorem G0:OpR X (binaryOp .FloorDiv) (rI C3v fun i j=>.int (i.fdiv j)):=opI fun _ _ _ _ _ _ _ hc q =>
  floordiv_int hc.1 q (.inl (PyProof.noPylong_of_log2 (Nat.lt_of_lt_of_le (hc.2.log (by decide)) (by decide))))
def kitB (T c:String):Option Bool:=if (Value.type T == Value.type c)=true then some true else if PySem.W.kitMeta c=true then (fastBuiltinMro T).map (·.contains (Value.type c)) else none
theorem A9a (K:PySem.W.Frag) {T c:String} {b:Bool} (h:kitB T c=some b):PySem.W.kitOne K (.type T) (.type c)=some b:=h
def TyV (K:PySem.W.Frag) (H:Hp) (x:V) (T:String):Prop:=match x with
  | .non=>T="NoneType"
  | .bl _=>T="bool"
  | .int _=>T="int"
  | .str _=>T="str"
  | .ref a=>(T="list"/\∃ xs,SqL K H a xs)\/(T="tuple"/\∃ xs,SqT K H a xs)\/(T="dict"/\∃ kvs,H a=some (.dK kvs))
  | _=>False
theorem A1t:CallR X (.builtin "isinstance") (fun xs H Q=>∃ x c T b,xs=[x,.ty c]/\TyV X.K H x T/\kitB T c=some b/\Q (.bl b) H):=by
  intro pins s σ H xs us Q I r h;obtain ⟨x,c,T,b,rfl,ty,e,q⟩:=h;obtain ⟨u,v,rfl,ru,rv⟩:=Vals.two r;cases (show v=Value.type c from rv);have fin:∀ tk,EP X pins σ Q (.bool b) { s with toks:=tk }:=fun tk=>⟨.bl b,H,I.tok tk,rfl,q⟩;have e':=A9a X.K e;cases x with
  | non=>cases (show T=_ from ty); cases (show u=Value.none from ru); exact PySem.W.kia_one PySem.W.kitx_none I.kIn True.intro e' (fun z=>nomatch z) fin
  | bl y=>cases (show T=_ from ty); cases (show u=Value.bool y from ru); exact PySem.W.kia_one PySem.W.kitx_bool I.kIn True.intro e' (fun z=>nomatch z) fin
  | int i=>cases (show T=_ from ty); obtain ⟨t,q'⟩:=(show ∃ t,u=Value.int i t from ru); cases q'; exact PySem.W.kia_one PySem.W.kitx_int I.kIn True.intro e' (fun z=>nomatch z) fin
  | str y=>cases (show T=_ from ty); obtain ⟨t,q'⟩:=(show ∃ t,u=Value.str y t from ru); cases q'; exact PySem.W.kia_one PySem.W.kitx_str I.kIn True.intro e' (fun z=>nomatch z) fin
  | ref a =>
    cases (show u=Value.ref a from ru);rcases (show _\/_\/_ from ty) with ⟨rfl,xs,h⟩ | ⟨rfl,xs,h⟩ | ⟨rfl,kvs,h⟩
    · obtain ⟨its,_,⟨o,n,h1,h2,_⟩,_⟩:=I.list h
      exact PySem.W.kia_one PySem.W.kitx_list I.kIn ⟨o,h1,h2⟩ e' (fun z=>nomatch z) fin
    · obtain ⟨its,_,⟨o,h1,h2,_⟩,_⟩:=I.tuple h
      exact PySem.W.kia_one PySem.W.kitx_tuple I.kIn ⟨o,h1,h2⟩ e' (fun z=>nomatch z) fin
    · obtain ⟨_,_,vs,_,p⟩:=(show ObjOk X.prog X.w H s.heap a (.dK kvs) from I.hok a _ h)
      obtain ⟨o,es,ep,h1,h2,_⟩:=p;exact PySem.W.kia_one PySem.W.kitx_dict I.kIn ⟨o,h1,h2.1⟩ e' (fun z=>nomatch z) fin
  | byt _=>exact (show False from ty).elim
  | flt _=>exact (show False from ty).elim
  | ty _=>exact (show False from ty).elim
end
def encV:V->PyData
  | .int i=>.int i
  | .str x=>.str x
  | _=>.none
def encK:Key->PyData
  | .inl i=>.int i
  | .inr x=>.str x
def B53 (p:Key × V):PyData × PyData:=(encK p.1,encV p.2)
def NSI (xs:List V):Prop:=∀ c i,xs≠[V.str c,V.int i]
def SqD (K:PySem.W.Frag) (H:Hp) (a:Addr) (xs:List V):Prop:=SqT K H a xs/\(H a=some (.tup xs)\/NSI xs)
theorem SqD.of {K:PySem.W.Frag} {H:Hp} {a:Addr} {xs:List V} (h:H a=some (.tup xs)):SqD K H a xs:=⟨SqT.of h,.inl h⟩
mutual
inductive Den (K:PySem.W.Frag) (H:Hp):V->PyData->Prop
  | non:Den K H .non .none
  | bl (b:Bool):Den K H (.bl b) (.bool b)
  | int (i:Int):Den K H (.int i) (.int i)
  | str (x:Str):Den K H (.str x) (.str x)
  | lst {a:Addr} {xs:List V} {ds:List PyData}:SqL K H a xs->DenAll K H xs ds->Den K H (.ref a) (.list ds)
  | tup {a:Addr} {xs:List V} {ds:List PyData}:SqD K H a xs->DenAll K H xs ds->Den K H (.ref a) (.tuple ds)
  | dct {a:Addr} {kvs:List (Key × V)}:H a=some (.dK kvs)->Den K H (.ref a) (.dict (kvs.map B53))
inductive DenAll (K:PySem.W.Frag) (H:Hp):List V->List PyData->Prop
  | nil:DenAll K H [] []
  | cons {x:V} {xs:List V} {d:PyData} {ds:List PyData}:Den K H x d->DenAll K H xs ds->DenAll K H (x :: xs) (d :: ds)
end
section
variable {X:Cx} {pins:List (Addr × Obj)} {σ:St} {H:Hp} {s:Shared}
mutual
theorem Den.reads (I:Inv X pins σ H s):∀ {x:V} {d:PyData} {u:Value},Den X.K H x d->RelV x u->d.canLay0=true->∃ as,Reads s.heap u d as
  | _,_,u,.non,r,_=>by cases (show u=Value.none from r); exact ⟨_,.none⟩
  | _,_,u,.bl b,r,_=>by cases (show u=Value.bool b from r); exact ⟨_,.bool b⟩
  | _,_,u,.int i,r,_=>by obtain ⟨t,q⟩:=(show ∃ t,u=Value.int i t from r); cases q; exact ⟨_,.int i t⟩
  | _,_,u,.str x,r,_=>by obtain ⟨t,q⟩:=(show ∃ t,u=Value.str x t from r); cases q; exact ⟨_,.str x t⟩
  | _,_,u,.lst (a:=a) h ds,r,cl=>by
    cases (show u=Value.ref a from r);obtain ⟨its,rv,⟨o,n,h1,h2,_,h3⟩,_⟩:=I.list h;obtain ⟨as,q⟩:=DenAll.reads I ds rv cl;exact ⟨_,.list h1 h2 h3 (by simpa using q)⟩
  | _,_,u,.tup (a:=a) h ds,r,cl=>by
    cases (show u=Value.ref a from r);obtain ⟨its,rv,⟨o,h1,h2,n,h3⟩,_⟩:=I.tuple h.1;obtain ⟨as,q⟩:=DenAll.reads I ds rv cl;exact ⟨_,.tuple h1 h2 h3 (by simpa using q)⟩
  | _,_,_,.dct _,_,cl=>absurd (show false=true from cl) Bool.false_ne_true
theorem DenAll.reads (I:Inv X pins σ H s):∀ {xs:List V} {ds:List PyData} {us:List Value},DenAll X.K H xs ds->Vals xs us->PyData.canLayAll0 ds=true->∃ as,ReadsAll s.heap us ds as
  | _,_,_,.nil,.nil,_=>⟨_,.nil⟩
  | _,d :: ds,_,.cons h t,.cons r rs,cl=>by
    have cl':(d.canLay0 && PyData.canLayAll0 ds)=true:=cl;rw [Bool.and_eq_true] at cl';obtain ⟨as,q⟩:=Den.reads I h r cl'.1;obtain ⟨bs,q'⟩:=DenAll.reads I t rs cl'.2;exact ⟨_,.cons q q'⟩
end
end
section
variable {X:Cx}
def rEqD (K:PySem.W.Frag):R2:=fun x y H Q=>∃ dx dy,Den K H x dx/\Den K H y dy/\dx.canLay0=true/\dy.canLay0=true/\dx.depth<=60/\Q (.bl (PyData.eqv dx dy)) H
def rNeD (K:PySem.W.Frag):R2:=fun x y H Q=>∃ dx dy,Den K H x dx/\Den K H y dy/\dx.canLay0=true/\dy.canLay0=true/\dx.depth<=60/\Q (.bl (!PyData.eqv dx dy)) H
theorem B9l (hu:X.A.units + 64 < cLine):OpR X (compareOp .Eq) (rEqD X.K):=by
  intro pins s σ H x y v u Q I rx ry h;obtain ⟨dx,dy,h1,h2,c1,c2,hd,q⟩:=h;obtain ⟨as,r1⟩:=h1.reads I rx c1;obtain ⟨bs,r2⟩:=h2.reads I ry c2;exact PySem.SeqAt.compareEq_reads r1 r2 c1 c2 (by omega) ⟨.bl _,H,I,rfl,q⟩
theorem B9i (hu:X.A.units + 64 < cLine):OpR X (compareOp .NotEq) (rNeD X.K):=by
  intro pins s σ H x y v u Q I rx ry h;obtain ⟨dx,dy,h1,h2,c1,c2,hd,q⟩:=h;obtain ⟨as,r1⟩:=h1.reads I rx c1;obtain ⟨bs,r2⟩:=h2.reads I ry c2;exact PySem.SeqAt.compareNe_reads r1 r2 c1 c2 (by omega) ⟨.bl _,H,I,rfl,q⟩
end
def Kp (p:Addr) (H H':Hp):Prop:=∀ b o,b≠p->H b=some o->H' b=some o
theorem Kp.upd {p:Addr} {H:Hp} {o:HO}:Kp p H (upd H p o):=fun b u n e=>by rw [C7 n]; exact e
theorem Kp.trans {p:Addr} {H H1 H2:Hp} (a:Kp p H H1) (b:Kp p H1 H2):Kp p H H2:=fun c o n e=>b c o n (a c o n e)
theorem Kp.refl {p:Addr} {H:Hp}:Kp p H H:=fun _ _ _ e=>e
theorem Same.kp {p:Addr} {H H':Hp} (a:Same H H'):Kp p H H':=fun b o _ e=>a b o e
theorem Same.upd {p:Addr} {H:Hp} {o:HO} (h:H p=none):Same H (upd H p o):=fun b u e=>by rw [C7 (D9 e h)]; exact e
theorem SqT.same {K:PySem.W.Frag} {H H':Hp} {a:Addr} {xs:List V} (e:Same H H') (h:SqT K H a xs):SqT K H' a xs:=by
  rcases h with (h | ⟨o,h⟩) | h
  · exact .inl (.inl (e _ _ h))
  · exact .inl (.inr ⟨o,e _ _ h⟩)
  · exact .inr h
theorem at0 {α:Type} {x:α} {xs:List α}:atI (x :: xs) 0=some x:=F5 (j:=0) rfl
theorem at1 {α:Type} {x y:α} {xs:List α}:atI (x :: y :: xs) 1=some y:=F5 (j:=1) rfl
theorem at2 {α:Type} {x y z:α} {xs:List α}:atI (x :: y :: z :: xs) 2=some z:=F5 (j:=2) rfl
theorem at3 {α:Type} {x y z w:α} {xs:List α}:atI (x :: y :: z :: w :: xs) 3=some w:=F5 (j:=3) rfl
end L2
namespace L2
open PySem PySem.Spec PyProof.Rows
theorem A0u {prog:Program} {w:World} {A:Around} {R:Result->Shared->Prop} {s:Shared} {elt target iter:Expr} {ifs:List Expr} {scope:Scope} {pos:Pos} {it acc:Value} {env:Env} (I:Nat->Shared->Prop)
    (turn:∀ n s,I n s->wpAny (model prog w) A (pyNext it) (fun r s₁=>match r with
      | none=>R (.ok .next) s₁
      | some v=>wpAny (model prog w) A (letOwnedTupleGo target it v) (fun _ s₁'=>wpAny (model prog w) A (assign target env v) (fun _ s₂ =>
          wpAny (model prog w) A (forIn ifs true fun c r=>if r=true then do let ok <- isTrue c env (eval c env); pure (ForInStep.yield ok) else pure (ForInStep.yield r)) (fun ok s₃ =>
            if ok=true then wpAny (model prog w) A (eval elt env) (fun x s₄ =>
              wpAny (model prog w) A (call (.builtin "list.append") [acc,x]) (fun _ s₅=>∃ m,m < n/\I m s₅) (fun _ _=>False) s₄) (fun _ _=>False) s₃
            else ∃ m,m < n/\I m s₃) (fun _ _=>False) s₂) (fun _ _=>False) s₁') (fun _ _=>False) s₁) (fun _ _=>False) s)
    (n:Nat) (h:I n s):codeAny (model prog w) A (.compLoop (.ListComp elt [⟨target,iter,ifs,0⟩] scope pos) 0 it acc env) R s:=by
  refine codeAny_loop rfl I (fun n s hI=>?_) n h;show wpAny _ A ((compTurn (.ListComp elt [⟨target,iter,ifs,0⟩] scope pos) 0 it acc env).onRaise (fun x=>do noteFrame x env; theTreesLotGoes x)) _ _ s;refine wpAny_noted ?_;rw [compTurn_list];refine wpAny_bind (wpAny_standAt (wpAny_bind (wpAny_mono (turn n s hI) (fun r s₁ h₁=>?_) fun _ _ h'=>h'.elim)));cases r with
  | none=>exact wpAny_pure h₁
  | some v =>
    refine wpAny_bind (wpAny_mono h₁ (fun _ s₁' h₁'=>?_) fun _ _ h'=>h'.elim);refine wpAny_bind (wpAny_mono h₁' (fun _ s₂ h₂=>wpAny_bind (wpAny_mono h₂ (fun ok s₃ h₃=>?_) fun _ _ h'=>h'.elim)) fun _ _ h'=>h'.elim);cases ok with
    | false=>exact wpAny_pure ⟨rfl,h₃⟩
    | true =>
      exact wpAny_bind (wpAny_bind (wpAny_mono h₃ (fun x s₄ h₄=>wpAny_bind (wpAny_mono h₄ (fun _ s₅ h₅=>wpAny_pure (wpAny_pure ⟨rfl,h₅⟩)) fun _ _ h'=>h'.elim)) fun _ _ h'=>h'.elim))
def PTs (X:Cx) (ifs:List Expr) (t:TT):Prop :=
  ∀ (pins:List (Addr × Obj)) (s:Shared) (σ:St) (H:Hp) (Q:Bool->Hp->Prop),Inv X pins σ H s->t σ H Q ->
    wpAny (model X.prog X.w) X.A (forIn ifs true fun c r=>if r=true then do let ok <- isTrue c X.env (eval c X.env); pure (ForInStep.yield ok) else pure (ForInStep.yield r)) (TP X pins σ Q) X.xe s
def tYes:TT:=fun _ H Q=>Q true H
theorem B10 {X:Cx}:PTs X [] tYes:=fun pins s σ H Q I h=>wpAny_tests_nil ⟨H,I,h⟩
theorem B1z {X:Cx} {c:Expr} {t:TT} (h:PT X c t):PTs X [c] t:=fun pins s σ H Q I hw=>wpAny_tests_one (h pins s σ H Q I hw)
def Cx.block (X:Cx) (scope:Scope) (cl:List (Str × Addr)) (N':List Str) (s2:Shared) (H2:Hp) (fp:List Addr):Cx where
  prog:=X.prog
  w:=X.w
  K:=X.K
  mg:=X.mg
  base:=X.base
  A:=X.A
  N:=N'
  s₀:=s2
  H₀:=H2
  env:=compEnvC scope cl s2.heap.objs.size X.env
  outer:=X.stack
  stack:=X.stack
  ex:=fp
  fn:=fun _=>false
  calm:=X.calm
  pn:=[]
  xe:=fun _ _=>False
structure CompSc (X:Cx) (scope:Scope) (cl:List (Str × Addr)) (N':List Str) (cap:List (Option Nat)):Prop where
  clos:closureFor scope X.env=pure cl
  sub:∀ x c,cl.lookup x=some c->X.env.cells.lookup x=some c
  has:∀ x,((relabel scope X.env).names.lookup x=some .cell\/(relabel scope X.env).names.lookup x=some .free)->∃ c,cl.lookup x=some c
  kind:scope.kind=.function
  cell:∀ y ∈ scope.names,y.2≠.cell
  names:∀ y ∈ scope.names,y.2=.local->scope.names.lookup y.1=some .local
  nd:N'.Nodup
  len:cap.length=N'.length
  noloc:∀ x c,cl.lookup x=some c->X.env.kindOf x≠some .local
  capt:∀ (i:Nat) (x:Str) (j:Nat),N'[i]?=some x->cap[i]?=some (some j)->X.N[j]?=some x/\((relabel scope X.env).names.lookup x=some .cell\/(relabel scope X.env).names.lookup x=some .free)/\Vis X.env.scope x/\∃ c,cl.lookup x=some c
def capσ (cap:List (Option Nat)) (σ:St):St:=cap.map fun o=>o.bind fun j=>(σ[j]?).join
section
variable {X:Cx} {pins:List (Addr × Obj)} {σ:St} {H:Hp} {s:Shared} {scope:Scope} {cl:List (Str × Addr)} {N':List Str} {cap:List (Option Nat)} {fp:List Addr}
theorem A9w (I:Inv X pins σ H s) (C:CompSc X scope cl N' cap) (hf:∀ b ∈ fp,FpOk X pins H b) (ho:∀ b ∈ fp,∃ o,s.heap.get? b=some o):(X.block scope cl N' s H fp).Ok where
  mod:=I.ok.mod
  kind:=C.kind
  glob:=I.ok.glob
  blt:=I.ok.blt
  above:=Zv _
  inj:=fun x y c h1 h2=>I.ok.inj x y c (C.sub x c h1) (C.sub y c h2)
  has:=fun x h=>C.has x h
  cab:=fun x c h _=>absurd (show false=true from h) Bool.false_ne_true
  hd:=I.ok.hd
  frames:=I.ok.frames
  stk:=.inl rfl
  exf:=fun b hb=>⟨fun z=>by
    obtain ⟨o,e⟩:=ho b hb;exact absurd (Heap.lt_size e) (by rw [z]; exact Nat.lt_irrefl _),fun x c h=>(hf b hb).2.2.2.2.1 x c (C.sub x c h)⟩
  bs:=I.bs
  bsz:=Zx I.ok.bsz I.sz
  noex:=fun b o e hb=>by
    rcases (hf b hb).2.2.2.1 with z | z
    · exact I.ok.noex b o e z
    · exact absurd (Nat.lt_of_lt_of_le (Heap.lt_size e) (Zx I.ok.bsz z)) (Nat.lt_irrefl _)
  exfs:=fun b hb z=>by
    rcases List.mem_cons.mp (I.stkSub b z) with e | e
    · exact (hf b hb).2.1 e
    · exact (hf b hb).2.2.1 e
  funs:=I.stack
  frf:=I.stkFree
theorem A67 {h1:Heap} {tk:Nat} {m:Str->Option Value} (I:Inv X pins σ H s) (C:CompSc X scope cl N' cap) (hf:∀ b ∈ fp,FpOk X pins H b) (ho:∀ b ∈ fp,∃ o,s.heap.get? b=some o)
    (hn:h1.Ns s.heap.objs.size m) (hk:∀ b o,s.heap.get? b=some o->h1.get? b=some o):Inv (X.block scope cl N' s H fp) [] (capσ cap σ) H { s with heap:=h1,toks:=tk } where
  ok:=A9w I C hf ho
  os:=rfl
  bare:=I.bare
  base:=Un.kept hk
  loc:=⟨m,hn,fun i x v h1' h2 h3=>by
    unfold capσ at h2;rw [Zh] at h2;cases e:cap[i]? with
    | none=>rw [e] at h2; cases h2
    | some o =>
      rw [e] at h2;cases o with
      | none=>cases h2
      | some j =>
        obtain ⟨q1,q2,q3,c,q4⟩:=C.capt i x j h1' e;have hv:(σ[j]?).join=some v:=Zj h2;have hσ:σ[j]?=some (some v):=by
          cases z:σ[j]? with
          | none=>rw [z] at hv; cases hv
          | some y=>rw [z] at hv; cases (show y=some v from hv); rfl
        obtain ⟨m0,hn0,hl0⟩:=I.loc;obtain ⟨u,r,l⟩:=hl0 j x v q1 hσ q3;refine ⟨u,r,.inr ⟨q2,c,q4,?_⟩⟩;rcases l with ⟨l1,_⟩ | ⟨_,c',l2,l3⟩
        · exact absurd l1 (C.noloc x c q4)
        · have:=C.sub x c q4
          rw [l2] at this;cases this;exact l3.keeps hk⟩
  cell:=fun x c h=>by
    obtain ⟨v,z⟩:=I.cell x c (C.sub x c h);exact ⟨v,z.keeps hk⟩
  free:=I.hok.fresh (Zv _)
  freeC:=fun x c h=>I.freeC x c (C.sub x c h)
  pin:=fun p hp=>absurd (show p ∈ ([]:List (Addr × Obj)) from hp) (by simp)
  hok:=I.hok.kept hk
  len:=by unfold capσ; rw [Zl]; exact C.len
theorem A66 {H':Hp} {s':Shared} {h':Heap} {σ':St} {pl:List (Addr × Obj)} (I:Inv X pins σ H s) (J:Inv (X.block scope cl N' s H fp) pl σ' H' s') (hf:∀ b ∈ fp,FpOk X pins H b) (hs:Heap.SameBut s.heap.objs.size s'.heap h') :
    Inv X pins σ H' { s' with heap:=h' }:=by
  have ne:∀ b o,s.heap.get? b=some o->b≠s.heap.objs.size:=fun b o e=>Nat.ne_of_lt (Heap.lt_size e);have B:Un (frs X.stack) fp H H' s.heap s'.heap:=J.base;refine I.call' (s':={ s' with heap:=h' }) (ch:=fp) J.os ⟨fun b o e n h1 h2=>?_,fun b o e n h1 h2=>?_,B.free,fun b o e h2=>?_,B.tups,B.frzs,B.tbls⟩ ?_ J.bare (fun b hb=>?_)
  · show h'.get? b=some o
    rw [hs.2 b (ne b o e)]; exact B.keep b o e n h1 h2
  · show ∃ sl,h'.get? b=_
    rw [hs.2 b (ne b o e)]; exact B.slot b o e n h1 h2
  · show ∃ o',h'.get? b=_
    rw [hs.2 b (ne b o e)]; exact B.there b o e h2
  · intro b u e
    have hfree:H' s.heap.objs.size=none:=J.free;have nC:∀ c v,H' c=some v->c≠s.heap.objs.size:=fun c v q z=>by rw [z,hfree] at q; cases q
    refine (J.hok b u e).stay (fun c v hc q=>?_) (fun _ q=>q) fun _ _ q=>q;show h'.get? c=some v;have:c≠s.heap.objs.size:=by
      rcases hc with z | z
      · rw [z]; exact nC b u e
      · exact nC c _ z
    rw [hs.2 c this]; exact q
  · obtain ⟨f0,f1,f2,f3,f4,f5⟩:=hf b hb
    exact ⟨f3,f1,f4,f5⟩
end
def A22 (J:It) (g:TG) (tt:TT) (te:TE) (D:Addr) (Fin:Hp->Prop) (σ0:St) (H1:Hp):Prop :=
  ∃ W:Nat->Nat->St->Hp->List V->Prop,(∃ m,W 0 m σ0 (upd H1 D (.lst [])) [])/\∀ i m σ' H' ys,W i m σ' H' ys->H' D=some (.lst ys)/\ys.length < sizeLine /\
    ((J.stop i H'/\Fin H')\/(J.go i H'/\∀ x H2,J.yld i H' x H2->g x σ' H2 fun σ2 H3=>tt σ2 H3 fun b H4=>if b=true then
      te σ2 H4 fun y H5=>∃ zs,H5 D=some (.lst zs)/\zs.length < sizeLine/\∃ m',m' < m/\W (i + 1) m' σ2 (upd H5 D (.lst (zs++[y]))) (zs++[y])
      else ∃ m',m' < m/\W (i + 1) m' σ2 H4 ys))
def B1d (wi:TI) (g:TG) (tt:TT) (te:TE) (cap:List (Option Nat)):TE:=fun σ H Q=>wi σ H fun J H1=>∀ D,H1 D=none->A22 J g tt te D (fun H'=>Q (.ref D) H') (capσ cap σ) H1
section
variable {X:Cx} {scope:Scope} {cl:List (Str × Addr)} {N':List Str} {cap:List (Option Nat)} {elt tg iter:Expr} {ifs:List Expr} {wi:TI} {g:TG} {tt:TT} {te:TE} {pos:Pos}
theorem A02 {pins:List (Addr × Obj)} {σ:St} {H2:Hp} {s2:Shared} {it:Addr} {fp:List Addr} {tn:Nat->Heap->Prop} {J:It} {E:Value->Shared->Prop} {RR:Value->Addr->Result->Shared->Prop} {Fin:Addr->Hp->Prop}
    (hc:X.calm=true) (C:CompSc X scope cl N' cap) (I2:Inv X pins σ H2 s2) (T:Turn X.prog X.w X.K tg J fp it tn) (st2:tn 0 s2.heap) (f2:∀ b ∈ fp,FpOk X pins H2 b)
    (hg:∀ s3 H3 fp,PG (X.block scope cl N' s3 H3 fp) tg g) (ht:∀ s3 H3 fp,PTs (X.block scope cl N' s3 H3 fp) ifs tt) (he:∀ s3 H3 fp,PE (X.block scope cl N' s3 H3 fp) elt te)
    (go:∀ D,H2 D=none->A22 J g tt te D (Fin D) (capσ cap σ) H2)
    (out:∀ (D C:Addr) (s':Shared) (m:Str->Option Value) (H':Hp),s'.heap.Ns C m->C≠X.env.locals->H' C=none->X.s₀.heap.objs.size<=C->(∀ x c,X.env.cells.lookup x=some c->c≠C)->(∀ p ∈ X.pn++pins,p.1≠C)->Fin D H'->Inv X pins σ H' s'->RR (.ref D) C (.ok .next) s') :
    wpAny (model X.prog X.w) X.A (newList []) (fun acc s₃=>wpAny (model X.prog X.w) X.A (newFunctionEnv scope X.env.globals cl [] X.env.qual none .none (some X.env)) (fun cenv s₄ =>
      codeAny (model X.prog X.w) X.A (.compStart (.ListComp elt [⟨tg,iter,ifs,0⟩] scope pos) 0 (.ref it) acc { cenv with scope:=relabel scope X.env }) (RR acc cenv.locals) s₄) E s₃) E s2:=by
  refine wpAny_newObj_type (wpAny_newFunctionEnv C.cell (by intro y hy; simp at hy) (fun h₁ hns₁ hsb₁=>?_) C.kind);have hD:H2 s2.heap.objs.size=none:=I2.hok.fresh (Zv _);obtain ⟨W,⟨m0,w0⟩,turn⟩:=go _ hD;have I3:Inv X pins σ (upd H2 s2.heap.objs.size (.lst [])) { s2 with heap:=s2.heap.push { cls:=.type "list",dict:=none,data:=.seq ([]:List Value).toArray } } :=
    I2.laid (t':=s2.toks) (o:=.lst []) (fun b u e=>Heap.get?_push_of_some _ e) (Zv _) ⟨Nat.zero_le _,[],0,.nil,Heap.get?_push_size _ rfl⟩
  have f3:∀ b ∈ fp,FpOk X pins (upd H2 s2.heap.objs.size (.lst [])) b:=fun b hb=>by
    obtain ⟨f0,fr⟩:=f2 b hb;obtain ⟨o,e,_⟩:=T.obj _ _ st2 b hb;exact ⟨by rw [C7 (Nat.ne_of_lt (Heap.lt_size e))]; exact f0,fr⟩
  generalize hs3:({ s2 with heap:=s2.heap.push { cls:=.type "list",dict:=none,data:=.seq ([]:List Value).toArray } }:Shared)=s3 at hns₁ hsb₁ I3 ⊢;have o3:∀ b o,s2.heap.get? b=some o->s3.heap.get? b=some o:=fun b o e=>by rw [<- hs3]; exact Heap.get?_push_of_some _ e
  have hk:∀ b o,s3.heap.get? b=some o->h₁.get? b=some o:=fun b o e=>by
    rw [hsb₁.2 b (Nat.ne_of_lt (Heap.lt_size e))]; exact Heap.get?_push_of_some _ e
  have st3:tn 0 s3.heap:=T.keep _ _ _ st2 fun b _ o e=>o3 b o e;have ho:∀ b ∈ fp,∃ o,s3.heap.get? b=some o:=fun b hb=>let ⟨o,e,_⟩:=T.obj _ _ st3 b hb; ⟨o,e⟩;have I4:=A67 (tk:=s3.toks + ([]:List (Str × Value)).length) I3 C f3 ho hns₁ hk;have st4:tn 0 h₁:=T.keep _ _ _ st3 fun b _ o e=>hk b o e;have hX:∀ {H':Hp} {pl:List (Addr × Obj)},(∀ b ∈ fp,H' b=none)->(∀ p ∈ pl,p.1 ∉ fp)->∀ b ∈ fp,FpOk (X.block scope cl N' s3 (upd H2 s2.heap.objs.size (.lst [])) fp) pl H' b:=fun {H' pl} hn hp b hb=>by
    refine ⟨hn b hb,I4.ok.exf b hb |>.1,I4.ok.exfs b hb,.inl hb,(I4.ok.exf b hb).2,fun p hp' z=>?_⟩;have hp'':p ∈ pl:=by simpa [Cx.block] using hp'
    exact hp p hp'' (by rw [z]; exact hb)
  have fr3:∀ b ∈ fp,(upd H2 s2.heap.objs.size (.lst [])) b=none:=fun b hb=>(f3 b hb).1;have loop:∀ s₅:Shared,s₅={ s3 with heap:=h₁,toks:=s3.toks + ([]:List (Str × Value)).length } ->
      codeAny (model X.prog X.w) X.A (.compLoop (.ListComp elt [⟨tg,iter,ifs,0⟩] scope pos) 0 (.ref it) (.ref s2.heap.objs.size) (compEnvC scope cl s3.heap.objs.size X.env)) (RR (.ref s2.heap.objs.size) s3.heap.objs.size) s₅:=by
    rintro s₅ rfl;refine A0u (fun n s'=>∃ i σ' H' ys,Inv (X.block scope cl N' s3 (upd H2 s2.heap.objs.size (.lst [])) fp) [] σ' H' s'/\tn i s'.heap/\(∀ b ∈ fp,H' b=none)/\W i n σ' H' ys) ?_ m0 ⟨0,_,_,[],I4,st4,fr3,w0⟩;rintro n s6 ⟨i,σ6,H6,ys,I6,st6,fr6,w6⟩;obtain ⟨hl6,hz6,hgo⟩:=turn i n σ6 H6 ys w6;rcases hgo with ⟨stop,fin⟩ | ⟨go',step⟩
    · refine wpAny_mono (T.done (X.block scope cl N' s3 (upd H2 s2.heap.objs.size (.lst [])) fp) rfl rfl rfl hc i [] s6 σ6 H6 (fun _ _=>False) I6 (hX fr6 (fun _ z=>nomatch z)) st6 stop) (fun r s7 ⟨hr,I7⟩=>?_) fun _ _ z=>z.elim
      subst hr;obtain ⟨m7,hn7,_⟩:=id I7.loc;refine out _ _ s7 m7 H6 hn7 (Nat.ne_of_gt I3.lt) I7.free I3.sz (fun x c e z=>?_) (fun p hp z=>?_) fin (A66 I3 I7 f3 (.refl ..))
      · obtain ⟨v,q⟩:=I3.cell x c e
        exact absurd q.lt (by rw [z]; exact Nat.lt_irrefl _)
      · exact absurd (Heap.lt_size (I3.pin p hp).1) (by rw [z]; exact Nat.lt_irrefl _)
    · refine wpAny_mono (T.item (X.block scope cl N' s3 (upd H2 s2.heap.objs.size (.lst [])) fp) rfl rfl rfl hc i [] s6 σ6 H6 (fun _ _=>False) I6 (hX fr6 (fun _ z=>nomatch z)) st6 go') (fun r s7 ⟨u,hr,h7⟩=>?_) fun _ _ z=>z.elim
      subst hr;refine wpAny_mono h7 (fun _ s8 ⟨x,H8,I8,r8,y8,st8,fr8⟩=>?_) fun _ _ z=>z.elim;have I8':=I8.pinned (hX fr8 (fun _ z=>nomatch z)) (T.obj _ _ st8);have again:∀ {s9:Shared} {σ9:St} {H9:Hp},Inv (X.block scope cl N' s3 (upd H2 s2.heap.objs.size (.lst [])) fp) ([]++Z9 fp s8.heap) σ9 H9 s9->∀ {zs:List V},(∃ m',m' < n/\W (i + 1) m' σ9 H9 zs) ->
          ∃ m,m < n/\∃ i σ' H' ys,Inv (X.block scope cl N' s3 (upd H2 s2.heap.objs.size (.lst [])) fp) [] σ' H' s9/\tn i s9.heap/\(∀ b ∈ fp,H' b=none)/\W i m σ' H' ys:=fun {s9 σ9 H9} I9 {zs} ⟨m',hm,w9⟩=>by
        refine ⟨m',hm,i + 1,σ9,H9,zs,I9.unpinned,T.keep _ _ _ st8 fun b hb o e=>(I9.pin (b,o) (Zw _ (Zw _ (N6 hb e)))).1,fun b hb=>?_,w9⟩;obtain ⟨o,e,d⟩:=T.obj _ _ st8 b hb;exact (I9.pin (b,o) (Zw _ (Zw _ (N6 hb e)))).2.1
      refine wpAny_mono (hg _ _ _ _ s8 σ6 H8 x u _ I8' r8 (step x H8 y8)) (fun _ s9 ⟨σ9,H9,I9,q9⟩=>?_) fun _ _ z=>z.elim;refine wpAny_mono (ht _ _ _ _ s9 σ9 H9 _ I9 q9) (fun ok s10 ⟨H10,I10,q10⟩=>?_) fun _ _ z=>z.elim;cases ok with
      | false=>exact again I10 q10
      | true =>
        rw [if_pos rfl];refine wpAny_mono (he _ _ _ _ s10 σ9 H10 _ I10 q10) (fun yv s11 ⟨y,H11,I11,r11,zs,hz,hlen,q11⟩=>?_) fun _ _ z=>z.elim;refine wpAny_mono (C8 (X:=X.block scope cl N' s3 (upd H2 s2.heap.objs.size (.lst [])) fp) _ s11 σ9 H11 (.ref s2.heap.objs.size) [y] (.ref s2.heap.objs.size) [yv] (fun _ H'=>∃ m',m' < n/\W (i + 1) m' σ9 H' (zs++[y])) I11 rfl (.cons r11 .nil) ⟨_,zs,y,rfl,rfl,hz,hlen,q11⟩) (fun _ s12 ⟨_,H12,I12,_,q12⟩=>?_) fun _ _ z=>z.elim;exact again I12 q12
  exact codeAny_compStart_list (loop _ rfl) (T.self _ 0 _ _ _ st4 (loop _ rfl))
theorem B2d (hc:X.calm=true) (C:CompSc X scope cl N' cap) (hi:PI X tg iter wi) (hg:∀ s3 H3 fp,PG (X.block scope cl N' s3 H3 fp) tg g) (ht:∀ s3 H3 fp,PTs (X.block scope cl N' s3 H3 fp) ifs tt)
    (he:∀ s3 H3 fp,PE (X.block scope cl N' s3 H3 fp) elt te) (hs:∀ x,foldedSetIterable iter X.env x=pure x:=by intro _; rfl):PE X (.ListComp elt [⟨tg,iter,ifs,0⟩] scope pos) (B1d wi g tt te cap):=by
  intro pins s σ H Q I h;rw [eval_ListComp];refine wpAny_comprehension_free (use:=none) rfl hs C.clos C.kind C.names (thn (hi pins s σ H _ I h) fun v s1 h1=>thn h1 fun itv s2 h2=>?_);obtain ⟨it,fp,tn,J,H2,e,I2,T,st2,f2,go⟩:=h2;subst e;refine A02 (RR:=fun acc C=>compPost (model X.prog X.w) X.A X.xe none (EP X pins σ Q) acc C) (Fin:=fun D H'=>Q (.ref D) H') hc C I2 T st2 f2 hg ht he go ?_;intro D C' s' m H' hn n1 n2 n3 n4 n5 fin inv;exact ⟨m,hn,fun h' hs'=>⟨.ref D,H',inv.turned (t':=s'.toks) (fun b o hb e=>(hs'.2 b hb).trans e) n2 n1 (.inr n3) n4 n5,rfl,fin⟩⟩
end
end L2
namespace L2
open PySem PySem.Spec PyProof.Rows
def A0w (env:Env):List (Str × NameKind)->List (Str × Addr)->List (Str × Addr)
  | [],acc=>acc
  | (n,k) :: r,acc=>A0w env r (if (k == .free)=true then (n,(env.cells.lookup n).getD 0) :: acc else acc)
theorem X4 {env:Env}:∀ (l:List (Str × NameKind)) (acc:List (Str × Addr)),(∀ p ∈ l,p.2=.free->(env.cells.lookup p.1).isSome=true) ->
    (forIn l acc (fun x s=>match x with
      | (name,kind)=>if (kind == NameKind.free)=true then do
          let a <- cellOf env name
          pure (ForInStep.yield ((name,a) :: s))
        else pure (ForInStep.yield s)):Sem (List (Str × Addr)))=pure (A0w env l acc)
  | [],acc,_=>rfl
  | (n,k) :: r,acc,h=>by
    rw [List.forIn_cons];have hr:=fun p hp=>h p (Zr _ hp);by_cases hk:(k == NameKind.free)=true
    · have h1:=h (n,k) Zy (by simpa using hk)
      obtain ⟨c,hc⟩:=Option.isSome_iff_exists.mp h1;have hc:env.cells.lookup n=some c:=hc;have e1:cellOf env n=pure c:=by unfold cellOf; rw [hc]
      simp only [hk,if_true,e1,pure_bind];rw [X4 r _ hr];show _=pure (A0w env r (if (k == .free)=true then (n,(env.cells.lookup n).getD 0) :: acc else acc));rw [if_pos hk,hc];rfl
    · simp only [hk,Bool.false_eq_true,if_false,pure_bind]
      rw [X4 r _ hr];show _=pure (A0w env r (if (k == .free)=true then (n,(env.cells.lookup n).getD 0) :: acc else acc));rw [if_neg hk]
theorem A0v {env:Env}:∀ (l:List (Str × NameKind)) (acc:List (Str × Addr)) (p:Str × Addr),p ∈ A0w env l acc->p ∈ acc\/((p.1,NameKind.free) ∈ l/\p.2=(env.cells.lookup p.1).getD 0)
  | [],acc,p,h=>.inl h
  | (n,k) :: r,acc,p,h=>by
    rcases A0v r _ p h with z | ⟨z,e⟩
    · by_cases hk:(k == NameKind.free)=true
      · rw [if_pos hk] at z
        rcases List.mem_cons.mp z with rfl | z
        · right
          have:k=.free:=by simpa using hk
          subst this;exact ⟨Zy,rfl⟩
        · exact .inl z
      · rw [if_neg hk] at z
        exact .inl z
    · exact .inr ⟨Zr _ z,e⟩
theorem T8 {env:Env}:∀ (l:List (Str × NameKind)) (acc:List (Str × Addr)) (x:Str),((∃ c,(x,c) ∈ acc)\/(x,NameKind.free) ∈ l)->∃ c,(x,c) ∈ A0w env l acc
  | [],acc,x,h=>by
    rcases h with h | h
    · exact h
    · exact absurd h (by simp)
  | (n,k) :: r,acc,x,h=>by
    refine T8 r _ x ?_;rcases h with ⟨c,h⟩ | h
    · left
      by_cases hk:(k == NameKind.free)=true
      · rw [if_pos hk]; exact ⟨c,Zr _ h⟩
      · rw [if_neg hk]; exact ⟨c,h⟩
    · rcases List.mem_cons.mp h with e | h
      · left
        cases e;rw [if_pos (by rfl)];exact ⟨_,Zy⟩
      · exact .inr h
theorem L7 {β:Type} {x:Str}:∀ {l:List (Str × β)} {c:β},(x,c) ∈ l->∃ c',l.lookup x=some c'
  | (n,d) :: r,c,h=>by
    by_cases e:x=n
    · subst e; exact ⟨d,by simp [List.lookup_cons]⟩
    · rcases List.mem_cons.mp h with z | z
      · cases z; exact absurd rfl e
      · obtain ⟨c',q⟩:=L7 z
        refine ⟨c',?_⟩;rw [List.lookup_cons];have:(x == n)=false:=by simpa using e
        rw [this]; exact q
theorem N8 {scope:Scope} {env:Env} {x:Str} {k:NameKind} (hcell:∀ y ∈ scope.names,y.2≠.cell) (h:(relabel scope env).names.lookup x=some k) (hk:k=.cell\/k=.free):(x,NameKind.free) ∈ scope.names:=by
  have h1:=PySem.mem_of_lookup h;obtain ⟨⟨n,k'⟩,hm,e⟩:=List.mem_map.mp (show (x,k) ∈ scope.names.map _ from h1);dsimp only at e;split at e
  · rename_i q
    cases e;simp only [Bool.and_eq_true] at q;have:k'=.free:=by simpa using q.1.1
    subst this;exact hm
  · cases e
    rcases hk with rfl | rfl
    · exact absurd rfl (hcell _ hm)
    · exact hm
theorem M6 {env:Env} {x:Str}:∀ {l:List (Str × NameKind)},l.lookup x=some .free ->
    (l.map fun (n,k)=>if (k == NameKind.free && env.scope.kind == .function && env.kindOf n == some .cell) then (n,NameKind.cell) else (n,k)).lookup x=some .cell \/
    (l.map fun (n,k)=>if (k == NameKind.free && env.scope.kind == .function && env.kindOf n == some .cell) then (n,NameKind.cell) else (n,k)).lookup x=some .free
  | [],h=>by simp at h
  | (n,k) :: r,h=>by
    rw [List.lookup_cons] at h;rw [List.map_cons];dsimp only;by_cases e:(x == n)=true
    · rw [e] at h
      have hk:k=.free:=by simpa using h
      subst hk;by_cases q:(NameKind.free == NameKind.free && env.scope.kind == .function && env.kindOf n == some .cell)=true
      · left; rw [if_pos q,List.lookup_cons,e]
      · right; rw [if_neg q,List.lookup_cons,e]
    · have e':(x == n)=false:=by simpa using e
      rw [e'] at h;have:=M6 (env:=env) h;by_cases q:(k == NameKind.free && env.scope.kind == .function && env.kindOf n == some .cell)=true
      · rw [if_pos q,List.lookup_cons,e']; exact this
      · rw [if_neg q,List.lookup_cons,e']; exact this
theorem Z4 {scope:Scope} {env:Env} {x:Str} (h:scope.names.lookup x=some .free):(relabel scope env).names.lookup x=some .cell\/(relabel scope env).names.lookup x=some .free:=M6 h
theorem B3 {X:Cx} {scope:Scope} (N':List Str) (cap:List (Option Nat))
    (h1:scope.names.all (fun p=>!(p.2 == .free) || ((X.env.cells.lookup p.1).isSome && !(X.env.kindOf p.1 == some .local)))=true:=by exact rfl)
    (hk:scope.kind=.function:=by exact rfl) (h2:scope.names.all (fun p=>!(p.2 == .cell))=true:=by exact rfl) (h3:scope.names.all (fun p=>!(p.2 == .local) || scope.names.lookup p.1 == some .local)=true:=by exact rfl)
    (nd:N'.Nodup:=by decide +kernel) (len:cap.length=N'.length:=by exact rfl)
    (h4:(N'.zip cap).all (fun q=>match q.2 with | none=>true | some j=>(X.N[j]? == some q.1) && (scope.names.lookup q.1 == some .free) && (X.env.scope.names.lookup q.1 == some .cell || X.env.scope.names.lookup q.1 == some .free))=true:=by exact rfl) :
    CompSc X scope (A0w X.env scope.names []) N' cap:=by
  have hfree:∀ p ∈ scope.names,p.2=.free->(X.env.cells.lookup p.1).isSome=true/\X.env.kindOf p.1≠some .local:=fun p hp e=>by
    have:=List.all_eq_true.mp h1 p hp;rw [e] at this;have this:((X.env.cells.lookup p.1).isSome && !(X.env.kindOf p.1 == some .local))=true:=this;rw [Bool.and_eq_true] at this;refine ⟨this.1,fun z=>?_⟩;rw [z] at this;exact absurd this.2 (by decide)
  have hcell:∀ y ∈ scope.names,y.2≠.cell:=fun y hy e=>by
    have:=List.all_eq_true.mp h2 y hy;rw [e] at this;exact absurd this (by decide)
  have memsub:∀ x c,(A0w X.env scope.names []).lookup x=some c->(x,NameKind.free) ∈ scope.names/\X.env.cells.lookup x=some c:=fun x c h=>by
    rcases A0v _ _ _ (PySem.mem_of_lookup h) with z | ⟨z,e⟩
    · exact absurd z (by simp)
    · refine ⟨z,?_⟩
      obtain ⟨c',hc'⟩:=Option.isSome_iff_exists.mp (hfree _ z rfl).1;have hc':X.env.cells.lookup x=some c':=hc';have e:c=(X.env.cells.lookup x).getD 0:=e;rw [hc'] at e ⊢;exact congrArg some e.symm
  refine ⟨?_,fun x c h=>(memsub x c h).2,fun x h=>?_,hk,hcell,fun y hy e=>?_,nd,len,fun x c h=>(hfree _ (memsub x c h).1 rfl).2,fun i x j hi hc=>?_⟩
  · unfold closureFor
    show (forIn scope.names [] _ >>= fun r=>pure r)=_;rw [X4 scope.names [] fun p hp e=>(hfree p hp e).1];rfl
  · have hm:(x,NameKind.free) ∈ scope.names:=by
      rcases h with h | h
      · exact N8 hcell h (.inl rfl)
      · exact N8 hcell h (.inr rfl)
    obtain ⟨c,hc⟩:=T8 (env:=X.env) scope.names [] x (.inr hm);exact L7 hc
  · have:=List.all_eq_true.mp h3 y hy
    rw [e] at this;simpa using this
  · have hz:(x,some j) ∈ N'.zip cap:=by
      refine List.mem_iff_getElem?.mpr ⟨i,?_⟩;rw [List.getElem?_zip_eq_some];exact ⟨hi,hc⟩
    have:=List.all_eq_true.mp h4 _ hz;simp only [Bool.and_eq_true,Bool.or_eq_true,beq_iff_eq] at this;obtain ⟨⟨q1,q2⟩,q3⟩:=this;refine ⟨q1,Z4 q2,?_,?_⟩
    · rcases q3 with q | q
      · exact .inr (.inl q)
      · exact .inr (.inr q)
    · obtain ⟨c,hc⟩:=T8 (env:=X.env) scope.names [] x (.inr (PySem.mem_of_lookup q2))
      exact L7 hc
def V7 (wi:TI) (g:TG) (tt:TT) (te:TE) (cap:List (Option Nat)) (i:Nat):TS:=fun D σ H=>wi σ H fun J H1=>∀ l,H1 l=none->A22 J g tt te l (fun H'=>D.nx (σ.set i (some (.ref l))) H') (capσ cap σ) H1
section
variable {X:Cx} {scope:Scope} {cl:List (Str × Addr)} {N':List Str} {cap:List (Option Nat)} {elt tg iter:Expr} {ifs:List Expr} {wi:TI} {g:TG} {tt:TT} {te:TE} {pos spos py:Pos} {y:Str} {i:Nat}
theorem A3g (hc:X.calm=true) (hN:X.N.Nodup) (hi:X.N[i]?=some y) (hy:X.env.scope.names.lookup y=some .local) (C:CompSc X scope cl N' cap) (hit:PI X tg iter wi) (hg:∀ s3 H3 fp,PG (X.block scope cl N' s3 H3 fp) tg g)
    (ht:∀ s3 H3 fp,PTs (X.block scope cl N' s3 H3 fp) ifs tt) (he:∀ s3 H3 fp,PE (X.block scope cl N' s3 H3 fp) elt te)
    (hsw:swapsWith (.ListComp elt [⟨tg,iter,ifs,0⟩] scope pos) (some (.Name y py)) spos.line X.env=pure true) (hs:∀ x,foldedSetIterable iter X.env x=pure x:=by intro _; rfl) :
    PS X (.Assign [.Name y py] (.ListComp elt [⟨tg,iter,ifs,0⟩] scope pos) spos) (V7 wi g tt te cap i):=by
  intro pins s σ H D I h;rw [exec_Assign_Name_used _ _ _ _ hsw];refine wpAny_bind (wpAny_standAt (wpAny_bind ?_));show wpAny _ X.A (do let _ <- comprehension (.ListComp elt [⟨tg,iter,ifs,0⟩] scope pos) scope X.env _ (newList []) false (eval iter X.env) (some (assign (.Name y py) X.env))) _ _ s;refine wpAny_bind (wpAny_mono (wpAny_comprehension_free (use:=some (assign (.Name y py) X.env)) (Q:=fun _ s'=>SP X pins D .next s') rfl hs C.clos C.kind C.names
    (thn (hit pins s σ H _ I h) fun v s1 h1=>thn h1 fun itv s2 h2=>?_)) (fun _ s' hq=>wpAny_pure (wpAny_pure hq)) fun _ _ e=>e)
  obtain ⟨it,fp,tn,J,H2,e,I2,T,st2,f2,go⟩:=h2;subst e;refine A02 (RR:=fun acc C=>compPost (model X.prog X.w) X.A X.xe (some (assign (.Name y py) X.env)) (fun _ s'=>SP X pins D .next s') acc C) (Fin:=fun l H'=>D.nx (σ.set i (some (.ref l))) H') hc C I2 T st2 f2 hg ht he go ?_;intro l C' s' m H' hn n1 n2 n3 n4 n5 fin inv;show wpAny _ X.A (assign (.Name y py) X.env (.ref l)) _ _ _;refine wpAny_assign_Name (Y6 (v:=.ref l) inv hN hi (.inl hy) rfl (fun s'' I'' ⟨a,sb,ha⟩=>?_) (.inr hy));have na:C'≠a:=by
    rcases ha with e | e
    · rw [e]; exact n1
    · exact (n4 _ _ e).symm
  exact ⟨m,hn.sameBut sb na,fun h' hs'=>⟨_,H',I''.turned (t':=s''.toks) (fun b o hb e=>(hs'.2 b hb).trans e) n2 n1 (.inr n3) n4 n5,fin⟩⟩
end
section
variable {X:Cx} {K:PySem.W.Frag}
theorem B2b {pos:Pos} {es:List Expr} {k:Nat} {t:TGs} {n:Nat} (h:X.K=K) (hc:X.calm=true) (hg:PGs X es t)
    (hn:(assignEach es X.env).length=n:=by rfl) (hst:(assignEach es X.env).findIdx? (·.1)=none:=by rfl):PG X (.Tuple es k pos) (gTup K n t):=by subst h; exact B7j hc hg hn hst
end
end L2
namespace Prf
open PySem L2 My
abbrev Hpp:=L2.Hp
theorem ifD {p:Prop} [Decidable p] {A B:Prop} (h1:p->A) (h2:¬ p->B):if decide p=true then A else B:=by
  by_cases h:p
  · rw [Zk h]; exact h1 h
  · rw [Zd h]; exact h2 h
structure StAt (H:Hpp) (p:Addr):Prop where
  ex:∃ (c m:Int) (f:Bool),H p=some (.lst [.int c,.int m,.bl f])/\0<=m/\m < 2147483648
theorem StAt.same {H H':Hpp} {p:Addr} (h:StAt H p) (e:Same H H'):StAt H' p:=by
  obtain ⟨c,m,f,h,r⟩:=h.ex; exact ⟨c,m,f,e _ _ h,r⟩
theorem StAt.kp {H H':Hpp} {p l:Addr} (h:StAt H p) (n:p≠l) (e:Kp l H H'):StAt H' p:=by
  obtain ⟨c,m,f,h,r⟩:=h.ex; exact ⟨c,m,f,e _ _ n h,r⟩
def A14 (K:PySem.W.Frag):Sp:=fun vs H Q _=>∃ (a:Addr) (ns:List Int) (k:Int),vs=[.ref a,.int k]/\SqL K H a (ns.map V.int)/\0<=k/\k<=63/\∀ p H',H p=none->StAt H' p->Kp p H H'->Q (.ref p) H'
def A4j:Sp:=fun vs H Q _=>∃ (p:Addr) (n:Int),vs=[.ref p,.int n]/\StAt H p/\0 < n/\Sm 4000 n/\∀ d H',0<=d->d < n->StAt H' p->Kp p H H'->Q (.int d) H'
def B1g (K:PySem.W.Frag):Sp:=fun vs H Q _=>∃ (a:Addr) (ns:List Int),vs=[.ref a]/\SqL K H a (ns.map V.int)/\ns.length<=63/\∀ H',Q (.bl true) H'
theorem sm32 {m:Int} (h0:0<=m) (h1:m < 2147483648):Sm 8000 m:=Sm.mono (k:=32) (by unfold Sm; omega) (by decide)
theorem U7 {m:Int} (n:Nat) (h:m.natAbs < 2 ^ 64:=by decide):Sm 8000 m:=Sm.mono (k:=64) h (by decide)
theorem Y8 {k:Nat} {t b:Int} (h:Sm k b) (hb:b≠0):Sm k ((Int.gcd t b:Nat):Int):=by
  have h1:Int.gcd t b ∣ b.natAbs:=Nat.gcd_dvd_right _ _;have h2:=Nat.le_of_dvd (by omega) h1;exact h.le (by simpa using h2)
theorem B6s {k:Nat} {t b:Int} (h:Sm k b) (hb:b≠0):Sm k (sh t b):=by
  have h1:Int.gcd t b ∣ b.natAbs:=Nat.gcd_dvd_right _ _;have h2:=Nat.le_of_dvd (by omega) h1;exact h.le (by rw [B6x]; exact h2)
end Prf
namespace Prf
open PySem L2 My
theorem A6x (n:Nat) (h:(n:Int)<=1000000:=by decide):CPow 10 (n:Int):=⟨by omega,h,by decide⟩
theorem sm4 (n:Int) (h:n.natAbs < 2 ^ 64:=by decide):Sm 4000 n:=Sm.mono (k:=64) h (by decide)
theorem A16 {k:Int} (h0:0<=k) (h1:k<=63):Sm 8000 k:=sm32 h0 (by omega)
theorem B6t {k:Int} (h0:0<=k) (h1:k<=63):Sm 20 k:=by unfold Sm; omega
theorem B6u (b:Bool):Sm 8000 (if b=true then (1:Int) else 0):=by cases b <;> exact U7 0
theorem C0h:kitB "tuple" "tuple"=some true:=by decide +kernel
theorem C0r:kitB "int" "bool"=some false:=by decide +kernel
end Prf
namespace Prf
open PySem L2 My
inductive R2L {α:Type} (P:Addr->α->Prop):List V->List α->Prop
  | nil:R2L P [] []
  | cons {a:Addr} {q:α} {rs:List V} {qs:List α}:P a q->R2L P rs qs->R2L P (.ref a :: rs) (q :: qs)
section
variable {α:Type} {P P':Addr->α->Prop}
theorem R2L.get:∀ {rs qs} {i:Nat} {x:V},R2L P rs qs->rs[i]?=some x->∃ a q,x=.ref a/\qs[i]?=some q/\P a q
  | _,_,_,_,.nil,e=>by simp at e
  | _,_,0,_,.cons h _,e=>by simp at e; subst e; exact ⟨_,_,rfl,rfl,h⟩
  | _,_,i + 1,x,.cons _ t,e=>by
    obtain ⟨a,q,h1,h2,h3⟩:=R2L.get (i:=i) (x:=x) t (by simpa using e);exact ⟨a,q,h1,by simpa using h2,h3⟩
end
structure OfOk (cs:List (Rat × Rat)) (a b c d:Nat):Prop where
  ne:1<=cs.length
  le:cs.length<=5
  dec:Dec cs
  sm:∀ x ∈ cs,SmR a b x.1/\SmR c d x.2
def dq (q:Rat):PyData:=.tuple [.int q.num,.int q.den]
def dcn (c:Rat × Rat):PyData:=.tuple [dq c.1,dq c.2]
theorem A6t:∀ cs:List (Rat × Rat),PyData.canLayAll0 (cs.map dcn)=true
  | []=>rfl
  | c :: r=>by
    show ((dcn c).canLay0 && PyData.canLayAll0 (r.map dcn))=true;rw [show (dcn c).canLay0=true from rfl,A6t r]; rfl
theorem A0t:∀ cs:List (Rat × Rat),PyData.depthAll (cs.map dcn)<=2
  | []=>Nat.zero_le _
  | c :: r=>by
    show max (dcn c).depth (PyData.depthAll (r.map dcn))<=2;have h1:=A0t r;have h2:(dcn c).depth=2:=rfl;omega
theorem K7 {k:Nat} {z:Int} {B:Nat} (h0:-(B:Int)<=z) (h1:z<=B) (hB:B < 2 ^ k):Sm k z:=by
  unfold Sm; omega
end Prf
set_option maxHeartbeats 4000000
namespace L2
open PySem
theorem SqD.same {K:PySem.W.Frag} {F F':Hp} {a:Addr} {xs:List V} (e:Same F F') (h:SqD K F a xs):SqD K F' a xs:=⟨SqT.same e h.1,h.2.imp (e _ _) id⟩
mutual
theorem Den.same {K:PySem.W.Frag} {F F':Hp} (e:Same F F'):∀ {v:V} {x:PyData},Den K F v x->Den K F' v x
  | _,_,.non=>.non
  | _,_,.bl b=>.bl b
  | _,_,.int i=>.int i
  | _,_,.str x=>.str x
  | _,_,.lst h t=>.lst (e.seq h) (DenAll.same e t)
  | _,_,.tup h t=>.tup (SqD.same e h) (DenAll.same e t)
  | _,_,.dct h=>.dct (e _ _ h)
theorem DenAll.same {K:PySem.W.Frag} {F F':Hp} (e:Same F F'):∀ {vs:List V} {xs:List PyData},DenAll K F vs xs->DenAll K F' vs xs
  | _,_,.nil=>.nil
  | _,_,.cons h t=>.cons (Den.same e h) (DenAll.same e t)
end
section
variable {K:PySem.W.Frag} {F:Hp}
theorem Den.intE {v:V} {i:Int} (h:Den K F v (.int i)):v=.int i:=by cases h; rfl
theorem Den.blE {v:V} {b:Bool} (h:Den K F v (.bool b)):v=.bl b:=by cases h; rfl
theorem Den.nonE {v:V} (h:Den K F v .none):v=.non:=by cases h; rfl
theorem Den.tupE {v:V} {xs:List PyData} (h:Den K F v (.tuple xs)):∃ a vs,v=.ref a/\SqT K F a vs/\DenAll K F vs xs:=by cases h with | tup h t=>exact ⟨_,_,rfl,h.1,t⟩
theorem Den.lstE {v:V} {xs:List PyData} (h:Den K F v (.list xs)):∃ a vs,v=.ref a/\SqL K F a vs/\DenAll K F vs xs:=by cases h; exact ⟨_,_,rfl,‹_›,‹_›⟩
theorem DenAll.len:∀ {vs:List V} {xs:List PyData},DenAll K F vs xs->vs.length=xs.length
  | _,_,.nil=>rfl
  | _,_,.cons _ t=>congrArg (· + 1) (DenAll.len t)
theorem DenAll.get:∀ {vs:List V} {xs:List PyData} {i:Nat} {v:V},DenAll K F vs xs->vs[i]?=some v->∃ x,xs[i]?=some x/\Den K F v x
  | _,_,_,_,.nil,e=>by simp at e
  | _,_,0,_,.cons h _,e=>by simp at e; subst e; exact ⟨_,rfl,h⟩
  | _,_,i + 1,v,.cons _ t,e=>by
    obtain ⟨x,h1,h2⟩:=DenAll.get (i:=i) (v:=v) t (by simpa using e);exact ⟨x,by simpa using h1,h2⟩
theorem DenAll.at:∀ {vs:List V} {xs:List PyData} {i:Nat} {x:PyData},DenAll K F vs xs->xs[i]?=some x->∃ v,vs[i]?=some v/\Den K F v x
  | _,_,_,_,.nil,e=>by simp at e
  | _,_,0,_,.cons h _,e=>by simp at e; subst e; exact ⟨_,rfl,h⟩
  | _,_,i + 1,x,.cons _ t,e=>by
    obtain ⟨v,h1,h2⟩:=DenAll.at (i:=i) (x:=x) t (by simpa using e);exact ⟨v,by simpa using h1,h2⟩
theorem DenAll.app:∀ {vs us:List V} {xs ys:List PyData},DenAll K F vs xs->DenAll K F us ys->DenAll K F (vs++us) (xs++ys)
  | _,_,_,_,.nil,h=>h
  | _,_,_,_,.cons h t,h'=>.cons h (DenAll.app t h')
theorem DenAll.drop:∀ {vs:List V} {xs:List PyData} (n:Nat),DenAll K F vs xs->DenAll K F (vs.drop n) (xs.drop n)
  | _,_,0,h=>by simpa using h
  | _,_,_ + 1,.nil=>by simpa using DenAll.nil
  | _,_,n + 1,.cons _ t=>by simpa using DenAll.drop n t
theorem DenAll.take:∀ {vs:List V} {xs:List PyData} (n:Nat),DenAll K F vs xs->DenAll K F (vs.take n) (xs.take n)
  | _,_,0,_=>by simpa using DenAll.nil
  | _,_,_ + 1,.nil=>by simpa using DenAll.nil
  | _,_,n + 1,.cons h t=>by simpa using DenAll.cons h (DenAll.take n t)
theorem DenAll.dropLast {vs:List V} {xs:List PyData} (h:DenAll K F vs xs):DenAll K F vs.dropLast xs.dropLast:=by
  rw [List.dropLast_eq_take,List.dropLast_eq_take,h.len]; exact h.take _
theorem DenAll.atIE {vs:List V} {xs:List PyData} {i:Int} {x:PyData} (h:DenAll K F vs xs) (e:L2.atI xs i=some x):∃ v,L2.atI vs i=some v/\Den K F v x:=by
  unfold L2.atI at *;rw [h.len];cases q:ixN xs.length i with
  | none=>rw [q] at e; cases e
  | some j=>rw [q] at e; exact DenAll.at h e
end
end L2
namespace Pu
open PySem L2 My Prf
abbrev Frag:=PySem.W.Frag
inductive OT where
  | leaf (x:PyData) | nd (b:Bool) (a:Addr) (k:OT) | nil | cons (h t:OT)
def OT.fp:OT->List Addr
  | .leaf _=>[]
  | .nd _ a k=>a :: k.fp
  | .nil=>[]
  | .cons h t=>h.fp++t.fp
def OT.dat:OT->List PyData
  | .leaf x=>[x]
  | .nd true _ k=>[.list k.dat]
  | .nd false _ k=>[.tuple k.dat]
  | .nil=>[]
  | .cons h t=>h.dat++t.dat
def OT.put (a:Addr) (n:OT):OT->OT
  | .leaf x=>.leaf x
  | .nd b a' k=>.nd b a' (if a'=a then n else OT.put a n k)
  | .nil=>.nil
  | .cons h t=>.cons (OT.put a n h) (OT.put a n t)
inductive SV where
  | d (x:PyData) | own (xs:List PyData) | bor (xs:List PyData) | st | tr (t:OT) | bt (t:OT) | al (a:Addr) | dk (ks:List (Str × Int))
def SV.foot (v:V):SV->Addr->Prop
  | .own _,a=>v=.ref a
  | .dk _,a=>v=.ref a
  | .tr t,a=>a ∈ t.fp
  | _,_=>False
def SV.isRes:SV->Bool
  | .bor _=>false
  | .bt _=>false
  | .al _=>false
  | _=>true
abbrev PEnv:=List (Option SV)
structure Wd where
  M:Addr->Prop
  H:Hpp
  F:Hpp
structure Wd.Ok (w:Wd):Prop where
  sub:Same w.F w.H
  st:∀ p,w.M p->StAt w.H p
  nf:∀ p,w.M p->w.F p=none
structure Lw (w w':Wd):Prop where
  f:Same w.F w'.F
  h:∀ b o,w.H b=some o->¬ w.M b->w'.H b=some o
  m:∀ b,w.M b->w'.M b
  mn:∀ b,w'.M b->w.M b\/w.H b=none
  dom:∀ b,w'.H b=none->w.H b=none
structure Le (w w':Wd):Prop extends Lw w w' where
  n:∀ a o,w'.F a=some o->w.F a=some o\/w.H a=none
theorem Lw.refl (w:Wd):Lw w w:=⟨Same.refl _,fun _ _ h _=>h,fun _ h=>h,fun _ h=>.inl h,fun _ h=>h⟩
theorem Le.refl (w:Wd):Le w w:=⟨Lw.refl w,fun _ _ h=>.inl h⟩
theorem Lw.nm {w w':Wd} (a:Lw w w') {b:Addr} (h:w.H b≠none) (n:¬ w.M b):¬ w'.M b:=fun z=>(a.mn b z).elim n h
theorem Lw.trans {w w1 w2:Wd} (a:Lw w w1) (b:Lw w1 w2):Lw w w2 :=
  ⟨a.f.trans b.f,fun c o h n=>b.h c o (a.h c o h n) (a.nm (by rw [h]; simp) n),fun c h=>b.m c (a.m c h),
   fun c h=>(b.mn c h).elim (a.mn c) fun z=>.inr (a.dom c z),fun c h=>a.dom c (b.dom c h)⟩
theorem Le.trans {w w1 w2:Wd} (a:Le w w1) (b:Le w1 w2):Le w w2 :=
  ⟨a.toLw.trans b.toLw,fun c o h=>(b.n c o h).elim (a.n c o) fun z=>.inr (a.dom c z)⟩
theorem Le.fnone {w w':Wd} (a:Le w w') {l:Addr} (h:w.F l=none) (h':w.H l≠none):w'.F l=none:=by
  cases q:w'.F l with
  | none=>rfl
  | some o =>
    rcases a.n l o q with z | z
    · rw [h] at z; cases z
    · exact absurd z h'
structure Ct where
  K:Frag
  w0:Wd
  Z:Addr->Prop
def VV (K:Frag) (w:Wd) (v:V) (x:PyData):Prop:=Den K w.F v x\/∃ l vs xs,v=.ref l/\x=.list xs/\w.H l=some (.lst vs)/\¬ w.M l/\DenAll K w.F vs xs
def ho:Bool->List V->HO
  | true,vs=>.lst vs
  | false,vs=>.tup vs
def Tre (K:Frag) (w:Wd):OT->List V->Prop
  | .leaf x,vs=>∃ v,vs=[v]/\Den K w.F v x
  | .nd b a k,vs=>vs=[.ref a]/\∃ us,w.H a=some (ho b us)/\Tre K w k us
  | .nil,vs=>vs=[]
  | .cons h t,vs=>∃ v r,vs=v :: r/\Tre K w h [v]/\Tre K w t r
theorem Tre.mono {K:Frag} {w w':Wd} (a:Lw w w'):∀ {t:OT} {vs:List V},Tre K w t vs->(∀ a ∈ t.fp,¬ w.M a)->Tre K w' t vs
  | .leaf _,_,⟨v,e,h⟩,_=>⟨v,e,Den.same a.f h⟩
  | .nd _ p _,_,⟨e,us,h,k⟩,n=>⟨e,us,a.h _ _ h (n p (by simp [OT.fp])),Tre.mono a k fun q hq=>n q (by simp [OT.fp,hq])⟩
  | .nil,_,e,_=>e
  | .cons _ _,_,⟨v,r,e,h,t⟩,n=>⟨v,r,e,Tre.mono a h fun q hq=>n q (by simp [OT.fp,hq]),Tre.mono a t fun q hq=>n q (by simp [OT.fp,hq])⟩
theorem Tre.sameF {K:Frag} {M:Addr->Prop} {H F F':Hpp} (e:Same F F'):∀ {t:OT} {vs:List V},Tre K ⟨M,H,F⟩ t vs->Tre K ⟨M,H,F'⟩ t vs
  | .leaf _,_,⟨v,q,h⟩=>⟨v,q,Den.same e h⟩
  | .nd _ _ _,_,⟨q,us,h,k⟩=>⟨q,us,h,Tre.sameF e k⟩
  | .nil,_,q=>q
  | .cons _ _,_,⟨v,r,q,h,t⟩=>⟨v,r,q,Tre.sameF e h,Tre.sameF e t⟩
def VR (c:Ct) (w:Wd) (v:V):SV->Prop
  | .d x=>Den c.K w.F v x
  | .own xs=>∃ l vs,v=.ref l/\w.H l=some (.lst vs)/\w.F l=none/\¬ w.M l/\c.w0.H l=none/\DenAll c.K w.F vs xs
  | .bor xs=>Den c.K w.F v (.list xs)\/∃ l vs,v=.ref l/\c.w0.H l=some (.lst vs)/\¬ c.w0.M l/\DenAll c.K w.F vs xs
  | .st=>∃ p,v=.ref p/\w.M p
  | .tr t=>Tre c.K w t [v]/\(∀ a ∈ t.fp,w.H a≠none/\w.F a=none/\¬ w.M a/\c.w0.H a=none)/\t.fp.Nodup
  | .bt t=>Tre c.K ⟨c.w0.M,c.w0.H,w.F⟩ t [v]/\∀ a ∈ t.fp,¬ c.w0.M a
  | .al a=>v=.ref a
  | .dk ks=>∃ l,v=.ref l/\w.H l=some (.dT (ks.map fun k=>([Sum.inr k.1,Sum.inl k.2],V.bl true)))/\w.F l=none/\¬ w.M l/\c.w0.H l=none
theorem A7m {H:Hpp} {p b:Addr} {o:HO} (h:upd H p o b=none):H b=none:=by
  unfold upd at h; split at h
  · cases h
  · exact h
theorem VR.foot {c:Ct} {w:Wd} {v:V} {a:Addr}:∀ {s:SV},VR c w v s->s.foot v a->w.H a≠none/\w.F a=none/\¬ w.M a/\c.w0.H a=none
  | .own _,⟨l,vs,e,h1,h2,h3,h4,_⟩,f=>by
    have:V.ref l=.ref a:=e.symm.trans f;cases this;exact ⟨by rw [h1]; simp,h2,h3,h4⟩
  | .dk _,⟨l,e,h1,h2,h3,h4⟩,f=>by
    have:V.ref l=.ref a:=e.symm.trans f;cases this;exact ⟨by rw [h1]; simp,h2,h3,h4⟩
  | .tr _,h,f=>h.2.1 a f
theorem VV.mono {K:Frag} {w w':Wd} {v:V} {x:PyData} (a:Lw w w') (h:VV K w v x):VV K w' v x:=by
  rcases h with h | ⟨l,vs,xs,e,e',h1,h2,h3⟩
  · exact .inl (Den.same a.f h)
  · exact .inr ⟨l,vs,xs,e,e',a.h _ _ h1 h2,a.nm (by rw [h1]; simp) h2,DenAll.same a.f h3⟩
theorem VV.den {K:Frag} {w:Wd} {v:V} {x:PyData} (o:w.Ok) (h:VV K w v x):Den K w.H v x:=by
  rcases h with h | ⟨l,vs,xs,e,e',h1,h2,h3⟩
  · exact Den.same o.sub h
  · rw [e,e']; exact .lst (SqL.of h1) (DenAll.same o.sub h3)
theorem VR.mono {c:Ct} {w w':Wd} {v:V} (a:Le w w'):∀ {s:SV},VR c w v s->VR c w' v s
  | .d _,h=>Den.same a.f h
  | .own xs,⟨l,vs,e,h1,h2,h3,h4,h5⟩=>⟨l,vs,e,a.h _ _ h1 h3,a.fnone h2 (by rw [h1]; simp),a.nm (by rw [h1]; simp) h3,h4,DenAll.same a.f h5⟩
  | .bor xs,.inl h=>.inl (Den.same a.f h)
  | .bor xs,.inr ⟨l,vs,e,h1,h2,h3⟩=>.inr ⟨l,vs,e,h1,h2,DenAll.same a.f h3⟩
  | .st,⟨p,e,h⟩=>⟨p,e,a.m p h⟩
  | .bt t,⟨h,o⟩=>⟨h.sameF a.f,o⟩
  | .al _,h=>h
  | .dk _,⟨l,e,h1,h2,h3,h4⟩=>⟨l,e,a.h _ _ h1 h3,a.fnone h2 (by rw [h1]; simp),a.nm (by rw [h1]; simp) h3,h4⟩
  | .tr t,⟨h,o,d⟩=>⟨h.mono a.toLw fun q hq=>(o q hq).2.2.1,fun q hq=>let ⟨h1,h2,h3,h4⟩:=o q hq; ⟨fun z=>h1 (a.dom q z),a.fnone h2 h1,a.nm h1 h3,h4⟩,d⟩
theorem Tre.writ {K:Frag} {w:Wd} {l:Addr} {wo:HO}:∀ {t:OT} {vs:List V},Tre K w t vs->l ∉ t.fp->Tre K ⟨w.M,upd w.H l wo,w.F⟩ t vs
  | .leaf _,_,h,_=>h
  | .nd _ p _,_,⟨e,ys,h,k⟩,n=>⟨e,ys,by show upd w.H l _ p=_; rw [C7 (fun z=>n (by simp [OT.fp,z]))]; exact h,Tre.writ k fun q=>n (by simp [OT.fp,q])⟩
  | .nil,_,e,_=>e
  | .cons _ _,_,⟨v,r,e,h,t⟩,n=>⟨v,r,e,Tre.writ h fun q=>n (by simp [OT.fp,q]),Tre.writ t fun q=>n (by simp [OT.fp,q])⟩
theorem VR.writ {c:Ct} {w:Wd} {v:V} {l:Addr} {wo:HO} (hl:w.H l≠none):∀ {s:SV},VR c w v s->¬ s.foot v l->VR c ⟨w.M,upd w.H l wo,w.F⟩ v s
  | .d _,h,_=>h
  | .own _,⟨l',vs,e,k1,k2,k3,k4,k5⟩,n=>⟨l',vs,e,by show upd w.H l _ l'=_; rw [C7 (fun z=>n (by rw [<- z]; exact e))]; exact k1,k2,k3,k4,k5⟩
  | .bor _,h,_=>h
  | .st,h,_=>h
  | .bt _,h,_=>h
  | .al _,h,_=>h
  | .dk _,⟨l',e,k1,k2,k3,k4⟩,n=>⟨l',e,by show upd w.H l _ l'=_; rw [C7 (fun z=>n (by rw [<- z]; exact e))]; exact k1,k2,k3,k4⟩
  | .tr _,⟨h,o,d⟩,n=>⟨h.writ n,fun a ha=>⟨fun z=>(o a ha).1 (A7m z),(o a ha).2⟩,d⟩
structure EnvOk (c:Ct) (w:Wd) (env:PEnv) (σ:St):Prop where
  wok:w.Ok
  le0:Le c.w0 w
  len:env.length=σ.length
  at':∀ (i:Nat) s,env[i]?=some (some s)->∃ v,σ[i]?=some (some v)/\VR c w v s
  own:∀ (i j:Nat) s t v u a,env[i]?=some (some s)->env[j]?=some (some t)->σ[i]?=some (some v)->σ[j]?=some (some u)->s.foot v a->t.foot u a->i=j
  zf:∀ a,c.Z a->w.F a=none/\w.H a≠none/\¬ w.M a
  zo:∀ a (j:Nat) t u,c.Z a->env[j]?=some (some t)->σ[j]?=some (some u)->¬ t.foot u a
def New (c:Ct) (env:PEnv) (σ:St) (v:V) (s:SV):Prop:=∀ a,s.foot v a->(∀ (j:Nat) t u,env[j]?=some (some t)->σ[j]?=some (some u)->¬ t.foot u a)/\¬ c.Z a
theorem EnvOk.look {c:Ct} {w:Wd} {env:PEnv} {σ:St} (E:EnvOk c w env σ) {j:Nat} {t:SV} {u:V} (h:env[j]?=some (some t)) (hu:σ[j]?=some (some u)):VR c w u t:=by
  obtain ⟨v,h1,h2⟩:=E.at' j t h;rw [hu] at h1; cases h1; exact h2
theorem EnvOk.fresh {c:Ct} {w:Wd} {env:PEnv} {σ:St} (E:EnvOk c w env σ) {p:Addr} (hp:w.H p=none):(∀ (j:Nat) t u,env[j]?=some (some t)->σ[j]?=some (some u)->¬ t.foot u p)/\¬ c.Z p :=
  ⟨fun _ _ _ h hu f=>((E.look h hu).foot f).1 hp,fun z=>(E.zf p z).2.1 hp⟩
theorem Lw.hsome {w w':Wd} (a:Lw w w') {l:Addr} (h:w.H l≠none):w'.H l≠none:=fun z=>h (a.dom l z)
theorem EnvOk.mono {c:Ct} {w w':Wd} {env:PEnv} {σ:St} (E:EnvOk c w env σ) (ok:w'.Ok) (a:Le w w'):EnvOk c w' env σ :=
  ⟨ok,E.le0.trans a,E.len,fun i s e=>let ⟨v,h1,h2⟩:=E.at' i s e; ⟨v,h1,h2.mono a⟩,E.own,fun b z=>let ⟨h1,h2,h3⟩:=E.zf b z; ⟨a.fnone h1 h2,a.hsome h2,a.nm h2 h3⟩,E.zo⟩
structure Res (c:Ct) (w:Wd) (env:PEnv) (σ:St) (w':Wd) (v:V) (s:SV):Prop where
  ev:EnvOk c w' env σ
  lw:Lw w w'
  val:VR c w' v s
  new:New c env σ v s
  res:s.isRes=true
theorem Res.data {c:Ct} {w:Wd} {env:PEnv} {σ:St} {v:V} {x:PyData} (E:EnvOk c w env σ) (h:Den c.K w.F v x):Res c w env σ w v (.d x) :=
  ⟨E,Lw.refl w,h,fun _ e=>(nomatch e),rfl⟩
def Wd.tup (w:Wd) (p:Addr) (o:HO):Wd:=⟨w.M,upd w.H p o,upd w.F p o⟩
def Wd.lay (w:Wd) (p:Addr) (o:HO):Wd:=⟨w.M,upd w.H p o,w.F⟩
theorem Wd.Ok.fnone {w:Wd} (o:w.Ok) {p:Addr} (h:w.H p=none):w.F p=none:=by
  cases q:w.F p with
  | none=>rfl
  | some u=>have:=o.sub p u q; rw [h] at this; cases this
theorem Wd.Ok.mne {w:Wd} (o:w.Ok) {p q:Addr} (h:w.H p=none) (hq:w.M q):q≠p:=by
  obtain ⟨c,m,f,e,_⟩:=(o.st q hq).ex;exact D9 e h
theorem M3 {H:Hpp} {p b:Addr} {o:HO} (h:upd H p o b=none):H b=none:=by
  unfold upd at h; split at h
  · cases h
  · exact h
theorem Wd.tup_ok {w:Wd} {p:Addr} {o:HO} (ok:w.Ok) (h:w.H p=none):(w.tup p o).Ok :=
  ⟨fun b u e=>by
    show upd w.H p o b=some u;have e':upd w.F p o b=some u:=e;unfold upd at e' ⊢;split at e'
    · rename_i z; rw [if_pos z]; exact e'
    · rename_i z; rw [if_neg z]; exact ok.sub b u e',
   fun q hq=>(ok.st q hq).same (Same.upd h),fun q hq=>by
    show upd w.F p o q=none;rw [C7 (ok.mne h hq)]; exact ok.nf q hq⟩
theorem Wd.lay_ok {w:Wd} {p:Addr} {o:HO} (ok:w.Ok) (h:w.H p=none):(w.lay p o).Ok :=
  ⟨ok.sub.trans (Same.upd h),fun q hq=>(ok.st q hq).same (Same.upd h),ok.nf⟩
theorem Wd.tup_le {w:Wd} {p:Addr} {o:HO} (ok:w.Ok) (h:w.H p=none):Le w (w.tup p o) :=
  ⟨⟨Same.upd (ok.fnone h),fun b u e _=>Same.upd h b u e,fun _ z=>z,fun _ z=>.inl z,fun b z=>M3 z⟩,fun a u e=>by
    have e':upd w.F p o a=some u:=e;unfold upd at e';split at e'
    · rename_i z; rw [z]; exact .inr h
    · exact .inl e'⟩
theorem Wd.lay_le {w:Wd} {p:Addr} {o:HO} (h:w.H p=none):Le w (w.lay p o) :=
  ⟨⟨Same.refl _,fun b u e _=>Same.upd h b u e,fun _ z=>z,fun _ z=>.inl z,fun b z=>M3 z⟩,fun a u e=>.inl e⟩
theorem Res.tup {c:Ct} {w:Wd} {env:PEnv} {σ:St} {p:Addr} {vs:List V} {xs:List PyData} (E:EnvOk c w env σ) (h:w.H p=none) (hd:DenAll c.K w.F vs xs):Res c w env σ (w.tup p (.tup vs)) (.ref p) (.d (.tuple xs)) :=
  ⟨E.mono (Wd.tup_ok E.wok h) (Wd.tup_le E.wok h),(Wd.tup_le E.wok h).toLw,.tup (SqD.of C6) (DenAll.same (Wd.tup_le E.wok h).f hd),fun _ e=>(nomatch e),rfl⟩
theorem Res.lst {c:Ct} {w:Wd} {env:PEnv} {σ:St} {p:Addr} {vs:List V} {xs:List PyData} (E:EnvOk c w env σ) (h:w.H p=none) (hd:DenAll c.K w.F vs xs):Res c w env σ (w.lay p (.lst vs)) (.ref p) (.own xs) :=
  ⟨E.mono (Wd.lay_ok E.wok h) (Wd.lay_le h),(Wd.lay_le h).toLw,⟨p,vs,rfl,C6,E.wok.fnone h,fun z=>E.wok.mne h z rfl,E.le0.dom p h,hd⟩,
   fun a f=>(by
    have:V.ref p=.ref a:=f;cases this;exact E.fresh h),rfl⟩
theorem Res.frz {c:Ct} {w w1:Wd} {env:PEnv} {σ:St} {v:V} {xs:List PyData} (R:Res c w env σ w1 v (.own xs)):∃ w',w'.H=w1.H/\EnvOk c w' env σ/\Lw w w'/\Den c.K w'.F v (.list xs):=by
  obtain ⟨E,lw,⟨l,vs,e,h1,h2,h3,h4,h5⟩,new,_⟩:=R;subst e;obtain ⟨n1,n2⟩:=new l rfl;have up:Same w1.F (upd w1.F l (.lst vs)):=Same.upd h2;have lw':Lw w1 ⟨w1.M,w1.H,upd w1.F l (.lst vs)⟩:=⟨up,fun _ _ h _=>h,fun _ h=>h,fun _ h=>.inl h,fun _ h=>h⟩;refine ⟨⟨w1.M,w1.H,upd w1.F l (.lst vs)⟩,rfl,⟨⟨fun b u q=>?_,E.wok.st,fun p hp=>?_⟩,⟨E.le0.toLw.trans lw',fun a u q=>?_⟩,E.len,fun i s q=>?_,E.own,fun a za=>?_,E.zo⟩,lw.trans lw',.lst (SqL.of C6) (DenAll.same up h5)⟩
  · have q':upd w1.F l (.lst vs) b=some u:=q
    unfold upd at q';split at q'
    · rename_i z; rw [z]; exact h1.trans q'
    · exact E.wok.sub b u q'
  · show upd w1.F l (.lst vs) p=none
    rw [C7 (fun z=>h3 (by rw [<- z]; exact hp))]; exact E.wok.nf p hp
  · have q':upd w1.F l (.lst vs) a=some u:=q
    unfold upd at q';split at q'
    · rename_i z; rw [z]; exact .inr h4
    · exact E.le0.n a u q'
  · obtain ⟨v,g1,g2⟩:=E.at' i s q
    refine ⟨v,g1,?_⟩;cases s with
    | d x=>exact Den.same up g2
    | own ys =>
      obtain ⟨l',us,e',k1,k2,k3,k4,k5⟩:=g2;subst e';refine ⟨l',us,rfl,k1,?_,k3,k4,DenAll.same up k5⟩;show upd w1.F l (.lst vs) l'=none;rw [C7 (fun z=>n1 i _ _ q g1 (by subst z; rfl))]; exact k2
    | bor ys =>
      rcases g2 with g | ⟨l',us,e',k1,k2,k3⟩
      · exact .inl (Den.same up g)
      · exact .inr ⟨l',us,e',k1,k2,DenAll.same up k3⟩
    | st=>exact g2
    | bt t=>exact ⟨g2.1.sameF up,g2.2⟩
    | al a=>exact g2
    | dk ks =>
      obtain ⟨l',e',k1,k2,k3,k4⟩:=g2;subst e';refine ⟨l',rfl,k1,?_,k3,k4⟩;show upd w1.F l (.lst vs) l'=none;rw [C7 (fun z=>n1 i _ _ q g1 (by subst z; rfl))]; exact k2
    | tr t =>
      obtain ⟨k1,k2,k3⟩:=g2;refine ⟨k1.mono lw' fun p hp=>(k2 p hp).2.2.1,fun p hp=>⟨(k2 p hp).1,?_,(k2 p hp).2.2⟩,k3⟩;show upd w1.F l (.lst vs) p=none;rw [C7 (fun z=>n1 i _ _ q g1 (by subst z; exact hp))]; exact (k2 p hp).2.1
  · obtain ⟨z1,z2,z3⟩:=E.zf a za
    refine ⟨?_,z2,z3⟩;show upd w1.F l (.lst vs) a=none;rw [C7 (fun z=>n2 (by subst z; exact za))]; exact z1
theorem EnvOk.set {c:Ct} {w:Wd} {env:PEnv} {σ:St} {v:V} {s:SV} {i:Nat} (E:EnvOk c w env σ) (h:VR c w v s) (new:New c env σ v s) :
    EnvOk c w (env.set i (some s)) (σ.set i (some v)):=by
  have hl:=E.len;have hd:∀ {j:Nat} {t:SV} {u:V},(env.set i (some s))[j]?=some (some t)->(σ.set i (some v))[j]?=some (some u)->(i=j/\t=s/\u=v)\/(i≠j/\env[j]?=some (some t)/\σ[j]?=some (some u)):=by
    intro j t u q q';rw [List.getElem?_set] at q q';by_cases e:i=j
    · subst e
      rw [if_pos rfl] at q q';split at q
      · rename_i z
        rw [if_pos (by omega)] at q';cases q; cases q'; exact .inl ⟨rfl,rfl,rfl⟩
      · cases q
    · rw [if_neg e] at q q'
      exact .inr ⟨e,q,q'⟩
  refine ⟨E.wok,E.le0,by simpa using hl,fun j t q=>?_,fun j k s1 t1 v1 u1 a q1 q2 q3 q4 f1 f2=>?_,E.zf,fun a j t u za q q'=>?_⟩
  · rw [List.getElem?_set] at q ⊢
    by_cases e:i=j
    · subst e
      rw [if_pos rfl] at q ⊢;split at q
      · rename_i z
        rw [if_pos (by omega)];cases q;exact ⟨v,rfl,h⟩
      · cases q
    · rw [if_neg e] at q ⊢
      exact E.at' j t q
  · rcases hd q1 q3 with ⟨e1,rfl,rfl⟩ | ⟨e1,p1,p3⟩
    · rcases hd q2 q4 with ⟨e2,rfl,rfl⟩ | ⟨e2,q2,q4⟩
      · exact e1.symm.trans e2
      · exact absurd f2 ((new a f1).1 k _ _ q2 q4)
    · rcases hd q2 q4 with ⟨e2,rfl,rfl⟩ | ⟨e2,p2,p4⟩
      · exact absurd f1 ((new a f2).1 j _ _ p1 p3)
      · exact E.own j k _ _ _ _ a p1 p2 p3 p4 f1 f2
  · rcases hd q q' with ⟨_,rfl,rfl⟩ | ⟨_,q,q'⟩
    · exact fun f=>(new a f).2 za
    · exact E.zo a j t u za q q'
end Pu
namespace Pu
open PySem L2 My Prf
abbrev PX:=PEnv->(SV->PEnv->Prop)->Prop
abbrev PDt:=PEnv->(PyData->PEnv->Prop)->Prop
abbrev PTt:=PEnv->(Bool->PEnv->Prop)->Prop
abbrev PAr:=PEnv->(List PyData->PEnv->Prop)->Prop
abbrev PAs:=PEnv->(List SV->PEnv->Prop)->Prop
theorem Res.pre {c:Ct} {w w1 w2:Wd} {env:PEnv} {σ:St} {v:V} {s:SV} (a:Lw w w1) (R:Res c w1 env σ w2 v s):Res c w env σ w2 v s:=⟨R.ev,a.trans R.lw,R.val,R.new,R.res⟩
class RE (K:Frag) (te:TE) (pe:outParam PX):Prop where
  ok:∀ (c:Ct) (w:Wd) (env:PEnv) (σ:St) (Qp:SV->PEnv->Prop) (Q:VK),c.K=K->EnvOk c w env σ->pe env Qp->(∀ v s env' w',Res c w env' σ w' v s->Qp s env'->Q v w'.H)->te σ w.H Q
class RD (K:Frag) (te:TE) (pd:outParam PDt):Prop where
  ok:∀ (c:Ct) (w:Wd) (env:PEnv) (σ:St) (Qp:PyData->PEnv->Prop) (Q:VK),c.K=K->EnvOk c w env σ->pd env Qp->(∀ v x env' w',EnvOk c w' env' σ->Lw w w'->Den K w'.F v x->Qp x env'->Q v w'.H)->te σ w.H Q
class RW (K:Frag) (te:TE) (pd:outParam PDt):Prop where
  ok:∀ (c:Ct) (w:Wd) (env:PEnv) (σ:St) (Qp:PyData->PEnv->Prop) (Q:VK),c.K=K->EnvOk c w env σ->pd env Qp->(∀ v x env' w',EnvOk c w' env' σ->Lw w w'->VV K w' v x->Qp x env'->Q v w'.H)->te σ w.H Q
def SV.asD (s:SV) (k:PyData->Prop):Prop:=match s with
  | .d x=>k x
  | .own xs=>k (.list xs)
  | _=>False
def pdat (pe:PX) (env:PEnv) (Q:PyData->PEnv->Prop):Prop:=pe env fun s e=>s.asD fun x=>Q x e
instance C1y {K:Frag} {te:TE} {pe:PX} [h:RE K te pe]:RD K te (pdat pe) where
  ok:=by
    rintro c w env σ Qp Q rfl E p k;refine h.ok c w env σ _ Q rfl E p fun v s env' w' R q=>?_;cases s with
    | d x=>exact k v x env' w' R.ev R.lw R.val q
    | own xs =>
      obtain ⟨w2,e,E2,l2,d2⟩:=R.frz;rw [<- e];exact k v _ env' w2 E2 l2 d2 q
    | bor xs=>exact (show False from q).elim
    | st=>exact (show False from q).elim
    | tr t=>exact (show False from q).elim
    | bt t=>exact (show False from q).elim
    | al t=>exact (show False from q).elim
    | dk t=>exact (show False from q).elim
instance (priority:=low) rw_of {K:Frag} {te:TE} {pd:PDt} [h:RD K te pd]:RW K te pd where
  ok:=fun c w env σ Qp Q e E p k=>h.ok c w env σ Qp Q e E p fun v x env' w' E' l d q=>k v x env' w' E' l (.inl d) q
def pVar (i:Nat) (env:PEnv) (Q:SV->PEnv->Prop):Prop:=match env[i]? with
  | some (some (.d x))=>Q (.d x) env
  | some (some (.own xs))=>Q (.d (.list xs)) (env.set i (some (.d (.list xs))))
  | some (some .st)=>Q .st env
  | _=>False
def B2j (i:Nat) (env:PEnv) (Q:PyData->PEnv->Prop):Prop:=match env[i]? with
  | some (some (.d x))=>Q x env
  | some (some (.own xs))=>Q (.list xs) env
  | some (some (.bor xs))=>Q (.list xs) env
  | _=>False
theorem EnvOk.frz {c:Ct} {w:Wd} {env:PEnv} {σ:St} {i:Nat} {xs:List PyData} (E:EnvOk c w env σ) (h:env[i]?=some (some (.own xs))) :
    ∃ w' v,w'.H=w.H/\σ[i]?=some (some v)/\EnvOk c w' (env.set i (some (.d (.list xs)))) σ/\Lw w w'/\Den c.K w'.F v (.list xs):=by
  obtain ⟨v,hv,hV⟩:=E.at' i _ h;have hV':=hV;obtain ⟨l,vs,e,h1,h2,h3,h4,h5⟩:=hV';have up:∀ {j:Nat} {t:SV},(env.set i none)[j]?=some (some t)->i≠j/\env[j]?=some (some t):=by
    intro j t q;rw [List.getElem?_set] at q;split at q
    · split at q <;> cases q
    · rename_i z; exact ⟨z,q⟩
  have E':EnvOk c w (env.set i none) σ:=⟨E.wok,E.le0,by simpa using E.len,fun j s q=>E.at' j s (up q).2,fun j k s t v u a q1 q2=>E.own j k s t v u a (up q1).2 (up q2).2,E.zf,fun a j t u za q=>E.zo a j t u za (up q).2⟩;have R:Res c w (env.set i none) σ w v (.own xs):=⟨E',Lw.refl w,hV,fun a f=>⟨fun j t u q z g=>(up q).1 (E.own i j _ _ _ _ a h (up q).2 hv z f g),fun za=>E.zo a i _ _ za h hv f⟩,rfl⟩;obtain ⟨w',e',E2,l2,d2⟩:=R.frz;refine ⟨w',v,e',hv,?_,l2,d2⟩;have E3:=E2.set (i:=i) (v:=v) (s:=.d (.list xs)) d2 (fun _ z=>nomatch z);rw [List.set_set] at E3;have hi:i < σ.length:=(Zs hv).1
  rwa [show σ.set i (some v)=σ by
    refine List.ext_getElem? fun j=>?_;rw [List.getElem?_set];split
    · rename_i z; subst z; simp [hv]
    · rfl] at E3
instance re_var {K:Frag} {i:Nat}:RE K (tVar i) (pVar i) where
  ok:=by
    rintro c w env σ Qp Q rfl E p k;unfold pVar at p;split at p
    · rename_i x e
      obtain ⟨v,h1,h2⟩:=E.at' i _ e;exact ⟨v,h1,k v _ env w (Res.data E h2) p⟩
    · rename_i xs e
      obtain ⟨w',v,e',hv,E',l,d⟩:=E.frz e;refine ⟨v,hv,?_⟩;rw [<- e'];exact k v (.d (.list xs)) _ w' ⟨E',l,d,fun _ z=>(nomatch z),rfl⟩ p
    · rename_i e
      obtain ⟨v,h1,h2⟩:=E.at' i _ e;exact ⟨v,h1,k v _ env w ⟨E,Lw.refl w,h2,fun _ z=>(nomatch z),rfl⟩ p⟩
    · exact p.elim
theorem VR.vv {c:Ct} {w:Wd} {v:V} {xs:List PyData} (l:Le c.w0 w) (h:VR c w v (.bor xs)):VV c.K w v (.list xs):=by
  rcases h with h | ⟨l',vs,e,h1,h2,h3⟩
  · exact .inl h
  · exact .inr ⟨l',vs,xs,e,rfl,l.h _ _ h1 h2,l.nm (by rw [h1]; simp) h2,h3⟩
instance rw_var {K:Frag} {i:Nat}:RW K (tVar i) (B2j i) where
  ok:=by
    rintro c w env σ Qp Q rfl E p k;unfold B2j at p;split at p
    · rename_i x e
      obtain ⟨v,h1,h2⟩:=E.at' i _ e;exact ⟨v,h1,k v _ env w E (Lw.refl w) (.inl h2) p⟩
    · rename_i xs e
      obtain ⟨v,h1,l,vs,e',g1,g2,g3,g4,g5⟩:=E.at' i _ e;exact ⟨v,h1,k v _ env w E (Lw.refl w) (.inr ⟨l,vs,xs,e',rfl,g1,g3,g5⟩) p⟩
    · rename_i xs e
      obtain ⟨v,h1,h2⟩:=E.at' i _ e;exact ⟨v,h1,k v _ env w E (Lw.refl w) (h2.vv E.le0) p⟩
    · exact p.elim
def pC (x:PyData) (env:PEnv) (Q:SV->PEnv->Prop):Prop:=Q (.d x) env
theorem O2 {K:Frag} {v:V} {x:PyData} (h:∀ F,Den K F v x):RE K (tC v) (pC x) where
  ok:=by
    rintro c w env σ Qp Q rfl E p k;exact k _ _ env w (Res.data E (h _)) p
instance re_int {K:Frag} {i:Int}:RE K (tC (.int i)) (pC (.int i)):=O2 fun _=>.int i
instance re_bl {K:Frag} {b:Bool}:RE K (tC (.bl b)) (pC (.bool b)):=O2 fun _=>.bl b
instance re_non {K:Frag}:RE K (tC .non) (pC .none):=O2 fun _=>.non
instance re_str {K:Frag} {x:Str}:RE K (tC (.str x)) (pC (.str x)):=O2 fun _=>.str x
class GD (K:Frag) (a:Addr) (x:outParam PyData):Prop where
  ok:∀ F,Den K F (.ref a) x
instance re_glob {K:Frag} {a:Addr} {x:PyData} [h:GD K a x]:RE K (tC (.ref a)) (pC x):=O2 h.ok
class RO (K:Frag) (r:R2) (pr:outParam (PyData->PyData->(SV->Prop)->Prop)):Prop where
  ok:∀ (c:Ct) (w:Wd) (env:PEnv) (σ:St) (x y:V) (dx dy:PyData) (Qp:SV->Prop) (Q:VK),c.K=K->EnvOk c w env σ->VV K w x dx->VV K w y dy->pr dx dy Qp->(∀ v s w',Res c w env σ w' v s->Qp s->Q v w'.H)->r x y w.H Q
def pOp (pr:PyData->PyData->(SV->Prop)->Prop) (pa pb:PDt) (env:PEnv) (Q:SV->PEnv->Prop):Prop:=pa env fun x e1=>pb e1 fun y e2=>pr x y fun s=>Q s e2
instance re_op {K:Frag} {r:R2} {ta tb:TE} {pr:PyData->PyData->(SV->Prop)->Prop} {pa pb:PDt} [h:RO K r pr] [ha:RW K ta pa] [hb:RW K tb pb]:RE K (tOp r ta tb) (pOp pr pa pb) where
  ok:=by
    rintro c w env σ Qp Q rfl E p k;refine ha.ok c w env σ _ _ rfl E p fun x dx e1 w1 E1 l1 v1 q1=>?_;refine hb.ok c w1 e1 σ _ _ rfl E1 q1 fun y dy e2 w2 E2 l2 v2 q2=>?_;exact h.ok c w2 e2 σ x y dx dy _ _ rfl E2 (v1.mono l2) v2 q2 fun v s w' R q=>k v s e2 w' (R.pre (l1.trans l2)) q
class SG (g:Int->Int->V) (gd:outParam (Int->Int->PyData)):Prop where
  ok:∀ i j K F,Den K F (g i j) (gd i j)
instance sg_int {f:Int->Int->Int}:SG (fun i j=>.int (f i j)) (fun i j=>.int (f i j)):=⟨fun _ _ _ _=>.int _⟩
instance sg_bl {f:Int->Int->Bool}:SG (fun i j=>.bl (f i j)) (fun i j=>.bool (f i j)):=⟨fun _ _ _ _=>.bl _⟩
def pI (C:Int->Int->Prop) (gd:Int->Int->PyData) (x y:PyData) (Q:SV->Prop):Prop:=match x,y with
  | .int i,.int j=>C i j/\Q (.d (gd i j))
  | _,_=>False
def pI0 (gd:Int->Int->PyData) (x y:PyData) (Q:SV->Prop):Prop:=match x,y with
  | .int i,.int j=>Q (.d (gd i j))
  | _,_=>False
theorem VV.intE {K:Frag} {w:Wd} {v:V} {i:Int} (h:VV K w v (.int i)):v=.int i:=by
  rcases h with h | ⟨l,vs,xs,e,e',_⟩
  · exact h.intE
  · cases e'
theorem VV.blE {K:Frag} {w:Wd} {v:V} {b:Bool} (h:VV K w v (.bool b)):v=.bl b:=by
  rcases h with h | ⟨l,vs,xs,e,e',_⟩
  · exact h.blE
  · cases e'
instance ro_I {K:Frag} {C:Int->Int->Prop} {g:Int->Int->V} {gd:Int->Int->PyData} [s:SG g gd]:RO K (rI C g) (pI C gd) where
  ok:=by
    rintro c w env σ x y dx dy Qp Q rfl E vx vy p k;unfold pI at p;split at p
    · rename_i i j
      exact ⟨i,j,vx.intE,vy.intE,p.1,k _ _ w (Res.data E (s.ok i j _ _)) p.2⟩
    · exact p.elim
instance ro_I0 {K:Frag} {g:Int->Int->V} {gd:Int->Int->PyData} [s:SG g gd]:RO K (rI0 g) (pI0 gd) where
  ok:=by
    rintro c w env σ x y dx dy Qp Q rfl E vx vy p k;unfold pI0 at p;split at p
    · rename_i i j
      exact ⟨i,j,vx.intE,vy.intE,k _ _ w (Res.data E (s.ok i j _ _)) p⟩
    · exact p.elim
def pEqD (x y:PyData) (Q:SV->Prop):Prop:=x.canLay0=true/\y.canLay0=true/\x.depth<=60/\Q (.d (.bool (PyData.eqv x y)))
def pNeD (x y:PyData) (Q:SV->Prop):Prop:=x.canLay0=true/\y.canLay0=true/\x.depth<=60/\Q (.d (.bool (!PyData.eqv x y)))
def isNo:PyData->Bool
  | .none=>true
  | _=>false
def rIsN:R2:=fun x y H Q=>y=.non/\Q (.bl (decide (x=.non))) H
def B63:R2:=fun x y H Q=>y=.non/\Q (.bl (!decide (x=.non))) H
theorem G8 {X:Cx}:OpR X (compareOp .Is) rIsN:=B9j
theorem A2n {X:Cx}:OpR X (compareOp .IsNot) B63:=B3l
theorem Den.no {K:Frag} {F:Hpp} {v:V} {x:PyData} (h:Den K F v x):decide (v=.non)=isNo x:=by cases h <;> rfl
theorem VV.no {K:Frag} {w:Wd} {v:V} {x:PyData} (h:VV K w v x):decide (v=.non)=isNo x:=by
  rcases h with h | ⟨l,vs,xs,e,e',_⟩
  · exact Den.no h
  · subst e; subst e'; rfl
def pIsN (x y:PyData) (Q:SV->Prop):Prop:=y=.none/\Q (.d (.bool (isNo x)))
def B78 (x y:PyData) (Q:SV->Prop):Prop:=y=.none/\Q (.d (.bool (!isNo x)))
theorem VV.nonE {K:Frag} {w:Wd} {v:V} (h:VV K w v .none):v=.non:=by
  rcases h with h | ⟨l,vs,xs,e,e',_⟩
  · exact h.nonE
  · cases e'
instance ro_isN {K:Frag}:RO K rIsN pIsN where
  ok:=by
    rintro c w env σ x y dx dy Qp Q rfl E vx vy ⟨rfl,p⟩ k;refine ⟨vy.nonE,k _ _ w (Res.data E ?_) p⟩;rw [vx.no]; exact .bl _
instance ro_notN {K:Frag}:RO K B63 B78 where
  ok:=by
    rintro c w env σ x y dx dy Qp Q rfl E vx vy ⟨rfl,p⟩ k;refine ⟨vy.nonE,k _ _ w (Res.data E ?_) p⟩;rw [vx.no]; exact .bl _
def pGet (xs:List PyData) (i:Int) (Q:SV->Prop):Prop:=match atI xs i with
  | some z=>Q (.d z)
  | none=>False
def pIx (x y:PyData) (Q:SV->Prop):Prop:=match x,y with
  | .list xs,.int i=>pGet xs i Q
  | .tuple xs,.int i=>pGet xs i Q
  | _,_=>False
theorem VV.lst {K:Frag} {w:Wd} {v:V} {xs:List PyData} (o:w.Ok) (h:VV K w v (.list xs)):∃ a vs,v=.ref a/\SqL K w.H a vs/\DenAll K w.F vs xs:=by
  rcases h with h | ⟨l,vs,ys,e,e',h1,h2,h3⟩
  · obtain ⟨a,vs,e,h1,h2⟩:=h.lstE
    exact ⟨a,vs,e,o.sub.seq h1,h2⟩
  · cases e'; exact ⟨l,vs,e,SqL.of h1,h3⟩
theorem VV.tup {K:Frag} {w:Wd} {v:V} {xs:List PyData} (o:w.Ok) (h:VV K w v (.tuple xs)):∃ a vs,v=.ref a/\SqT K w.H a vs/\DenAll K w.F vs xs:=by
  rcases h with h | ⟨l,vs,ys,e,e',h1,h2,h3⟩
  · obtain ⟨a,vs,e,h1,h2⟩:=h.tupE
    exact ⟨a,vs,e,SqT.same o.sub h1,h2⟩
  · cases e'
instance ro_ix {K:Frag}:RO K (rIx K) pIx where
  ok:=by
    rintro c w env σ x y dx dy Qp Q rfl E vx vy p k;unfold pIx at p;split at p
    · rename_i xs i
      unfold pGet at p;split at p
      · rename_i z hz
        obtain ⟨a,vs,e,h1,h2⟩:=vx.lst E.wok;obtain ⟨v,g1,g2⟩:=h2.atIE hz;exact .inl ⟨a,vs,i,v,e,vy.intE,h1,g1,k _ _ w (Res.data E g2) p⟩
      · exact p.elim
    · rename_i xs i
      unfold pGet at p;split at p
      · rename_i z hz
        obtain ⟨a,vs,e,h1,h2⟩:=vx.tup E.wok;obtain ⟨v,g1,g2⟩:=h2.atIE hz;exact .inr (.inl ⟨a,vs,i,v,e,vy.intE,h1,g1,k _ _ w (Res.data E g2) p⟩)
      · exact p.elim
    · exact p.elim
theorem B5l {X:Cx} {K:Frag} (h:X.K=K):IxR X (rIx K):=by subst h; exact C01
def pU (gd:Int->PyData) (x:PyData) (Q:SV->Prop):Prop:=match x with
  | .int i=>Q (.d (gd i))
  | _=>False
def pUn (f:PyData->(SV->Prop)->Prop) (pa:PDt) (env:PEnv) (Q:SV->PEnv->Prop):Prop:=pa env fun x e=>f x fun s=>Q s e
instance re_neg {K:Frag} {ta:TE} {pa:PDt} {f:Int->Int} [ha:RW K ta pa]:RE K (tUn (rU fun i=>.int (f i)) ta) (pUn (pU fun i=>.int (f i)) pa) where
  ok:=by
    rintro c w env σ Qp Q rfl E p k;refine ha.ok c w env σ _ _ rfl E p fun x dx e1 w1 E1 l1 v1 q1=>?_;unfold pU at q1;split at q1
    · rename_i i
      exact ⟨i,v1.intE,k _ _ e1 w1 ((Res.data E1 (.int _)).pre l1) q1⟩
    · exact q1.elim
inductive VVs (K:Frag) (w:Wd):List V->List PyData->Prop
  | nil:VVs K w [] []
  | cons {v:V} {x:PyData} {vs:List V} {xs:List PyData}:VV K w v x->VVs K w vs xs->VVs K w (v :: vs) (x :: xs)
class RAv (K:Frag) (ta:TA) (pa:outParam PAr):Prop where
  ok:∀ (c:Ct) (w:Wd) (env:PEnv) (σ:St) (Qp:List PyData->PEnv->Prop) (Q:List V->Hpp->Prop),c.K=K->EnvOk c w env σ->pa env Qp->(∀ vs xs env' w',EnvOk c w' env' σ->Lw w w'->VVs K w' vs xs->Qp xs env'->Q vs w'.H)->ta σ w.H Q
class RAd (K:Frag) (ta:TA) (pa:outParam PAr):Prop where
  ok:∀ (c:Ct) (w:Wd) (env:PEnv) (σ:St) (Qp:List PyData->PEnv->Prop) (Q:List V->Hpp->Prop),c.K=K->EnvOk c w env σ->pa env Qp->(∀ vs xs env' w',EnvOk c w' env' σ->Lw w w'->DenAll K w'.F vs xs->Qp xs env'->Q vs w'.H)->ta σ w.H Q
def pNil (env:PEnv) (Q:List PyData->PEnv->Prop):Prop:=Q [] env
def B3d (pa:PDt) (pr:PAr) (env:PEnv) (Q:List PyData->PEnv->Prop):Prop:=pa env fun x e1=>pr e1 fun xs e2=>Q (x :: xs) e2
instance rav_nil {K:Frag}:RAv K tNil pNil:=⟨fun c w env σ Qp Q _ E p k=>k [] [] env w E (Lw.refl w) .nil p⟩
instance rad_nil {K:Frag}:RAd K tNil pNil:=⟨fun c w env σ Qp Q _ E p k=>k [] [] env w E (Lw.refl w) .nil p⟩
instance rav_cons {K:Frag} {ta:TE} {tr:TA} {pa:PDt} {pr:PAr} [ha:RW K ta pa] [hr:RAv K tr pr]:RAv K (K6 ta tr) (B3d pa pr) where
  ok:=by
    rintro c w env σ Qp Q rfl E p k;refine ha.ok c w env σ _ _ rfl E p fun x dx e1 w1 E1 l1 v1 q1=>?_;refine hr.ok c w1 e1 σ _ _ rfl E1 q1 fun vs xs e2 w2 E2 l2 v2 q2=>?_;exact k _ _ e2 w2 E2 (l1.trans l2) (.cons (v1.mono l2) v2) q2
instance rad_cons {K:Frag} {ta:TE} {tr:TA} {pa:PDt} {pr:PAr} [ha:RD K ta pa] [hr:RAd K tr pr]:RAd K (K6 ta tr) (B3d pa pr) where
  ok:=by
    rintro c w env σ Qp Q rfl E p k;refine ha.ok c w env σ _ _ rfl E p fun x dx e1 w1 E1 l1 v1 q1=>?_;refine hr.ok c w1 e1 σ _ _ rfl E1 q1 fun vs xs e2 w2 E2 l2 v2 q2=>?_;exact k _ _ e2 w2 E2 (l1.trans l2) (.cons (Den.same l2.f v1) v2) q2
def pTup (pa:PAr) (env:PEnv) (Q:SV->PEnv->Prop):Prop:=pa env fun xs e=>xs.length<=1000/\Q (.d (.tuple xs)) e
def pLst (pa:PAr) (env:PEnv) (Q:SV->PEnv->Prop):Prop:=pa env fun xs e=>xs.length<=1000/\Q (.own xs) e
instance re_tup {K:Frag} {ta:TA} {pa:PAr} [ha:RAd K ta pa]:RE K (tTup ta) (pTup pa) where
  ok:=by
    rintro c w env σ Qp Q rfl E p k;refine ha.ok c w env σ _ _ rfl E p fun vs xs e1 w1 E1 l1 v1 q1=>⟨?_,fun p hp=>?_⟩
    · rw [v1.len]; exact Nat.le_of_lt (S3 q1.1)
    · exact k _ _ e1 _ ((Res.tup E1 hp v1).pre l1) q1.2
instance re_lst {K:Frag} {ta:TA} {pa:PAr} [ha:RAd K ta pa]:RE K (tLst ta) (pLst pa) where
  ok:=by
    rintro c w env σ Qp Q rfl E p k;refine ha.ok c w env σ _ _ rfl E p fun vs xs e1 w1 E1 l1 v1 q1=>⟨?_,fun p hp=>?_⟩
    · rw [v1.len]; exact Nat.le_of_lt (S3 q1.1)
    · exact k _ _ e1 _ ((Res.lst E1 hp v1).pre l1) q1.2
class RB (K:Frag) (r:List V->Hpp->VK->Prop) (pr:outParam (List PyData->(SV->Prop)->Prop)):Prop where
  ok:∀ (c:Ct) (w:Wd) (env:PEnv) (σ:St) (vs:List V) (xs:List PyData) (Qp:SV->Prop) (Q:VK),c.K=K->EnvOk c w env σ->VVs K w vs xs->pr xs Qp->(∀ v s w',Res c w env σ w' v s->Qp s->Q v w'.H)->r vs w.H Q
def pCB (pr:List PyData->(SV->Prop)->Prop) (pa:PAr) (env:PEnv) (Q:SV->PEnv->Prop):Prop:=pa env fun xs e=>pr xs fun s=>Q s e
instance re_cb {K:Frag} {r:List V->Hpp->VK->Prop} {ta:TA} {pr:List PyData->(SV->Prop)->Prop} {pa:PAr} [h:RB K r pr] [ha:RAv K ta pa]:RE K (tCB r ta) (pCB pr pa) where
  ok:=by
    rintro c w env σ Qp Q rfl E p k;refine ha.ok c w env σ _ _ rfl E p fun vs xs e1 w1 E1 l1 v1 q1=>?_;exact h.ok c w1 e1 σ vs xs _ _ rfl E1 v1 q1 fun v s w' R q=>k v s e1 w' (R.pre l1) q
def rAbs:List V->Hpp->VK->Prop:=fun xs H Q=>∃ i,xs=[.int i]/\Q (.int (if i < 0 then -i else i)) H
def rMax:List V->Hpp->VK->Prop:=fun xs H Q=>∃ i j,xs=[.int i,.int j]/\Q (.int (if j > i then j else i)) H
def rMin:List V->Hpp->VK->Prop:=fun xs H Q=>∃ i j,xs=[.int i,.int j]/\Q (.int (if j < i then j else i)) H
def rInt:List V->Hpp->VK->Prop:=fun xs H Q=>(∃ i,xs=[.int i]/\Q (.int i) H)\/∃ k,xs=[.bl k]/\Q (.int (if k then 1 else 0)) H
def A98 (K:Frag):List V->Hpp->VK->Prop:=fun xs H Q=>∃ p ys,xs=[.ref p]/\(SqL K H p ys\/SqT K H p ys)/\∀ l,H l=none->Q (.ref l) (upd H l (.lst ys))
def rIsi (K:Frag):List V->Hpp->VK->Prop:=fun xs H Q=>∃ x c T b,xs=[x,.ty c]/\TyV K H x T/\kitB T c=some b/\Q (.bl b) H
section
variable {X:Cx}
theorem A01:CallR X (.builtin "abs") rAbs:=A9s
theorem A61 (hc:X.calm=true):CallR X (.builtin "max") rMax:=A62 hc
theorem A6z (hc:X.calm=true):CallR X (.builtin "min") rMin:=A60 hc
theorem A0z:CallR X (.type "int") rInt:=A00
theorem J8 {K:Frag} (h:X.K=K):CallR X (.type "list") (A98 K):=by subst h; exact A0x
theorem A63 {K:Frag} (h:X.K=K):CallR X (.builtin "isinstance") (rIsi K):=by subst h; exact A1t
end
def pLen (xs:List PyData) (Q:SV->Prop):Prop:=match xs with
  | [.list ys]=>Q (.d (.int ys.length))
  | [.tuple ys]=>Q (.d (.int ys.length))
  | _=>False
def pAbs (xs:List PyData) (Q:SV->Prop):Prop:=match xs with
  | [.int i]=>Q (.d (.int (if i < 0 then -i else i)))
  | _=>False
def pMax (xs:List PyData) (Q:SV->Prop):Prop:=match xs with
  | [.int i,.int j]=>Q (.d (.int (if j > i then j else i)))
  | _=>False
def pMin (xs:List PyData) (Q:SV->Prop):Prop:=match xs with
  | [.int i,.int j]=>Q (.d (.int (if j < i then j else i)))
  | _=>False
def pInt (xs:List PyData) (Q:SV->Prop):Prop:=match xs with
  | [.int i]=>Q (.d (.int i))
  | [.bool k]=>Q (.d (.int (if k then 1 else 0)))
  | _=>False
def A2m (xs:List PyData) (Q:SV->Prop):Prop:=match xs with
  | [.list ys]=>Q (.own ys)
  | [.tuple ys]=>Q (.own ys)
  | _=>False
instance rb_abs {K:Frag}:RB K rAbs pAbs where
  ok:=by
    rintro c w env σ vs xs Qp Q rfl E vv p k;unfold pAbs at p;split at p
    · cases vv with | cons h t=>cases t; exact ⟨_,by rw [h.intE],k _ _ w (Res.data E (.int _)) p⟩
    · exact p.elim
instance rb_max {K:Frag}:RB K rMax pMax where
  ok:=by
    rintro c w env σ vs xs Qp Q rfl E vv p k;unfold pMax at p;split at p
    · cases vv with | cons h t=>cases t with | cons h' t=>cases t; exact ⟨_,_,by rw [h.intE,h'.intE],k _ _ w (Res.data E (.int _)) p⟩
    · exact p.elim
instance rb_min {K:Frag}:RB K rMin pMin where
  ok:=by
    rintro c w env σ vs xs Qp Q rfl E vv p k;unfold pMin at p;split at p
    · cases vv with | cons h t=>cases t with | cons h' t=>cases t; exact ⟨_,_,by rw [h.intE,h'.intE],k _ _ w (Res.data E (.int _)) p⟩
    · exact p.elim
instance rb_int {K:Frag}:RB K rInt pInt where
  ok:=by
    rintro c w env σ vs xs Qp Q rfl E vv p k;unfold pInt at p;split at p
    · cases vv with | cons h t=>cases t; exact .inl ⟨_,by rw [h.intE],k _ _ w (Res.data E (.int _)) p⟩
    · cases vv with | cons h t=>cases t; exact .inr ⟨_,by rw [h.blE],k _ _ w (Res.data E (.int _)) p⟩
    · exact p.elim
instance rb_lst {K:Frag}:RB K (A98 K) A2m where
  ok:=by
    rintro c w env σ vs xs Qp Q rfl E vv p k;unfold A2m at p;split at p
    · cases vv with | cons h t=>cases t; obtain ⟨a,us,e,h1,h2⟩:=h.lst E.wok; exact ⟨a,us,by rw [e],.inl h1,fun l hl=>k _ _ _ (Res.lst E hl h2) p⟩
    · cases vv with | cons h t=>cases t; obtain ⟨a,us,e,h1,h2⟩:=h.tup E.wok; exact ⟨a,us,by rw [e],.inr h1,fun l hl=>k _ _ _ (Res.lst E hl h2) p⟩
    · exact p.elim
def tyD:PyData->String
  | .none=>"NoneType"
  | .bool _=>"bool"
  | .int _=>"int"
  | .str _=>"str"
  | .list _=>"list"
  | .tuple _=>"tuple"
  | .dict _=>"dict"
theorem Den.ty {K:Frag} {H:Hpp} {v:V} {x:PyData} (h:Den K H v x):TyV K H v (tyD x):=by
  cases h with
  | non=>rfl
  | bl=>rfl
  | int=>rfl
  | str=>rfl
  | lst h _=>exact .inl ⟨rfl,_,h⟩
  | tup h _=>exact .inr (.inl ⟨rfl,_,h.1⟩)
  | dct h=>exact .inr (.inr ⟨rfl,_,h⟩)
def pIsi (c:String) (pa:PDt) (env:PEnv) (Q:SV->PEnv->Prop):Prop:=pa env fun x e=>match kitB (tyD x) c with
  | some b=>Q (.d (.bool b)) e
  | none=>False
instance (priority:=high) re_isi {K:Frag} {ta:TE} {pa:PDt} {c:String} [ha:RW K ta pa]:RE K (tCB (rIsi K) (K6 ta (K6 (tC (.ty c)) tNil))) (pIsi c pa) where
  ok:=by
    rintro ct w env σ Qp Q rfl E p k;refine ha.ok ct w env σ _ _ rfl E p fun x dx e1 w1 E1 l1 v1 q1=>?_;split at q1
    · rename_i b hb
      exact ⟨x,c,_,b,rfl,Den.ty (v1.den E1.wok),hb,k _ _ e1 w1 ((Res.data E1 (.bl _)).pre l1) q1⟩
    · exact q1.elim
end Pu
namespace Pu
open PySem L2 My Prf
class RT (K:Frag) (tt:TT) (pt:outParam PTt):Prop where
  ok:∀ (c:Ct) (w:Wd) (env:PEnv) (σ:St) (Qp:Bool->PEnv->Prop) (Q:Bool->Hpp->Prop),c.K=K->EnvOk c w env σ->pt env Qp->(∀ b env' w',EnvOk c w' env' σ->Lw w w'->Qp b env'->Q b w'.H)->tt σ w.H Q
def asB (x:PyData) (k:Bool->Prop):Prop:=match x with
  | .bool b=>k b
  | _=>False
def B2m (pa:PDt) (env:PEnv) (Q:Bool->PEnv->Prop):Prop:=pa env fun x e=>asB x fun b=>Q b e
instance rt_test {K:Frag} {ta:TE} {pa:PDt} [ha:RW K ta pa]:RT K (B09 ta) (B2m pa) where
  ok:=by
    rintro c w env σ Qp Q rfl E p k;refine ha.ok c w env σ _ _ rfl E p fun x dx e1 w1 E1 l1 v1 q1=>?_;unfold asB at q1;split at q1
    · exact ⟨_,v1.blE,k _ e1 w1 E1 l1 q1⟩
    · exact q1.elim
instance rt_B {K:Frag} {ta:TE} {pa:PDt} [ha:RW K ta pa]:RT K (tB ta) (B2m pa) where
  ok:=by
    rintro c w env σ Qp Q rfl E p k;refine ha.ok c w env σ _ _ rfl E p fun x dx e1 w1 E1 l1 v1 q1=>?_;unfold asB at q1;split at q1
    · exact ⟨_,v1.blE,k _ e1 w1 E1 l1 q1⟩
    · exact q1.elim
def pYes (env:PEnv) (Q:Bool->PEnv->Prop):Prop:=Q true env
instance rt_yes {K:Frag}:RT K tYes pYes:=⟨fun c w env σ Qp Q _ E p k=>k true env w E (Lw.refl w) p⟩
def pNot (pa:PTt) (env:PEnv) (Q:Bool->PEnv->Prop):Prop:=pa env fun b e=>Q (!b) e
def pAnd (pa pb:PTt) (env:PEnv) (Q:Bool->PEnv->Prop):Prop:=pa env fun b e=>if b=true then pb e Q else Q false e
def pOr (pa pb:PTt) (env:PEnv) (Q:Bool->PEnv->Prop):Prop:=pa env fun b e=>if b=true then Q true e else pb e Q
instance rt_not {K:Frag} {ta:TT} {pa:PTt} [ha:RT K ta pa]:RT K (tNot ta) (pNot pa) where
  ok:=by
    rintro c w env σ Qp Q rfl E p k;exact ha.ok c w env σ _ _ rfl E p fun b e1 w1 E1 l1 q1=>k _ e1 w1 E1 l1 q1
instance rt_and {K:Frag} {ta tb:TT} {pa pb:PTt} [ha:RT K ta pa] [hb:RT K tb pb]:RT K (tAnd ta tb) (pAnd pa pb) where
  ok:=by
    rintro c w env σ Qp Q rfl E p k;refine ha.ok c w env σ _ _ rfl E p fun b e1 w1 E1 l1 q1=>?_;cases b with
    | true=>exact hb.ok c w1 e1 σ _ _ rfl E1 q1 fun b e2 w2 E2 l2 q2=>k _ e2 w2 E2 (l1.trans l2) q2
    | false=>exact k _ e1 w1 E1 l1 q1
instance rt_or {K:Frag} {ta tb:TT} {pa pb:PTt} [ha:RT K ta pa] [hb:RT K tb pb]:RT K (tOr ta tb) (pOr pa pb) where
  ok:=by
    rintro c w env σ Qp Q rfl E p k;refine ha.ok c w env σ _ _ rfl E p fun b e1 w1 E1 l1 q1=>?_;cases b with
    | false=>exact hb.ok c w1 e1 σ _ _ rfl E1 q1 fun b e2 w2 E2 l2 q2=>k _ e2 w2 E2 (l1.trans l2) q2
    | true=>exact k _ e1 w1 E1 l1 q1
def B77 (pa:PDt) (env:PEnv) (Q:SV->PEnv->Prop):Prop:=pa env fun x e=>asB x fun b=>Q (.d (.bool (!b))) e
def B9e (pa:PDt) (pb:PX) (env:PEnv) (Q:SV->PEnv->Prop):Prop:=pa env fun x e=>asB x fun b=>if b=true then pb e Q else Q (.d (.bool false)) e
def pOrV (pa:PDt) (pb:PX) (env:PEnv) (Q:SV->PEnv->Prop):Prop:=pa env fun x e=>asB x fun b=>if b=true then Q (.d (.bool true)) e else pb e Q
instance re_notV {K:Frag} {ta:TE} {pa:PDt} [ha:RW K ta pa]:RE K (B1b ta) (B77 pa) where
  ok:=by
    rintro c w env σ Qp Q rfl E p k;refine ha.ok c w env σ _ _ rfl E p fun x dx e1 w1 E1 l1 v1 q1=>?_;unfold asB at q1;split at q1
    · exact ⟨_,v1.blE,k _ _ e1 w1 ((Res.data E1 (.bl _)).pre l1) q1⟩
    · exact q1.elim
instance re_andV {K:Frag} {ta tb:TE} {pa:PDt} {pb:PX} [ha:RW K ta pa] [hb:RE K tb pb]:RE K (B1e ta tb) (B9e pa pb) where
  ok:=by
    rintro c w env σ Qp Q rfl E p k;refine ha.ok c w env σ _ _ rfl E p fun x dx e1 w1 E1 l1 v1 q1=>?_;unfold asB at q1;split at q1
    · rename_i b
      refine ⟨_,v1.blE,?_⟩;cases b with
      | true=>exact hb.ok c w1 e1 σ _ _ rfl E1 q1 fun v s e2 w2 R q2=>k _ _ e2 w2 (R.pre l1) q2
      | false=>exact k _ _ e1 w1 ((Res.data E1 (.bl _)).pre l1) q1
    · exact q1.elim
def pIfE (pt:PTt) (pa pb:PX) (env:PEnv) (Q:SV->PEnv->Prop):Prop:=pt env fun b e=>if b=true then pa e Q else pb e Q
inductive Md where
  | dat | vw | st | bt
def TV (K:Frag) (w:Wd) (v:V) (t:OT):Prop:=Tre K w t [v]/\∀ a ∈ t.fp,¬ w.M a
theorem TV.mono {K:Frag} {w w':Wd} {v:V} {t:OT} (a:Lw w w') (h:TV K w v t) (hs:∀ a ∈ t.fp,w.H a≠none):TV K w' v t :=
  ⟨h.1.mono a h.2,fun b hb=>a.nm (hs b hb) (h.2 b hb)⟩
theorem Tre.has {K:Frag} {w:Wd}:∀ {t:OT} {vs:List V},Tre K w t vs->∀ a ∈ t.fp,w.H a≠none
  | .leaf _,_,_,_,z=>nomatch z
  | .nd _ p _,_,⟨_,_,h,k⟩,a,z=>(List.mem_cons.mp z).elim (fun e=>by rw [e,h]; simp) (Tre.has k a)
  | .nil,_,_,_,z=>nomatch z
  | .cons _ _,_,⟨_,_,_,h,t⟩,a,z=>(Za z).elim (Tre.has h a) (Tre.has t a)
inductive Args (K:Frag) (w:Wd):List Md->List V->List SV->Prop
  | nil:Args K w [] [] []
  | dat {v:V} {x:PyData} {md:List Md} {vs:List V} {as:List SV}:Den K w.F v x->Args K w md vs as->Args K w (.dat :: md) (v :: vs) (.d x :: as)
  | vw {v:V} {xs:List PyData} {md:List Md} {vs:List V} {as:List SV}:VV K w v (.list xs)->Args K w md vs as->Args K w (.vw :: md) (v :: vs) (.bor xs :: as)
  | bt {v:V} {t:OT} {md:List Md} {vs:List V} {as:List SV}:TV K w v t->Args K w md vs as->Args K w (.bt :: md) (v :: vs) (.bt t :: as)
  | st {v:V} {md:List Md} {vs:List V} {as:List SV}:(∃ p,v=.ref p/\w.M p)->Args K w md vs as->Args K w (.st :: md) (v :: vs) (.st :: as)
theorem Args.len {K:Frag} {w:Wd}:∀ {md vs as},Args K w md vs as->vs.length=md.length
  | _,_,_,.nil=>rfl
  | _,_,_,.dat _ t=>congrArg (· + 1) (Args.len t)
  | _,_,_,.vw _ t=>congrArg (· + 1) (Args.len t)
  | _,_,_,.st _ t=>congrArg (· + 1) (Args.len t)
  | _,_,_,.bt _ t=>congrArg (· + 1) (Args.len t)
abbrev PSp:=List SV->(SV->Prop)->Prop
def noZ:Addr->Prop:=fun _=>False
def spOf (K:Frag) (md:List Md) (psp:PSp):Sp:=fun vs H Q _=>∃ (w:Wd) (as:List SV) (Qp:SV->Prop),w.H=H/\w.Ok/\Args K w md vs as/\psp as Qp /\
  ∀ v s w',w'.Ok->Le w w'->VR ⟨K,w,noZ⟩ w' v s->s.isRes=true->Qp s->Q v w'.H
theorem spOf.len {K:Frag} {md:List Md} {psp:PSp} {n:Nat} (h:md.length=n):∀ vs H Q E,spOf K md psp vs H Q E->vs.length=n:=by
  rintro vs H Q E ⟨w,as,Qp,_,_,a,_⟩;exact a.len.trans h
class RAm (K:Frag) (md:List Md) (ta:TA) (pa:outParam PAs):Prop where
  ok:∀ (c:Ct) (w:Wd) (env:PEnv) (σ:St) (Qp:List SV->PEnv->Prop) (Q:List V->Hpp->Prop),c.K=K->EnvOk c w env σ->pa env Qp->(∀ vs as env' w',EnvOk c w' env' σ->Lw w w'->Args K w' md vs as->Qp as env'->Q vs w'.H)->ta σ w.H Q
def B8a (env:PEnv) (Q:List SV->PEnv->Prop):Prop:=Q [] env
def B0g (pa:PDt) (pr:PAs) (env:PEnv) (Q:List SV->PEnv->Prop):Prop:=pa env fun x e1=>pr e1 fun as e2=>Q (.d x :: as) e2
def asL (x:PyData) (k:List PyData->Prop):Prop:=match x with
  | .list xs=>k xs
  | _=>False
def B0e (pa:PDt) (pr:PAs) (env:PEnv) (Q:List SV->PEnv->Prop):Prop:=pa env fun x e1=>asL x fun xs=>pr e1 fun as e2=>Q (.bor xs :: as) e2
def isSt (o:Option (Option SV)) (k:Prop):Prop:=match o with
  | some (some .st)=>k
  | _=>False
def A5f (i:Nat) (pr:PAs) (env:PEnv) (Q:List SV->PEnv->Prop):Prop:=isSt env[i]? (pr env fun as e2=>Q (.st :: as) e2)
instance ram_nil {K:Frag}:RAm K [] tNil B8a:=⟨fun c w env σ Qp Q _ E p k=>k [] [] env w E (Lw.refl w) .nil p⟩
instance ram_dat {K:Frag} {md:List Md} {ta:TE} {tr:TA} {pa:PDt} {pr:PAs} [ha:RD K ta pa] [hr:RAm K md tr pr]:RAm K (.dat :: md) (K6 ta tr) (B0g pa pr) where
  ok:=by
    rintro c w env σ Qp Q rfl E p k;refine ha.ok c w env σ _ _ rfl E p fun x dx e1 w1 E1 l1 v1 q1=>?_;refine hr.ok c w1 e1 σ _ _ rfl E1 q1 fun vs xs e2 w2 E2 l2 v2 q2=>?_;exact k _ _ e2 w2 E2 (l1.trans l2) (.dat (Den.same l2.f v1) v2) q2
instance ram_vw {K:Frag} {md:List Md} {ta:TE} {tr:TA} {pa:PDt} {pr:PAs} [ha:RW K ta pa] [hr:RAm K md tr pr]:RAm K (.vw :: md) (K6 ta tr) (B0e pa pr) where
  ok:=by
    rintro c w env σ Qp Q rfl E p k;refine ha.ok c w env σ _ _ rfl E p fun x dx e1 w1 E1 l1 v1 q1=>?_;unfold asL at q1;split at q1
    · refine hr.ok c w1 e1 σ _ _ rfl E1 q1 fun vs xs e2 w2 E2 l2 v2 q2=>?_
      exact k _ _ e2 w2 E2 (l1.trans l2) (.vw (v1.mono l2) v2) q2
    · exact q1.elim
instance ram_st {K:Frag} {md:List Md} {i:Nat} {tr:TA} {pr:PAs} [hr:RAm K md tr pr]:RAm K (.st :: md) (K6 (tVar i) tr) (A5f i pr) where
  ok:=by
    rintro c w env σ Qp Q rfl E p k;unfold A5f isSt at p;split at p
    · rename_i e
      obtain ⟨v,h1,h2⟩:=E.at' i _ e;refine ⟨v,h1,?_⟩;refine hr.ok c w env σ _ _ rfl E p fun vs xs e2 w2 E2 l2 v2 q2=>?_;obtain ⟨q,e',hm⟩:=h2;exact k _ _ e2 w2 E2 l2 (.st ⟨q,e',l2.m _ hm⟩ v2) q2
    · exact p.elim
def B87 (psp:PSp) (pa:PAs) (env:PEnv) (Q:SV->PEnv->Prop):Prop:=pa env fun as e=>psp as fun s=>Q s e
theorem Res.called {c:Ct} {w w':Wd} {env:PEnv} {σ:St} {v:V} {s:SV} (E:EnvOk c w env σ) (ok:w'.Ok) (l:Le w w') (h:VR ⟨c.K,w,noZ⟩ w' v s) (r:s.isRes=true):Res c w env σ w' v s:=by
  refine ⟨E.mono ok l,l.toLw,?_,fun a f=>E.fresh (h.foot f).2.2.2,r⟩;cases s with
  | d x=>exact h
  | own xs=>obtain ⟨a,vs,e,h1,h2,h3,h4,h5⟩:=h; exact ⟨a,vs,e,h1,h2,h3,E.le0.dom _ h4,h5⟩
  | bor xs=>cases r
  | bt t=>cases r
  | al t=>cases r
  | dk ks=>obtain ⟨l',e,h1,h2,h3,h4⟩:=h; exact ⟨l',e,h1,h2,h3,E.le0.dom _ h4⟩
  | st=>exact h
  | tr t=>exact ⟨h.1,fun a f=>⟨(h.2.1 a f).1,(h.2.1 a f).2.1,(h.2.1 a f).2.2.1,E.le0.dom _ (h.2.1 a f).2.2.2⟩,h.2.2⟩
instance re_call {K:Frag} {md:List Md} {psp:PSp} {E0':XK} {ta:TA} {pa:PAs} [ha:RAm K md ta pa]:RE K (A7s (spOf K md psp) [] E0' ta) (B87 psp pa) where
  ok:=by
    rintro c w env σ Qp Q rfl E p k;refine ha.ok c w env σ _ _ rfl E p fun vs as e1 w1 E1 l1 a1 q1=>?_;rw [List.append_nil];exact ⟨w1,as,_,rfl,E1.wok,a1,q1,fun v s w' ok l h r q=>k v s e1 w' ((Res.called E1 ok l h r).pre l1) q⟩
structure PEnds where
  nx:PEnv->Prop
  rt:SV->PEnv->Prop
  bk:PEnv->Prop
  ct:PEnv->Prop
abbrev PSt:=PEnds->PEnv->Prop
structure EndsOk (c:Ct) (w:Wd) (Dp:PEnds) (D:Ends):Prop where
  nx:∀ env σ w',EnvOk c w' env σ->Same w.F w'.F->Dp.nx env->D.nx σ w'.H
  rt:∀ v s env σ w',EnvOk c w' env σ->VR c w' v s->s.isRes=true->Dp.rt s env->D.rt v w'.H
  bk:∀ env σ w',EnvOk c w' env σ->Same w.F w'.F->Dp.bk env->D.bk σ w'.H
  ct:∀ env σ w',EnvOk c w' env σ->Same w.F w'.F->Dp.ct env->D.ct σ w'.H
theorem EndsOk.on {c:Ct} {w w1:Wd} {Dp:PEnds} {D:Ends} (h:EndsOk c w Dp D) (s:Same w.F w1.F):EndsOk c w1 Dp D :=
  ⟨fun e σ w' E s'=>h.nx e σ w' E (s.trans s'),h.rt,fun e σ w' E s'=>h.bk e σ w' E (s.trans s'),fun e σ w' E s'=>h.ct e σ w' E (s.trans s')⟩
class RS (K:Frag) (ts:TS) (ps:outParam PSt):Prop where
  ok:∀ (c:Ct) (w:Wd) (env:PEnv) (σ:St) (Dp:PEnds) (D:Ends),c.K=K->EnvOk c w env σ->EndsOk c w Dp D->ps Dp env->ts D σ w.H
def B8b (D:PEnds) (env:PEnv):Prop:=D.nx env
def B88 (D:PEnds) (env:PEnv):Prop:=D.bk env
def C2w (D:PEnds) (env:PEnv):Prop:=D.ct env
def B8c (_:PEnds) (_:PEnv):Prop:=False
def pSeq (p q:PSt) (D:PEnds) (env:PEnv):Prop:=p { D with nx:=q D } env
instance rs_next {K:Frag}:RS K B1c B8b:=⟨fun c w env σ Dp D _ E h p=>h.nx env σ w E (Same.refl _) p⟩
instance rs_seq {K:Frag} {t u:TS} {p q:PSt} [ht:RS K t p] [hu:RS K u q]:RS K (tSeq t u) (pSeq p q) where
  ok:=by
    rintro c w env σ Dp D rfl E h pr;refine ht.ok c w env σ { Dp with nx:=q Dp } _ rfl E ⟨fun e1 σ1 w1 E1 s1 n1=>?_,h.rt,h.bk,h.ct⟩ pr;exact hu.ok c w1 e1 σ1 Dp D rfl E1 (h.on s1) n1
def C2s (pe:PX) (D:PEnds) (env:PEnv):Prop:=pe env fun _ e=>D.nx e
def pRet (pe:PX) (D:PEnds) (env:PEnv):Prop:=pe env fun s e=>D.rt s e
instance (priority:=low) rs_ret {K:Frag} {te:TE} {pe:PX} [he:RE K te pe]:RS K (tRet te) (pRet pe) where
  ok:=by
    rintro c w env σ Dp D rfl E h p;exact he.ok c w env σ _ _ rfl E p fun v s e1 w1 R q=>h.rt v s e1 σ w1 R.ev R.val R.res q
def B2r (i:Nat) (D:PEnds) (env:PEnv):Prop:=match env[i]? with
  | some (some (.bor _))=>False
  | some (some (.bt _))=>False
  | some (some (.al _))=>False
  | some (some s)=>D.rt s env
  | _=>False
instance rs_retV {K:Frag} {i:Nat}:RS K (tRet (tVar i)) (B2r i) where
  ok:=by
    rintro c w env σ Dp D rfl E h p;unfold B2r at p;split at p
    · exact p.elim
    · exact p.elim
    · exact p.elim
    · rename_i s hn hn2 hn3 e
      obtain ⟨v,h1,h2⟩:=E.at' i _ e;refine ⟨v,h1,h.rt v s env σ w E h2 ?_ p⟩;cases s with
      | bor xs=>exact absurd rfl (hn xs)
      | bt t=>exact absurd rfl (hn2 t)
      | al t=>exact absurd rfl (hn3 t)
      | _=>rfl
    · exact p.elim
def C2f (D:PEnds) (env:PEnv):Prop:=D.rt (.d .none) env
def pIf (pt:PTt) (p q:PSt) (D:PEnds) (env:PEnv):Prop:=pt env fun b e=>if b=true then p D e else q D e
instance rs_if {K:Frag} {tt:TT} {t u:TS} {pt:PTt} {p q:PSt} [hc:RT K tt pt] [ht:RS K t p] [hu:RS K u q]:RS K (tIfS tt t u) (pIf pt p q) where
  ok:=by
    rintro c w env σ Dp D rfl E h pr;refine hc.ok c w env σ _ _ rfl E pr fun b e1 w1 E1 l1 q1=>?_;cases b with
    | true=>exact ht.ok c w1 e1 σ Dp D rfl E1 (h.on l1.f) q1
    | false=>exact hu.ok c w1 e1 σ Dp D rfl E1 (h.on l1.f) q1
def pAsg (pe:PX) (i:Nat) (D:PEnds) (env:PEnv):Prop:=pe env fun s e=>D.nx (e.set i (some s))
instance rs_asg {K:Frag} {te:TE} {pe:PX} {i:Nat} [he:RE K te pe]:RS K (tAsg te (O8 i)) (pAsg pe i) where
  ok:=by
    rintro c w env σ Dp D rfl E h p;exact he.ok c w env σ _ _ rfl E p fun v s e1 w1 R q=>h.nx _ _ w1 (R.ev.set R.val R.new) R.lw.f q
class RG (K:Frag) (g:TG) (pg:outParam (PyData->PEnv->(PEnv->Prop)->Prop)):Prop where
  ok:∀ (c:Ct) (w:Wd) (env:PEnv) (σ:St) (v:V) (x:PyData) (Qp:PEnv->Prop) (Q:St->Hpp->Prop),c.K=K->EnvOk c w env σ->Den K w.F v x->pg x env Qp->(∀ env' σ',EnvOk c w env' σ'->Qp env'->Q σ' w.H)->g v σ w.H Q
class RGs (K:Frag) (g:TGs) (pg:outParam (List PyData->PEnv->(PEnv->Prop)->Prop)):Prop where
  ok:∀ (c:Ct) (w:Wd) (env:PEnv) (σ:St) (vs:List V) (xs:List PyData) (Qp:PEnv->Prop) (Q:St->Hpp->Prop),c.K=K->EnvOk c w env σ->DenAll K w.F vs xs->pg xs env Qp->(∀ env' σ',EnvOk c w env' σ'->Qp env'->Q σ' w.H)->g vs σ w.H Q
def B69 (i:Nat) (x:PyData) (env:PEnv) (Q:PEnv->Prop):Prop:=Q (env.set i (some (.d x)))
instance rg_name {K:Frag} {i:Nat}:RG K (O8 i) (B69 i) where
  ok:=by
    rintro c w env σ v x Qp Q rfl E d p k;exact k _ _ (E.set (s:=.d x) d (fun _ z=>nomatch z)) p
def qNil (xs:List PyData) (env:PEnv) (Q:PEnv->Prop):Prop:=match xs with
  | []=>Q env
  | _=>False
def B1x (pg:PyData->PEnv->(PEnv->Prop)->Prop) (pr:List PyData->PEnv->(PEnv->Prop)->Prop) (xs:List PyData) (env:PEnv) (Q:PEnv->Prop):Prop:=match xs with
  | x :: r=>pg x env fun e=>pr r e Q
  | []=>False
def qTup (n:Nat) (pr:List PyData->PEnv->(PEnv->Prop)->Prop) (x:PyData) (env:PEnv) (Q:PEnv->Prop):Prop:=match x with
  | .tuple xs=>xs.length=n/\pr xs env Q
  | _=>False
instance rgs_nil {K:Frag}:RGs K gNil qNil where
  ok:=by
    rintro c w env σ vs xs Qp Q rfl E d p k;unfold qNil at p;split at p
    · cases d; exact ⟨rfl,k env σ E p⟩
    · exact p.elim
instance rgs_cons {K:Frag} {g:TG} {gs:TGs} {pg:PyData->PEnv->(PEnv->Prop)->Prop} {pr:List PyData->PEnv->(PEnv->Prop)->Prop} [hg:RG K g pg] [hr:RGs K gs pr]:RGs K (A1o g gs) (B1x pg pr) where
  ok:=by
    rintro c w env σ vs xs Qp Q rfl E d p k;unfold B1x at p;split at p
    · cases d with
      | cons h t =>
        refine ⟨_,_,rfl,hg.ok c w env σ _ _ _ _ rfl E h p fun e1 σ1 E1 q1=>?_⟩;exact hr.ok c w e1 σ1 _ _ _ _ rfl E1 t q1 k
    · exact p.elim
instance rg_tup {K:Frag} {n:Nat} {gs:TGs} {pr:List PyData->PEnv->(PEnv->Prop)->Prop} [hr:RGs K gs pr]:RG K (gTup K n gs) (qTup n pr) where
  ok:=by
    rintro c w env σ v x Qp Q rfl E d p k;unfold qTup at p;split at p
    · obtain ⟨a,vs,e,h1,h2⟩:=d.tupE
      exact ⟨a,vs,e,SqT.same E.wok.sub h1,h2.len.trans p.1,hr.ok c w env σ _ _ _ _ rfl E h2 p.2 k⟩
    · exact p.elim
def B89 (pd:PDt) (n:Nat) (pr:List PyData->PEnv->(PEnv->Prop)->Prop) (D:PEnds) (env:PEnv):Prop:=pd env fun x e=>qTup n pr x e D.nx
instance rs_asgT {K:Frag} {te:TE} {pd:PDt} {n:Nat} {gs:TGs} {pr:List PyData->PEnv->(PEnv->Prop)->Prop} [he:RD K te pd] [hr:RGs K gs pr]:RS K (tAsg te (gTup K n gs)) (B89 pd n pr) where
  ok:=by
    rintro c w env σ Dp D rfl E h p;refine he.ok c w env σ _ _ rfl E p fun v x e1 w1 E1 l1 d1 q1=>?_;exact rg_tup.ok c w1 e1 σ v x _ _ rfl E1 d1 q1 fun e2 σ2 E2 q2=>h.nx e2 σ2 w1 E2 l1.f q2
def pPar (i j:Nat) (pa:PAr) (D:PEnds) (env:PEnv):Prop:=pa env fun xs e=>match xs with
  | [x,y]=>D.nx ((e.set i (some (.d x))).set j (some (.d y)))
  | _=>False
instance rs_par {K:Frag} {ta:TA} {pa:PAr} {i j:Nat} [ha:RAd K ta pa]:RS K (tPar i j ta) (pPar i j pa) where
  ok:=by
    rintro c w env σ Dp D rfl E h p;refine ha.ok c w env σ _ _ rfl E p fun vs xs e1 w1 E1 l1 d1 q1=>?_;split at q1
    · cases d1 with
      | cons a t=>cases t with
        | cons b t =>
          cases t;exact ⟨_,_,rfl,h.nx _ _ w1 ((E1.set (s:=.d _) a (fun _ z=>nomatch z)).set (s:=.d _) b (fun _ z=>nomatch z)) l1.f q1⟩
    · exact q1.elim
def L9 (o:Option (Option SV)) (k:List PyData->Prop):Prop:=match o with
  | some (some (.own xs))=>k xs
  | _=>False
theorem EnvOk.writeAt {c:Ct} {w:Wd} {env:PEnv} {σ:St} {i:Nat} {s s':SV} {l:Addr} {wo:HO} {v:V} (E:EnvOk c w env σ) (e:env[i]?=some (some s)) (hσ:σ[i]?=some (some v)) (hf:s.foot v l) (hf':∀ a,s'.foot v a->s.foot v a)
    (hd:VR c ⟨w.M,upd w.H l wo,w.F⟩ v s'):EnvOk c ⟨w.M,upd w.H l wo,w.F⟩ (env.set i (some s')) σ:=by
  obtain ⟨h1,h2,h3,h4⟩:=(E.look e hσ).foot hf;have ne:∀ b,w.M b->b≠l:=fun b hb z=>h3 (z ▸ hb);have hd':∀ {j:Nat} {t:SV},(env.set i (some s'))[j]?=some (some t)->(i=j/\t=s')\/(i≠j/\env[j]?=some (some t)):=by
    intro j t q;rw [List.getElem?_set] at q;split at q
    · rename_i z
      split at q
      · cases q; exact .inl ⟨z,rfl⟩
      · cases q
    · rename_i z; exact .inr ⟨z,q⟩
  have ft:∀ {j:Nat} {t:SV} {u:V} {a:Addr},(env.set i (some s'))[j]?=some (some t)->σ[j]?=some (some u)->t.foot u a->∃ t',env[j]?=some (some t')/\t'.foot u a:=by
    intro j t u a q qu f;rcases hd' q with ⟨rfl,rfl⟩ | ⟨_,q⟩
    · rw [hσ] at qu; cases qu; exact ⟨s,e,hf' a f⟩
    · exact ⟨t,q,f⟩
  refine ⟨⟨fun b o q=>?_,fun p hp=>(E.wok.st p hp).kp (ne p hp) Kp.upd,E.wok.nf⟩,⟨⟨E.le0.f,fun b o q n=>?_,E.le0.m,E.le0.mn,fun b q=>E.le0.dom b (M3 q)⟩,E.le0.n⟩,by simpa using E.len,fun j t q=>?_,fun j k s1 t1 v1 u1 a q1 q2 q3 q4 f1 f2=>?_,fun a za=>?_,fun a j t u za q q' f=>?_⟩
  · show upd w.H l wo b=some o
    rw [C7 (fun z=>by rw [z,h2] at q; cases q)]; exact E.wok.sub b o q
  · show upd w.H l wo b=some o
    rw [C7 (fun z=>by rw [z,h4] at q; cases q)]; exact E.le0.h b o q n
  · rcases hd' q with ⟨rfl,rfl⟩ | ⟨z,q⟩
    · exact ⟨v,hσ,hd⟩
    · obtain ⟨u,g1,g2⟩:=E.at' j t q
      exact ⟨u,g1,g2.writ h1 fun f=>z (E.own i j _ _ _ _ l e q hσ g1 hf f)⟩
  · obtain ⟨_,p1,g1⟩:=ft q1 q3 f1
    obtain ⟨_,p2,g2⟩:=ft q2 q4 f2;exact E.own j k _ _ _ _ a p1 p2 q3 q4 g1 g2
  · obtain ⟨z1,z2,z3⟩:=E.zf a za
    exact ⟨z1,fun q=>z2 (M3 q),z3⟩
  · obtain ⟨_,p,g⟩:=ft q q' f
    exact E.zo a j _ _ za p q' g
theorem EnvOk.write {c:Ct} {w:Wd} {env:PEnv} {σ:St} {i:Nat} {xs ys:List PyData} {l:Addr} {vs us:List V} (E:EnvOk c w env σ) (e:env[i]?=some (some (.own xs))) (hσ:σ[i]?=some (some (.ref l))) (h1:w.H l=some (.lst vs)) (h2:w.F l=none) (h3:¬ w.M l) (h4:c.w0.H l=none)
    (hd:DenAll c.K w.F us ys):EnvOk c ⟨w.M,upd w.H l (.lst us),w.F⟩ (env.set i (some (.own ys))) σ :=
  E.writeAt e hσ rfl (fun _ f=>f) ⟨l,us,rfl,C6,h2,h3,h4,hd⟩
def pApp (i:Nat) (pd:PDt) (D:PEnds) (env:PEnv):Prop:=L9 env[i]? fun _=>pd env fun x e=>L9 e[i]? fun xs=>xs.length < 1000000/\D.nx (e.set i (some (.own (xs++[x]))))
theorem Y7 {n:Nat} (h:n < 1000000):n < sizeLine:=Nat.lt_of_lt_of_le h (by decide)
instance rs_app {K:Frag} {i:Nat} {te:TE} {pd:PDt} [he:RD K te pd]:RS K (A3d (tBM K "list" A1f (tVar i) (K6 te tNil))) (pApp i pd) where
  ok:=by
    rintro c w env σ Dp D rfl E h p;unfold pApp L9 at p;split at p
    · rename_i xs0 e0
      obtain ⟨v,g0,l,vs,ev,h1,h2,h3,h4,h5⟩:=E.at' i _ e0;subst ev;refine ⟨_,g0,.inl ⟨rfl,_,SqL.of h1⟩,?_⟩;refine he.ok c w env σ _ _ rfl E p fun y x e1 w1 E1 l1 d1 q1=>?_;split at q1
      · rename_i xs e
        obtain ⟨v',g0',l',vs',ev',k1,k2,k3,k4,k5⟩:=E1.at' i _ e;rw [g0] at g0'; cases g0'; cases ev';refine ⟨l,vs',y,rfl,rfl,k1,by rw [k5.len]; exact Y7 q1.1,?_⟩;exact h.nx _ σ ⟨w1.M,upd w1.H l (.lst (vs'++[y])),w1.F⟩ (E1.write e g0 k1 k2 k3 k4 (k5.app (.cons d1 .nil))) l1.f q1.2
      · exact q1.elim
    · exact p.elim
def B81 (i:Nat) (D:PEnds) (env:PEnv):Prop:=L9 env[i]? fun _=>D.nx (env.set i (some (.own [])))
def C2h (i:Nat) (D:PEnds) (env:PEnv):Prop:=L9 env[i]? fun xs=>0 < xs.length/\D.nx (env.set i (some (.own xs.dropLast)))
end Pu
namespace L2
open PySem PySem.Spec PyProof.Rows
section
variable {X:Cx} {tg:Expr}
def iSq (K:PySem.W.Frag) (tl:TE):TI:=fun σ H R=>tl σ H fun x H1=>(∃ a,x=.ref a/\(∃ xs,SqL K H1 a xs)/\R (Itl K a) H1)\/∃ a,x=.ref a/\(∃ xs,SqT K H1 a xs)/\R (Itt K a) H1
theorem C12 {l:Expr} {tl:TE} (hl:PE X l tl):PI X tg l (iSq X.K tl):=by
  intro pins s σ H R I h;refine thn (hl pins s σ H _ I h) fun v s1 ⟨x,H1,I1,r1,q1⟩=>?_;rcases q1 with ⟨a,e,⟨xs,hq⟩,q⟩ | ⟨a,e,⟨xs,hq⟩,q⟩
  · subst e
    cases r1;obtain ⟨its,rv,p,hz⟩:=I1.list hq;refine wpAny_pyIter_list p.isList ?_;refine ⟨s1.heap.objs.size,[s1.heap.objs.size],_,_,H1,rfl,I1.kept (t':=s1.toks) fun b o e=>Heap.get?_push_of_some _ e,A4f a _,⟨_,Heap.get?_push_size _ rfl,rfl,rfl⟩,fun b hb=>?_,q⟩;have e:b=s1.heap.objs.size:=by simpa using hb
    subst e;exact I1.fpOk (Zv _) (I1.hok.fresh (Zv _))
  · subst e
    cases r1;obtain ⟨its,rv,p,hz⟩:=I1.tuple hq;refine wpAny_pyIter_tuple (show s1.heap.IsTuple a its.toArray from p) ?_;refine ⟨s1.heap.objs.size,[s1.heap.objs.size],_,_,H1,rfl,I1.kept (t':=s1.toks) fun b o e=>Heap.get?_push_of_some _ e,A3a a _,⟨_,Heap.get?_push_size _ rfl,rfl,rfl⟩,fun b hb=>?_,q⟩;have e:b=s1.heap.objs.size:=by simpa using hb
    subst e;exact I1.fpOk (Zv _) (I1.hok.fresh (Zv _))
theorem B7i {K:PySem.W.Frag} {l:Expr} {tl:TE} (h:X.K=K) (hl:PE X l tl):PI X tg l (iSq K tl):=by subst h; exact C12 hl
theorem D5 {K:PySem.W.Frag} (h:X.K=K) (hu:X.A.units + 64 < cLine):OpR X (compareOp .Eq) (rEqD K):=by subst h; exact B9l hu
theorem M9 {K:PySem.W.Frag} (h:X.K=K) (hu:X.A.units + 64 < cLine):OpR X (compareOp .NotEq) (rNeD K):=by subst h; exact B9i hu
theorem K9 {K:PySem.W.Frag} (h:X.K=K):SlR X (rSlL K):=by subst h; exact B1k
end
end L2
namespace Pu
open PySem L2 My Prf
def B0c (pt:PTt) (pb:PSt) (D:PEnds) (env:PEnv):Prop:=∃ Inv:Nat->PEnv->Prop,(∃ m,Inv m env)/\∀ m e,Inv m e->pt e fun b e2=>if b=true then pb ⟨fun e3=>∃ m',m' < m/\Inv m' e3,D.rt,D.nx,fun e3=>∃ m',m' < m/\Inv m' e3⟩ e2 else D.nx e2
instance rs_while {K:Frag} {tt:TT} {tb:TS} {pt:PTt} {pb:PSt} [ht:RT K tt pt] [hb:RS K tb pb]:RS K (A4h tt tb) (B0c pt pb) where
  ok:=by
    rintro c w env σ Dp D rfl E h ⟨Inv,⟨m0,i0⟩,step⟩;refine ⟨fun m σ' H'=>∃ e w',w'.H=H'/\EnvOk c w' e σ'/\Same w.F w'.F/\Inv m e,⟨m0,env,w,rfl,E,Same.refl _,i0⟩,?_⟩;rintro m σ1 _ ⟨e1,w1,rfl,E1,s1,i1⟩;refine ht.ok c w1 e1 σ1 _ _ rfl E1 (step m e1 i1) fun b e2 w2 E2 l2 q2=>?_;cases b with
    | true =>
      refine ⟨fun σ' H'=>∃ e w',w'.H=H'/\EnvOk c w' e σ'/\Same w.F w'.F/\∃ m',m' < m/\Inv m' e,fun σ' H' ⟨e,w',e1,E',s',m',hm,i'⟩=>⟨m',hm,e,w',e1,E',s',i'⟩,?_⟩;refine hb.ok c w2 e2 σ1 ⟨fun e3=>∃ m',m' < m/\Inv m' e3,Dp.rt,Dp.nx,fun e3=>∃ m',m' < m/\Inv m' e3⟩ _ rfl E2 ⟨fun e3 σ3 w3 E3 s3 n3=>⟨e3,w3,rfl,E3,s1.trans (l2.f.trans s3),n3⟩,h.rt,fun e3 σ3 w3 E3 s3 n3=>h.nx e3 σ3 w3 E3 (s1.trans (l2.f.trans s3)) n3,fun e3 σ3 w3 E3 s3 n3=>⟨e3,w3,rfl,E3,s1.trans (l2.f.trans s3),n3⟩⟩ q2
    | false=>exact h.nx e2 σ1 w2 E2 (s1.trans l2.f) q2
def Walk (c:Ct) (w1:Wd) (J:It) (xs:List PyData):Prop :=
  ∀ w',w'.Ok->Le c.w0 w'->Same w1.F w'.F->(∀ i,i < xs.length->J.go i w'.H)/\J.stop xs.length w'.H/\∀ i v H',J.yld i w'.H v H'->i < xs.length->∃ w2 x,w2.H=H'/\w2.Ok/\Le w' w2/\xs[i]?=some x/\Den c.K w2.F v x
class RI (K:Frag) (wi:TI) (pi:outParam PAr):Prop where
  ok:∀ (c:Ct) (w:Wd) (env:PEnv) (σ:St) (Qp:List PyData->PEnv->Prop) (R:It->Hpp->Prop),c.K=K->EnvOk c w env σ->pi env Qp->(∀ J xs env' w',EnvOk c w' env' σ->Lw w w'->Walk c w' J xs->Qp xs env'->R J w'.H)->wi σ w.H R
theorem M2 {c:Ct} {w1:Wd} {a:Addr} {vs:List V} {xs:List PyData} (d:DenAll c.K w1.F vs xs) (h:∀ w',w'.Ok->Le c.w0 w'->Same w1.F w'.F->SqL c.K w'.H a vs):Walk c w1 (Itl c.K a) xs:=by
  intro w' ok l s;have q:=h w' ok l s;have hl:=d.len;refine ⟨fun i hi=>⟨vs,vs[i]'(by omega),q,Zg _⟩,⟨vs,q,by omega⟩,fun i v H' y hi=>?_⟩;obtain ⟨e,y⟩:=y;obtain ⟨x,g1,g2⟩:=d.get (y vs q);exact ⟨w',x,e.symm,ok,Le.refl w',g1,Den.same s g2⟩
theorem A11 {c:Ct} {w1:Wd} {a:Addr} {vs:List V} {xs:List PyData} (d:DenAll c.K w1.F vs xs) (h:∀ w',w'.Ok->Le c.w0 w'->Same w1.F w'.F->SqT c.K w'.H a vs):Walk c w1 (Itt c.K a) xs:=by
  intro w' ok l s;have q:=h w' ok l s;have hl:=d.len;refine ⟨fun i hi=>⟨vs,vs[i]'(by omega),q,Zg _⟩,⟨vs,q,by omega⟩,fun i v H' y hi=>?_⟩;obtain ⟨e,y⟩:=y;obtain ⟨x,g1,g2⟩:=d.get (y vs q);exact ⟨w',x,e.symm,ok,Le.refl w',g1,Den.same s g2⟩
def R4 (x:PyData) (k:List PyData->Prop):Prop:=match x with
  | .list xs=>k xs
  | .tuple xs=>k xs
  | _=>False
def B8o (pd:PDt) (env:PEnv) (Q:List PyData->PEnv->Prop):Prop:=pd env fun x e=>R4 x fun xs=>Q xs e
instance (priority:=low) ri_sq {K:Frag} {tl:TE} {pd:PDt} [hl:RD K tl pd]:RI K (iSq K tl) (B8o pd) where
  ok:=by
    rintro c w env σ Qp R rfl E p k;refine hl.ok c w env σ _ _ rfl E p fun v x e1 w1 E1 l1 d1 q1=>?_;unfold R4 at q1;split at q1
    · obtain ⟨a,vs,e,h1,h2⟩:=d1.lstE
      exact .inl ⟨a,e,⟨vs,E1.wok.sub.seq h1⟩,k _ _ e1 w1 E1 l1 (M2 h2 fun w' ok l s=>(s.trans ok.sub).seq h1) q1⟩
    · obtain ⟨a,vs,e,h1,h2⟩:=d1.tupE
      exact .inr ⟨a,e,⟨vs,SqT.same E1.wok.sub h1⟩,k _ _ e1 w1 E1 l1 (A11 h2 fun w' ok l s=>SqT.same (s.trans ok.sub) h1) q1⟩
    · exact q1.elim
def A5e (i:Nat) (env:PEnv) (Q:List PyData->PEnv->Prop):Prop:=match env[i]? with
  | some (some (.d x))=>R4 x fun xs=>Q xs env
  | some (some (.own xs))=>Q xs (env.set i (some (.d (.list xs))))
  | some (some (.bor xs))=>Q xs env
  | _=>False
instance ri_var {K:Frag} {i:Nat}:RI K (iSq K (tVar i)) (A5e i) where
  ok:=by
    rintro c w env σ Qp R rfl E p k;unfold A5e at p;split at p
    · rename_i x e
      obtain ⟨v,h1,h2⟩:=E.at' i _ e;refine ⟨v,h1,?_⟩;unfold R4 at p;split at p
      · obtain ⟨a,vs,e,g1,g2⟩:=Den.lstE h2
        exact .inl ⟨a,e,⟨vs,E.wok.sub.seq g1⟩,k _ _ env w E (Lw.refl w) (M2 g2 fun w' ok l s=>(s.trans ok.sub).seq g1) p⟩
      · obtain ⟨a,vs,e,g1,g2⟩:=Den.tupE h2
        exact .inr ⟨a,e,⟨vs,SqT.same E.wok.sub g1⟩,k _ _ env w E (Lw.refl w) (A11 g2 fun w' ok l s=>SqT.same (s.trans ok.sub) g1) p⟩
      · exact p.elim
    · rename_i xs e
      obtain ⟨w',v,e',hv,E',l,d⟩:=E.frz e;refine ⟨v,hv,?_⟩;obtain ⟨a,vs,e,g1,g2⟩:=d.lstE;have:=k _ _ _ w' E' l (M2 g2 fun w' ok l s=>(s.trans ok.sub).seq g1) p;rw [e'] at this;exact .inl ⟨a,e,⟨vs,by rw [<- e']; exact E'.wok.sub.seq g1⟩,this⟩
    · rename_i xs e
      obtain ⟨v,h1,h2⟩:=E.at' i _ e;refine ⟨v,h1,?_⟩;rcases h2 with h2 | ⟨l,vs,ev,g1,g2,g3⟩
      · obtain ⟨a,vs,e,g1,g2⟩:=Den.lstE h2
        exact .inl ⟨a,e,⟨vs,E.wok.sub.seq g1⟩,k _ _ env w E (Lw.refl w) (M2 g2 fun w' ok l s=>(s.trans ok.sub).seq g1) p⟩
      · exact .inl ⟨l,ev,⟨vs,SqL.of (E.le0.h _ _ g1 g2)⟩,k _ _ env w E (Lw.refl w) (M2 g3 fun w' ok l' s=>SqL.of (l'.h _ _ g1 g2)) p⟩
    · exact p.elim
def rngD (lo:Int) (n:Nat):List PyData:=(List.range n).map fun k:Nat=>PyData.int (lo + (k:Int))
theorem K0 (lo:Int) (n:Nat):(rngD lo n).length=n:=by simp [rngD]
theorem A19 {lo:Int} {n i:Nat} {x:PyData} (h:(rngD lo n)[i]?=some x):i < n/\x=.int (lo + (i:Int)):=by
  unfold rngD at h;rw [Zh] at h;by_cases hi:i < n
  · rw [List.getElem?_range hi] at h; cases h; exact ⟨hi,rfl⟩
  · rw [List.getElem?_eq_none (by simpa using hi)] at h; cases h
theorem A7j {c:Ct} {w1:Wd} {lo:Int} {n:Nat}:Walk c w1 (Itr lo n) (rngD lo n):=by
  intro w' ok l s;refine ⟨fun i hi=>by rw [K0] at hi; exact hi,by rw [K0]; exact Zv _,fun i v H' y hi=>?_⟩;obtain ⟨e,y⟩:=y;subst y;rw [K0] at hi;refine ⟨w',.int (lo + i),e.symm,ok,Le.refl w',?_,.int _⟩;unfold rngD;rw [Zh,List.getElem?_range hi]; rfl
def B73 (pa:PAr) (env:PEnv) (Q:List PyData->PEnv->Prop):Prop:=pa env fun xs e=>match xs with
  | [.int j]=>(-(2 ^ 62)<=j/\j < 2 ^ 62)/\Q (rngD 0 j.toNat) e
  | _=>False
def C2e (pa:PAr) (env:PEnv) (Q:List PyData->PEnv->Prop):Prop:=pa env fun xs e=>match xs with
  | [.int i,.int j]=>(-(2 ^ 62)<=i/\i < 2 ^ 62/\-(2 ^ 62)<=j/\j < 2 ^ 62)/\Q (rngD i (j - i).toNat) e
  | _=>False
instance ri_rng1 {K:Frag} {ta:TA} {pa:PAr} [ha:RAv K ta pa]:RI K (B5r ta) (B73 pa) where
  ok:=by
    rintro c w env σ Qp R rfl E p k;refine ha.ok c w env σ _ _ rfl E p fun vs xs e1 w1 E1 l1 v1 q1=>?_;split at q1
    · cases v1 with | cons h t=>cases t; exact ⟨_,by rw [h.intE],q1.1.1,q1.1.2,k _ _ e1 w1 E1 l1 A7j q1.2⟩
    · exact q1.elim
def A0d (xs:List PyData) (pg:PyData->PEnv->(PEnv->Prop)->Prop) (pb:PSt) (D:PEnds) (env:PEnv):Prop :=
  ∃ Inv:Nat->PEnv->Prop,Inv 0 env/\(∀ i x e,xs[i]?=some x->Inv i e->pg x e fun e2=>pb ⟨Inv (i + 1),D.rt,D.nx,Inv (i + 1)⟩ e2)/\∀ e,Inv xs.length e->D.nx e
def pFor (pi:PAr) (pg:PyData->PEnv->(PEnv->Prop)->Prop) (pb:PSt) (D:PEnds) (env:PEnv):Prop:=pi env fun xs e=>A0d xs pg pb D e
instance rs_for {K:Frag} {wi:TI} {g:TG} {tb:TS} {pi:PAr} {pg:PyData->PEnv->(PEnv->Prop)->Prop} {pb:PSt} [hi:RI K wi pi] [hg:RG K g pg] [hb:RS K tb pb]:RS K (tFor wi g tb) (pFor pi pg pb) where
  ok:=by
    rintro c w env σ Dp D rfl E h p;refine hi.ok c w env σ _ _ rfl E p fun J xs e1 w1 E1 l1 wk ⟨Iv,i0,step,fin⟩=>?_;refine ⟨fun i m σ' H'=>m=xs.length - i/\i<=xs.length/\∃ e w',w'.H=H'/\EnvOk c w' e σ'/\Same w1.F w'.F/\Iv i e,⟨xs.length,rfl,Nat.zero_le _,e1,w1,rfl,E1,Same.refl _,i0⟩,?_⟩;rintro i m σ2 _ ⟨rfl,hle,e2,w2,rfl,E2,s2,i2⟩;obtain ⟨go,stop,yld⟩:=wk w2 E2.wok E2.le0 s2;by_cases hlt:i < xs.length
    · refine .inr ⟨go i hlt,fun σ' H'=>i + 1<=xs.length/\∃ e w',w'.H=H'/\EnvOk c w' e σ'/\Same w1.F w'.F/\Iv (i + 1) e,fun σ' H' ⟨q0,q⟩=>⟨xs.length - (i + 1),by omega,rfl,q0,q⟩,fun v H' y=>?_⟩
      obtain ⟨w2',x,rfl,ok2,le2,hx,dx⟩:=yld i v H' y hlt;replace E2:=E2.mono ok2 le2;replace s2:=s2.trans le2.f;clear yld go stop y le2 ok2;generalize w2'=w2 at E2 s2 dx;refine hg.ok c w2 e2 σ2 v x _ _ rfl E2 dx (step i x e2 hx i2) fun e3 σ3 E3 q3=>?_;refine hb.ok c w2 e3 σ3 ⟨Iv (i + 1),Dp.rt,Dp.nx,Iv (i + 1)⟩ _ rfl E3 ⟨fun e4 σ4 w4 E4 s4 n4=>⟨hlt,e4,w4,rfl,E4,s2.trans s4,n4⟩,h.rt,fun e4 σ4 w4 E4 s4 n4=>h.nx e4 σ4 w4 E4 (l1.f.trans (s2.trans s4)) n4,fun e4 σ4 w4 E4 s4 n4=>⟨hlt,e4,w4,rfl,E4,s2.trans s4,n4⟩⟩ q3
    · have e:i=xs.length:=by omega
      subst e;exact .inl ⟨stop,h.nx e2 σ2 w2 E2 (l1.f.trans s2) (fin e2 i2)⟩
theorem K5 {lo:Int} {n:Nat} {pg:PyData->PEnv->(PEnv->Prop)->Prop} {pb:PSt} {D:PEnds} {env:PEnv} (Inv:Nat->PEnv->Prop) (h0:Inv 0 env)
    (hs:∀ (i:Nat) e,i < n->Inv i e->pg (.int (lo + (i:Int))) e fun e2=>pb ⟨Inv (i + 1),D.rt,D.nx,Inv (i + 1)⟩ e2) (hd:∀ e,Inv n e->D.nx e):A0d (rngD lo n) pg pb D env :=
  ⟨Inv,h0,fun i x e hx hi=>by obtain ⟨h1,rfl⟩:=A19 hx; exact hs i e h1 hi,fun e h=>hd e (by rwa [K0] at h)⟩
theorem A1p {xs:List PyData} {pg:PyData->PEnv->(PEnv->Prop)->Prop} {pb:PSt} {D:PEnds} {env:PEnv} (Inv:Nat->PEnv->Prop) (h0:Inv 0 env)
    (hs:∀ (i:Nat) x e,xs[i]?=some x->Inv i e->pg x e fun e2=>pb ⟨Inv (i + 1),D.rt,D.nx,Inv (i + 1)⟩ e2) (hd:∀ e,Inv xs.length e->D.nx e):A0d xs pg pb D env:=⟨Inv,h0,hs,hd⟩
def SV.lent:SV->Option SV
  | .own xs=>some (.bor xs)
  | .tr _=>none
  | .bt _=>none
  | .dk _=>none
  | s=>some s
def J7 (cap:List (Option Nat)) (env:PEnv):PEnv:=cap.map fun o=>o.bind fun j=>(env[j]?).join.bind SV.lent
theorem EnvOk.writeZ {c:Ct} {w:Wd} {env:PEnv} {σ:St} {l:Addr} {us:List V} (E:EnvOk c w env σ) (z:c.Z l) (h4:c.w0.H l=none):EnvOk c ⟨w.M,upd w.H l (.lst us),w.F⟩ env σ:=by
  obtain ⟨h2,h1,h3⟩:=E.zf l z;have ne:∀ b,w.M b->b≠l:=fun b hb z=>h3 (z ▸ hb);refine ⟨⟨fun b o q=>?_,fun p hp=>(E.wok.st p hp).kp (ne p hp) Kp.upd,E.wok.nf⟩,⟨⟨E.le0.f,fun b o q n=>?_,E.le0.m,E.le0.mn,fun b q=>E.le0.dom b (M3 q)⟩,E.le0.n⟩,E.len,fun j s q=>?_,E.own,fun a za=>?_,E.zo⟩
  · show upd w.H l (.lst us) b=some o
    rw [C7 (fun z=>by rw [z,h2] at q; cases q)]; exact E.wok.sub b o q
  · show upd w.H l (.lst us) b=some o
    rw [C7 (fun z=>by rw [z,h4] at q; cases q)]; exact E.le0.h b o q n
  · obtain ⟨v,g1,g2⟩:=E.at' j s q
    exact ⟨v,g1,g2.writ h1 (E.zo l j s v z q g1)⟩
  · obtain ⟨z1,z2,z3⟩:=E.zf a za
    exact ⟨z1,fun q=>z2 (M3 q),z3⟩
theorem EnvOk.cap {c:Ct} {w:Wd} {env:PEnv} {σ:St} {D:Addr} (cap:List (Option Nat)) (E:EnvOk c w env σ) (hD:w.H D=none):EnvOk ⟨c.K,w,fun a=>a=D⟩ (w.lay D (.lst [])) (J7 cap env) (capσ cap σ):=by
  have nown:∀ (i:Nat) s v a,(J7 cap env)[i]?=some (some s)->¬ s.foot v a:=fun i s0 v a q f=>by
    unfold J7 at q;rw [Zh] at q;cases hc:cap[i]? with
    | none=>rw [hc] at q; cases q
    | some o =>
      rw [hc] at q;cases o with
      | none=>cases q
      | some j =>
        have q':((env[j]?).join.bind SV.lent)=some s0:=Zj q;cases hj:(env[j]?).join with
        | none=>rw [hj] at q'; cases q'
        | some s=>rw [hj] at q'; cases s <;> cases q' <;> exact f
  refine ⟨Wd.lay_ok E.wok hD,Wd.lay_le hD,by simp [J7,capσ],fun i s q=>?_,fun i j s t v u a q _ _ _ f=>absurd f (nown i s v a q),fun a za=>?_,fun a j t u _ q _=>nown j t u a q⟩
  · unfold J7 at q
    unfold capσ;rw [Zh] at q ⊢;cases hc:cap[i]? with
    | none=>rw [hc] at q; cases q
    | some o =>
      rw [hc] at q;cases o with
      | none=>cases q
      | some j =>
        have q':((env[j]?).join.bind SV.lent)=some s:=Zj q;cases hj:env[j]? with
        | none=>rw [hj] at q'; cases q'
        | some t =>
          rw [hj] at q';cases t with
          | none=>cases q'
          | some s0 =>
            have q2:s0.lent=some s:=q';obtain ⟨v,h1,h2⟩:=E.at' j s0 hj;refine ⟨v,by simp [h1],?_⟩;cases s0 with
            | d x=>cases q2; exact h2
            | own xs=>cases q2; obtain ⟨l,vs,e,g1,g2,g3,g4,g5⟩:=h2; exact .inr ⟨l,vs,e,g1,g3,g5⟩
            | bor xs =>
              cases q2;rcases h2.vv E.le0 with g | ⟨l,vs,ys,e,e',g1,g2,g3⟩
              · exact .inl g
              · cases e'; exact .inr ⟨l,vs,e,g1,g2,g3⟩
            | st=>cases q2; exact h2
            | tr t=>cases q2
            | bt t=>cases q2
            | al t=>cases q2; exact h2
            | dk t=>cases q2
  · have e:a=D:=za
    subst e;exact ⟨E.wok.fnone hD,by show upd w.H a (.lst []) a≠none; rw [C6]; simp,fun z=>E.wok.mne hD z rfl⟩
theorem Walk.up {c:Ct} {w:Wd} {J:It} {xs:List PyData} (h:Walk c w J xs) (l:Le c.w0 w):Walk ⟨c.K,w,c.Z⟩ w J xs:=fun w' ok l' s=>h w' ok (l.trans l') s
def L5 (xs:List PyData) (pg:PyData->PEnv->(PEnv->Prop)->Prop) (pt:PTt) (pd:PDt) (e0:PEnv) (Fin:List PyData->Prop):Prop :=
  ∃ Pv:Nat->PEnv->List PyData->Prop,Pv 0 e0 []/\(∀ i x e ys,xs[i]?=some x->Pv i e ys->pg x e fun e2=>pt e2 fun b e3=>if b=true then pd e3 fun y e4=>Pv (i + 1) e4 (ys++[y]) else Pv (i + 1) e3 ys)/\∀ e ys,Pv xs.length e ys->Fin ys
theorem A6y {K:Frag} {g:TG} {tt:TT} {te:TE} {pg:PyData->PEnv->(PEnv->Prop)->Prop} {pt:PTt} {pd:PDt} [hg:RG K g pg] [ht:RT K tt pt] [he:RD K te pd] {c:Ct} {w:Wd} {env:PEnv} {σ:St} {J:It} {xs:List PyData} {cap:List (Option Nat)} {D:Addr} {Fp:List PyData->Prop} {Fin:Hpp->Prop}
    (hK:c.K=K) (E:EnvOk c w env σ) (wk:Walk ⟨c.K,w,c.Z⟩ w J xs) (hn:xs.length < 1000000) (p:L5 xs pg pt pd (J7 cap env) Fp) (hD:w.H D=none) (k:∀ w' ys,Res c w env σ w' (.ref D) (.own ys)->Fp ys->Fin w'.H):A22 J g tt te D Fin (capσ cap σ) w.H:=by
  subst hK;obtain ⟨Pv,p0,step,fin⟩:=p;have hw0:c.w0.H D=none:=E.le0.dom D hD;refine ⟨fun i m σ' H' vs=>m=xs.length - i/\i<=xs.length/\∃ e w' ys,w'.H=H'/\EnvOk ⟨c.K,w,fun a=>a=D⟩ w' e σ'/\w'.H D=some (.lst vs)/\vs.length<=i/\DenAll c.K w'.F vs ys/\Pv i e ys,
    ⟨xs.length,rfl,Nat.zero_le _,J7 cap env,w.lay D (.lst []),[],rfl,E.cap cap hD,C6,Zv _,.nil,p0⟩,?_⟩
  rintro i m σ1 _ vs ⟨rfl,hle,e1,w1,ys,rfl,E1,h1,hvl,d1,q1⟩;refine ⟨h1,Y7 (by omega),?_⟩;obtain ⟨go,stop,yld⟩:=wk w1 E1.wok E1.le0 E1.le0.f;by_cases hlt:i < xs.length
  · refine .inr ⟨go i hlt,fun v H' y=>?_⟩
    obtain ⟨w1',x,rfl,ok1',le1,hx,dx⟩:=yld i v H' y hlt;replace h1:=le1.h _ _ h1 (E1.zf D rfl).2.2;replace E1:=E1.mono ok1' le1;replace d1:=DenAll.same le1.f d1;clear yld go stop y le1 ok1';generalize w1'=w1 at E1 h1 d1 dx;refine hg.ok ⟨c.K,w,fun a=>a=D⟩ w1 e1 σ1 v x _ _ rfl E1 dx (step i x e1 ys hx q1) fun e2 σ2 E2 q2=>?_;refine ht.ok ⟨c.K,w,fun a=>a=D⟩ w1 e2 σ2 _ _ rfl E2 q2 fun b e3 w3 E3 l3 q3=>?_;have nm:=(E2.zf D rfl).2.2;have h3:=l3.h _ _ h1 nm;cases b with
    | true =>
      refine he.ok ⟨c.K,w,fun a=>a=D⟩ w3 e3 σ2 _ _ rfl E3 q3 fun y' y e4 w4 E4 l4 d4 q4=>?_;have h4:=l4.h _ _ h3 (E3.zf D rfl).2.2;refine ⟨vs,h4,Y7 (by omega),xs.length - (i + 1),by omega,rfl,hlt,e4,⟨w4.M,upd w4.H D (.lst (vs++[y'])),w4.F⟩,ys++[y],rfl,E4.writeZ rfl hD,C6,by rw [Ze]; simp; exact hvl,(DenAll.same (l3.f.trans l4.f) d1).app (.cons d4 .nil),q4⟩
    | false =>
      exact ⟨xs.length - (i + 1),by omega,rfl,hlt,e3,w3,ys,rfl,E3,h3,by omega,DenAll.same l3.f d1,q3⟩
  · have e:i=xs.length:=by omega
    subst e;obtain ⟨z1,z2,z3⟩:=E1.zf D rfl;refine .inl ⟨stop,k w1 ys ⟨E.mono E1.wok E1.le0,E1.le0.toLw,⟨D,vs,rfl,h1,z1,z3,hw0,d1⟩,fun a f=>?_,rfl⟩ (fin e1 ys q1)⟩;have:V.ref D=.ref a:=f;cases this;exact E.fresh hD
def B80 (pi:PAr) (pg:PyData->PEnv->(PEnv->Prop)->Prop) (pt:PTt) (pd:PDt) (cap:List (Option Nat)) (env:PEnv) (Q:SV->PEnv->Prop):Prop:=pi env fun xs e=>xs.length < 1000000/\L5 xs pg pt pd (J7 cap e) fun ys=>Q (.own ys) e
instance re_comp {K:Frag} {wi:TI} {g:TG} {tt:TT} {te:TE} {cap:List (Option Nat)} {pi:PAr} {pg:PyData->PEnv->(PEnv->Prop)->Prop} {pt:PTt} {pd:PDt} [hi:RI K wi pi] [hg:RG K g pg] [ht:RT K tt pt] [he:RD K te pd]:RE K (B1d wi g tt te cap) (B80 pi pg pt pd cap) where
  ok:=by
    rintro c w env σ Qp Q rfl E p k;refine hi.ok c w env σ _ _ rfl E p fun J xs e1 w1 E1 l1 wk ⟨hn,q⟩ D hD=>?_;exact A6y (pg:=pg) (pt:=pt) (pd:=pd) rfl E1 (wk.up E1.le0) hn q hD fun w' ys R q'=>k _ _ e1 w' (R.pre l1) q'
def A2l (pi:PAr) (pg:PyData->PEnv->(PEnv->Prop)->Prop) (pt:PTt) (pd:PDt) (cap:List (Option Nat)) (i:Nat) (D:PEnds) (env:PEnv):Prop:=pi env fun xs e=>xs.length < 1000000/\L5 xs pg pt pd (J7 cap e) fun ys=>D.nx (e.set i (some (.own ys)))
instance rs_setComp {K:Frag} {wi:TI} {g:TG} {tt:TT} {te:TE} {cap:List (Option Nat)} {i:Nat} {pi:PAr} {pg:PyData->PEnv->(PEnv->Prop)->Prop} {pt:PTt} {pd:PDt} [hi:RI K wi pi] [hg:RG K g pg] [ht:RT K tt pt] [he:RD K te pd]:RS K (V7 wi g tt te cap i) (A2l pi pg pt pd cap i) where
  ok:=by
    rintro c w env σ Dp D rfl E h p;refine hi.ok c w env σ _ _ rfl E p fun J xs e1 w1 E1 l1 wk ⟨hn,q⟩ l hl=>?_;exact A6y (pg:=pg) (pt:=pt) (pd:=pd) rfl E1 (wk.up E1.le0) hn q hl fun w' ys R q'=>h.nx _ _ w' (R.ev.set R.val R.new) (l1.f.trans R.lw.f) q'
class RP (K:Frag) (to:TO) (po:outParam (PEnv->(Option Int->PEnv->Prop)->Prop)):Prop where
  ok:∀ (c:Ct) (w:Wd) (env:PEnv) (σ:St) (Qp:Option Int->PEnv->Prop) (Q:Option Int->Hpp->Prop),c.K=K->EnvOk c w env σ->po env Qp->(∀ o env' w',EnvOk c w' env' σ->Lw w w'->Qp o env'->Q o w'.H)->to σ w.H Q
def A5c (env:PEnv) (Q:Option Int->PEnv->Prop):Prop:=Q none env
def asI (x:PyData) (k:Int->Prop):Prop:=match x with
  | .int i=>k i
  | _=>False
def B75 (pa:PDt) (env:PEnv) (Q:Option Int->PEnv->Prop):Prop:=pa env fun x e=>asI x fun i=>Q (some i) e
instance rp_no {K:Frag}:RP K A1a A5c:=⟨fun c w env σ Qp Q _ E p k=>k none env w E (Lw.refl w) p⟩
instance rp_part {K:Frag} {te:TE} {pa:PDt} [ha:RW K te pa]:RP K (B1a te) (B75 pa) where
  ok:=by
    rintro c w env σ Qp Q rfl E p k;refine ha.ok c w env σ _ _ rfl E p fun x dx e1 w1 E1 l1 v1 q1=>?_;unfold asI at q1;split at q1
    · exact ⟨_,v1.intE,k _ e1 w1 E1 l1 q1⟩
    · exact q1.elim
def cutD (xs:List PyData) (lo hi:Option Int):List PyData:=(xs.drop (HT.sIx xs.length 0 lo)).take (HT.sIx xs.length xs.length hi - HT.sIx xs.length 0 lo)
def pSlL (pa:PDt) (pl ph:PEnv->(Option Int->PEnv->Prop)->Prop) (env:PEnv) (Q:SV->PEnv->Prop):Prop:=pa env fun x e=>asL x fun xs=>pl e fun lo e1=>ph e1 fun hi e2=>Q (.own (cutD xs lo hi)) e2
instance re_sl {K:Frag} {te:TE} {tl th:TO} {pa:PDt} {pl ph:PEnv->(Option Int->PEnv->Prop)->Prop} [ha:RW K te pa] [hl:RP K tl pl] [hh:RP K th ph]:RE K (tSl (rSlL K) te tl th) (pSlL pa pl ph) where
  ok:=by
    rintro c w env σ Qp Q rfl E p k;refine ha.ok c w env σ _ _ rfl E p fun x dx e1 w1 E1 l1 v1 q1=>?_;unfold asL at q1;split at q1
    · rename_i xs
      refine hl.ok c w1 e1 σ _ _ rfl E1 q1 fun lo e2 w2 E2 l2 q2=>?_;refine hh.ok c w2 e2 σ _ _ rfl E2 q2 fun hi e3 w3 E3 l3 q3=>?_;obtain ⟨a,vs,e,g1,g2⟩:=((v1.mono l2).mono l3).lst E3.wok;refine ⟨a,vs,e,g1,fun p hp=>k _ _ e3 _ ((Res.lst E3 hp (xs:=cutD xs lo hi) ?_).pre (l1.trans (l2.trans l3))) q3⟩;unfold cutV cutD;rw [g2.len];exact (g2.drop _).take _
    · exact q1.elim
def pRev (pa pb:PDt) (env:PEnv) (Q:SV->PEnv->Prop):Prop:=pa env fun x e=>asL x fun xs=>pb e fun k e2=>k=.int (-1)/\Q (.own xs.reverse) e2
theorem M0 {K:Frag} {w:Wd}:∀ {md:List Md} {vs:List V} {as:List SV},Args K w md vs as->as.length=vs.length/\∀ (i:Nat) s,as[i]?=some s->(∃ v,vs[i]?=some v/\VR ⟨K,w,noZ⟩ w v s)/\∀ u a,¬ s.foot u a
  | _,_,_,.nil=>⟨rfl,fun i s h=>by simp at h⟩
  | _,_,_,.dat h t=>⟨by simp [(M0 t).1],fun i s e=>match i,e with
    | 0,e=>by simp at e; subst e; exact ⟨⟨_,rfl,h⟩,fun _ _ z=>z⟩
    | i + 1,e=>by simpa using (M0 t).2 i s (by simpa using e)⟩
  | _,_,_,.vw h t=>⟨by simp [(M0 t).1],fun i s e=>match i,e with
    | 0,e=>by
      simp at e; subst e;refine ⟨⟨_,rfl,?_⟩,fun _ _ z=>z⟩;rcases h with h | ⟨l,vs,ys,e1,e2,h1,h2,h3⟩
      · exact .inl h
      · cases e2; exact .inr ⟨l,vs,e1,h1,h2,h3⟩
    | i + 1,e=>by simpa using (M0 t).2 i s (by simpa using e)⟩
  | _,_,_,.bt h t=>⟨by simp [(M0 t).1],fun i s e=>match i,e with
    | 0,e=>by simp at e; subst e; exact ⟨⟨_,rfl,h⟩,fun _ _ z=>z⟩
    | i + 1,e=>by simpa using (M0 t).2 i s (by simpa using e)⟩
  | _,_,_,.st h t=>⟨by simp [(M0 t).1],fun i s e=>match i,e with
    | 0,e=>by simp at e; subst e; exact ⟨⟨_,rfl,h⟩,fun _ _ z=>z⟩
    | i + 1,e=>by simpa using (M0 t).2 i s (by simpa using e)⟩
theorem F0 {K:Frag} {ts:TS} {ps:PSt} [hs:RS K ts ps] {md:List Md} {psp:PSp} {vs:List V} {H:Hpp} {Q:VK} {E:XK} {N:List Str} (h:spOf K md psp vs H Q E)
    (hb:∀ as Qp,psp as Qp->ps ⟨fun _=>Qp (.d .none),fun s _=>Qp s,fun _=>False,fun _=>False⟩ (as.map some++List.replicate (N.length - md.length) none)):ts { nx:=fun _ H'=>Q .non H',rt:=Q } (L2.start N vs) H:=by
  obtain ⟨w,as,Qp,rfl,ok,a,p,k⟩:=h;obtain ⟨hl,hat⟩:=M0 a;have look:∀ (i:Nat) s,(as.map some++List.replicate (N.length - md.length) none)[i]?=some (some s)->as[i]?=some s:=fun i s e=>by
    rw [List.getElem?_append] at e;split at e
    · rw [Zh] at e
      cases q:as[i]? with
      | none=>rw [q] at e; cases e
      | some t=>rw [q] at e; cases e; rfl
    · rw [List.getElem?_replicate] at e
      split at e <;> cases e
  refine hs.ok ⟨K,w,noZ⟩ w (as.map some++List.replicate (N.length - md.length) none) (L2.start N vs) _ _ rfl ⟨ok,Le.refl w,by simp [L2.start,hl,a.len],fun i s e=>?_,fun i j s t v u a e _ _ _ f=>absurd f ((hat i _ (look i _ e)).2 v a),fun a z=>z.elim,fun a j t u z=>z.elim⟩ ⟨fun env σ w' E' _ q=>?_,fun v s _ _ w' E' h r q=>k v s w' E'.wok E'.le0 h r q,fun _ _ _ _ _ z=>z,fun _ _ _ _ _ z=>z⟩ (hb as Qp p)
  · obtain ⟨⟨v,h1,h2⟩,_⟩:=hat i s (look i s e)
    refine ⟨v,?_,h2⟩;unfold L2.start;rw [List.getElem?_append_left (by rw [Zl]; exact (Zs h1).1),Zh,h1]; rfl
  · exact k .non (.d .none) w' E'.wok E'.le0 (show Den _ _ _ _ from .non) rfl q
def pLaw:PSp:=fun as Q=>∃ ns:List Int,as=[.bor (ns.map .int)]/\ns.length<=63/\Q (.d (.bool true))
theorem A6s {K:Frag} {F:Hpp}:∀ ns:List Int,DenAll K F (ns.map V.int) (ns.map .int)
  | []=>.nil
  | n :: r=>.cons (.int n) (A6s r)
theorem C0g {K:Frag}:∀ vs H Q E,B1g K vs H Q E->spOf K [.vw] pLaw vs H Q E:=by
  rintro vs H Q E ⟨a,ns,rfl,hS,hl,k⟩;refine ⟨⟨fun _=>False,H,fun b=>if b=a then H a else none⟩,[.bor (ns.map .int)],fun s=>s=.d (.bool true),rfl,⟨fun b o e=>?_,fun _ z=>z.elim,fun _ z=>z.elim⟩,.vw (.inl (.lst ?_ (A6s ns))) .nil,⟨ns,rfl,hl,rfl⟩,fun v s w' ok l h r e=>?_⟩
  · dsimp only at e
    split at e
    · rename_i z; rw [z]; exact e
    · cases e
  · rcases hS with (h | ⟨o,h⟩) | h
    · exact .inl (.inl (by dsimp only; rw [if_pos rfl]; exact h))
    · exact .inl (.inr ⟨o,by dsimp only; rw [if_pos rfl]; exact h⟩)
    · exact .inr h
  · subst e
    have:v=.bl true:=Den.blE h;subst this;exact k _
end Pu
namespace L2
open PySem PySem.Spec PyProof.Rows
end L2
namespace Pu
open PySem L2 My Prf
theorem B25 {q:Rat} {Q:SV->Prop}:pIx (dq q) (.int 0) Q=Q (.d (.int q.num)):=rfl
theorem B24 {q:Rat} {Q:SV->Prop}:pIx (dq q) (.int 1) Q=Q (.d (.int (q.den:Int))):=rfl
theorem B4r {i:Int}:(PyData.int i).canLay0=true:=rfl
theorem A82 {b:Bool}:(PyData.bool b).canLay0=true:=rfl
theorem A81:PyData.none.canLay0=true:=rfl
theorem B57 {i:Int}:(PyData.int i).depth=0:=rfl
theorem A9q {b:Bool}:(PyData.bool b).depth=0:=rfl
theorem B55 {s:Str}:(PyData.str s).depth=0:=rfl
theorem A9p:PyData.none.depth=0:=rfl
theorem C0f {q:Rat}:(dq q).canLay0=true:=rfl
theorem C1p {q:Rat}:(dq q).depth=1:=rfl
theorem A1q {i j:Int}:PyData.eqv (.int i) (.int j)=decide (i=j):=by
  show (i == j)=_;by_cases h:i=j <;> simp [h]
theorem B1o {p q:Rat} (h1:p.num=q.num) (h2:(p.den:Int)=q.den):p=q:=Rat.ext h1 (by omega)
theorem A6n {p q:Rat}:PyData.eqv (dq p) (dq q)=decide (p=q):=by
  show (PyData.eqv (.int p.num) (.int q.num) && (PyData.eqv (.int (p.den:Int)) (.int (q.den:Int)) && true))=_;rw [A1q,A1q,Bool.and_true];by_cases h:p=q
  · subst h; simp
  · rw [Zd h]
    by_cases h1:p.num=q.num
    · have h2:¬ (p.den:Int)=(q.den:Int):=fun z=>h (B1o h1 z)
      rw [Zd h2,Bool.and_false]
    · rw [Zd h1,Bool.false_and]
theorem A6m {q:Rat}:PyData.eqv .none (dq q)=false:=rfl
theorem A6l {q:Rat}:PyData.eqv (dq q) .none=false:=rfl
theorem B5m {q:Rat}:isNo (dq q)=false:=rfl
theorem B0x:PyData.tuple [.int 0,.int 1]=dq 0:=rfl
theorem B9m:PyData.tuple [.int 1,.int 1]=dq 1:=rfl
theorem B6k {q:Rat}:tyD (dq q)="tuple":=rfl
theorem C0u:kitB "bool" "bool"=some true:=by decide +kernel
theorem C0q:kitB "int" "int"=some true:=by decide +kernel
theorem C0t:kitB "bool" "int"=some true:=by decide +kernel
theorem C0k:kitB "str" "str"=some true:=by decide +kernel
theorem C0o:kitB "list" "list"=some true:=by decide +kernel
theorem C0n:kitB "list" "tuple"=some false:=by decide +kernel
theorem C0i:kitB "tuple" "list"=some false:=by decide +kernel
theorem C0j:kitB "tuple" "bool"=some false:=by decide +kernel
theorem C0l:kitB "NoneType" "tuple"=some false:=by decide +kernel
theorem A6e {K:Frag} {F:Hpp}:∀ {vs:List V} {ns:List Int},DenAll K F vs (ns.map .int)->vs=ns.map V.int
  | _,[],.nil=>rfl
  | _,n :: r,.cons h t=>by rw [h.intE,A6e t]; rfl
def A4y:PSp:=fun as Q=>∃ n:Int,as=[.st,.d (.int n)]/\0 < n/\Sm 4000 n/\∀ d:Int,0<=d->d < n->Q (.d (.int d))
def A2h:PSp:=fun as Q=>∃ (ns:List Int) (k:Int),as=[.bor (ns.map .int),.d (.int k)]/\0<=k/\k<=63/\Q .st
theorem B08 {K:Frag}:∀ vs H Q E,spOf K [.st,.dat] A4y vs H Q E->A4j vs H Q E:=by
  rintro vs H Q E ⟨w,as,Qp,rfl,ok,a,⟨n,rfl,n0,sn,q⟩,k⟩;cases a with
  | st h t=>cases t with
    | dat h' t =>
      cases t;obtain ⟨p,e,hm⟩:=h;subst e;rw [Den.intE h'];refine ⟨p,n,rfl,ok.st p hm,n0,sn,fun d H' d0 d1 S' kp=>?_⟩;have out:∀ b o,w.H b=some o->b≠p->H' b=some o:=fun b o e ne=>kp b o ne e;have pn:=ok.nf p hm;refine k (.int d) (.d (.int d)) ⟨w.M,H',w.F⟩ ⟨fun b o e=>out b o (ok.sub b o e) (fun z=>by rw [z,pn] at e; cases e),fun r hr=>?_,ok.nf⟩ ⟨⟨Same.refl _,fun b o e nb=>out b o e (fun z=>nb (z ▸ hm)),fun _ z=>z,fun _ z=>.inl z,fun b e=>?_⟩,fun _ _ z=>.inl z⟩ (Den.int d) rfl (q d d0 d1)
      · by_cases z:r=p
        · subst z; exact S'
        · exact (ok.st r hr).kp z kp
      · cases hb:w.H b with
        | none=>rfl
        | some o =>
          by_cases z:b=p
          · subst z; obtain ⟨_,_,_,hp,_⟩:=S'.ex; rw [show H' b=none from e] at hp; cases hp
          · have:=out b o hb z; rw [show H' b=none from e] at this; cases this
theorem A9x {K:Frag}:∀ vs H Q E,spOf K [.vw,.dat] A2h vs H Q E->A14 K vs H Q E:=by
  rintro vs H Q E ⟨w,as,Qp,rfl,ok,a,⟨ns,kk,rfl,k0,k1,q⟩,k⟩;cases a with
  | vw h t=>cases t with
    | dat h' t =>
      cases t;obtain ⟨a,us,e,hS,hd⟩:=h.lst ok;subst e;rw [Den.intE h'];refine ⟨a,ns,kk,rfl,by rw [<- A6e hd]; exact hS,k0,k1,fun p H' hp S' kp=>?_⟩;have out:∀ b o,w.H b=some o->H' b=some o:=fun b o e=>kp b o (D9 e hp) e;refine k (.ref p) .st ⟨fun b=>w.M b\/b=p,H',w.F⟩ ⟨fun b o e=>out b o (ok.sub b o e),fun r hr=>?_,fun r hr=>?_⟩ ⟨⟨Same.refl _,fun b o e _=>out b o e,fun _ z=>.inl z,fun b z=>?_,fun b e=>?_⟩,fun _ _ z=>.inl z⟩ ⟨p,rfl,.inr rfl⟩ rfl q
      · rcases hr with hr | rfl
        · exact (ok.st r hr).kp (ok.mne hp hr) kp
        · exact S'
      · rcases hr with hr | rfl
        · exact ok.nf r hr
        · exact ok.fnone hp
      · rcases z with z | rfl
        · exact .inl z
        · exact .inr hp
      · cases hb:w.H b with
        | none=>rfl
        | some o=>have:=out b o hb; rw [show H' b=none from e] at this; cases this
def B7g:PSp:=fun as Q=>∃ a b:Int,as=[.d (.int a),.d (.int b)]/\Q (.d (.int ((Int.gcd a b:Nat):Int)))
def B11:PSp:=fun as Q=>∃ t b:Int,as=[.d (.int t),.d (.int b)]/\0 < b/\Sm 8000 t/\Sm 8000 b/\Q (.d (dq (Rat.divInt t b)))
def U9 (f:Rat->Rat->Rat):PSp:=fun as Q=>∃ p q:Rat,as=[.d (dq p),.d (dq q)]/\SmQ 3900 p/\SmQ 3900 q/\Q (.d (dq (f p q)))
def A4z:PSp:=fun as Q=>∃ p q:Rat,as=[.d (dq p),.d (dq q)]/\SmQ 3900 p/\SmQ 3900 q/\Q (.d (.bool (decide (p < q))))
def A40:PSp:=fun as Q=>∃ (pl:Bool) (le:Int),as=[.st,.d (.bool pl),.d (.int le)]/\(le=0\/le=1)/\∀ q:Rat,0<=q->(le=1->0 < q)->SmR 41 6 q->(pl=true->SmR 3 1 q/\q.den=1)->Q (.d (dq q))
end Pu
namespace L2
open PySem PySem.Spec PyProof.Rows
section
variable {X:Cx} {tg:Expr}
def B1r (K:PySem.W.Frag):R2:=fun x y H Q=>∃ l b xs zs,x=.ref l/\y=.ref b/\SqL K H l xs/\SqL K H b zs/\xs.length + zs.length<=sizeLine/\∀ p,H p=none->Q (.ref p) (upd H p (.lst (xs++zs)))
theorem L6 {K:PySem.W.Frag} (hK:X.K=K):OpR X (binaryOp .Add) (B1r K):=by
  subst hK;intro pins s σ H x y v u Q I rx ry h;obtain ⟨l,b,xs,zs,rfl,rfl,hH,hB,hz,q⟩:=h;cases rx;cases ry;obtain ⟨its,r,hl,z⟩:=I.list hH;obtain ⟨its2,r2,hl2,z2⟩:=I.list hB;have n1:=r.length;have n2:=r2.length;obtain ⟨⟨k1,dd,da,sl⟩,m1,ho,e1,e2,e3⟩:=hl;obtain ⟨⟨k2,dd2,da2,sl2⟩,m2,ho2,e4,e5,e6⟩:=hl2;dsimp only at e1 e2 e3 e4 e5 e6;subst e1 e2 e3 e4 e5 e6;refine concat_meets ⟨_,ho,rfl⟩ ⟨_,ho2,rfl⟩ noFill_list_add seq_list_add F.slot_list_add F.entry_list_add (F.args_list_add_2 _ _) (list_addW l b its.toArray its2.toArray m1 m2 none none sl sl2 (by rw [List.size_toArray,List.size_toArray]; omega)) ⟨ho,ho2,?_⟩;rw [show its.toArray++its2.toArray=(its++its2).toArray by simp];exact ⟨.ref _,_,I.lnew (t':=s.toks) (r.append r2) (by rw [Ze]; omega),rfl,q _ I.fresh⟩
def rAll (K:PySem.W.Frag):List V->Hp->VK->Prop:=fun xs H Q=>∃ (p:Addr) (bs:List Bool),xs=[.ref p]/\SqL K H p (bs.map V.bl)/\Q (.bl (bs.all id)) H
theorem B6c {bs:List Bool}:∀ {us:List Value},Vals (bs.map V.bl) us->us=bs.map Value.bool:=by
  induction bs with
  | nil=>intro us h; cases h; rfl
  | cons b r ih =>
    intro us h;cases h with
    | cons h t=>rw [ih t,show _=Value.bool b from h]; rfl
theorem A4q (bs:List Bool):(List.range bs.length).all (fun i=>bs.getD i false)=bs.all id:=by
  rw [Bool.eq_iff_iff,List.all_eq_true,List.all_eq_true];constructor
  · intro h b hb
    obtain ⟨i,hi,e⟩:=List.mem_iff_getElem.mp hb;have:=h i (List.mem_range.mpr hi);rw [List.getD_eq_getElem?_getD,Zg hi,e] at this;exact this
  · intro h i hi
    have hi:=List.mem_range.mp hi;rw [List.getD_eq_getElem?_getD,Zg hi];exact h _ (List.getElem_mem hi)
theorem B00 {pins:List (Addr × Obj)} {σ:St} {H:Hp} {s:Shared} {p:Addr} {bs:List Bool} (hc:X.calm=true) (I:Inv X pins σ H s) (hS:SqL X.K H p (bs.map V.bl)) {A:Around} (hA:A.handled=none) {Qf:Bool->Value->Shared->Prop} {E:Value->Shared->Prop} {g:(Nat->Bool)->Nat->Bool}
    (hQ:∀ h' tk,Inv X pins σ H { s with heap:=h',toks:=tk }->Qf (g (fun i=>bs.getD i false) bs.length) (.bool (g (fun i=>bs.getD i false) bs.length)) { s with heap:=h',toks:=tk }) :
    wpAny (model X.prog X.w) A (pyIter (.ref p)) (fun it s₂=>∃ J fp wr n P St tr,it=.ref J/\Walks X.prog X.w A J fp wr n P St/\St 0 s₂.heap/\TruthOf X.prog X.w A P tr /\
      ∀ h' tk,(∀ b o,b ∉ wr->s₂.heap.get? b=some o->h'.get? b=some o)->Qf (g tr n) (.bool (g tr n)) { s₂ with heap:=h',toks:=tk }) E s:=by
  obtain ⟨its,r,hl,z⟩:=I.list hS;have e:=B6c r;refine wpAny_pyIter_list hl.isList ?_;have hne:p≠s.heap.objs.size:=by
    obtain ⟨o,_,ho,_⟩:=hl;exact Nat.ne_of_lt (Heap.lt_size ho)
  have W:=Walks.list (prog:=X.prog) (w:=X.w) (A:=A) hA s.heap.objs.size p hne its.toArray;have hn:its.toArray.size=bs.length:=by rw [List.size_toArray,e,Zl]
  rw [hn] at W;refine ⟨s.heap.objs.size,_,_,_,_,_,fun i=>bs.getD i false,rfl,W,⟨⟨_,Heap.get?_push_size _ rfl,rfl,rfl⟩,hl.isList.push _⟩,fun i v s' Q' E' hP q=>?_,fun h' tk hk=>hQ h' tk ?_⟩
  · dsimp only at hP
    rw [List.getElem?_toArray,e,Zh] at hP;cases hb:bs[i]? with
    | none=>rw [hb] at hP; cases hP
    | some b =>
      rw [hb] at hP; cases hP;refine wpAny_truthy_bool ?_;dsimp only at q;rw [List.getD_eq_getElem?_getD,hb] at q;exact q
  · have I1:Inv X pins σ H { s with heap:=s.heap.push { cls:=.type "list_iterator",data:=.fields #[.ref p,.int 0 0] } }:=I.kept (t':=s.toks) fun b o e=>Heap.get?_push_of_some _ e
    have f:=I.fpOk (H':=H) (Zv s.heap.objs.size) I.fresh;exact I1.turned (t':=tk) (fun b o hb e=>hk b o (fun z=>hb (Zn z)) e) f.1 f.2.1 f.2.2.2.1 f.2.2.2.2.1 f.2.2.2.2.2
theorem A64 {K:PySem.W.Frag} (hK:X.K=K) (hc:X.calm=true:=by rfl):CallR X (.builtin "all") (rAll K):=by
  subst hK;intro pins s σ H xs us Q I r h;obtain ⟨p,bs,rfl,hS,q⟩:=h;cases r with
  | cons r rr =>
    cases rr;cases r;refine call_all_walk (B00 hc I hS (A:=X.A.in1) (I.ok.hd hc) (g:=fun tr n=>(List.range n).all tr) (Qf:=fun _=>EP X pins σ Q) fun h' tk I'=>⟨.bl _,H,I',rfl,?_⟩);rw [A4q]; exact q
end
end L2
namespace L2
open PySem PySem.Spec PyProof.Rows
section
variable {X:Cx}
def X1 (T:String):List String->Option Bool
  | []=>some false
  | c :: r=>match kitB T c with
    | some true=>some true
    | some false=>X1 T r
    | none=>none
end
end L2
namespace Pu
open PySem L2 My Prf
def dwnD (lo:Int) (n:Nat):List PyData:=(List.range n).map fun k:Nat=>PyData.int (lo - (k:Int))
def C2d (pa:PAr) (env:PEnv) (Q:List PyData->PEnv->Prop):Prop:=pa env fun xs e=>match xs with
  | [.int i,.int j,.int k]=>k=-1/\((-(2 ^ 61)<=i/\i < 2 ^ 61)/\-(2 ^ 61)<=j/\j < 2 ^ 61)/\Q (dwnD i (i - j).toNat) e
  | _=>False
def pCat (x y:PyData) (Q:SV->Prop):Prop:=match x,y with
  | .list xs,.list ys=>xs.length + ys.length<=1000000/\Q (.own (xs++ys))
  | _,_=>False
instance ro_cat {K:Frag}:RO K (B1r K) pCat where
  ok:=by
    rintro c w env σ x y dx dy Qp Q rfl E vx vy p k;unfold pCat at p;split at p
    · obtain ⟨a,vs,e,h1,h2⟩:=vx.lst E.wok
      obtain ⟨b,us,e',g1,g2⟩:=vy.lst E.wok;exact ⟨a,b,vs,us,e,e',h1,g1,by rw [h2.len,g2.len]; exact Zx p.1 (by decide),fun q hq=>k _ _ _ (Res.lst E hq (h2.app g2)) p.2⟩
    · exact p.elim
def blsD:List PyData->Option (List Bool)
  | []=>some []
  | .bool b :: r=>(blsD r).map (b :: ·)
  | _=>none
theorem A24 {K:Frag} {F:Hpp}:∀ {vs:List V} {xs:List PyData} {bs:List Bool},DenAll K F vs xs->blsD xs=some bs->vs=bs.map V.bl
  | _,_,bs,.nil,h=>by cases h; rfl
  | _,_,bs,.cons (x:=x) (xs:=vs) (d:=d) (ds:=ds) h t,e=>by
    cases d with
    | bool b =>
      have e':(blsD ds).map (b :: ·)=some bs:=e;cases q:blsD ds with
      | none=>rw [q] at e'; cases e'
      | some r =>
        rw [q] at e'; cases e';rw [h.blE,A24 t q]; rfl
    | _=>cases e
def pAll (xs:List PyData) (Q:SV->Prop):Prop:=match xs with
  | [.list ys]=>∃ bs,blsD ys=some bs/\Q (.d (.bool (bs.all id)))
  | _=>False
def pAny (xs:List PyData) (Q:SV->Prop):Prop:=match xs with
  | [.list ys]=>∃ bs,blsD ys=some bs/\Q (.d (.bool (bs.any id)))
  | _=>False
instance rb_all {K:Frag}:RB K (rAll K) pAll where
  ok:=by
    rintro c w env σ vs xs Qp Q rfl E vv p k;unfold pAll at p;split at p
    · obtain ⟨bs,e,q⟩:=p
      cases vv with | cons h t=>cases t; obtain ⟨a,us,e',h1,h2⟩:=h.lst E.wok; exact ⟨a,bs,by rw [e'],by rw [<- A24 h2 e]; exact h1,k _ _ w (Res.data E (.bl _)) q⟩
    · exact p.elim
def C2o (cs:List String) (pa:PDt) (env:PEnv) (Q:SV->PEnv->Prop):Prop:=pa env fun x e=>cs.length<=1000/\match X1 (tyD x) cs with
  | some b=>Q (.d (.bool b)) e
  | none=>False
theorem A89:X1 "bool" ["list","tuple"]=some false:=by decide +kernel
theorem A86:X1 "NoneType" ["list","tuple"]=some false:=by decide +kernel
theorem A88:X1 "int" ["list","tuple"]=some false:=by decide +kernel
theorem A85:X1 "str" ["list","tuple"]=some false:=by decide +kernel
theorem A87:X1 "list" ["list","tuple"]=some true:=by decide +kernel
theorem A84:X1 "tuple" ["list","tuple"]=some true:=by decide +kernel
theorem B8t {x:PyData} {xs:List PyData} {Q:SV->Prop}:pGet (x :: xs) 0 Q=Q (.d x):=by unfold pGet; rw [at0]
theorem B8s {x y:PyData} {xs:List PyData} {Q:SV->Prop}:pGet (x :: y :: xs) 1 Q=Q (.d y):=by unfold pGet; rw [at1]
theorem C2r {x y z:PyData} {xs:List PyData} {Q:SV->Prop}:pGet (x :: y :: z :: xs) 2 Q=Q (.d z):=by unfold pGet; rw [at2]
theorem C2q {x y z u:PyData} {xs:List PyData} {Q:SV->Prop}:pGet (x :: y :: z :: u :: xs) 3 Q=Q (.d u):=by unfold pGet; rw [at3]
theorem B6 {xs:List PyData} {i:Int} {z:PyData} {Q:SV->Prop} (h:atI xs i=some z) (q:Q (.d z)):pGet xs i Q:=by unfold pGet; rw [h]; exact q
theorem A8y {xs:List Int} {d:Int} (h0:0<=d) (h1:d < xs.length):∃ z,z ∈ xs/\atI (xs.map PyData.int) d=some (.int z):=by
  obtain ⟨n,rfl⟩:=Zi h0;have hn:n < xs.length:=by omega
  refine ⟨xs[n],List.getElem_mem hn,F5 ?_⟩;rw [Zh,Zg hn]; rfl
theorem J0 {α:Type} {f:α->PyData} {xs:List α} {n:Nat} {a:α} {Q:SV->Prop} (h:xs[n]?=some a) (q:Q (.d (f a))):pGet (xs.map f) (n:Int) Q :=
  B6 (F5 (by rw [Zh,h]; rfl)) q
theorem M8 {α:Type} {f:α->PyData} {xs:List α} {a:α} {Q:SV->Prop} (h:xs[xs.length - 1]?=some a) (h1:1<=xs.length) (q:Q (.d (f a))):pGet (xs.map f) (-1) Q:=by
  refine B6 (z:=f a) ?_ q;unfold L2.atI ixN;rw [if_neg (by decide),if_pos (by rw [Zl]; omega)];show (xs.map f)[((-1:Int) + ((xs.map f).length:Int)).toNat]?=_;rw [show ((-1:Int) + ((xs.map f).length:Int)).toNat=xs.length - 1 by rw [Zl]; omega,Zh,h]; rfl
theorem pIxT {xs:List PyData} {i:Int} {Q:SV->Prop}:pIx (.tuple xs) (.int i) Q=pGet xs i Q:=rfl
end Pu
namespace L2
open PySem PySem.Spec PyProof.Rows
structure QE (X:Cx) (e:Expr) (t:TE):Prop where
  out:PE X e  t
structure QT (X:Cx) (e:Expr) (t:TT):Prop where
  out:PT X e  t
structure QW (X:Cx) (e:Expr) (t:TT):Prop where
  out:PW X e  t
structure QA (X:Cx) (e:List Expr) (t:TA):Prop where
  out:PA X e  t
structure QSs (X:Cx) (e:List Stmt) (t:TS):Prop where
  out:PSs X e  t
structure QS (X:Cx) (e:Stmt) (t:TS):Prop where
  out:PS X e  t
structure QGs (X:Cx) (e:List Expr) (t:TGs):Prop where
  out:PGs X e  t
structure QG (X:Cx) (e:Expr) (t:TG):Prop where
  out:PG X e  t
structure QI (X:Cx) (e e2:Expr) (t:TI):Prop where
  out:PI X e e2  t
structure QTs (X:Cx) (e:List Expr) (t:TT):Prop where
  out:PTs X e  t
structure QO (X:Cx) (e:Option Expr) (t:TO):Prop where
  out:PO X e  t
section
variable {X:Cx}
theorem qpv (i: Nat) {x:Str} {pos:Pos} (hN: X.N[i]?=some x:=by rfl) (hv: Vis X.env.scope x:=by first | exact Or.inl rfl | exact Or.inr (Or.inl rfl) | exact Or.inr (Or.inr rfl)) (hd: (x == ("__debug__":Str))=false:=by decide) (hcd: (x == ("__classdict__":Str))=false:=by decide):QE X (.Name x pos) (tVar i):=⟨pv i hN hv hd hcd⟩
theorem A2 {i j pos}:QE X (.Constant (.int i) j pos) (tC (.int i)):=⟨E7 ⟩
theorem J6 {b j pos}:QE X (.Constant (.bool b) j pos) (tC (.bl b)):=⟨C15 ⟩
theorem F6 {j pos}:QE X (.Constant .none j pos) (tC .non):=⟨B7p ⟩
theorem C1 {x j pos}:QE X (.Constant (.str x) j pos) (tC (.str x)):=⟨B7m ⟩
theorem A70 {x:Str} {v:V} {u:Value} {pos:Pos} (hg: Gl X x) (hm: X.mg x=some u) (r: RelV v u) (hd: (x == ("__debug__":Str))=false:=by decide):QE X (.Name x pos) (tC v):=⟨B2c hg hm r hd⟩
theorem A73 {x:Str} {v:V} {u:Value} {pos:Pos} (hg: Gl X x) (hm: X.mg x=none) (hv: bootBuiltins x=some u) (r: RelV v u) (hn: x≠"__name__":=by decide) (hd: (x == ("__debug__":Str))=false:=by decide):QE X (.Name x pos) (tC v):=⟨B2f hg hm hv r hn hd⟩
theorem A8 {op:Operator} {r:R2} (ho: OpR X (binaryOp op) r) (ha: QE X a ta) (hb: QE X b tb):QE X (.BinOp a op b pos) (tOp r ta tb):=⟨J9 ho ha.out hb.out⟩
theorem A2d {op:UnaryOp} {r:V->Hp->VK->Prop} (ho: UnR X (unaryOp op) r) (ha: QE X a ta):QE X (.UnaryOp op a pos) (tUn r ta):=⟨C13 ho ha.out⟩
theorem A4w (ha: QE X a ta):QE X (.UnaryOp .Not a pos) (B1b ta):=⟨B7o ha.out⟩
theorem E6 {op:CmpOp} {r:R2} (ho: OpR X (compareOp op) r) (ha: QE X a ta) (hb: QE X b tb) (hm: behindInMarks op b=false):QE X (.Compare a [op] [b] pos) (tOp r ta tb):=⟨W7 ho ha.out hb.out hm⟩
theorem B2 {op:CmpOp} {r:R2} (ho: OpR X (compareOp op) r) (ha: QE X a ta) (hb: QE X b tb) (hm: behindInMarks op b=false):QT X (.Compare a [op] [b] pos) (B09 (tOp r ta tb)):=⟨A4x ho ha.out hb.out hm⟩
theorem B1u {rest:List Expr} (ha: QE X a ta) (hb: QE X (.BoolOp .And (b :: rest) pos) tb):QE X (.BoolOp .And (a :: b :: rest) pos) (B1e ta tb):=⟨B7r ha.out hb.out⟩
theorem B1t {op} {t:TE} (h: QE X a t):QE X (.BoolOp op [a] pos) t:=⟨B7n h.out⟩
theorem N9 {rest:List Expr} (ha: QT X a tA) (hb: QW X (.BoolOp .And (b :: rest) pos) tB'):QW X (.BoolOp .And (a :: b :: rest) pos) (tAnd tA tB'):=⟨B7d ha.out hb.out⟩
theorem A4v {rest:List Expr} (ha: QT X a tA) (hb: QW X (.BoolOp .Or (b :: rest) pos) tB'):QW X (.BoolOp .Or (a :: b :: rest) pos) (tOr tA tB'):=⟨C11 ha.out hb.out⟩
theorem L0 (ha: QT X a tA):QW X (.BoolOp .And [a] pos) tA:=⟨B1y ha.out⟩
theorem A1g (ha: QT X a tA):QW X (.BoolOp .Or [a] pos) tA:=⟨B7c ha.out⟩
theorem M7 (ha: QT X a tA):QT X (.UnaryOp .Not a pos) (tNot tA):=⟨B7e ha.out⟩
theorem G3 {e:Expr} {t:TE} (h: QE X e t) (he: ∀ whole,isTrue e X.env whole=(do let v <- whole; standAt e.pos; holding [v] (truthy v)):=by intro _; rfl):QT X e (tB t):=⟨A99 h.out he⟩
theorem D4 (hc: X.calm=true) (C: CompSc X scope cl N' cap) (hi: QI X tg iter wi) (hg: ∀ s3 H3 fp,QG (X.block scope cl N' s3 H3 fp) tg g) (ht: ∀ s3 H3 fp,QTs (X.block scope cl N' s3 H3 fp) ifs tt) (he: ∀ s3 H3 fp,QE (X.block scope cl N' s3 H3 fp) elt te) (hs: ∀ x,foldedSetIterable iter X.env x=pure x:=by intro _; rfl):QE X (.ListComp elt [⟨tg,iter,ifs,0⟩] scope pos) (B1d wi g tt te cap):=⟨B2d hc C hi.out (fun a b c=>(hg a b c).out) (fun a b c=>(ht a b c).out) (fun a b c=>(he a b c).out) hs⟩
theorem E5 (hc: X.calm=true) (hN: X.N.Nodup) (hi: X.N[i]?=some y) (hy: X.env.scope.names.lookup y=some .local) (C: CompSc X scope cl N' cap) (hit: QI X tg iter wi) (hg: ∀ s3 H3 fp,QG (X.block scope cl N' s3 H3 fp) tg g) (ht: ∀ s3 H3 fp,QTs (X.block scope cl N' s3 H3 fp) ifs tt) (he: ∀ s3 H3 fp,QE (X.block scope cl N' s3 H3 fp) elt te) (hsw: swapsWith (.ListComp elt [⟨tg,iter,ifs,0⟩] scope pos) (some (.Name y py)) spos.line X.env=pure true) (hs: ∀ x,foldedSetIterable iter X.env x=pure x:=by intro _; rfl):QS X (.Assign [.Name y py] (.ListComp elt [⟨tg,iter,ifs,0⟩] scope pos) spos) (V7 wi g tt te cap i):=⟨A3g hc hN hi hy C hit.out (fun a b c=>(hg a b c).out) (fun a b c=>(ht a b c).out) (fun a b c=>(he a b c).out) hsw hs⟩
theorem A9 {x1} (h: QA X es t):QE X (.Tuple es x1 pos) (tTup t):=⟨B7l h.out⟩
theorem B4 (h: QA X es t):QE X (.List es pos) (tLst t):=⟨B0b h.out⟩
theorem J4 {lo hi:Option Expr} {r:V->Option Int->Option Int->Hp->VK->Prop} (hr: SlR X r) (he: QE X e te) (hl: QO X lo tl) (hu: QO X hi th):QE X (.Subscript e (.Slice lo hi none p2) pos) (tSl r te tl th):=⟨A8a hr he.out hl.out hu.out⟩
theorem L4 :QO X none A1a:=⟨B17 ⟩
theorem L3 (h: QE X e te):QO X (some e) (B1a te):=⟨B16 h.out⟩
theorem B64 {r:R2} (hr: IxR X r) (ha: QE X a ta) (hb: QE X b tb) (hs: A1y b):QE X (.Subscript a b pos) (tOp r ta tb):=⟨W6 hr ha.out hb.out hs⟩
theorem A71 (F: FnOk X.prog X.w X.K X.mg X.base CX k f fd ps sp) (hr: Room k X.A) (hg: Gl X x) (hm: X.mg x=some (.ref f)) (hk: PySem.W.keepIn X.K (.ref f)=true) (hb: Binds X.K fd ps ds) (hd: Vals dvs ds) (hx: A29 CX X E) (ha: QA X (e :: es) t) (hdb: (x == ("__debug__":Str))=false:=by decide) (he: starEach (e :: es) X.env=(false,eval e X.env) :: starEach es X.env:=by rfl) (hpl: (backTo pos (starEach es X.env)).any (·.1)=false:=by rfl):QE X (.Call (.Name x p) (e :: es) [] pos) (A7s sp dvs E t):=⟨B2e F hr hg hm hk hb hd hx ha.out hdb he hpl⟩
theorem J5 {id:String} (hc: CallR X (.builtin id) r) (hg: Gl X x) (hm: X.mg x=none) (hv: bootBuiltins x=some (.builtin id)) (ha: QA X (e :: es) t) (hn: x≠"__name__":=by decide) (hdb: (x == ("__debug__":Str))=false:=by decide) (he: starEach (e :: es) X.env=(false,eval e X.env) :: starEach es X.env:=by rfl) (hpl: (backTo pos (starEach es X.env)).any (·.1)=false:=by rfl):QE X (.Call (.Name x p) (e :: es) [] pos) (tCB r t):=⟨A2k hc hg hm hv ha.out hn hdb he hpl⟩
theorem F3 (hc: CallR X (.type T) r) (hg: Gl X x) (hm: X.mg x=none) (hv: bootBuiltins x=some (.type T)) (ha: QA X (e :: es) t) (hn: x≠"__name__":=by decide) (hdb: (x == ("__debug__":Str))=false:=by decide) (he: starEach (e :: es) X.env=(false,eval e X.env) :: starEach es X.env:=by rfl) (hpl: (backTo pos (starEach es X.env)).any (·.1)=false:=by rfl):QE X (.Call (.Name x p) (e :: es) [] pos) (tCB r t):=⟨A0b hc hg hm hv ha.out hn hdb he hpl⟩
theorem E9 {K : PySem.W.Frag} (hK : X.K = K) {id : String} (pa: PlainAttrs T) (slot: Slot T name id) (hty: typeOf (.builtin id) = pure (.type "method_descriptor")) (hm: MtR X id r) (ho: QE X o to) (ha: QA X (e :: es) t) (hbase: attributeBase o name X.env (eval o X.env) = eval o X.env := by rfl) (hfew: ((backTo cpos (starEach (e :: es) X.env)).all (fun x => !x.1) && (backToKw cpos (keywordEach [] X.env)).all (fun x => x.1.isSome)
      && decide ((e :: es).length + ([]:List Keyword).length + (if ([]:List Keyword).isEmpty then 0 else 1) < 30))=true:=by rfl) (hline: (apos.endLine == cpos.line)=true:=by rfl) (hs: starEach (e :: es) X.env=(false,eval e X.env) :: starEach es X.env:=by rfl) (hplain: (backTo cpos (starEach es X.env)).any (·.1)=false:=by rfl):QE X (.Call (.Attribute o name apos) (e :: es) [] cpos) (tBM K T r to t):=by subst hK; exact ⟨C14 pa slot hty hm ho.out ha.out hbase hfew hline hs hplain⟩
theorem A72 {K:PySem.W.Frag} (hK:X.K=K) {id:String} (pa: PlainAttrs T) (slot: Slot T name id) (hty: typeOf (.builtin id)=pure (.type "method_descriptor")) (hm: MtR X id r) (ho: QE X o to) (hbase: attributeBase o name X.env (eval o X.env)=eval o X.env:=by rfl) (hline: (apos.endLine == cpos.line)=true:=by rfl):QE X (.Call (.Attribute o name apos) [] [] cpos) (tBM0 K T r to):=by subst hK; exact ⟨B7q pa slot hty hm ho.out hbase hline⟩
theorem A1 :QA X [] tNil:=⟨A0c ⟩
theorem A0 (ha: QE X e te) (hr: QA X es t) (hs: starEach (e :: es) X.env=(false,eval e X.env) :: starEach es X.env:=by rfl):QA X (e :: es) (K6 te t):=⟨O0 ha.out hr.out hs⟩
theorem B7 :QSs X [] B1c:=⟨A1i ⟩
theorem A4 {st:Stmt} (h1: QS X st t):QSs X [st] t:=⟨P6 h1.out⟩
theorem A3 {st:Stmt} {rest:List Stmt} (h1: QS X st t) (h2: QSs X rest u):QSs X (st :: rest) (tSeq t u):=⟨G6 h1.out h2.out⟩
theorem A7 (he: QE X e te):QS X (.Return (some e) pos) (tRet te):=⟨A2g he.out⟩
theorem D3 (he: QE X e te) (hs: swapsWith e none pos.line X.env=pure false:=by rfl):QS X (.Expr e pos) (A3d te):=⟨B13 he.out hs⟩
theorem D2 {c:Expr} {a b:List Stmt} {tc:TT} (hc: QT X c tc) (ha: QSs X a t) (hb: QSs X b u):QS X (.If c a b pos) (tIfS tc t u):=⟨B12 hc.out ha.out hb.out⟩
theorem O3 {c:Expr} {body:List Stmt} {tc:TT} {tb:TS} (hp: PassesOwn (model X.prog X.w) X.A X.env X.xe) (hc: QT X c tc) (hb: QSs X body tb):QS X (.While c body [] pos) (A4h tc tb):=⟨A75 hp hc.out hb.out⟩
theorem C9 {iter:Expr} {body:List Stmt} {wi:TI} {g:TG} {tb:TS} {pos:Pos} (hp: PassesOwn (model X.prog X.w) X.A X.env X.xe) (hc: X.calm=true) (hi: QI X tg iter wi) (hg: QG X tg g) (hb: QSs X body tb) (hs: ∀ x,foldedSetIterable iter X.env x=pure x:=by intro _; rfl):QS X (.For tg iter body [] pos) (tFor wi g tb):=⟨B0a hp hc hi.out hg.out hb.out hs⟩
theorem K3 {i:Nat} {x:Str} {e:Expr} {te:TE} {pos':Pos} (hN: X.N.Nodup) (hi: X.N[i]?=some x) (hx: Loc X.env.scope x) (he: QE X e te) (hs: swapsWith e (some (.Name x pos')) pos.line X.env=pure false:=by rfl) (hf: X.fn x=true\/X.env.scope.names.lookup x=some .local:=by first | exact .inl rfl | exact .inr rfl | assumption):QS X (.Assign [.Name x pos'] e pos) (tAsg te (O8 i)):=⟨U8 hN hi hx he.out hs hf⟩
theorem S4 {i j:Nat} {x y:Str} {a b:Expr} {ta:TA} {px py pt:Pos} {kt k2 pt2} (hc: X.calm=true) (hN: X.N.Nodup) (hi: X.N[i]?=some x) (hj: X.N[j]?=some y) (hij: i≠j) (hx: X.env.scope.names.lookup x=some .local) (hy: X.env.scope.names.lookup y=some .local) (ha: QA X [a,b] ta) (hw: swappedStores [.Tuple [.Name x px,.Name y py] kt pt] (.Tuple [a,b] k2 pt2) X.env=pure (some [x,y])) (hs: swapsWithSole [.Tuple [.Name x px,.Name y py] kt pt] (.Tuple [a,b] k2 pt2) pos.line X.env=pure false:=by rfl):QS X (.Assign [.Tuple [.Name x px,.Name y py] kt pt] (.Tuple [a,b] k2 pt2) pos) (tPar i j ta):=⟨B7f hc hN hi hj hij hx hy ha.out hw hs⟩
theorem L1 {tg e:Expr} {te:TE} {g:TG} (he: QE X e te) (hg: QG X tg g) (hs: swapsWithSole [tg] e pos.line X.env=pure false:=by rfl) (hw: swappedStores [tg] e X.env=pure none:=by rfl) (h1: (assignEach [tg] X.env).map (·.2)=[assign tg X.env]:=by rfl):QS X (.Assign [tg] e pos) (tAsg te g):=⟨A2i he.out hg.out hs hw h1⟩
theorem A2b {i:Nat} {x:Str} (hN: X.N.Nodup) (hi: X.N[i]?=some x) (hx: Loc X.env.scope x) (hf: X.fn x=true\/X.env.scope.names.lookup x=some .local:=by first | exact .inl rfl | exact .inr rfl | assumption):QG X (.Name x pos) (O8 i):=⟨A5a hN hi hx hf⟩
theorem C2 :QGs X [] gNil:=⟨B2a ⟩
theorem A5 {e:Expr} {es:List Expr} {t:TG} {u:TGs} (h1: QG X e t) (h2: QGs X es u) (hs: (assignEach (e :: es) X.env).map (·.2)=assign e X.env :: (assignEach es X.env).map (·.2):=by rfl):QGs X (e :: es) (A1o t u):=⟨A79 h1.out h2.out hs⟩
theorem C5 {K:PySem.W.Frag} {pos:Pos} {es:List Expr} {k:Nat} {t:TGs} {n:Nat} (h: X.K=K) (hc: X.calm=true) (hg: QGs X es t) (hn: (assignEach es X.env).length=n:=by rfl) (hst: (assignEach es X.env).findIdx? (·.1)=none:=by rfl):QG X (.Tuple es k pos) (gTup K n t):=⟨B2b h hc hg.out hn hst⟩
theorem D8 {a:Expr} {ta:TA} {p pos:Pos} (hg: Gl X "range") (hm: X.mg "range"=none) (ha: QA X [a] ta) (hs: starEach [a] X.env=[(false,eval a X.env)]:=by rfl):QI X tg (.Call (.Name "range" p) [a] [] pos) (B5r ta):=⟨A0a hg hm ha.out hs⟩
theorem C0 {K:PySem.W.Frag} {l:Expr} {tl:TE} (h: X.K=K) (hl: QE X l tl):QI X tg l (iSq K tl):=⟨B7i h hl.out⟩
theorem C3 {X:Cx}:QTs X [] tYes:=⟨B10 ⟩
theorem R9 {X:Cx} {c:Expr} {t:TT} (h: QT X c t):QTs X [c] t:=⟨B1z h.out⟩
theorem QW.pt {X:Cx} {e:Expr} {t:TT} (h:QW X e t):QT X e t:=⟨h.out.pt⟩
end
end L2
namespace Pu
open PySem L2 My Prf
theorem B0r (n:Int):PyData.tuple [.int n,.int 1]=dq (n:Rat):=by
  unfold dq; rw [Rat.num_intCast,Rat.den_intCast]; rfl
theorem V9 {k:Nat} {n:Int} (h:Sm k n):SmR k 1 (n:Rat):=⟨by rw [Rat.num_intCast]; exact h,by rw [Rat.den_intCast]; unfold Sm; decide⟩
theorem B1h {k:Nat} {q:Rat} (h:SmR k 1 q):q.den=1:=by
  have h1:(q.den:Int).natAbs < 2 ^ 1:=h.2;have h2:=q.den_nz;omega
theorem C08 {n:Int} (h:0<=n):(0:Rat)<=(n:Rat):=Rat.intCast_nonneg.mpr h
theorem C07 {n:Int} (h:0 < n):(0:Rat) < (n:Rat):=Rat.intCast_pos.mpr h
theorem A4k {z:Int} (h0:0<=z) (h1:z<=1000000000000000000):Sm 4000 z:=Sm.mono (k:=64) (K7 (B:=1000000000000000000) (by omega) (by omega) (by decide)) (by decide)
theorem A8f {c:Rat × Rat} {Q:SV->Prop}:pIx (dcn c) (.int 0) Q=Q (.d (dq c.1)):=by unfold dcn; rw [pIxT,B8t]
theorem A8e {c:Rat × Rat} {Q:SV->Prop}:pIx (dcn c) (.int 1) Q=Q (.d (dq c.2)):=by unfold dcn; rw [pIxT,B8s]
theorem X3 {lo:Int} {n:Nat} {pg:PyData->PEnv->(PEnv->Prop)->Prop} {pt:PTt} {pd:PDt} {e0:PEnv} {Fin:List PyData->Prop} (Pv:Nat->PEnv->List PyData->Prop) (h0:Pv 0 e0 [])
    (hs:∀ (i:Nat) e ys,i < n->Pv i e ys->pg (.int (lo + (i:Int))) e fun e2=>pt e2 fun b e3=>if b=true then pd e3 fun y e4=>Pv (i + 1) e4 (ys++[y]) else Pv (i + 1) e3 ys) (hd:∀ e ys,Pv n e ys->Fin ys):L5 (rngD lo n) pg pt pd e0 Fin :=
  ⟨Pv,h0,fun i x e ys hx hi=>by obtain ⟨h1,rfl⟩:=A19 hx; exact hs i e ys h1 hi,fun e ys h=>hd e ys (by rwa [K0] at h)⟩
theorem D6 {α:Type} {f:α->PyData} {xs:List α} {pg:PyData->PEnv->(PEnv->Prop)->Prop} {pt:PTt} {pd:PDt} {e0:PEnv} {Fin:List PyData->Prop} (Pv:Nat->PEnv->List PyData->Prop) (h0:Pv 0 e0 [])
    (hs:∀ (i:Nat) a e ys,xs[i]?=some a->Pv i e ys->pg (f a) e fun e2=>pt e2 fun b e3=>if b=true then pd e3 fun y e4=>Pv (i + 1) e4 (ys++[y]) else Pv (i + 1) e3 ys) (hd:∀ e ys,Pv xs.length e ys->Fin ys):L5 (xs.map f) pg pt pd e0 Fin:=by
  refine ⟨Pv,h0,fun i x e ys hx hi=>?_,fun e ys h=>hd e ys (by rwa [List.length_map] at h)⟩;rw [Zh] at hx;cases ha:xs[i]? with
  | none=>rw [ha] at hx; cases hx
  | some a=>rw [ha] at hx; cases hx; exact hs i a e ys ha hi
theorem G4 {α:Type} {f:α->PyData} {xs:List α} {pg:PyData->PEnv->(PEnv->Prop)->Prop} {pb:PSt} {D:PEnds} {env:PEnv} (Iv:Nat->PEnv->Prop) (h0:Iv 0 env)
    (hs:∀ (i:Nat) a e,xs[i]?=some a->Iv i e->pg (f a) e fun e2=>pb ⟨Iv (i + 1),D.rt,D.nx,Iv (i + 1)⟩ e2) (hd:∀ e,Iv xs.length e->D.nx e):A0d (xs.map f) pg pb D env:=by
  refine ⟨Iv,h0,fun i x e hx hi=>?_,fun e h=>hd e (by rwa [List.length_map] at h)⟩;rw [Zh] at hx;cases ha:xs[i]? with
  | none=>rw [ha] at hx; cases hx
  | some a=>rw [ha] at hx; cases hx; exact hs i a e ha hi
theorem A0n (cs:List (Rat × Rat)):(PyData.list (cs.map dcn)).canLay0=true:=A6t cs
theorem C1q (cs:List (Rat × Rat)):(PyData.list (cs.map dcn)).depth<=60:=by
  show PyData.depthAll (cs.map dcn) + 1<=60;have:=A0t cs;omega
theorem C1k (cs:List (Rat × Rat)):PyData.eqv (.list (cs.map dcn)) (.list (cs.map dcn))=true:=PySem.SeqAt.eqv_refl _ (A0n cs)
theorem B07:PyData.tuple [.int 2,.int 3]=dq (Rat.divInt 2 3):=by
  unfold dq;rw [show (Rat.divInt 2 3).num=2 by decide +kernel,show (Rat.divInt 2 3).den=3 by decide +kernel]; rfl
theorem B5t:PyData.tuple [.int 1,.int 2]=dq (Rat.divInt 1 2):=by
  unfold dq;rw [show (Rat.divInt 1 2).num=1 by decide +kernel,show (Rat.divInt 1 2).den=2 by decide +kernel]; rfl
end Pu
namespace Pu
open PySem L2 My Prf
theorem sm_zero:SmR 1 1 (0:Rat):=⟨by unfold Sm; decide,by unfold Sm; decide⟩
theorem A93 {q:Rat} {k:List PyData->Prop}:R4 (dq q) k=k [.int q.num,.int (q.den:Int)]:=rfl
theorem B2z {q:Rat} {Q:SV->Prop}:pLen [dq q] Q=Q (.d (.int 2)):=rfl
theorem A5d {xs:List PyData} {Q:SV->Prop}:pLen [.list xs] Q=Q (.d (.int xs.length)):=rfl
theorem A8d {xs:List PyData} {Q:SV->Prop}:pLen [.tuple xs] Q=Q (.d (.int xs.length)):=rfl
theorem B51:PyData.eqv (.list []) (.list [])=true:=rfl
theorem B4q:(PyData.list []).canLay0=true:=rfl
theorem B56:(PyData.list []).depth=1:=rfl
theorem B05 {i:Int}:tyD (.int i)="int":=rfl
theorem A7q {b:Bool}:tyD (.bool b)="bool":=rfl
theorem B04 {s:Str}:tyD (.str s)="str":=rfl
theorem A7n:tyD .none="NoneType":=rfl
theorem A7o {xs:List PyData}:tyD (.list xs)="list":=rfl
theorem B03 {xs:List PyData}:tyD (.tuple xs)="tuple":=rfl
theorem B06 {c:Rat × Rat}:tyD (dcn c)="tuple":=rfl
theorem A35 {xs:List PyData} {k:List PyData->Prop}:R4 (.list xs) k=k xs:=rfl
theorem A7f {xs:List PyData} {k:List PyData->Prop}:R4 (.tuple xs) k=k xs:=rfl
theorem A7g {c:Rat × Rat} {k:List PyData->Prop}:R4 (dcn c) k=k [dq c.1,dq c.2]:=rfl
theorem A6a:isNo .none=true:=rfl
theorem A9f {i:Int}:isNo (.int i)=false:=rfl
theorem A6c {b:Bool}:isNo (.bool b)=false:=rfl
theorem A9e {s:Str}:isNo (.str s)=false:=rfl
theorem A6b {xs:List PyData}:isNo (.list xs)=false:=rfl
theorem A9d {xs:List PyData}:isNo (.tuple xs)=false:=rfl
end Pu
namespace L2
open PySem PySem.Spec PyProof.Rows
section
variable {X:Cx} {pins:List (Addr × Obj)} {σ:St} {H:Hp} {s:Shared} {h':Heap}
theorem Inv.turnL {t':Nat} {wr:List Addr} (I:Inv X pins σ H s) (k:∀ b o,b ∉ wr->s.heap.get? b=some o->h'.get? b=some o) (hf:∀ b ∈ wr,FpOk X pins H b):Inv X pins σ H { s with heap:=h',toks:=t' }:=by
  have nw:∀ b u,H b=some u->b ∉ wr:=fun b u e z=>by have:=(hf b z).1; rw [e] at this; cases this
  refine I.call (g':=s.gens) (d':=s.drawn) (ch:=wr) ⟨fun b o e _ _ hb=>k b o hb e,fun b o e _ _ hb=>⟨o.slots,k b o hb e⟩,fun _ _ _ n _=>n,fun b o e hb=>⟨o,k b o hb e⟩,fun _ _ e=>e,fun _ _ _ e=>e,fun b ps e=>⟨#[],by rw [e]; simp⟩⟩ (fun b u e=>?_) I.bare fun b hb=>?_
  · refine (I.hok b u e).stay (fun c v hc q=>k c v ?_ q) (fun _ q=>q) fun _ _ q=>q
    rcases hc with z | z
    · rw [z]; exact nw b u e
    · exact nw c _ z
  · have f:=hf b hb
    exact ⟨f.2.2.2.1,f.2.1,f.2.2.2.2.1,f.2.2.2.2.2⟩
theorem Inv.laidL {t':Nat} {wr:List Addr} {T:Addr} {o:HO} (I:Inv X pins σ H s) (k:∀ b u,b ∉ wr->s.heap.get? b=some u->h'.get? b=some u) (hf:∀ b ∈ wr,FpOk X pins H b) (hp:s.heap.objs.size<=T) (new:ObjOk X.prog X.w (upd H T o) h' T o) :
    Inv X pins σ (upd H T o) { s with heap:=h',toks:=t' }:=by
  have hn:=I.hok.fresh hp;have nw:∀ b u,H b=some u->b ∉ wr:=fun b u e z=>by have:=(hf b z).1; rw [e] at this; cases this
  refine I.call (g':=s.gens) (d':=s.drawn) (ch:=wr) ⟨fun b u e _ _ hb=>k b u hb e,fun b u e _ _ hb=>⟨u.slots,k b u hb e⟩,fun b u e n _=>by rw [C7 (Nat.ne_of_lt (Nat.lt_of_lt_of_le (Heap.lt_size e) hp))]; exact n,fun b u e hb=>⟨u,k b u hb e⟩,
    fun b xs e=>by rw [C7 (D9 e hn)]; exact e,fun b u xs e=>by rw [C7 (D9 e hn)]; exact e,fun b ps e=>⟨#[],by rw [C7 (D9 e hn),e]; simp⟩⟩ (fun b u e=>?_) I.bare fun b hb=>?_
  · by_cases hb:b=T
    · subst hb; rw [C6] at e; cases e; exact new
    · rw [C7 hb] at e
      refine (I.hok b u e).stay (fun c v hc q=>k c v ?_ q) (fun c q=>by rw [C7 (D9 q hn)]; exact q) fun c xs q=>by rw [C7 (D9 q hn)]; exact q
      rcases hc with z | z
      · rw [z]; exact nw b u e
      · exact nw c _ z
  · have f:=hf b hb
    exact ⟨f.2.2.2.1,f.2.1,f.2.2.2.2.1,f.2.2.2.2.2⟩
end
def Itz (K:PySem.W.Frag) (l1 l2:Addr):It :=
  ⟨fun i H=>∃ xs ys x y,SqL K H l1 xs/\SqL K H l2 ys/\xs[i]?=some x/\ys[i]?=some y,
   fun i H v H'=>∃ T x y,v=.ref T/\H T=none/\H'=upd H T (.tup [x,y])/\(∀ xs,SqL K H l1 xs->xs[i]?=some x)/\∀ ys,SqL K H l2 ys->ys[i]?=some y,
   fun i H=>∃ xs ys,SqL K H l1 xs/\SqL K H l2 ys/\(xs.length<=i\/ys.length<=i)⟩
def Ite (K:PySem.W.Frag) (l:Addr):It :=
  ⟨fun i H=>∃ xs x,SqL K H l xs/\xs[i]?=some x,
   fun i H v H'=>∃ T x,v=.ref T/\H T=none/\H'=upd H T (.tup [.int i,x])/\∀ xs,SqL K H l xs->xs[i]?=some x,
   fun i H=>∃ xs,SqL K H l xs/\xs.length<=i⟩
theorem R6:∀ {xs:List V} {us:List Value} {i:Nat} {x:V},Vals xs us->xs[i]?=some x->∃ u,us[i]?=some u/\RelV x u
  | _,_,_,_,.nil,e=>by simp at e
  | _,_,0,_,.cons h _,e=>by simp at e; subst e; exact ⟨_,rfl,h⟩
  | _,_,i + 1,x,.cons _ t,e=>by
    obtain ⟨u,h1,h2⟩:=R6 (i:=i) (x:=x) t (by simpa using e);exact ⟨u,by simpa using h1,h2⟩
theorem A7r {P:Program} {w:World} {K:PySem.W.Frag} {es:List Expr} {kk:Nat} {tp:Pos} {z TI TO i1 i2 l1 l2:Addr} (D:ZipApart z TI TO i1 i2 l1 l2) :
    Turn P w K (.Tuple es kk tp) (Itz K l1 l2) [z,TI,TO,i1,i2] z (fun i h=>IsZip h z TI TO .none/\IsPair h TI (.ref i1) (.ref i2)/\(∃ a b,IsPair h TO a b)/\h.IsListIter i1 l1 i/\h.IsListIter i2 l2 i) where
  mem:=Zy
  obj:=fun i h st b hb=>by
    obtain ⟨hz,hTI,⟨a,c,hTO⟩,⟨o1,g1,k1,d1⟩,⟨o2,g2,k2,d2⟩⟩:=st;simp only [List.mem_cons,List.mem_nil_iff,or_false] at hb;rcases hb with rfl | rfl | rfl | rfl | rfl
    · exact ⟨_,hz,fun v q=>Data.noConfusion (show Data.fields _=Data.cell v from q)⟩
    · exact ⟨_,hTI,fun v q=>Data.noConfusion (show Data.seq _ _=Data.cell v from q)⟩
    · exact ⟨_,hTO,fun v q=>Data.noConfusion (show Data.seq _ _=Data.cell v from q)⟩
    · exact ⟨_,g1,fun v q=>by rw [d1] at q; cases q⟩
    · exact ⟨_,g2,fun v q=>by rw [d2] at q; cases q⟩
  keep:=fun i h h' st k=>by
    obtain ⟨hz,hTI,⟨a,c,hTO⟩,h1,h2⟩:=st;exact ⟨k z (by simp) _ hz,k TI (by simp) _ hTI,⟨a,c,k TO (by simp) _ hTO⟩,h1.at fun o e=>k i1 (by simp) o e,h2.at fun o e=>k i2 (by simp) o e⟩
  item:=by
    intro X hP hw hK hc i pins s σ H E I hf st hg;subst hP hw hK;obtain ⟨hz,hTI,⟨a,c,hTO⟩,h1,h2⟩:=st;obtain ⟨xs,ys,x,y,q1,q2,ex,ey⟩:=hg;obtain ⟨its1,r1,p1,_⟩:=I.list q1;obtain ⟨its2,r2,p2,_⟩:=I.list q2;obtain ⟨u1,e1,ru1⟩:=R6 r1 ex;obtain ⟨u2,e2,ru2⟩:=R6 r2 ey;refine wpAny_pyNext_zip_item D hz hTI hTO h1 h2 p1.isList p2.isList (by simpa using e1) (by simpa using e2) fun h' a1 a2 a3 a4 a5 a6 hk=>⟨_,rfl,?_⟩;refine wpAny_letOwnedTupleGo_zip a1 fun h'' b1 sb=>?_;have lt:∀ {b o},s.heap.get? b=some o->s.heap.objs.size≠b:=fun e=>Nat.ne_of_gt (Heap.lt_size e);have k2:∀ b o,b ∉ [z,TO,i1,i2]->s.heap.get? b=some o->h''.get? b=some o:=fun b o hb e=>by
      simp only [List.mem_cons,List.mem_nil_iff,or_false,not_or] at hb;exact (sb.2 b hb.1).trans (hk b o hb.1 hb.2.1 hb.2.2.1 hb.2.2.2 e)
    have I2:Inv X pins σ (upd H s.heap.objs.size (.tup [x,y])) { s with heap:=h'',toks:=s.toks }:=by
      refine I.laidL (wr:=[z,TO,i1,i2]) k2 (fun b hb=>hf b ?_) (Zv _) ⟨by show 2<=sizeLine; decide,[u1,u2],.cons ru1 (.cons ru2 .nil),?_⟩
      · simp only [List.mem_cons,List.mem_nil_iff,or_false] at hb ⊢
        rcases hb with q | q | q | q <;> simp [q]
      · exact ⟨_,(sb.2 _ (lt hz)).trans a5,rfl,_,rfl⟩
    refine ⟨.ref s.heap.objs.size,_,I2,rfl,⟨_,x,y,rfl,I.fresh,rfl,fun zs hzs=>by rw [I.list_inj hzs q1]; exact ex,fun zs hzs=>by rw [I.list_inj hzs q2]; exact ey⟩,⟨b1,(sb.2 _ D.TIz).trans (hk _ _ D.TIz D.TITO D.TIi1 D.TIi2 hTI),⟨_,_,(sb.2 _ D.TOz).trans a2⟩,a3.at fun o e=>(sb.2 _ D.i1z).trans e,a4.at fun o e=>(sb.2 _ D.i2z).trans e⟩,fun b hb=>?_⟩;have:b≠s.heap.objs.size:=by
      simp only [List.mem_cons,List.mem_nil_iff,or_false] at hb;obtain ⟨_,g1,_⟩:=h1;obtain ⟨_,g2,_⟩:=h2;rcases hb with rfl | rfl | rfl | rfl | rfl
      · exact (lt hz).symm
      · exact (lt hTI).symm
      · exact (lt hTO).symm
      · exact (lt g1).symm
      · exact (lt g2).symm
    rw [C7 this]; exact (hf b hb).1
  done:=by
    intro X hP hw hK hc i pins s σ H E I hf st hg;subst hP hw hK;obtain ⟨hz,hTI,⟨a,c,hTO⟩,h1,h2⟩:=st;obtain ⟨xs,ys,q1,q2,hl⟩:=hg;obtain ⟨its1,r1,p1,_⟩:=I.list q1;obtain ⟨its2,r2,p2,_⟩:=I.list q2;have n1:=r1.length;have n2:=r2.length;refine wpAny_pyNext_zip_end (I.ok.hd hc) D hz hTI hTO h1 h2 p1.isList p2.isList (hl.imp (fun q=>by simp; omega) fun q=>by simp; omega) fun h' hk=>⟨rfl,?_⟩;refine I.turnL (t':=s.toks) (wr:=[z,TO,i1,i2]) (fun b o hb e=>?_) (fun b hb=>hf b ?_)
    · simp only [List.mem_cons,List.mem_nil_iff,or_false,not_or] at hb
      exact hk b o hb.1 hb.2.1 hb.2.2.1 hb.2.2.2 e
    · simp only [List.mem_cons,List.mem_nil_iff,or_false] at hb ⊢
      rcases hb with q | q | q | q <;> simp [q]
  self:=fun _ _ _ _ _ st h=>wpAny_pyIter_zip st.1 h
theorem A4g {P:Program} {w:World} {K:PySem.W.Frag} {es:List Expr} {kk:Nat} {tp:Pos} {e it l:Addr} (hei:e≠it) :
    Turn P w K (.Tuple es kk tp) (Ite K l) [e,it] e (fun i h=>(∃ old,IsEnum h e it i old)/\h.IsListIter it l i) where
  mem:=Zy
  obj:=fun i h st b hb=>by
    obtain ⟨⟨old,he⟩,⟨o1,g1,k1,d1⟩⟩:=st;simp only [List.mem_cons,List.mem_nil_iff,or_false] at hb;rcases hb with rfl | rfl
    · exact ⟨_,he,fun v q=>Data.noConfusion (show Data.fields _=Data.cell v from q)⟩
    · exact ⟨_,g1,fun v q=>by rw [d1] at q; cases q⟩
  keep:=fun i h h' st k=>by
    obtain ⟨⟨old,he⟩,h1⟩:=st;exact ⟨⟨old,k e (by simp) _ he⟩,h1.at fun o q=>k it (by simp) o q⟩
  item:=by
    intro X hP hw hK hc i pins s σ H E I hf st hg;subst hP hw hK;obtain ⟨⟨old,he⟩,h1⟩:=st;obtain ⟨xs,x,q1,ex⟩:=hg;obtain ⟨its1,r1,p1,_⟩:=I.list q1;obtain ⟨u1,e1,ru1⟩:=R6 r1 ex;refine wpAny_pyNext_enum_item he h1 p1.isList (x:=u1) (by simpa using e1) hei fun h' a1 a2 a3 a4 hk=>⟨_,rfl,?_⟩;refine wpAny_letOwnedTupleGo_enum a1 fun h'' b1 sb=>?_;have lt:∀ {b o},s.heap.get? b=some o->s.heap.objs.size≠b:=fun e=>Nat.ne_of_gt (Heap.lt_size e);obtain ⟨o1,g1,_⟩:=id h1;have I2:Inv X pins σ (upd H s.heap.objs.size (.tup [.int i,x])) { s with heap:=h'',toks:=s.toks + 1 }:=by
      refine I.laidL (wr:=[e,it]) (fun b o hb q=>?_) (fun b hb=>hf b hb) (Zv _) ⟨by show 2<=sizeLine; decide,[.int i s.toks,u1],.cons ⟨_,rfl⟩ (.cons ru1 .nil),?_⟩
      · simp only [List.mem_cons,List.mem_nil_iff,or_false,not_or] at hb
        exact (sb.2 b hb.1).trans (hk b o hb.1 hb.2 q)
      · exact ⟨_,(sb.2 _ (lt he)).trans a3,rfl,_,rfl⟩
    refine ⟨.ref s.heap.objs.size,_,I2,rfl,⟨_,x,rfl,I.fresh,rfl,fun zs hzs=>by rw [I.list_inj hzs q1]; exact ex⟩,⟨⟨_,by simpa using b1⟩,a2.at fun o q=>(sb.2 _ hei.symm).trans q⟩,fun b hb=>?_⟩;have:b≠s.heap.objs.size:=by
      simp only [List.mem_cons,List.mem_nil_iff,or_false] at hb;rcases hb with rfl | rfl
      · exact (lt he).symm
      · exact (lt g1).symm
    rw [C7 this]; exact (hf b hb).1
  done:=by
    intro X hP hw hK hc i pins s σ H E I hf st hg;subst hP hw hK;obtain ⟨⟨old,he⟩,h1⟩:=st;obtain ⟨xs,q1,hl⟩:=hg;obtain ⟨its1,r1,p1,_⟩:=I.list q1;have n1:=r1.length;refine wpAny_pyNext_enum_end (I.ok.hd hc) he h1 p1.isList (by simp; omega) fun h' hk=>⟨rfl,?_⟩;refine I.turnL (t':=s.toks) (wr:=[e,it]) (fun b o hb q=>?_) (fun b hb=>hf b hb);simp only [List.mem_cons,List.mem_nil_iff,or_false,not_or] at hb;exact hk b o hb.2 q
  self:=fun _ _ _ _ _ st h=>by obtain ⟨⟨old,he⟩,_⟩:=st; exact wpAny_pyIter_enum he h
section
variable {X:Cx}
def iZip (K:PySem.W.Frag) (ta:TA):TI:=fun σ H R=>ta σ H fun vs H1=>∃ l1 l2 xs ys,vs=[.ref l1,.ref l2]/\SqL K H1 l1 xs/\SqL K H1 l2 ys/\R (Itz K l1 l2) H1
def B5s (K:PySem.W.Frag) (ta:TA):TI:=fun σ H R=>ta σ H fun vs H1=>∃ l xs,vs=[.ref l]/\SqL K H1 l xs/\R (Ite K l) H1
theorem B19 {K:PySem.W.Frag} {a b:Expr} {ta:TA} {p pos:Pos} {es:List Expr} {kk:Nat} {tp:Pos} (hK:X.K=K) (hg:Gl X "zip") (hm:X.mg "zip"=none) (ha:PA X [a,b] ta)
    (hs:starEach [a,b] X.env=[(false,eval a X.env),(false,eval b X.env)]:=by rfl) (hs2:starEach [b] X.env=[(false,eval b X.env)]:=by rfl):PI X (.Tuple es kk tp) (.Call (.Name "zip" p) [a,b] [] pos) (iZip K ta):=by
  subst hK;intro pins s σ H R I h;refine Call_ (Q6 I hg hm boot_zip (PyProof.Rows.callWith_type1 (thn (ha pos pins s σ H _ I h) fun us s1 ⟨vs,H1,I1,r1,q1⟩=>?_) (hs.trans (by rw [hs2])) (by rw [hs2]; rfl)));obtain ⟨l1,l2,xs,ys,e,g1,g2,q⟩:=q1;subst e;obtain ⟨u,v,rfl,ru,rv⟩:=Vals.two r1;cases (show u=Value.ref l1 from ru);cases (show v=Value.ref l2 from rv);obtain ⟨its1,_,p1,_⟩:=I1.list g1;obtain ⟨its2,_,p2,_⟩:=I1.list g2;refine call_zip_2 p1.isList p2.isList fun h' a1 a2 a3 a4 a5 a6 hk=>wpAny_pyIter_zip a1 ?_;have lt1:(show Nat from l1) < s1.heap.objs.size:=by obtain ⟨o,_,ho,_⟩:=p1; exact Heap.lt_size ho
  have lt2:(show Nat from l2) < s1.heap.objs.size:=by obtain ⟨o,_,ho,_⟩:=p2; exact Heap.lt_size ho
  have I2:Inv X pins σ H1 { s1 with heap:=h' }:=I1.kept (t':=s1.toks) hk;have D:ZipApart (s1.heap.objs.size + 4) (s1.heap.objs.size + 2) (s1.heap.objs.size + 3) s1.heap.objs.size (s1.heap.objs.size + 1) l1 l2:=by
    generalize s1.heap.objs.size=n at lt1 lt2;have g:∀ a b:Nat,a < b->a≠b:=fun a b q=>Nat.ne_of_lt q;have g':∀ a b:Nat,b < a->a≠b:=fun a b q=>Nat.ne_of_gt q;constructor <;> first | exact g _ _ (Nat.lt_trans lt1 (by omega)) | exact g _ _ (Nat.lt_trans lt2 (by omega)) | exact g _ _ lt1 | exact g _ _ lt2 | exact g _ _ (by omega) | exact g' _ _ (by omega)
  refine ⟨_,[s1.heap.objs.size + 4,s1.heap.objs.size + 2,s1.heap.objs.size + 3,s1.heap.objs.size,s1.heap.objs.size + 1],_,_,H1,rfl,I2,A7r D,⟨a1,a2,⟨_,_,a3⟩,a4,a5⟩,fun b hb=>?_,q⟩;have hb':s1.heap.objs.size<=b:=by
    simp only [List.mem_cons,List.mem_nil_iff,or_false] at hb;rcases hb with rfl | rfl | rfl | rfl | rfl <;> omega
  exact I1.fpOk hb' (I1.hok.fresh hb')
theorem A78 {K:PySem.W.Frag} {a:Expr} {ta:TA} {p pos:Pos} {es:List Expr} {kk:Nat} {tp:Pos} (hK:X.K=K) (hg:Gl X "enumerate") (hm:X.mg "enumerate"=none) (ha:PA X [a] ta)
    (hs:starEach [a] X.env=[(false,eval a X.env)]:=by rfl):PI X (.Tuple es kk tp) (.Call (.Name "enumerate" p) [a] [] pos) (B5s K ta):=by
  subst hK;intro pins s σ H R I h;refine Call_ (Q6 I hg hm boot_enumerate (PyProof.Rows.callWith_type1 (thn (ha pos pins s σ H _ I h) fun us s1 ⟨vs,H1,I1,r1,q1⟩=>?_) hs rfl));obtain ⟨l,xs,e,g1,q⟩:=q1;subst e;cases r1 with
  | cons r rr =>
    cases rr;cases r;obtain ⟨its1,_,p1,_⟩:=I1.list g1;refine call_enumerate_list p1.isList fun h' a1 a2 a3 hk=>wpAny_pyIter_enum a1 ?_;have I2:Inv X pins σ H1 { s1 with heap:=h' }:=I1.kept (t':=s1.toks) hk;refine ⟨_,[s1.heap.objs.size + 1,s1.heap.objs.size],_,_,H1,rfl,I2,A4g (Nat.succ_ne_self _),⟨⟨_,a1⟩,a2⟩,fun b hb=>?_,q⟩;have hb':s1.heap.objs.size<=b:=by
      simp only [List.mem_cons,List.mem_nil_iff,or_false] at hb;rcases hb with rfl | rfl <;> omega
    exact I1.fpOk hb' (I1.hok.fresh hb')
theorem A7y {K:PySem.W.Frag} {a b:Expr} {ta:TA} {p pos:Pos} {es:List Expr} {kk:Nat} {tp:Pos} (hK:X.K=K) (hg:Gl X "zip") (hm:X.mg "zip"=none) (ha:QA X [a,b] ta)
    (hs:starEach [a,b] X.env=[(false,eval a X.env),(false,eval b X.env)]:=by rfl) (hs2:starEach [b] X.env=[(false,eval b X.env)]:=by rfl):QI X (.Tuple es kk tp) (.Call (.Name "zip" p) [a,b] [] pos) (iZip K ta):=⟨B19 hK hg hm ha.out hs hs2⟩
theorem S5 {K:PySem.W.Frag} {a:Expr} {ta:TA} {p pos:Pos} {es:List Expr} {kk:Nat} {tp:Pos} (hK:X.K=K) (hg:Gl X "enumerate") (hm:X.mg "enumerate"=none) (ha:QA X [a] ta)
    (hs:starEach [a] X.env=[(false,eval a X.env)]:=by rfl):QI X (.Tuple es kk tp) (.Call (.Name "enumerate" p) [a] [] pos) (B5s K ta):=⟨A78 hK hg hm ha.out hs⟩
end
end L2
namespace Pu
open PySem L2 My Prf
class RL (K:Frag) (te:TE) (pl:outParam PAr):Prop where
  ok:∀ (c:Ct) (w:Wd) (env:PEnv) (σ:St) (Qp:List PyData->PEnv->Prop) (Q:VK),c.K=K->EnvOk c w env σ->pl env Qp->(∀ v xs env' w',EnvOk c w' env' σ->Lw w w'->VR c w' v (.bor xs)->Qp xs env'->Q v w'.H)->te σ w.H Q
def C2l (pd:PDt) (env:PEnv) (Q:List PyData->PEnv->Prop):Prop:=pd env fun x e=>asL x fun xs=>Q xs e
def B2x (i:Nat) (env:PEnv) (Q:List PyData->PEnv->Prop):Prop:=match env[i]? with
  | some (some (.d x))=>asL x fun xs=>Q xs env
  | some (some (.own xs))=>Q xs (env.set i (some (.d (.list xs))))
  | some (some (.bor xs))=>Q xs env
  | _=>False
instance rl_var {K:Frag} {i:Nat}:RL K (tVar i) (B2x i) where
  ok:=by
    rintro c w env σ Qp Q rfl E p k;unfold B2x at p;split at p
    · rename_i x e
      obtain ⟨v,h1,h2⟩:=E.at' i _ e;unfold asL at p;split at p
      · exact ⟨v,h1,k v _ env w E (Lw.refl w) (.inl h2) p⟩
      · exact p.elim
    · rename_i xs e
      obtain ⟨w',v,e',hv,E',l,d⟩:=E.frz e;refine ⟨v,hv,?_⟩;rw [<- e'];exact k v _ _ w' E' l (.inl d) p
    · rename_i xs e
      obtain ⟨v,h1,h2⟩:=E.at' i _ e;exact ⟨v,h1,k v _ env w E (Lw.refl w) h2 p⟩
    · exact p.elim
inductive Brs (c:Ct) (w:Wd):List V->List (List PyData)->Prop
  | nil:Brs c w [] []
  | cons {v:V} {xs:List PyData} {vs:List V} {xss:List (List PyData)}:VR c w v (.bor xs)->Brs c w vs xss->Brs c w (v :: vs) (xs :: xss)
theorem A9t {c:Ct} {w w':Wd} {v:V} {xs:List PyData} (s:Same w.F w'.F) (h:VR c w v (.bor xs)):VR c w' v (.bor xs):=by
  rcases h with h | ⟨l,vs,e,h1,h2,h3⟩
  · exact .inl (Den.same s h)
  · exact .inr ⟨l,vs,e,h1,h2,DenAll.same s h3⟩
class RLs (K:Frag) (ta:TA) (pa:outParam (PEnv->(List (List PyData)->PEnv->Prop)->Prop)):Prop where
  ok:∀ (c:Ct) (w:Wd) (env:PEnv) (σ:St) (Qp:List (List PyData)->PEnv->Prop) (Q:List V->Hpp->Prop),c.K=K->EnvOk c w env σ->pa env Qp->(∀ vs xss env' w',EnvOk c w' env' σ->Lw w w'->Brs c w' vs xss->Qp xss env'->Q vs w'.H)->ta σ w.H Q
def pLsN (env:PEnv) (Q:List (List PyData)->PEnv->Prop):Prop:=Q [] env
def pLsC (pl:PAr) (pr:PEnv->(List (List PyData)->PEnv->Prop)->Prop) (env:PEnv) (Q:List (List PyData)->PEnv->Prop):Prop:=pl env fun xs e1=>pr e1 fun xss e2=>Q (xs :: xss) e2
instance rls_nil {K:Frag}:RLs K tNil pLsN:=⟨fun c w env σ Qp Q _ E p k=>k [] [] env w E (Lw.refl w) .nil p⟩
instance rls_cons {K:Frag} {te:TE} {tr:TA} {pl:PAr} {pr:PEnv->(List (List PyData)->PEnv->Prop)->Prop} [hl:RL K te pl] [hr:RLs K tr pr]:RLs K (K6 te tr) (pLsC pl pr) where
  ok:=by
    rintro c w env σ Qp Q rfl E p k;refine hl.ok c w env σ _ _ rfl E p fun v xs e1 w1 E1 l1 b1 q1=>?_;refine hr.ok c w1 e1 σ _ _ rfl E1 q1 fun vs xss e2 w2 E2 l2 b2 q2=>?_;exact k _ _ e2 w2 E2 (l1.trans l2) (.cons (A9t l2.f b1) b2) q2
theorem X5 {c:Ct} {w:Wd} {v:V} {xs:List PyData} (h:VR c w v (.bor xs)):∃ l vs,v=.ref l/\DenAll c.K w.F vs xs/\∀ w',w'.Ok->Le c.w0 w'->Same w.F w'.F->SqL c.K w'.H l vs:=by
  rcases h with h | ⟨l,vs,e,h1,h2,h3⟩
  · obtain ⟨a,vs,e,g1,g2⟩:=Den.lstE h
    exact ⟨a,vs,e,g2,fun w' ok _ s=>(s.trans ok.sub).seq g1⟩
  · exact ⟨l,vs,e,h3,fun w' _ l' _=>SqL.of (l'.h _ _ h1 h2)⟩
def zipD (xs ys:List PyData):List PyData:=List.zipWith (fun x y=>.tuple [x,y]) xs ys
def A0r (xs:List PyData):List PyData:=xs.zipIdx.map fun p=>.tuple [.int (p.2:Int),p.1]
theorem A7i {xs ys:List PyData}:(zipD xs ys).length=min xs.length ys.length:=List.length_zipWith
theorem T7 {xs:List PyData} {i:Nat} {x:PyData} (h:(A0r xs)[i]?=some x):∃ a,xs[i]?=some a/\x=.tuple [.int (i:Int),a]:=by
  unfold A0r at h;rw [Zh,List.getElem?_zipIdx] at h;cases h1:xs[i]? with
  | none=>rw [h1] at h; cases h
  | some a=>rw [h1] at h; cases h; exact ⟨a,rfl,by simp⟩
theorem O9 {xs:List PyData}:(A0r xs).length=xs.length:=by unfold A0r; rw [Zl,List.length_zipIdx]
def pZip (pa:PEnv->(List (List PyData)->PEnv->Prop)->Prop) (env:PEnv) (Q:List PyData->PEnv->Prop):Prop:=pa env fun xss e=>match xss with
  | [xs,ys]=>Q (zipD xs ys) e
  | _=>False
def B8u (pa:PEnv->(List (List PyData)->PEnv->Prop)->Prop) (env:PEnv) (Q:List PyData->PEnv->Prop):Prop:=pa env fun xss e=>match xss with
  | [xs]=>Q (A0r xs) e
  | _=>False
instance ri_zip {K:Frag} {ta:TA} {pa:PEnv->(List (List PyData)->PEnv->Prop)->Prop} [ha:RLs K ta pa]:RI K (iZip K ta) (pZip pa) where
  ok:=by
    rintro c w env σ Qp R rfl E p k;refine ha.ok c w env σ _ _ rfl E p fun vs xss e1 w1 E1 l1 b1 q1=>?_;split at q1
    · rename_i xs ys
      cases b1 with | cons h t=>cases t with | cons h' t =>
        cases t;obtain ⟨a1,us1,rfl,d1,s1⟩:=X5 h;obtain ⟨a2,us2,rfl,d2,s2⟩:=X5 h';refine ⟨a1,a2,us1,us2,rfl,s1 w1 E1.wok E1.le0 (Same.refl _),s2 w1 E1.wok E1.le0 (Same.refl _),k _ _ e1 w1 E1 l1 ?_ q1⟩;intro w' ok l s;have g1:=s1 w' ok l s;have g2:=s2 w' ok l s;have n1:=d1.len;have n2:=d2.len;rw [A7i];refine ⟨fun i hi=>⟨us1,us2,us1[i]'(by omega),us2[i]'(by omega),g1,g2,Zg _,Zg _⟩,⟨us1,us2,g1,g2,by omega⟩,fun i v H' y hi=>?_⟩;obtain ⟨T,x,y',rfl,hT,rfl,y1,y2⟩:=y;obtain ⟨dx,x1,x2⟩:=d1.get (y1 us1 g1);obtain ⟨dy,y3,y4⟩:=d2.get (y2 us2 g2);refine ⟨w'.tup T (.tup [x,y']),.tuple [dx,dy],rfl,Wd.tup_ok ok hT,Wd.tup_le ok hT,?_,?_⟩
        · unfold zipD; rw [List.getElem?_zipWith,x1,y3]
        · have f:=(Wd.tup_le (o:=.tup [x,y']) ok hT).f
          exact .tup (SqD.of C6) (.cons (Den.same (s.trans f) x2) (.cons (Den.same (s.trans f) y4) .nil))
    · exact q1.elim
instance ri_enum {K:Frag} {ta:TA} {pa:PEnv->(List (List PyData)->PEnv->Prop)->Prop} [ha:RLs K ta pa]:RI K (B5s K ta) (B8u pa) where
  ok:=by
    rintro c w env σ Qp R rfl E p k;refine ha.ok c w env σ _ _ rfl E p fun vs xss e1 w1 E1 l1 b1 q1=>?_;split at q1
    · rename_i xs
      cases b1 with | cons h t =>
        cases t;obtain ⟨a1,us1,rfl,d1,s1⟩:=X5 h;refine ⟨a1,us1,rfl,s1 w1 E1.wok E1.le0 (Same.refl _),k _ _ e1 w1 E1 l1 ?_ q1⟩;intro w' ok l s;have g1:=s1 w' ok l s;have n1:=d1.len;rw [O9];refine ⟨fun i hi=>⟨us1,us1[i]'(by omega),g1,Zg _⟩,⟨us1,g1,by omega⟩,fun i v H' y hi=>?_⟩;obtain ⟨T,x,rfl,hT,rfl,y1⟩:=y;obtain ⟨dx,x1,x2⟩:=d1.get (y1 us1 g1);refine ⟨w'.tup T (.tup [.int i,x]),.tuple [.int i,dx],rfl,Wd.tup_ok ok hT,Wd.tup_le ok hT,?_,?_⟩
        · unfold A0r; rw [Zh,List.getElem?_zipIdx,x1]; simp
        · have f:=(Wd.tup_le (o:=.tup [.int i,x]) ok hT).f
          exact .tup (SqD.of C6) (.cons (.int _) (.cons (Den.same (s.trans f) x2) .nil))
    · exact q1.elim
end Pu
namespace Pu
open PySem L2 My Prf
theorem A2f {n:Nat} {pr:List PyData->PEnv->(PEnv->Prop)->Prop} {xs:List PyData} {env:PEnv} {Q:PEnv->Prop}:qTup n pr (.tuple xs) env Q=(xs.length=n/\pr xs env Q):=rfl
theorem A74 {pr:List PyData->PEnv->(PEnv->Prop)->Prop} {c:Rat × Rat} {env:PEnv} {Q:PEnv->Prop}:qTup 2 pr (dcn c) env Q=pr [dq c.1,dq c.2] env Q:=by
  show (2=2/\_)=_; simp
theorem A57 {c:Rat × Rat}:(dcn c).canLay0=true:=rfl
theorem A6r {c:Rat × Rat}:(dcn c).depth=2:=rfl
theorem B52 {c:Rat × Rat}:PyData.eqv (dcn c) (dcn c)=true:=PySem.SeqAt.eqv_refl _ A57
theorem A9g {c:Rat × Rat}:isNo (dcn c)=false:=rfl
theorem A9r {xs:List PyData} {lo hi:Option Int} {x:PyData} (h:x ∈ cutD xs lo hi):x ∈ xs:=List.mem_of_mem_drop (List.mem_of_mem_take h)
theorem B6a {α:Type} {f:α->PyData} {xs:List α} (lo hi:Option Int):∃ ys:List α,cutD (xs.map f) lo hi=ys.map f/\(∀ y ∈ ys,y ∈ xs)/\ys.length<=xs.length:=by
  refine ⟨(xs.drop (HT.sIx (xs.map f).length 0 lo)).take (HT.sIx (xs.map f).length (xs.map f).length hi - HT.sIx (xs.map f).length 0 lo),?_,fun y hy=>List.mem_of_mem_drop (List.mem_of_mem_take hy),?_⟩
  · unfold cutD; rw [List.map_take,List.map_drop]
  · rw [List.length_take,List.length_drop]; omega
theorem A6u {α:Type} {f:α->PyData} {xs:List α}:cutD (xs.map f) (some 1) none=(xs.drop 1).map f:=by
  unfold cutD;rw [HT.sIx_none,show HT.sIx (xs.map f).length 0 (some 1)=min 1 xs.length by rw [Zl]; exact HT.sIx_nat _ _ 1,Zl];cases xs with
  | nil=>rfl
  | cons x r =>
    rw [show min 1 (x :: r).length=1 by simp];simp;rw [<- Zl (f:=f),List.take_length]
end Pu
namespace L2
open PySem PySem.Spec PyProof.Rows
section
variable {prog:Program} {w:World} {A:Around} {E:Value->Shared->Prop} {s:Shared}
end
end L2
namespace L2
open PySem PySem.Spec PyProof.Rows
section
variable {prog:Program} {w:World} {A:Around} {E:Value->Shared->Prop} {s:Shared}
end
section
variable {X:Cx}
end
end L2
namespace Pu
open PySem L2 My Prf
def B6d (xs:List PyData) (k:List PyData->Prop):Prop:=match xs with
  | [.list xs,.list ys]=>k (zipD xs ys)
  | [.tuple xs,.tuple ys]=>k (zipD xs ys)
  | _=>False
def C17 (pa:PAr) (env:PEnv) (Q:List PyData->PEnv->Prop):Prop:=pa env fun xs e=>B6d xs fun zs=>Q zs e
end Pu
namespace Pu
open PySem L2 My Prf
theorem A34 {xs ys:List PyData} {k:List PyData->Prop}:B6d [.list xs,.list ys] k=k (zipD xs ys):=rfl
theorem A7e {xs ys:List PyData} {k:List PyData->Prop}:B6d [.tuple xs,.tuple ys] k=k (zipD xs ys):=rfl
theorem A9n {a b:Bool}:PyData.eqv (.bool a) (.bool b)=decide (a=b):=by cases a <;> cases b <;> rfl
theorem B50 {s:Str}:PyData.eqv (.str s) (.str s)=true:=by show (s == s)=true; simp
theorem C0p:kitB "int" "str"=some false:=by decide +kernel
theorem C0s:kitB "bool" "str"=some false:=by decide +kernel
theorem C0m:kitB "NoneType" "str"=some false:=by decide +kernel
end Pu
namespace Pu
open PySem L2 My Prf
def B9:List PyData->OT
  | []=>.nil
  | x :: r=>.cons (.leaf x) (B9 r)
def OT.len:OT->Nat
  | .cons _ t=>t.len + 1
  | .nil=>0
  | _=>1
def OT.kid:OT->Nat->Option OT
  | .cons h _,0=>some h
  | .cons _ t,n + 1=>t.kid n
  | _,_=>none
theorem N2:∀ xs,(B9 xs).fp=[]
  | []=>rfl
  | _ :: r=>by show []++(B9 r).fp=[]; rw [N2 r]; rfl
theorem N7:∀ xs,(B9 xs).dat=xs
  | []=>rfl
  | x :: r=>by show [x]++(B9 r).dat=x :: r; rw [N7 r]; rfl
theorem P3 {K:Frag} {w:Wd}:∀ {vs:List V} {xs:List PyData},DenAll K w.F vs xs->Tre K w (B9 xs) vs
  | _,_,.nil=>rfl
  | _,_,.cons h t=>⟨_,_,rfl,⟨_,rfl,h⟩,P3 t⟩
theorem K8 {K:Frag} {w:Wd}:∀ {xs:List PyData} {vs:List V},Tre K w (B9 xs) vs->DenAll K w.F vs xs
  | [],_,e=>by cases (show _=[] from e); exact .nil
  | _ :: _,_,⟨_,_,rfl,⟨_,e,h⟩,t⟩=>by cases e; exact .cons h (K8 t)
theorem Tre.len {K:Frag} {w:Wd}:∀ {t:OT} {vs:List V},Tre K w t vs->vs.length=t.len
  | .leaf _,_,⟨_,e,_⟩=>by rw [e]; rfl
  | .nd _ _ _,_,⟨e,_⟩=>by rw [e]; rfl
  | .nil,_,e=>by rw [show _=[] from e]; rfl
  | .cons _ _,_,⟨_,_,e,_,t⟩=>by rw [e]; show _ + 1=_ + 1; rw [t.len]
theorem Tre.kid {K:Frag} {w:Wd}:∀ {t:OT} {vs:List V} {n:Nat} {u:OT},Tre K w t vs->t.kid n=some u->∃ v,vs[n]?=some v/\Tre K w u [v]
  | .cons _ _,_,0,_,⟨v,_,e,h,_⟩,q=>by cases q; rw [e]; exact ⟨v,rfl,h⟩
  | .cons _ _,_,n + 1,_,⟨_,_,e,_,t⟩,q=>by rw [e]; exact t.kid (n:=n) q
theorem A0o:∀ {t:OT} {n:Nat} {u:OT} {a:Addr},t.kid n=some u->a ∈ u.fp->a ∈ t.fp
  | .cons _ _,0,_,_,q,h=>by cases q; simp [OT.fp,h]
  | .cons _ _,n + 1,_,_,q,h=>by simp [OT.fp,A0o (n:=n) q h]
noncomputable def hm (w:Wd):Hpp:=fun a=>open Classical in if w.M a then none else w.H a
theorem T6 {w:Wd} {a:Addr} {o:HO} (h:w.H a=some o) (n:¬ w.M a):hm w a=some o:=by unfold hm; rw [if_neg n]; exact h
theorem B0m {w:Wd} {a:Addr} {o:HO} (h:hm w a=some o):w.H a=some o/\¬ w.M a:=by
  unfold hm at h; split at h
  · cases h
  · exact ⟨h,‹_›⟩
theorem hm_F {w:Wd} (ok:w.Ok):Same w.F (hm w):=fun a o h=>T6 (ok.sub a o h) fun z=>by rw [ok.nf a z] at h; cases h
theorem C09 {w w':Wd} (l:Lw w w'):Same (hm w) (hm w'):=fun a o h=>by
  obtain ⟨h1,h2⟩:=B0m h;exact T6 (l.h _ _ h1 h2) (l.nm (by rw [h1]; simp) h2)
theorem Tre.den {K:Frag} {w:Wd} (ok:w.Ok):∀ {t:OT} {vs:List V},Tre K w t vs->(∀ a ∈ t.fp,¬ w.M a)->DenAll K (hm w) vs t.dat
  | .leaf _,_,⟨_,e,h⟩,_=>by rw [e]; exact .cons (Den.same (hm_F ok) h) .nil
  | .nd true a _,_,⟨e,_,h,k⟩,n=>by rw [e]; exact .cons (.lst (SqL.of (T6 h (n a (by simp [OT.fp])))) (Tre.den ok k fun q hq=>n q (by simp [OT.fp,hq]))) .nil
  | .nd false a _,_,⟨e,_,h,k⟩,n=>by rw [e]; exact .cons (.tup (SqD.of (T6 h (n a (by simp [OT.fp])))) (Tre.den ok k fun q hq=>n q (by simp [OT.fp,hq]))) .nil
  | .nil,_,e,_=>by rw [show _=[] from e]; exact .nil
  | .cons _ _,_,⟨v,r,e,h,t⟩,n=>by
    rw [e];exact (Tre.den ok h fun q hq=>n q (by simp [OT.fp,hq])).app (vs:=[v]) (us:=r) (Tre.den ok t fun q hq=>n q (by simp [OT.fp,hq]))
def VH (K:Frag) (w:Wd) (v:V) (x:PyData):Prop:=Den K (hm w) v x
theorem VR.vh {c:Ct} {w:Wd} {v:V} {t:OT} {x:PyData} (ok:w.Ok) (h:VR c w v (.tr t)) (e:t.dat=[x]):VH c.K w v x:=by
  have:=h.1.den ok fun a ha=>(h.2.1 a ha).2.2.1;rw [e] at this;cases this with | cons a _=>exact a
theorem VV.vh {K:Frag} {w:Wd} {v:V} {x:PyData} (ok:w.Ok) (h:VV K w v x):VH K w v x:=by
  rcases h with h | ⟨l,vs,xs,rfl,rfl,h1,h2,h3⟩
  · exact Den.same (hm_F ok) h
  · exact .lst (SqL.of (T6 h1 h2)) (DenAll.same (hm_F ok) h3)
class RH (K:Frag) (te:TE) (pd:outParam PDt):Prop where
  ok:∀ (c:Ct) (w:Wd) (env:PEnv) (σ:St) (Qp:PyData->PEnv->Prop) (Q:VK),c.K=K->EnvOk c w env σ->pd env Qp->(∀ v x env' w',EnvOk c w' env' σ->Lw w w'->VH K w' v x->Qp x env'->Q v w'.H)->te σ w.H Q
def B2l (i:Nat) (env:PEnv) (Q:PyData->PEnv->Prop):Prop:=match env[i]? with
  | some (some (.d x))=>Q x env
  | some (some (.own xs))=>Q (.list xs) env
  | some (some (.bor xs))=>Q (.list xs) env
  | some (some (.tr t))=>∃ x,t.dat=[x]/\Q x env
  | _=>False
instance rh_var {K:Frag} {i:Nat}:RH K (tVar i) (B2l i) where
  ok:=by
    rintro c w env σ Qp Q rfl E p k;unfold B2l at p;split at p
    · rename_i x e
      obtain ⟨v,h1,h2⟩:=E.at' i _ e;exact ⟨v,h1,k v _ env w E (Lw.refl w) (Den.same (hm_F E.wok) h2) p⟩
    · rename_i xs e
      obtain ⟨v,h1,l,vs,e',g1,g2,g3,g4,g5⟩:=E.at' i _ e;exact ⟨v,h1,k v _ env w E (Lw.refl w) (VV.vh E.wok (.inr ⟨l,vs,xs,e',rfl,g1,g3,g5⟩)) p⟩
    · rename_i xs e
      obtain ⟨v,h1,h2⟩:=E.at' i _ e;exact ⟨v,h1,k v _ env w E (Lw.refl w) ((h2.vv E.le0).vh E.wok) p⟩
    · rename_i t e
      obtain ⟨x,e1,q⟩:=p;obtain ⟨v,h1,h2⟩:=E.at' i _ e;exact ⟨v,h1,k v _ env w E (Lw.refl w) (h2.vh E.wok e1) q⟩
    · exact p.elim
def B85 (psp:PSp) (pa pb:PDt) (env:PEnv) (Q:SV->PEnv->Prop):Prop:=pa env fun x e=>pb e fun y e2=>psp [.d x,.d y] fun s=>∃ b,s=.d (.bool b)/\Q (.d (.bool b)) e2
def Own (c:Ct) (w:Wd) (t:OT):Prop:=(∀ a ∈ t.fp,w.H a≠none/\w.F a=none/\¬ w.M a/\c.w0.H a=none)/\t.fp.Nodup
def NewT (c:Ct) (env:PEnv) (σ:St) (t:OT):Prop:=∀ a ∈ t.fp,(∀ (j:Nat) s u,env[j]?=some (some s)->σ[j]?=some (some u)->¬ s.foot u a)/\¬ c.Z a
def SV.ot (s:SV) (k:OT->Prop):Prop:=match s with
  | .d x=>k (.leaf x)
  | .own xs=>∀ a,k (.nd true a (B9 xs))
  | .tr t=>k t
  | _=>False
theorem Res.ot {c:Ct} {w w1:Wd} {env:PEnv} {σ:St} {v:V} {s:SV} {k:OT->Prop} (R:Res c w env σ w1 v s) (h:s.ot k):∃ t,Tre c.K w1 t [v]/\Own c w1 t/\NewT c env σ t/\k t:=by
  obtain ⟨E,lw,val,new,_⟩:=R;cases s with
  | d x=>exact ⟨.leaf x,⟨v,rfl,val⟩,⟨fun a z=>(nomatch z),List.nodup_nil⟩,fun a z=>(nomatch z),h⟩
  | own xs =>
    obtain ⟨l,vs,rfl,h1,h2,h3,h4,h5⟩:=val;have one:∀ a,a ∈ (OT.nd true l (B9 xs)).fp->a=l:=fun a ha=>by
      rw [show (OT.nd true l (B9 xs)).fp=l :: (B9 xs).fp from rfl,N2] at ha;simpa using ha
    refine ⟨.nd true l (B9 xs),⟨rfl,vs,h1,P3 h5⟩,⟨fun a ha=>?_,by show (l :: (B9 xs).fp).Nodup; rw [N2]; simp⟩,fun a ha=>?_,h l⟩
    · rw [one a ha]; exact ⟨by rw [h1]; simp,h2,h3,h4⟩
    · rw [one a ha]; exact new l rfl
  | bor xs=>exact (show False from h).elim
  | st=>exact (show False from h).elim
  | tr t=>exact ⟨t,val.1,val.2,new,h⟩
  | bt t=>exact (show False from h).elim
  | al t=>exact (show False from h).elim
  | dk t=>exact (show False from h).elim
theorem VR.reZ {K:Frag} {w0 w:Wd} {Z Z':Addr->Prop} {v:V}:∀ {s:SV},VR ⟨K,w0,Z⟩ w v s->VR ⟨K,w0,Z'⟩ w v s
  | .d _,h=>h
  | .own _,h=>h
  | .bor _,h=>h
  | .st,h=>h
  | .tr _,h=>h
  | .bt _,h=>h
  | .al _,h=>h
  | .dk _,h=>h
def Ct.with (c:Ct) (t:OT):Ct:=⟨c.K,c.w0,fun a=>c.Z a\/a ∈ t.fp⟩
theorem EnvOk.hold {c:Ct} {w:Wd} {env:PEnv} {σ:St} {t:OT} (E:EnvOk c w env σ) (o:Own c w t) (n:NewT c env σ t):EnvOk (c.with t) w env σ :=
  ⟨E.wok,E.le0,E.len,fun i s q=>let ⟨v,h1,h2⟩:=E.at' i s q; ⟨v,h1,h2.reZ⟩,E.own,fun a z=>z.elim (E.zf a) fun ha=>let ⟨h1,h2,h3,_⟩:=o.1 a ha; ⟨h2,h1,h3⟩,fun a j s u z q q'=>z.elim (fun z=>E.zo a j s u z q q') fun ha=>(n a ha).1 j s u q q'⟩
theorem EnvOk.letgo {c:Ct} {w:Wd} {env:PEnv} {σ:St} {t:OT} (E:EnvOk (c.with t) w env σ):EnvOk c w env σ :=
  ⟨E.wok,E.le0,E.len,fun i s q=>let ⟨v,h1,h2⟩:=E.at' i s q; ⟨v,h1,h2.reZ⟩,E.own,fun a z=>E.zf a (.inl z),fun a j s u z q q'=>E.zo a j s u (.inl z) q q'⟩
class RAt (K:Frag) (ta:TA) (pa:outParam (PEnv->(OT->PEnv->Prop)->Prop)):Prop where
  ok:∀ (c:Ct) (w:Wd) (env:PEnv) (σ:St) (Qp:OT->PEnv->Prop) (Q:List V->Hpp->Prop),c.K=K->EnvOk c w env σ->pa env Qp->(∀ vs t env' w',EnvOk c w' env' σ->Lw w w'->Tre K w' t vs->Own c w' t->NewT c env' σ t->Qp t env'->Q vs w'.H)->ta σ w.H Q
def B79 (env:PEnv) (Q:OT->PEnv->Prop):Prop:=Q .nil env
def B0f (pe:PX) (pr:PEnv->(OT->PEnv->Prop)->Prop) (env:PEnv) (Q:OT->PEnv->Prop):Prop:=pe env fun s e1=>s.ot fun t=>pr e1 fun r e2=>(∀ a ∈ r.fp,a ∉ t.fp)->Q (.cons t r) e2
instance rat_nil {K:Frag}:RAt K tNil B79:=⟨fun c w env σ Qp Q _ E p k=>k [] .nil env w E (Lw.refl w) rfl ⟨fun a z=>(nomatch z),List.nodup_nil⟩ (fun a z=>nomatch z) p⟩
instance rat_cons {K:Frag} {ta:TE} {tr:TA} {pe:PX} {pr:PEnv->(OT->PEnv->Prop)->Prop} [ha:RE K ta pe] [hr:RAt K tr pr]:RAt K (K6 ta tr) (B0f pe pr) where
  ok:=by
    rintro c w env σ Qp Q rfl E p k;refine ha.ok c w env σ _ _ rfl E p fun v s e1 w1 R q1=>?_;obtain ⟨t,ht,ho,hn,q⟩:=R.ot q1;refine hr.ok (c.with t) w1 e1 σ _ _ rfl (R.ev.hold ho hn) q fun vs r e2 w2 E2 l2 hr' ho' hn' q2=>?_;refine k (v :: vs) (.cons t r) e2 w2 E2.letgo (R.lw.trans l2) ⟨v,vs,rfl,ht.mono l2 fun a ha=>(ho.1 a ha).2.2.1,hr'⟩ ⟨fun a ha=>?_,List.nodup_append.mpr ⟨ho.2,ho'.2,fun a ha b hb e=>(hn' b hb).2 (.inr (e ▸ ha))⟩⟩ (fun a ha=>?_) (q2 fun a ha z=>(hn' a ha).2 (.inr z))
    · rcases Za (show a ∈ t.fp++r.fp from ha) with z | z
      · obtain ⟨z1,z2,z3⟩:=E2.zf a (.inr z)
        exact ⟨z2,z1,z3,(ho.1 a z).2.2.2⟩
      · exact ho'.1 a z
    · rcases Za (show a ∈ t.fp++r.fp from ha) with z | z
      · exact ⟨fun j s u q q'=>E2.zo a j s u (.inr z) q q',(hn a z).2⟩
      · exact ⟨(hn' a z).1,fun y=>(hn' a z).2 (.inl y)⟩
theorem Res.laid {c:Ct} {w:Wd} {env:PEnv} {σ:St} {p:Addr} {vs:List V} {t:OT} {b:Bool} (E:EnvOk c w env σ) (h:w.H p=none) (ht:Tre c.K w t vs) (o:Own c w t) (n:NewT c env σ t):Res c w env σ (w.lay p (ho b vs)) (.ref p) (.tr (.nd b p t)):=by
  have le:=Wd.lay_le (o:=ho b vs) h;refine ⟨E.mono (Wd.lay_ok E.wok h) le,le.toLw,⟨⟨rfl,vs,C6,ht.mono le.toLw fun a ha=>(o.1 a ha).2.2.1⟩,fun a ha=>?_,List.nodup_cons.mpr ⟨fun z=>(o.1 p z).1 h,o.2⟩⟩,fun a f=>?_,rfl⟩
  · rcases List.mem_cons.mp (show a ∈ p :: t.fp from ha) with rfl | z
    · exact ⟨by show upd w.H a _ a≠none; rw [C6]; simp,E.wok.fnone h,fun z=>E.wok.mne h z rfl,E.le0.dom a h⟩
    · obtain ⟨h1,h2,h3,h4⟩:=o.1 a z
      exact ⟨fun y=>h1 (M3 y),h2,h3,h4⟩
  · rcases List.mem_cons.mp (show a ∈ p :: t.fp from f) with rfl | z
    · exact E.fresh h
    · exact n a z
def B6m (ta:TA):TE:=tLst ta
def B71 (b:Bool) (pa:PEnv->(OT->PEnv->Prop)->Prop) (env:PEnv) (Q:SV->PEnv->Prop):Prop:=pa env fun t e=>t.len<=1000/\∀ a,a ∉ t.fp->Q (.tr (.nd b a t)) e
instance re_lstT {K:Frag} {ta:TA} {pa:PEnv->(OT->PEnv->Prop)->Prop} [ha:RAt K ta pa]:RE K (B6m ta) (B71 true pa) where
  ok:=by
    rintro c w env σ Qp Q rfl E p k;refine ha.ok c w env σ _ _ rfl E p fun vs t e1 w1 E1 l1 ht ho hn q1=>⟨?_,fun p hp=>?_⟩
    · rw [ht.len]; exact Nat.le_of_lt (S3 q1.1)
    · exact k _ _ e1 _ ((Res.laid (b:=true) E1 hp ht ho hn).pre l1) (q1.2 p fun z=>(ho.1 p z).1 hp)
def asTr (o:Option (Option SV)) (k:OT->Prop):Prop:=match o with
  | some (some (.tr t))=>k t
  | _=>False
def pKid (i:Nat) (n:Int) (env:PEnv) (Q:PyData->PEnv->Prop):Prop:=asTr env[i]? fun t=>∃ (m:Nat) (b:Bool) (a a':Addr) (ks:OT) (xs:List PyData),n=m/\t=.nd b a ks/\ks.kid m=some (.nd true a' (B9 xs))/\Q (.list xs) env
def B3g (i:Nat) (n:Int) (D:PEnds) (env:PEnv):Prop:=asTr env[i]? fun t=>∃ (m:Nat) (b:Bool) (a a':Addr) (ks ls:OT),n=m/\t=.nd b a ks/\ks.kid m=some (.nd true a' ls)/\D.nx (env.set i (some (.tr (OT.put a' .nil t))))
end Pu
namespace L2
open PySem PySem.Spec PyProof.Rows
section
variable {X:Cx} {e:Expr}
theorem B7a {t:TA} (h:QE X e (tLst t)):QE X e (Pu.B6m t):=h
end
end L2
namespace Pu
open PySem L2 My Prf
def SV.asH (s:SV) (k:PyData->Prop):Prop:=match s with
  | .d x=>k x
  | .own xs=>k (.list xs)
  | .tr t=>∃ x,t.dat=[x]/\k x
  | _=>False
def B7s (pe:PX) (env:PEnv) (Q:PyData->PEnv->Prop):Prop:=pe env fun s e=>s.asH fun x=>Q x e
instance (priority:=200) rh_re {K:Frag} {te:TE} {pe:PX} [h:RE K te pe]:RH K te (B7s pe) where
  ok:=by
    rintro c w env σ Qp Q rfl E p k;refine h.ok c w env σ _ Q rfl E p fun v s env' w' R q=>?_;have E':=R.ev;cases s with
    | d x=>exact k v x env' w' E' R.lw (Den.same (hm_F E'.wok) R.val) q
    | own xs =>
      obtain ⟨l,vs,e',g1,g2,g3,g4,g5⟩:=R.val;exact k v _ env' w' E' R.lw (VV.vh E'.wok (.inr ⟨l,vs,xs,e',rfl,g1,g3,g5⟩)) q
    | tr t =>
      obtain ⟨x,e,q⟩:=q;exact k v x env' w' E' R.lw (VR.vh E'.wok R.val e) q
    | bor xs=>exact (show False from q).elim
    | bt t=>exact (show False from q).elim
    | al t=>exact (show False from q).elim
    | dk t=>exact (show False from q).elim
    | st=>exact (show False from q).elim
theorem VR.btv {c:Ct} {w:Wd} {v:V} {t:OT} (l:Le c.w0 w) (h:VR c w v (.bt t)):TV c.K w v t:=by
  have lw:Lw ⟨c.w0.M,c.w0.H,w.F⟩ w:=⟨Same.refl _,l.h,l.m,l.mn,l.dom⟩;exact ⟨h.1.mono lw h.2,fun a ha=>l.nm (h.1.has a ha) (h.2 a ha)⟩
class RTr (K:Frag) (te:TE) (pb:outParam (PEnv->(OT->PEnv->Prop)->Prop)):Prop where
  ok:∀ (c:Ct) (w:Wd) (env:PEnv) (σ:St) (Qp:OT->PEnv->Prop) (Q:VK),c.K=K->EnvOk c w env σ->pb env Qp->(∀ v t env' w',EnvOk c w' env' σ->Lw w w'->TV K w' v t->Qp t env'->Q v w'.H)->te σ w.H Q
def pTr (pe:PX) (env:PEnv) (Q:OT->PEnv->Prop):Prop:=pe env fun s e=>s.ot fun t=>Q t e
def pTrV (i:Nat) (env:PEnv) (Q:OT->PEnv->Prop):Prop:=match env[i]? with
  | some (some (.d x))=>Q (.leaf x) env
  | some (some (.tr t))=>Q t env
  | some (some (.bt t))=>Q t env
  | _=>False
instance rtr_var {K:Frag} {i:Nat}:RTr K (tVar i) (pTrV i) where
  ok:=by
    rintro c w env σ Qp Q rfl E p k;unfold pTrV at p;split at p
    · rename_i x e
      obtain ⟨v,h1,h2⟩:=E.at' i _ e;exact ⟨v,h1,k v (.leaf x) env w E (Lw.refl w) ⟨⟨v,rfl,h2⟩,fun a z=>nomatch z⟩ p⟩
    · rename_i t e
      obtain ⟨v,h1,h2⟩:=E.at' i _ e;exact ⟨v,h1,k v _ env w E (Lw.refl w) ⟨h2.1,fun a ha=>(h2.2.1 a ha).2.2.1⟩ p⟩
    · rename_i t e
      obtain ⟨v,h1,h2⟩:=E.at' i _ e;exact ⟨v,h1,k v _ env w E (Lw.refl w) (h2.btv E.le0) p⟩
    · exact p.elim
def B8y (pb:PEnv->(OT->PEnv->Prop)->Prop) (pr:PAs) (env:PEnv) (Q:List SV->PEnv->Prop):Prop:=pb env fun t e1=>pr e1 fun as e2=>Q (.bt t :: as) e2
def OT.lvs:OT->Option (List PyData)
  | .nil=>some []
  | .cons (.leaf x) t=>t.lvs.map (x :: ·)
  | _=>none
theorem P9:∀ xs,(B9 xs).lvs=some xs
  | []=>rfl
  | x :: r=>by show (B9 r).lvs.map _=_; rw [P9 r]; rfl
theorem Q0:∀ {t:OT} {xs:List PyData},t.lvs=some xs->t=B9 xs
  | .nil,_,h=>by cases h; rfl
  | .cons (.leaf x) t,xs,h=>by
    have h':t.lvs.map (x :: ·)=some xs:=h;cases q:t.lvs with
    | none=>rw [q] at h'; cases h'
    | some ys=>rw [q] at h'; cases h'; rw [Q0 q]; rfl
def OT.sv:OT->SV
  | .leaf (.list xs)=>.bor xs
  | .leaf x=>.d x
  | .nd true a k=>match k.lvs with
    | some xs=>.bor xs
    | none=>.bt (.nd true a k)
  | t=>.bt t
theorem Y2 {a:Addr} {xs:List PyData}:OT.sv (.nd true a (B9 xs))=.bor xs:=by show (match (B9 xs).lvs with | some xs=>SV.bor xs | none=>_)=_; rw [P9]
theorem VR.sv {c:Ct} {w:Wd} {v:V} {u:OT} (h:VR c w v (.bt u)):VR c w v u.sv:=by
  unfold OT.sv;split
  · obtain ⟨⟨v',e,h⟩,_⟩:=h
    cases e; exact .inl h
  · obtain ⟨⟨v',e,h⟩,_⟩:=h
    cases e; exact h
  · rename_i a k
    split
    · rename_i xs q
      obtain ⟨⟨e,us,h1,h2⟩,h3⟩:=h;cases e;rw [Q0 q] at h2;exact .inr ⟨a,us,rfl,h1,h3 a (by simp [OT.fp]),K8 (w:=⟨c.w0.M,c.w0.H,w.F⟩) h2⟩
    · exact h
  · exact h
theorem A95 {c:Ct} {env:PEnv} {σ:St} {v:V}:∀ {u:OT},New c env σ v u.sv:=by
  intro u a f;unfold OT.sv at f;split at f
  · exact f.elim
  · exact f.elim
  · split at f
    · exact f.elim
    · exact f.elim
  · exact f.elim
def OT.pair:OT->Option (OT × OT)
  | .nd false _ (.cons u (.cons v .nil))=>some (u,v)
  | .leaf (.tuple [x,y])=>some (.leaf x,.leaf y)
  | _=>none
def pUnp (i a b:Nat) (pr:List PyData->PEnv->(PEnv->Prop)->Prop) (D:PEnds) (env:PEnv):Prop:=match env[i]? with
  | some (some (.bt t))=>∃ u v,t.pair=some (u,v)/\D.nx ((env.set a (some u.sv)).set b (some v.sv))
  | some (some (.d x))=>qTup 2 pr x env D.nx
  | _=>False
theorem B6l {c:Ct} {w:Wd} {v:V} {t u1 u2:OT} (ok:w.Ok) (l:Le c.w0 w) (h:VR c w v (.bt t)) (e:t.pair=some (u1,u2)):∃ p x y,v=.ref p/\SqT c.K w.H p [x,y]/\VR c w x (.bt u1)/\VR c w y (.bt u2):=by
  unfold OT.pair at e;split at e
  · rename_i a k1 k2
    cases e;obtain ⟨⟨ev,us,h1,x,r,e1,hx,y,r2,e2,hy,e3⟩,h3⟩:=h;cases ev;have e3':r2=[]:=e3;subst e1; subst e2; subst e3';exact ⟨a,x,y,rfl,SqT.of (l.h _ _ h1 (h3 a (by simp [OT.fp]))),⟨hx,fun q hq=>h3 q (by simp [OT.fp,hq])⟩,⟨hy,fun q hq=>h3 q (by simp [OT.fp,hq])⟩⟩
  · cases e
    obtain ⟨⟨v',ev,h⟩,_⟩:=h;cases ev;obtain ⟨p,vs,rfl,h1,h2⟩:=Den.tupE h;cases h2 with
    | cons hx t=>cases t with
      | cons hy t =>
        cases t;exact ⟨p,_,_,rfl,SqT.same ok.sub h1,⟨⟨_,rfl,hx⟩,fun q hq=>nomatch hq⟩,⟨⟨_,rfl,hy⟩,fun q hq=>nomatch hq⟩⟩
  · cases e
instance (priority:=high) rs_unp {K:Frag} {i a b:Nat} {pr:List PyData->PEnv->(PEnv->Prop)->Prop} [hr:RGs K (A1o (O8 a) (A1o (O8 b) gNil)) pr]:RS K (tAsg (tVar i) (gTup K 2 (A1o (O8 a) (A1o (O8 b) gNil)))) (pUnp i a b pr) where
  ok:=by
    rintro c w env σ Dp D rfl E h p;unfold pUnp at p;split at p
    · rename_i t e
      obtain ⟨u1,u2,hp,q⟩:=p;obtain ⟨v,h1,h2⟩:=E.at' i _ e;obtain ⟨p,x,y,rfl,hs,hx,hy⟩:=B6l E.wok E.le0 h2 hp;refine ⟨_,h1,p,[x,y],rfl,hs,rfl,x,[y],rfl,y,[],rfl,rfl,?_⟩;have E1:=E.set (i:=a) hx.sv A95;have E2:=E1.set (i:=b) hy.sv A95;exact h.nx _ _ w E2 (Same.refl _) q
    · rename_i x e
      obtain ⟨v,h1,h2⟩:=E.at' i _ e;refine ⟨v,h1,?_⟩;exact rg_tup.ok c w env σ v x _ _ rfl E h2 p fun e2 σ2 E2 q2=>h.nx e2 σ2 w E2 (Same.refl _) q2
    · exact p.elim
def C2y (i:Nat) (n:Int) (j:Nat) (D:PEnds) (env:PEnv):Prop:=match env[i]? with
  | some (some (.bt t))=>∃ u v,t.pair=some (u,v)/\((n=0/\D.nx (env.set j (some u.sv)))\/(n=1/\D.nx (env.set j (some v.sv))))
  | _=>False
end Pu
namespace Pu
open PySem L2 My Prf
theorem fdE {a:Int} {n:Nat} (h:(n:Int) ∣ a):a.fdiv n=a / n:=Int.fdiv_eq_ediv_of_dvd h
theorem fdN (a n:Nat):(a:Int).fdiv (n:Int)=((a / n:Nat):Int):=by
  rw [Int.fdiv_eq_ediv_of_nonneg _ (Int.natCast_nonneg n)]; rfl
theorem B99 (p q:Rat):p.num.fdiv ((Int.gcd p.num q.den:Nat):Int) * q.num.fdiv ((Int.gcd q.num p.den:Nat):Int)=(p * q).num:=by
  have e:p * q=Rat.mul p q:=rfl;rw [e]; unfold Rat.mul;show _=p.num.divExact _ _ * q.num.divExact _ _;rw [Int.divExact_eq_ediv,Int.divExact_eq_ediv,fdE (Int.gcd_dvd_left ..),fdE (Int.gcd_dvd_left ..)];rfl
theorem C0a (p q:Rat):(p.den:Int).fdiv ((Int.gcd q.num p.den:Nat):Int) * (q.den:Int).fdiv ((Int.gcd p.num q.den:Nat):Int)=((p * q).den:Int):=by
  have e:p * q=Rat.mul p q:=rfl;rw [e]; unfold Rat.mul;show _=((p.den.divExact _ _ * q.den.divExact _ _:Nat):Int);rw [Nat.divExact_eq_div,Nat.divExact_eq_div,fdN,fdN];rfl
theorem B18 (p q:Rat) (g t:Int) (hg:g=((Int.gcd (p.den:Int) (q.den:Int):Nat):Int)) (ht:t=p.num * (q.den:Int).fdiv g + q.num * (p.den:Int).fdiv g) :
    t.fdiv ((Int.gcd t g:Nat):Int)=(p + q).num/\(p.den:Int).fdiv g * (q.den:Int).fdiv ((Int.gcd t g:Nat):Int)=((p + q).den:Int):=by
  have e:p + q=Rat.add p q:=rfl;have hgn:Int.gcd (p.den:Int) (q.den:Int)=Nat.gcd p.den q.den:=rfl;rw [hgn] at hg;rw [e]; unfold Rat.add;dsimp only;split
  · rename_i h1
    rw [h1] at hg;subst hg;have ht':t=p.num * q.den + q.num * p.den:=by rw [ht,fdN,fdN]; simp
    have h2:Int.gcd t ((1:Nat):Int)=1:=by simp
    rw [h2,ht'];refine ⟨by simp,?_⟩;rw [fdN,fdN]; simp
  · rename_i h1
    rw [Rat.maybeNormalize_eq];rw [hg,fdN,fdN] at ht;have h3:Int.gcd t g=t.natAbs.gcd (p.den.gcd q.den):=by rw [hg]; rfl
    rw [h3];subst ht;refine ⟨?_,?_⟩
    · show _=Int.divExact _ _ (Int.gcd_dvd_left _ ((p.den.gcd q.den:Nat):Int))
      rw [Int.divExact_eq_ediv];exact fdE (Int.gcd_dvd_left _ ((p.den.gcd q.den:Nat):Int))
    · show _=((_ / _:Nat):Int)
      rw [hg,fdN,fdN];have hd:(p.num * ((q.den / p.den.gcd q.den:Nat):Int) + q.num * ((p.den / p.den.gcd q.den:Nat):Int)).natAbs.gcd (p.den.gcd q.den) ∣ q.den:=Nat.dvd_trans (Nat.gcd_dvd_right ..) (Nat.gcd_dvd_right ..);rw [Nat.mul_div_assoc _ hd,Int.natCast_mul]
theorem Q1 {t:Int} (q:Rat):((Int.gcd t (q.den:Int):Nat):Int)≠0:=by
  have h:=q.den_nz;intro h0;have h1:Int.gcd t (q.den:Int)=0:=by omega
  have h2:=(Int.gcd_eq_zero_iff.mp h1).2;omega
theorem A2w {t g:Int} (h:g≠0):((Int.gcd t g:Nat):Int)≠0:=by
  intro h0;have h1:Int.gcd t g=0:=by omega
  exact h (Int.gcd_eq_zero_iff.mp h1).2
theorem A0q {k:Nat} {a g:Int} (h:Sm k a) (g1:0<=g):Sm k (a.fdiv g):=by
  unfold Sm at *;rw [Int.fdiv_eq_ediv_of_nonneg _ g1];rcases Int.lt_or_le 0 g with h0 | h0
  · have h2:=Int.natAbs_ediv_le_natAbs a g
    omega
  · have:g=0:=by omega
    subst this;rw [Int.ediv_zero]; exact Nat.two_pow_pos k
theorem B1v {pr:List PyData->PEnv->(PEnv->Prop)->Prop} {q:Rat} {env:PEnv} {Q:PEnv->Prop}:qTup 2 pr (dq q) env Q=pr [.int q.num,.int q.den] env Q:=by
  unfold dq; rw [A2f]; exact propext ⟨fun h=>h.2,fun h=>⟨rfl,h⟩⟩
theorem C1o (q:Rat):PyData.tuple [.int (-q.num),.int q.den]=dq (-q):=rfl
end Pu
namespace Pu
open PySem L2 My Prf
section
variable {x y:PyData} {xs ys:List PyData} {i j:Nat} {env e:PEnv} {s:SV} {t:OT}
theorem C3r {k:PyData->Prop}:(SV.d x).asD k=k x:=rfl
theorem C3q {k:PyData->Prop}:(SV.own xs).asD k=k (.list xs):=rfl
def oVar (o:Option (Option SV)) (i:Nat) (env:PEnv) (Q:SV->PEnv->Prop):Prop:=match o with
  | some (some (.d x))=>Q (.d x) env
  | some (some (.own xs))=>Q (.d (.list xs)) (env.set i (some (.d (.list xs))))
  | some (some .st)=>Q .st env
  | _=>False
theorem B7u {Q:SV->PEnv->Prop}:pVar i env Q=oVar env[i]? i env Q:=rfl
theorem B9s {Q:SV->PEnv->Prop}:oVar (some (some (.d x))) i env Q=Q (.d x) env:=rfl
theorem B9r {Q:SV->PEnv->Prop}:oVar (some (some (.own xs))) i env Q=Q (.d (.list xs)) (env.set i (some (.d (.list xs)))):=rfl
theorem B9q {Q:SV->PEnv->Prop}:oVar (some (some .st)) i env Q=Q .st env:=rfl
def A8l (o:Option (Option SV)) (env:PEnv) (Q:PyData->PEnv->Prop):Prop:=match o with
  | some (some (.d x))=>Q x env
  | some (some (.own xs))=>Q (.list xs) env
  | some (some (.bor xs))=>Q (.list xs) env
  | _=>False
theorem B2i {Q:PyData->PEnv->Prop}:B2j i env Q=A8l env[i]? env Q:=rfl
theorem B3s {Q:PyData->PEnv->Prop}:A8l (some (some (.d x))) env Q=Q x env:=rfl
theorem B3r {Q:PyData->PEnv->Prop}:A8l (some (some (.own xs))) env Q=Q (.list xs) env:=rfl
theorem B3t {Q:PyData->PEnv->Prop}:A8l (some (some (.bor xs))) env Q=Q (.list xs) env:=rfl
theorem pI_i {C:Int->Int->Prop} {gd:Int->Int->PyData} {i j:Int} {Q:SV->Prop}:pI C gd (.int i) (.int j) Q=(C i j/\Q (.d (gd i j))):=rfl
theorem C2p {gd:Int->Int->PyData} {i j:Int} {Q:SV->Prop}:pI0 gd (.int i) (.int j) Q=Q (.d (gd i j)):=rfl
theorem pU_i {gd:Int->PyData} {i:Int} {Q:SV->Prop}:pU gd (.int i) Q=Q (.d (gd i)):=rfl
theorem B9g {i:Int} {Q:SV->Prop}:pAbs [.int i] Q=Q (.d (.int (if i < 0 then -i else i))):=rfl
theorem B8e {i j:Int} {Q:SV->Prop}:pMax [.int i,.int j] Q=Q (.d (.int (if j > i then j else i))):=rfl
theorem B8d {i j:Int} {Q:SV->Prop}:pMin [.int i,.int j] Q=Q (.d (.int (if j < i then j else i))):=rfl
theorem B8q {i:Int} {Q:SV->Prop}:pInt [.int i] Q=Q (.d (.int i)):=rfl
theorem B8r {b:Bool} {Q:SV->Prop}:pInt [.bool b] Q=Q (.d (.int (if b then 1 else 0))):=rfl
theorem A8c {Q:SV->Prop}:A2m [.list ys] Q=Q (.own ys):=rfl
theorem A8b {Q:SV->Prop}:A2m [.tuple ys] Q=Q (.own ys):=rfl
def oKit (o:Option Bool) (Q:SV->Prop):Prop:=match o with
  | some b=>Q (.d (.bool b))
  | none=>False
theorem B8p {c:String} {pa:PDt} {Q:SV->PEnv->Prop}:pIsi c pa env Q=pa env fun x e=>oKit (kitB (tyD x) c) fun s=>Q s e:=rfl
theorem B26 {cs:List String} {pa:PDt} {Q:SV->PEnv->Prop}:C2o cs pa env Q=pa env fun x e=>cs.length<=1000/\oKit (X1 (tyD x) cs) fun s=>Q s e:=rfl
theorem B92 {b:Bool} {Q:SV->Prop}:oKit (some b) Q=Q (.d (.bool b)):=rfl
theorem C3s {b:Bool} {k:Bool->Prop}:asB (.bool b) k=k b:=rfl
theorem C3l {k:List PyData->Prop}:asL (.list xs) k=k xs:=rfl
theorem C02 {k:Prop}:isSt (some (some .st)) k=k:=rfl
theorem C3m {i:Int} {k:Int->Prop}:asI (.int i) k=k i:=rfl
def A5w (o:Option (Option SV)) (D:PEnds) (env:PEnv):Prop:=match o with
  | some (some (.bor _))=>False
  | some (some (.bt _))=>False
  | some (some (.al _))=>False
  | some (some s)=>D.rt s env
  | _=>False
theorem B2q {D:PEnds}:B2r i D env=A5w env[i]? D env:=rfl
theorem B36 {D:PEnds}:A5w (some (some (.d x))) D env=D.rt (.d x) env:=rfl
theorem B35 {D:PEnds}:A5w (some (some (.own xs))) D env=D.rt (.own xs) env:=rfl
theorem B34 {D:PEnds}:A5w (some (some .st)) D env=D.rt .st env:=rfl
theorem B33 {D:PEnds}:A5w (some (some (.tr t))) D env=D.rt (.tr t) env:=rfl
theorem B68 {Q:PEnv->Prop}:qNil [] env Q=Q env:=rfl
theorem B1w {pg:PyData->PEnv->(PEnv->Prop)->Prop} {pr:List PyData->PEnv->(PEnv->Prop)->Prop} {Q:PEnv->Prop}:B1x pg pr (x :: xs) env Q=pg x env fun e=>pr xs e Q:=rfl
def oPar (i j:Nat) (xs:List PyData) (D:PEnds) (e:PEnv):Prop:=match xs with
  | [x,y]=>D.nx ((e.set i (some (.d x))).set j (some (.d y)))
  | _=>False
theorem B76 {pa:PAr} {D:PEnds}:pPar i j pa D env=pa env fun xs e=>oPar i j xs D e:=rfl
theorem B91 {D:PEnds}:oPar i j [x,y] D e=D.nx ((e.set i (some (.d x))).set j (some (.d y))):=rfl
theorem B6e {k:List PyData->Prop}:L9 (some (some (.own xs))) k=k xs:=rfl
def A2q (o:Option (Option SV)) (i:Nat) (env:PEnv) (Q:List PyData->PEnv->Prop):Prop:=match o with
  | some (some (.d x))=>R4 x fun xs=>Q xs env
  | some (some (.own xs))=>Q xs (env.set i (some (.d (.list xs))))
  | some (some (.bor xs))=>Q xs env
  | _=>False
theorem A8g {Q:List PyData->PEnv->Prop}:A5e i env Q=A2q env[i]? i env Q:=rfl
theorem A8p {Q:List PyData->PEnv->Prop}:A2q (some (some (.d x))) i env Q=R4 x fun xs=>Q xs env:=rfl
theorem A8o {Q:List PyData->PEnv->Prop}:A2q (some (some (.own xs))) i env Q=Q xs (env.set i (some (.d (.list xs)))):=rfl
theorem A8q {Q:List PyData->PEnv->Prop}:A2q (some (some (.bor xs))) i env Q=Q xs env:=rfl
def B90 (xs:List PyData) (Q:List PyData->Prop):Prop:=match xs with
  | [.int j]=>(-(2 ^ 62)<=j/\j < 2 ^ 62)/\Q (rngD 0 j.toNat)
  | _=>False
theorem B2p {pa:PAr} {Q:List PyData->PEnv->Prop}:B73 pa env Q=pa env fun xs e=>B90 xs fun ys=>Q ys e:=rfl
theorem B32 {j:Int} {Q:List PyData->Prop}:B90 [.int j] Q=((-(2 ^ 62)<=j/\j < 2 ^ 62)/\Q (rngD 0 j.toNat)):=rfl
def B9z (xs:List PyData) (Q:List PyData->Prop):Prop:=match xs with
  | [.int i,.int j]=>(-(2 ^ 62)<=i/\i < 2 ^ 62/\-(2 ^ 62)<=j/\j < 2 ^ 62)/\Q (rngD i (j - i).toNat)
  | _=>False
theorem B2o {pa:PAr} {Q:List PyData->PEnv->Prop}:C2e pa env Q=pa env fun xs e=>B9z xs fun ys=>Q ys e:=rfl
theorem B31 {i j:Int} {Q:List PyData->Prop}:B9z [.int i,.int j] Q=((-(2 ^ 62)<=i/\i < 2 ^ 62/\-(2 ^ 62)<=j/\j < 2 ^ 62)/\Q (rngD i (j - i).toNat)):=rfl
def B9y (xs:List PyData) (Q:List PyData->Prop):Prop:=match xs with
  | [.int i,.int j,.int k]=>k=-1/\((-(2 ^ 61)<=i/\i < 2 ^ 61)/\-(2 ^ 61)<=j/\j < 2 ^ 61)/\Q (dwnD i (i - j).toNat)
  | _=>False
theorem B2n {pa:PAr} {Q:List PyData->PEnv->Prop}:C2d pa env Q=pa env fun xs e=>B9y xs fun ys=>Q ys e:=rfl
theorem B30 {i j k:Int} {Q:List PyData->Prop}:B9y [.int i,.int j,.int k] Q=(k=-1/\((-(2 ^ 61)<=i/\i < 2 ^ 61)/\-(2 ^ 61)<=j/\j < 2 ^ 61)/\Q (dwnD i (i - j).toNat)):=rfl
theorem B83 {Q:SV->Prop}:pCat (.list xs) (.list ys) Q=(xs.length + ys.length<=1000000/\Q (.own (xs++ys))):=rfl
theorem B9f {Q:SV->Prop}:pAll [.list ys] Q=∃ bs,blsD ys=some bs/\Q (.d (.bool (bs.all id))):=rfl
theorem B9d {Q:SV->Prop}:pAny [.list ys] Q=∃ bs,blsD ys=some bs/\Q (.d (.bool (bs.any id))):=rfl
def A8n (o:Option (Option SV)) (i:Nat) (env:PEnv) (Q:List PyData->PEnv->Prop):Prop:=match o with
  | some (some (.d x))=>asL x fun xs=>Q xs env
  | some (some (.own xs))=>Q xs (env.set i (some (.d (.list xs))))
  | some (some (.bor xs))=>Q xs env
  | _=>False
theorem B2w {Q:List PyData->PEnv->Prop}:B2x i env Q=A8n env[i]? i env Q:=rfl
theorem B4b {Q:List PyData->PEnv->Prop}:A8n (some (some (.d x))) i env Q=asL x fun xs=>Q xs env:=rfl
theorem B4a {Q:List PyData->PEnv->Prop}:A8n (some (some (.own xs))) i env Q=Q xs (env.set i (some (.d (.list xs)))):=rfl
theorem B4c {Q:List PyData->PEnv->Prop}:A8n (some (some (.bor xs))) i env Q=Q xs env:=rfl
def oZip (xss:List (List PyData)) (Q:List PyData->Prop):Prop:=match xss with
  | [xs,ys]=>Q (zipD xs ys)
  | _=>False
theorem B7t {pa:PEnv->(List (List PyData)->PEnv->Prop)->Prop} {Q:List PyData->PEnv->Prop}:pZip pa env Q=pa env fun xss e=>oZip xss fun ys=>Q ys e:=rfl
theorem B9p {Q:List PyData->Prop}:oZip [xs,ys] Q=Q (zipD xs ys):=rfl
def B93 (xss:List (List PyData)) (Q:List PyData->Prop):Prop:=match xss with
  | [xs]=>Q (A0r xs)
  | _=>False
theorem B29 {pa:PEnv->(List (List PyData)->PEnv->Prop)->Prop} {Q:List PyData->PEnv->Prop}:B8u pa env Q=pa env fun xss e=>B93 xss fun ys=>Q ys e:=rfl
theorem B4g {Q:List PyData->Prop}:B93 [xs] Q=Q (A0r xs):=rfl
def A5v (o:Option (Option SV)) (env:PEnv) (Q:PyData->PEnv->Prop):Prop:=match o with
  | some (some (.d x))=>Q x env
  | some (some (.own xs))=>Q (.list xs) env
  | some (some (.bor xs))=>Q (.list xs) env
  | some (some (.tr t))=>∃ x,t.dat=[x]/\Q x env
  | _=>False
theorem B2k {Q:PyData->PEnv->Prop}:B2l i env Q=A5v env[i]? env Q:=rfl
theorem B3w {Q:PyData->PEnv->Prop}:A5v (some (some (.d x))) env Q=Q x env:=rfl
theorem B3v {Q:PyData->PEnv->Prop}:A5v (some (some (.own xs))) env Q=Q (.list xs) env:=rfl
theorem B3x {Q:PyData->PEnv->Prop}:A5v (some (some (.bor xs))) env Q=Q (.list xs) env:=rfl
theorem B3u {Q:PyData->PEnv->Prop}:A5v (some (some (.tr t))) env Q=∃ x,t.dat=[x]/\Q x env:=rfl
theorem ot_d {k:OT->Prop}:(SV.d x).ot k=k (.leaf x):=rfl
theorem ot_o {k:OT->Prop}:(SV.own xs).ot k=∀ a,k (.nd true a (B9 xs)):=rfl
theorem ot_t {k:OT->Prop}:(SV.tr t).ot k=k t:=rfl
theorem C1t {k:OT->Prop}:asTr (some (some (.tr t))) k=k t:=rfl
theorem C3p {k:PyData->Prop}:(SV.d x).asH k=k x:=rfl
theorem C3o {k:PyData->Prop}:(SV.own xs).asH k=k (.list xs):=rfl
theorem C3n {k:PyData->Prop}:(SV.tr t).asH k=∃ x,t.dat=[x]/\k x:=rfl
def oTrV (o:Option (Option SV)) (env:PEnv) (Q:OT->PEnv->Prop):Prop:=match o with
  | some (some (.d x))=>Q (.leaf x) env
  | some (some (.tr t))=>Q t env
  | some (some (.bt t))=>Q t env
  | _=>False
theorem B7x {Q:OT->PEnv->Prop}:pTrV i env Q=oTrV env[i]? env Q:=rfl
theorem B9w {Q:OT->PEnv->Prop}:oTrV (some (some (.d x))) env Q=Q (.leaf x) env:=rfl
theorem B9v {Q:OT->PEnv->Prop}:oTrV (some (some (.tr t))) env Q=Q t env:=rfl
theorem B9x {Q:OT->PEnv->Prop}:oTrV (some (some (.bt t))) env Q=Q t env:=rfl
def oUnp (o:Option (Option SV)) (a b:Nat) (pr:List PyData->PEnv->(PEnv->Prop)->Prop) (D:PEnds) (env:PEnv):Prop:=match o with
  | some (some (.bt t))=>∃ u v,t.pair=some (u,v)/\D.nx ((env.set a (some u.sv)).set b (some v.sv))
  | some (some (.d x))=>qTup 2 pr x env D.nx
  | _=>False
theorem B7v {a b:Nat} {pr:List PyData->PEnv->(PEnv->Prop)->Prop} {D:PEnds}:pUnp i a b pr D env=oUnp env[i]? a b pr D env:=rfl
theorem B9u {a b:Nat} {pr:List PyData->PEnv->(PEnv->Prop)->Prop} {D:PEnds}:oUnp (some (some (.bt t))) a b pr D env=∃ u v,t.pair=some (u,v)/\D.nx ((env.set a (some u.sv)).set b (some v.sv)):=rfl
theorem B9t {a b:Nat} {pr:List PyData->PEnv->(PEnv->Prop)->Prop} {D:PEnds}:oUnp (some (some (.d x))) a b pr D env=qTup 2 pr x env D.nx:=rfl
def B94 (o:Option (Option SV)) (n:Int) (j:Nat) (D:PEnds) (env:PEnv):Prop:=match o with
  | some (some (.bt t))=>∃ u v,t.pair=some (u,v)/\((n=0/\D.nx (env.set j (some u.sv)))\/(n=1/\D.nx (env.set j (some v.sv))))
  | _=>False
theorem B3k {n:Int} {D:PEnds}:C2y i n j D env=B94 env[i]? n j D env:=rfl
theorem B4h {n:Int} {D:PEnds}:B94 (some (some (.bt t))) n j D env=∃ u v,t.pair=some (u,v)/\((n=0/\D.nx (env.set j (some u.sv)))\/(n=1/\D.nx (env.set j (some v.sv)))):=rfl
class Box (α:Type) where
  f:α->Prop
def hold {α:Type} [b:Box α] (x:α):Prop:=b.f x
theorem A9h {α:Type} {f:α->Prop} {x:α}:@hold α ⟨f⟩ x=f x:=rfl
theorem B3j {psp:PSp} {pa:PAs} {env:PEnv} {Q:SV->PEnv->Prop}:B87 psp pa env Q=pa env fun as e=>psp as (@hold SV ⟨fun s=>Q s e⟩):=rfl
theorem A8j {psp:PSp} {pa pb:PDt} {env:PEnv} {Q:SV->PEnv->Prop}:B85 psp pa pb env Q=pa env fun x e=>pb e fun y e2=>psp [.d x,.d y] (@hold SV ⟨fun s=>∃ b,s=.d (.bool b)/\Q (.d (.bool b)) e2⟩):=rfl
theorem B8h {xs:List PyData} {i:Int} {Q:SV->Prop}:pIx (.list xs) (.int i) Q=pGet xs i (@hold SV ⟨Q⟩):=rfl
theorem B8g {xs:List PyData} {i:Int} {Q:SV->Prop}:pIx (.tuple xs) (.int i) Q=pGet xs i (@hold SV ⟨Q⟩):=rfl
theorem B3e {pi:PAr} {pg:PyData->PEnv->(PEnv->Prop)->Prop} {pt:PTt} {pd:PDt} {cap:List (Option Nat)} {env:PEnv} {Q:SV->PEnv->Prop}:B80 pi pg pt pd cap env Q=pi env fun xs e=>xs.length < 1000000/\L5 xs pg pt pd (J7 cap e) (@hold (List PyData) ⟨fun ys=>Q (.own ys) e⟩):=rfl
theorem A3n {pi:PAr} {pg:PyData->PEnv->(PEnv->Prop)->Prop} {pt:PTt} {pd:PDt} {cap:List (Option Nat)} {i:Nat} {D:PEnds} {env:PEnv}:A2l pi pg pt pd cap i D env=pi env fun xs e=>xs.length < 1000000/\L5 xs pg pt pd (J7 cap e) (@hold (List PyData) ⟨fun ys=>D.nx (e.set i (some (.own ys)))⟩):=rfl
end
end Pu
namespace L2
open PySem PySem.Spec PyProof.Rows
section
variable {X:Cx}
def rInD (K:PySem.W.Frag) (neg:Bool):R2:=fun x y H Q=>∃ dx dy xs,Den K H x dx/\Den K H y dy/\(dy=.list xs\/dy=.tuple xs)/\PyData.canLayAll0 xs=true/\dx.canLay0=true/\dx.depth<=60/\Q (.bl (if neg then !(xs.any fun z=>z.eqv dx) else xs.any fun z=>z.eqv dx)) H
theorem B9k (hu:X.A.units + 64 < cLine):OpR X (compareOp .In) (rInD X.K false):=by
  intro pins s σ H x y v u Q I rx ry h;obtain ⟨dx,dy,xs,h1,h2,h3,c1,c2,hd,q⟩:=h;obtain ⟨as,r1⟩:=h1.reads I rx c2;obtain ⟨bs,r2⟩:=h2.reads I ry (by rcases h3 with rfl | rfl <;> exact c1)
  rcases h3 with rfl | rfl
  · exact PySem.SeqAt.in_list_reads r2 r1 c1 c2 (by omega) ⟨.bl _,H,I,rfl,q⟩
  · exact PySem.SeqAt.in_tuple_reads r2 r1 c1 c2 (by omega) ⟨.bl _,H,I,rfl,q⟩
theorem A5j (hu:X.A.units + 64 < cLine):OpR X (compareOp .NotIn) (rInD X.K true):=by
  intro pins s σ H x y v u Q I rx ry h;obtain ⟨dx,dy,xs,h1,h2,h3,c1,c2,hd,q⟩:=h;obtain ⟨as,r1⟩:=h1.reads I rx c2;obtain ⟨bs,r2⟩:=h2.reads I ry (by rcases h3 with rfl | rfl <;> exact c1)
  rcases h3 with rfl | rfl
  · exact PySem.SeqAt.notIn_list_reads r2 r1 c1 c2 (by omega) ⟨.bl _,H,I,rfl,q⟩
  · exact PySem.SeqAt.notIn_tuple_reads r2 r1 c1 c2 (by omega) ⟨.bl _,H,I,rfl,q⟩
theorem B3n {K:PySem.W.Frag} (h:X.K=K) (hu:X.A.units + 64 < cLine):OpR X (compareOp .In) (rInD K false):=by subst h; exact B9k hu
theorem V0 {K:PySem.W.Frag} (h:X.K=K) (hu:X.A.units + 64 < cLine):OpR X (compareOp .NotIn) (rInD K true):=by subst h; exact A5j hu
end
end L2
namespace Pu
open PySem L2 My Prf
def pIn (neg:Bool) (x y:PyData) (Q:SV->Prop):Prop:=R4 y fun xs=>PyData.canLayAll0 xs=true/\x.canLay0=true/\x.depth<=60/\Q (.d (.bool (if neg then !(xs.any fun z=>z.eqv x) else xs.any fun z=>z.eqv x)))
instance ro_in {K:Frag} {neg:Bool}:RO K (rInD K neg) (pIn neg) where
  ok:=by
    rintro c w env σ x y dx dy Qp Q rfl E vx vy p k;unfold pIn R4 at p;split at p
    · rename_i xs
      exact ⟨dx,_,xs,vx.den E.wok,vy.den E.wok,.inl rfl,p.1,p.2.1,p.2.2.1,k _ _ w (Res.data E (.bl _)) p.2.2.2⟩
    · rename_i xs
      exact ⟨dx,_,xs,vx.den E.wok,vy.den E.wok,.inr rfl,p.1,p.2.1,p.2.2.1,k _ _ w (Res.data E (.bl _)) p.2.2.2⟩
    · exact p.elim
theorem hm_H {w:Wd}:Same (hm w) w.H:=fun _ _ h=>(B0m h).1
instance (priority:=high) re_neH {K:Frag} {ta tb:TE} {pa pb:PDt} [ha:RH K ta pa] [hb:RH K tb pb]:RE K (tOp (rNeD K) ta tb) (pOp pNeD pa pb) where
  ok:=by
    rintro c w env σ Qp Q rfl E p k;refine ha.ok c w env σ _ _ rfl E p fun x dx e1 w1 E1 l1 v1 q1=>?_;refine hb.ok c w1 e1 σ _ _ rfl E1 q1 fun y dy e2 w2 E2 l2 v2 q2=>?_;have v1':VH c.K w2 x dx:=Den.same (C09 l2) v1;exact ⟨dx,dy,Den.same hm_H v1',Den.same hm_H v2,q2.1,q2.2.1,q2.2.2.1,k _ _ e2 w2 ((Res.data E2 (.bl _)).pre (l1.trans l2)) q2.2.2.2⟩
instance (priority:=high) re_eqH {K:Frag} {ta tb:TE} {pa pb:PDt} [ha:RH K ta pa] [hb:RH K tb pb]:RE K (tOp (rEqD K) ta tb) (pOp pEqD pa pb) where
  ok:=by
    rintro c w env σ Qp Q rfl E p k;refine ha.ok c w env σ _ _ rfl E p fun x dx e1 w1 E1 l1 v1 q1=>?_;refine hb.ok c w1 e1 σ _ _ rfl E1 q1 fun y dy e2 w2 E2 l2 v2 q2=>?_;have v1':VH c.K w2 x dx:=Den.same (C09 l2) v1;exact ⟨dx,dy,Den.same hm_H v1',Den.same hm_H v2,q2.1,q2.2.1,q2.2.2.1,k _ _ e2 w2 ((Res.data E2 (.bl _)).pre (l1.trans l2)) q2.2.2.2⟩
def B0i (o:Option (Option SV)) (n:Int) (env:PEnv) (Q:List PyData->PEnv->Prop):Prop:=match o with
  | some (some (.bt t))=>∃ u v xs,t.pair=some (u,v)/\n=1/\v.sv=.bor xs/\Q xs env
  | _=>False
def B8n (i:Nat) (n:Int) (env:PEnv) (Q:List PyData->PEnv->Prop):Prop:=B0i env[i]? n env Q
theorem A8r {t:OT} {n:Int} {env:PEnv} {Q:List PyData->PEnv->Prop}:B0i (some (some (.bt t))) n env Q=∃ u v xs,t.pair=some (u,v)/\n=1/\v.sv=.bor xs/\Q xs env:=rfl
theorem EnvOk.take {c:Ct} {w:Wd} {env:PEnv} {σ:St} {i:Nat} {s:SV} (E:EnvOk c w env σ) (h:env[i]?=some (some s)) (hr:s.isRes=true):∃ v,σ[i]?=some (some v)/\Res c w (env.set i none) σ w v s:=by
  obtain ⟨v,hv,hV⟩:=E.at' i _ h;have up:∀ {j:Nat} {t:SV},(env.set i none)[j]?=some (some t)->i≠j/\env[j]?=some (some t):=by
    intro j t q;rw [List.getElem?_set] at q;split at q
    · split at q <;> cases q
    · rename_i z; exact ⟨z,q⟩
  have E':EnvOk c w (env.set i none) σ:=⟨E.wok,E.le0,by simpa using E.len,fun j s q=>E.at' j s (up q).2,fun j k s t v u a q1 q2=>E.own j k s t v u a (up q1).2 (up q2).2,E.zf,fun a j t u za q=>E.zo a j t u za (up q).2⟩;exact ⟨v,hv,E',Lw.refl w,hV,fun a f=>⟨fun j t u q z g=>(up q).1 (E.own i j _ _ _ _ a h (up q).2 hv z f g),fun za=>E.zo a i _ _ za h hv f⟩,hr⟩
def A8m (o:Option (Option SV)) (i:Nat) (env:PEnv) (k:OT->PEnv->Prop):Prop:=match o with
  | some (some (.d x))=>k (.leaf x) env
  | some (some (.own xs))=>∀ a,k (.nd true a (B9 xs)) (env.set i none)
  | some (some (.tr t))=>k t (env.set i none)
  | _=>False
theorem B39 {x:PyData} {i:Nat} {env:PEnv} {k:OT->PEnv->Prop}:A8m (some (some (.d x))) i env k=k (.leaf x) env:=rfl
theorem B38 {xs:List PyData} {i:Nat} {env:PEnv} {k:OT->PEnv->Prop}:A8m (some (some (.own xs))) i env k=∀ a,k (.nd true a (B9 xs)) (env.set i none):=rfl
theorem B37 {t:OT} {i:Nat} {env:PEnv} {k:OT->PEnv->Prop}:A8m (some (some (.tr t))) i env k=k t (env.set i none):=rfl
def B8x (i:Nat) (pr:PEnv->(OT->PEnv->Prop)->Prop) (env:PEnv) (Q:OT->PEnv->Prop):Prop:=A8m env[i]? i env fun t e1=>pr e1 fun r e2=>(∀ a ∈ r.fp,a ∉ t.fp)->Q (.cons t r) e2
def C2n (i:Nat) (n:Int) (env:PEnv) (Q:SV->PEnv->Prop):Prop:=asTr env[i]? fun t=>∃ (m:Nat) (b:Bool) (a:Addr) (ks:OT) (x:PyData),n=m/\t=.nd b a ks/\ks.kid m=some (.leaf x)/\Q (.d x) env
end Pu
namespace L2
open PySem PySem.Spec PyProof.Rows
section
variable {X:Cx} {tg:Expr}
def Its (x:Str):It:=⟨fun i _=>i < x.cps.size,fun i H v H'=>H'=H/\∃ c,x.cps[i]?=some c/\v=.str ⟨#[c]⟩,fun i _=>x.cps.size<=i⟩
theorem A4d {P:Program} {w:World} {K:PySem.W.Frag} {tg:Expr} (it:Addr) (x:Str) (t:Tok):Turn P w K tg (Its x) [it] it (fun i h=>h.IsStrIter it "str_ascii_iterator" x t i) where
  mem:=by simp
  obj:=fun i h st b hb=>by
    have e:b=it:=by simpa using hb
    subst e;obtain ⟨o,e,c,d⟩:=st;exact ⟨o,e,fun v z=>by rw [d] at z; cases z⟩
  keep:=fun i h h' ⟨o,e,c,d⟩ k=>⟨o,k it (by simp) o e,c,d⟩
  item:=by
    intro X hP hw hK hc i pins s σ H E I hf st hg;subst hP hw hK;have hg:i < x.cps.size:=hg;obtain ⟨f0,f1,f2,f3,f4,f5⟩:=hf it (by simp);refine wpAny_pyNext_ascii_item (c:=x.cps[i]) st (Array.getElem?_eq_getElem hg) fun h' st' sb=>?_;have I1:Inv X pins σ H { s with heap:=h',toks:=s.toks + 1 }:=I.turned (t':=s.toks + 1) (fun b o hb e=>(sb.2 b hb).trans e) f0 f1 f3 f4 f5;obtain ⟨o,e,c,d⟩:=id st';exact ⟨_,rfl,A30 (s:={ s with heap:=h',toks:=s.toks + 1 }) e c d (by decide) ⟨.str ⟨#[x.cps[i]]⟩,H,I1,⟨_,rfl⟩,⟨rfl,_,Array.getElem?_eq_getElem hg,rfl⟩,st',fun b hb=>(hf b hb).1⟩⟩
  done:=by
    intro X hP hw hK hc i pins s σ H E I hf st hg;subst hP hw hK;have hg:x.cps.size<=i:=hg;obtain ⟨f0,f1,f2,f3,f4,f5⟩:=hf it (by simp);exact wpAny_pyNext_ascii_end (I.ok.hd hc) st (Array.getElem?_eq_none hg) fun h' eb=>⟨rfl,I.turned (t':=s.toks) (fun b o hb e=>eb b o hb e) f0 f1 f3 f4 f5⟩
  self:=fun _ _ _ _ _ st h=>wpAny_pyIter_striter_ascii st h
theorem A4c {P:Program} {w:World} {K:PySem.W.Frag} {tg:Expr} (it:Addr) (x:Str) (t:Tok):Turn P w K tg (Its x) [it] it (fun i h=>h.IsStrIter it "str_iterator" x t i) where
  mem:=by simp
  obj:=fun i h st b hb=>by
    have e:b=it:=by simpa using hb
    subst e;obtain ⟨o,e,c,d⟩:=st;exact ⟨o,e,fun v z=>by rw [d] at z; cases z⟩
  keep:=fun i h h' ⟨o,e,c,d⟩ k=>⟨o,k it (by simp) o e,c,d⟩
  item:=by
    intro X hP hw hK hc i pins s σ H E I hf st hg;subst hP hw hK;have hg:i < x.cps.size:=hg;obtain ⟨f0,f1,f2,f3,f4,f5⟩:=hf it (by simp);refine wpAny_pyNext_wide_item (c:=x.cps[i]) st (Array.getElem?_eq_getElem hg) fun h' st' sb=>?_;have I1:Inv X pins σ H { s with heap:=h',toks:=s.toks + 1 }:=I.turned (t':=s.toks + 1) (fun b o hb e=>(sb.2 b hb).trans e) f0 f1 f3 f4 f5;obtain ⟨o,e,c,d⟩:=id st';exact ⟨_,rfl,A30 (s:={ s with heap:=h',toks:=s.toks + 1 }) e c d (by decide) ⟨.str ⟨#[x.cps[i]]⟩,H,I1,⟨_,rfl⟩,⟨rfl,_,Array.getElem?_eq_getElem hg,rfl⟩,st',fun b hb=>(hf b hb).1⟩⟩
  done:=by
    intro X hP hw hK hc i pins s σ H E I hf st hg;subst hP hw hK;have hg:x.cps.size<=i:=hg;obtain ⟨f0,f1,f2,f3,f4,f5⟩:=hf it (by simp);exact wpAny_pyNext_wide_end (I.ok.hd hc) st (Array.getElem?_eq_none hg) fun h' eb=>⟨rfl,I.turned (t':=s.toks) (fun b o hb e=>eb b o hb e) f0 f1 f3 f4 f5⟩
  self:=fun _ _ _ _ _ st h=>wpAny_pyIter_striter_wide st h
def iStr (tl:TE):TI:=fun σ H R=>tl σ H fun x H1=>∃ z,x=.str z/\R (Its z) H1
theorem B7h {l:Expr} {tl:TE} (hl:PE X l tl):PI X tg l (iStr tl):=by
  intro pins s σ H R I h;refine thn (hl pins s σ H _ I h) fun v s1 ⟨x,H1,I1,r1,q1⟩=>?_;obtain ⟨z,rfl,q⟩:=q1;obtain ⟨t,rfl⟩:=r1;refine wpAny_pyIter_strU ?_;have fp:∀ b ∈ [s1.heap.objs.size],FpOk X pins H1 b:=fun b hb=>by
    have e:b=s1.heap.objs.size:=by simpa using hb
    subst e;exact I1.fpOk (Zv _) (I1.hok.fresh (Zv _))
  by_cases ha:(z.cps.all fun x=>decide (x < 128))=true
  · have ty:strIterType z="str_ascii_iterator":=by unfold strIterType; rw [if_pos ha]
    rw [ty];exact ⟨s1.heap.objs.size,[s1.heap.objs.size],_,_,H1,rfl,I1.kept (t':=s1.toks) fun b o e=>Heap.get?_push_of_some _ e,A4d _ z t,⟨_,Heap.get?_push_size _ rfl,rfl,rfl⟩,fp,q⟩
  · have ty:strIterType z="str_iterator":=by unfold strIterType; rw [if_neg ha]
    rw [ty];exact ⟨s1.heap.objs.size,[s1.heap.objs.size],_,_,H1,rfl,I1.kept (t':=s1.toks) fun b o e=>Heap.get?_push_of_some _ e,A4c _ z t,⟨_,Heap.get?_push_size _ rfl,rfl,rfl⟩,fp,q⟩
def A4u:R2:=fun x y H Q=>∃ i j,x=.str i/\y=.str j/\i.length + j.length<=1000/\Q (.str (i++j)) H
theorem B3o:OpR X (binaryOp .Add) A4u:=by
  intro pins s σ H x y v u Q I rx ry h;obtain ⟨i,j,rfl,rfl,l,q⟩:=h;exact A3q pins s σ H _ _ v u Q I rx ry ⟨i,j,rfl,rfl,Zx l (by rw [sizeLine_eq]; decide),q⟩
def B1p (K:PySem.W.Frag):List V->Hp->VK->Prop:=fun xs H Q=>(∃ p ys,xs=[.ref p]/\(SqL K H p ys\/SqT K H p ys)/\Q (.int ys.length) H)\/∃ z,xs=[.str z]/\z.length<=sizeLine/\Q (.int z.length) H
theorem A32 {K:PySem.W.Frag} (h:X.K=K):CallR X (.builtin "len") (B1p K):=by subst h; exact call_len_seq.or A0y
def B1q (K:PySem.W.Frag):V->List V->Hp->VK->Prop:=fun x vs H Q=>∃ sep p zs,x=.str sep/\vs=[.ref p]/\SqL K H p (zs.map V.str)/\(zs.map fun z=>z.length + sep.length).sum<=1000/\Q (.str (sep.join zs)) H
theorem Y4:∀ {zs:List Str} {its:List Value},Vals (zs.map V.str) its->∃ l:List (Str × Tok),its=strValues l/\l.map (·.1)=zs
  | [],_,.nil=>⟨[],rfl,rfl⟩
  | z :: zs,_,.cons r t=>by
    obtain ⟨k,rfl⟩:=r;obtain ⟨l,rfl,e⟩:=Y4 (zs:=zs) t;exact ⟨(z,k) :: l,rfl,by rw [List.map_cons,e]⟩
theorem A2x (k:Nat):∀ (zs:List Str) (a:Nat),List.foldl (fun x1 (x2:Str)=>x1 + x2.length + k) a zs=a + (zs.map fun z=>z.length + k).sum
  | [],a=>by simp
  | z :: zs,a=>by rw [List.foldl_cons,A2x k zs,List.map_cons,List.sum_cons]; omega
theorem A0p (k:Array Nat):∀ (ps:List Str) (a:Array Nat),(List.foldl (fun acc (p:Str)=>acc++k++p.cps) a ps).size=a.size + (ps.map fun z=>z.length + k.size).sum
  | [],a=>by simp
  | p :: ps,a=>by
    rw [List.foldl_cons,A0p k ps,List.map_cons,List.sum_cons,Array.size_append,Array.size_append];show a.size + k.size + p.cps.size + _=a.size + (p.cps.size + k.size + _);omega
theorem A9b {sep:Str}:∀ {zs:List Str},(sep.join zs).length<=(zs.map fun z=>z.length + sep.length).sum:=by
  intro zs;rw [<- StrLaws.glued_eq_join];cases zs with
  | nil=>exact Zv _
  | cons z r =>
    show (List.foldl (fun acc (p:Str)=>acc++sep.cps++p.cps) z.cps r).size<=_;rw [A0p,List.map_cons,List.sum_cons];show z.cps.size + (r.map fun z=>z.length + sep.cps.size).sum<=z.cps.size + sep.cps.size + (r.map fun z=>z.length + sep.cps.size).sum;omega
theorem S2:1000<=sizeLine:=by rw [sizeLine_eq]; decide
theorem B4j:MtR X "str.join" (B1q X.K):=by
  intro pins s σ H x vs v us Q I rx rv h;obtain ⟨sep,p,zs,rfl,rfl,hq,hl,q⟩:=h;obtain ⟨t,rfl⟩:=rx;obtain ⟨u,rfl,ru⟩:=rv.one;cases ru;obtain ⟨its,r,pl,hz⟩:=I.list hq;obtain ⟨l,rfl,e⟩:=Y4 r;have h10:=S2;have long:Builtin.Str.tooLong (Array.foldl (fun x1 x2=>x1 + x2.length + sep.length) 0 (List.map (fun x=>x.fst) l).toArray)=false:=by
    rw [List.foldl_toArray,A2x,e];unfold Builtin.Str.tooLong;simp;omega
  have hj:=A9b (sep:=sep) (zs:=zs);refine call_meets F.slot_str_join (typeIs_str s sep t) F.entry_str_join (F.args_str_join_2 _ _) (meets_str_join_list sep t p l long) ⟨pl.isList,?_⟩;subst e;rw [<- StrLaws.glued_eq_join] at q hj;rcases l with _ | ⟨a,_ | ⟨b,r⟩⟩
  · exact ⟨by omega,.str _,H,I.tok _,⟨_,rfl⟩,q⟩
  · exact ⟨.str _,H,I,⟨_,rfl⟩,q⟩
  · exact ⟨by omega,.str _,H,I.tok _,⟨_,rfl⟩,q⟩
end
end L2
namespace L2
open PySem PySem.Spec PyProof.Rows
section
variable {X:Cx} {tg:Expr} {pos:Pos}
theorem B1s {l:Expr} {tl:TE} (hl:QE X l tl):QI X tg l (iStr tl):=⟨B7h hl.out⟩
theorem A1h {o i:Expr} {to ti:TE} {t:TSet} (ho:QE X o to) (hi:QE X i ti) (hs:PSet X t)
    (ha:∀ v,assign (.Subscript o i pos) X.env v=(do
      let ov <- holding [v] (eval o X.env)
      let iv <- holding [v,ov] (eval i X.env)
      standAt pos
      holding [v,ov,iv] (setItem ov iv v)
      release [v,ov,iv] []):=by intro _; rfl):QG X (.Subscript o i pos) (gSub to ti t):=⟨A2j ho.out hi.out hs ha⟩
theorem A8w {K:PySem.W.Frag} (h:X.K=K):MtR X "str.join" (B1q K):=by subst h; exact B4j
end
end L2
namespace Pu
open PySem L2 My Prf
def asS (x:PyData) (k:Str->Prop):Prop:=match x with
  | .str z=>k z
  | _=>False
theorem C3j {z:Str} {k:Str->Prop}:asS (.str z) k=k z:=rfl
theorem VV.strE {K:Frag} {w:Wd} {v:V} {z:Str} (h:VV K w v (.str z)):v=.str z:=by
  rcases h with h | ⟨l,vs,xs,e,e',_⟩
  · cases h; rfl
  · cases e'
def sgn (c:Nat):PyData:=.str ⟨#[c]⟩
def A4m (z:Str):List PyData:=z.cps.toList.map sgn
def B0d (pd:PDt) (env:PEnv) (Q:List PyData->PEnv->Prop):Prop:=pd env fun x e=>asS x fun z=>Q (A4m z) e
instance ri_str {K:Frag} {tl:TE} {pd:PDt} [hl:RW K tl pd]:RI K (iStr tl) (B0d pd) where
  ok:=by
    rintro c w env σ Qp R rfl E p k;refine hl.ok c w env σ _ _ rfl E p fun v x e1 w1 E1 l1 d1 q1=>?_;unfold asS at q1;split at q1
    · rename_i z
      refine ⟨z,d1.strE,k _ _ e1 w1 E1 l1 (fun w' ok l s=>?_) q1⟩;have hl:(A4m z).length=z.cps.size:=by unfold A4m; rw [Zl,Array.length_toList]
      refine ⟨fun i hi=>by rw [hl] at hi; exact hi,by rw [hl]; exact Zv _,fun i v H' y hi=>?_⟩;obtain ⟨e,cc,h1,rfl⟩:=y;refine ⟨w',sgn cc,e.symm,ok,Le.refl w',?_,.str _⟩;unfold A4m;rw [Zh,Array.getElem?_toList,h1]; rfl
    · exact q1.elim
def pS (gd:Str->Str->PyData) (x y:PyData) (Q:SV->Prop):Prop:=asS x fun i=>asS y fun j=>Q (.d (gd i j))
def B3i (x y:PyData) (Q:SV->Prop):Prop:=asS x fun i=>asS y fun j=>i.length + j.length<=1000/\Q (.d (.str (i++j)))
instance ro_catS {K:Frag}:RO K A4u B3i where
  ok:=by
    rintro c w env σ x y dx dy Qp Q rfl E vx vy p k;unfold B3i asS at p;split at p
    · split at p
      · exact ⟨_,_,vx.strE,vy.strE,p.1,k _ _ w (Res.data E (.str _)) p.2⟩
      · exact p.elim
    · exact p.elim
def B27 (z:Str) (i:Int) (Q:SV->Prop):Prop:=∃ c,atI z.cps.toList i=some c/\Q (.d (sgn c))
def pIx2 (x y:PyData) (Q:SV->Prop):Prop:=match x with
  | .str z=>asI y fun i=>z.length<=1000/\B27 z i Q
  | x=>pIx x y Q
theorem B8l {xs:List PyData} {y:PyData} {Q:SV->Prop}:pIx2 (.list xs) y Q=pIx (.list xs) y Q:=rfl
theorem B8i {xs:List PyData} {y:PyData} {Q:SV->Prop}:pIx2 (.tuple xs) y Q=pIx (.tuple xs) y Q:=rfl
theorem B8k {q:Rat} {y:PyData} {Q:SV->Prop}:pIx2 (dq q) y Q=pIx (dq q) y Q:=rfl
theorem B8m {q:Rat × Rat} {y:PyData} {Q:SV->Prop}:pIx2 (dcn q) y Q=pIx (dcn q) y Q:=rfl
theorem B8j {z:Str} {i:Int} {Q:SV->Prop}:pIx2 (.str z) (.int i) Q=(z.length<=1000/\B27 z i Q):=rfl
instance (priority:=high) ro_ix2 {K:Frag}:RO K (rIx K) pIx2 where
  ok:=by
    rintro c w env σ x y dx dy Qp Q rfl E vx vy p k;unfold pIx2 at p;split at p
    · unfold asI at p
      split at p
      · obtain ⟨hl,cc,h1,q⟩:=p
        exact .inr (.inr ⟨_,_,cc,vx.strE,vy.intE,Zx hl S2,h1,k _ _ w (Res.data E (.str _)) q⟩)
      · exact p.elim
    · exact ro_ix.ok c w env σ x y dx dy Qp Q rfl E vx vy p k
def A3o (xs:List PyData) (Q:SV->Prop):Prop:=match xs with
  | [.list ys]=>Q (.d (.int ys.length))
  | [.tuple ys]=>Q (.d (.int ys.length))
  | [.str z]=>z.length<=1000/\Q (.d (.int z.length))
  | _=>False
theorem B23 {ys:List PyData} {Q:SV->Prop}:A3o [.list ys] Q=Q (.d (.int ys.length)):=rfl
theorem B20 {ys:List PyData} {Q:SV->Prop}:A3o [.tuple ys] Q=Q (.d (.int ys.length)):=rfl
theorem B22 {q:Rat} {Q:SV->Prop}:A3o [dq q] Q=Q (.d (.int 2)):=rfl
theorem B21 {z:Str} {Q:SV->Prop}:A3o [.str z] Q=(z.length<=1000/\Q (.d (.int z.length))):=rfl
instance rb_len2 {K:Frag}:RB K (B1p K) A3o where
  ok:=by
    rintro c w env σ vs xs Qp Q rfl E vv p k;unfold A3o at p;split at p
    · cases vv with | cons h t=>cases t; obtain ⟨a,us,e,h1,h2⟩:=h.lst E.wok; exact .inl ⟨a,us,by rw [e],.inl h1,by rw [h2.len]; exact k _ _ w (Res.data E (.int _)) p⟩
    · cases vv with | cons h t=>cases t; obtain ⟨a,us,e,h1,h2⟩:=h.tup E.wok; exact .inl ⟨a,us,by rw [e],.inr h1,by rw [h2.len]; exact k _ _ w (Res.data E (.int _)) p⟩
    · cases vv with | cons h t=>cases t; exact .inr ⟨_,by rw [h.strE],Zx p.1 S2,k _ _ w (Res.data E (.int _)) p.2⟩
    · exact p.elim
def A1b:List PyData->Option (List Str)
  | []=>some []
  | .str z :: r=>(A1b r).map (z :: ·)
  | _=>none
theorem Y5 {K:Frag} {F:Hpp}:∀ {vs:List V} {xs:List PyData} {zs:List Str},DenAll K F vs xs->A1b xs=some zs->vs=zs.map V.str
  | _,_,zs,.nil,h=>by cases h; rfl
  | _,x :: r,zs,.cons d t,h=>by
    cases d with
    | str z =>
      have h:(A1b r).map (z :: ·)=some zs:=h;cases q:A1b r with
      | none=>rw [q] at h; cases h
      | some ys=>rw [q] at h; cases h; rw [Y5 t q]; rfl
    | non=>cases h
    | bl=>cases h
    | int=>cases h
    | lst=>cases h
    | tup=>cases h
    | dct=>cases h
def B8f (po pa:PDt) (env:PEnv) (Q:SV->PEnv->Prop):Prop:=po env fun x e=>asS x fun sep=>pa e fun y e2=>asL y fun ys=>∃ zs,A1b ys=some zs/\(zs.map fun z=>z.length + sep.length).sum<=1000/\Q (.d (.str (sep.join zs))) e2
instance re_join {K:Frag} {to ta:TE} {po pa:PDt} [ho:RW K to po] [ha:RW K ta pa]:RE K (tBM K "str" (B1q K) to (K6 ta tNil)) (B8f po pa) where
  ok:=by
    rintro c w env σ Qp Q rfl E p k;refine ho.ok c w env σ _ _ rfl E p fun v x e1 w1 E1 l1 d1 q1=>?_;unfold asS at q1;split at q1
    · rename_i sep
      have ev:=d1.strE;subst ev;refine ⟨rfl,ha.ok c w1 e1 σ _ _ rfl E1 q1 fun u y e2 w2 E2 l2 d2 q2=>?_⟩;unfold asL at q2;split at q2
      · obtain ⟨zs,hz,hl,q⟩:=q2
        obtain ⟨a,us,e,h1,h2⟩:=d2.lst E2.wok;exact ⟨sep,a,zs,rfl,by rw [e],by rw [<- Y5 h2 hz]; exact h1,hl,k _ _ e2 w2 ((Res.data E2 (.str _)).pre (l1.trans l2)) q⟩
      · exact q2.elim
    · exact q1.elim
def B7z (pd:PDt) (i:Nat) (pi:PDt) (D:PEnds) (env:PEnv):Prop:=pd env fun x e=>L9 e[i]? fun _=>pi e fun y e2=>asI y fun n=>L9 e2[i]? fun xs=>∃ j,ixN xs.length n=some j/\D.nx (e2.set i (some (.own (xs.set j x))))
theorem DenAll.setAt {K:Frag} {F:Hpp} {v:V} {x:PyData} (d:Den K F v x):∀ {vs:List V} {xs:List PyData} (j:Nat),DenAll K F vs xs->DenAll K F (vs.set j v) (xs.set j x)
  | _,_,_,.nil=>.nil
  | _,_,0,.cons _ t=>.cons d t
  | _,_,j + 1,.cons h t=>.cons h (DenAll.setAt d j t)
instance rs_setI {K:Frag} {i:Nat} {te ti:TE} {pd pi:PDt} [he:RD K te pd] [hi:RW K ti pi]:RS K (tAsg te (gSub (tVar i) ti B62)) (B7z pd i pi) where
  ok:=by
    rintro c w env σ Dp D rfl E h p;refine he.ok c w env σ _ _ rfl E p fun v x e1 w1 E1 l1 d1 q1=>?_;unfold L9 at q1;split at q1
    · rename_i xs0 e0
      obtain ⟨o,g0,l,vs,ev,h1,h2,h3,h4,h5⟩:=E1.at' i _ e0;subst ev;refine ⟨_,g0,hi.ok c w1 e1 σ _ _ rfl E1 q1 fun u y e2 w2 E2 l2 d2 q2=>?_⟩;unfold asI at q2;split at q2
      · rename_i n
        split at q2
        · rename_i xs e
          obtain ⟨j,hj,q2⟩:=q2;obtain ⟨o',g0',l',vs',ev',k1,k2,k3,k4,k5⟩:=E2.at' i _ e;rw [g0] at g0'; cases g0'; cases ev';have hn:=d2.intE;refine ⟨l,vs',n,j,rfl,hn,k1,by rw [k5.len]; exact hj,?_⟩;exact h.nx _ σ ⟨w2.M,upd w2.H l (.lst (vs'.set j v)),w2.F⟩ (E2.write e g0 k1 k2 k3 k4 (DenAll.setAt (Den.same l2.f d1) j k5)) (l1.f.trans l2.f) q2
        · exact q2.elim
      · exact q2.elim
    · exact q1.elim
def C2u (env:PEnv) (Q:SV->PEnv->Prop):Prop:=Q (.d (.dict [])) env
def B8v (key:Key) (y:V) (env:PEnv) (Q:SV->PEnv->Prop):Prop:=Q (.d (.dict [B53 (key,y)])) env
theorem B5b:kitB "int" "int"=some true:=by decide +kernel
theorem B5c:kitB "int" "bool"=some false:=by decide +kernel
theorem B49:kitB "int" "tuple"=some false:=by decide +kernel
theorem B5a:kitB "int" "str"=some false:=by decide +kernel
theorem B5j:kitB "bool" "int"=some true:=by decide +kernel
theorem B5k:kitB "bool" "bool"=some true:=by decide +kernel
theorem B5h:kitB "bool" "tuple"=some false:=by decide +kernel
theorem B5i:kitB "bool" "str"=some false:=by decide +kernel
theorem B43:kitB "NoneType" "int"=some false:=by decide +kernel
theorem B44:kitB "NoneType" "bool"=some false:=by decide +kernel
theorem B41:kitB "NoneType" "tuple"=some false:=by decide +kernel
theorem B42:kitB "NoneType" "str"=some false:=by decide +kernel
theorem B4z:kitB "str" "int"=some false:=by decide +kernel
theorem B40:kitB "str" "bool"=some false:=by decide +kernel
theorem B4x:kitB "str" "tuple"=some false:=by decide +kernel
theorem B4y:kitB "str" "str"=some true:=by decide +kernel
theorem B47:kitB "list" "int"=some false:=by decide +kernel
theorem B48:kitB "list" "bool"=some false:=by decide +kernel
theorem B45:kitB "list" "tuple"=some false:=by decide +kernel
theorem B46:kitB "list" "str"=some false:=by decide +kernel
theorem B4v:kitB "tuple" "int"=some false:=by decide +kernel
theorem B4w:kitB "tuple" "bool"=some false:=by decide +kernel
theorem B4t:kitB "tuple" "tuple"=some true:=by decide +kernel
theorem B4u:kitB "tuple" "str"=some false:=by decide +kernel
theorem B5f:kitB "dict" "int"=some false:=by decide +kernel
theorem B5g:kitB "dict" "bool"=some false:=by decide +kernel
theorem B5d:kitB "dict" "tuple"=some false:=by decide +kernel
theorem B5e:kitB "dict" "str"=some false:=by decide +kernel
theorem A7p {kvs:List (PyData × PyData)}:tyD (.dict kvs)="dict":=rfl
def B82 (pr pr':PyData->PyData->(SV->Prop)->Prop) (pa pb pc:PDt) (env:PEnv) (Q:SV->PEnv->Prop):Prop :=
  pa env fun x e1=>pb e1 fun y e2=>pr x y fun s=>s.asD fun b=>asB b fun k=>if k=true then pc e2 fun z e3=>pr' y z fun s2=>Q s2 e3 else Q (.d (.bool false)) e2
end Pu
namespace L2
open PySem PySem.Spec PyProof.Rows
section
variable {prog:Program} {w:World} {A:Around} {E:Value->Shared->Prop} {h:Heap} {g:Array GenState} {d:Drawn} {t:Nat} {os:OsState} {a C:Addr} {o:Obj} {vs:Array Value} {K:PySem.W.Frag}
end
end L2
namespace L2
open PySem PySem.Spec PyProof.Rows
section
variable {P:Program} {w:World} {outer:List Env} {H H':Hp} {s s':Shared} {a:Addr} {cls a0:Value} {B:Heap}
end
section
variable {P:Program} {w:World} {K:PySem.W.Frag} {mg:Str->Option Value} {base:Heap} {N:List Str} {qual:Str} {scope:Scope} {f:Addr} {cd:Value} {A:Around} {outer:List Env} {s0:Shared} {H0:Hp} {E:XK}
end
end L2
namespace L2
open PySem PySem.Spec PyProof.Rows
section
variable {X:Cx} {E:XK} {x:Str} {C:Addr} {pos np cpos:Pos} {e:Expr} {es:List Expr} {t:TA}
end
section
variable {X:Cx} {pins:List (Addr × Obj)} {σ:St} {H:Hp} {s:Shared} {a:Addr} {oe:Obj}
end
end L2
namespace L2
open PySem PySem.Spec PyProof.Rows
section
variable {P:Program} {w:World} {outer:List Env} {H H':Hp} {s s':Shared} {a:Addr} {cls a0:Value} {B:Heap}
end
section
variable {X:Cx} {pins:List (Addr × Obj)} {σ:St} {H H':Hp} {s s':Shared} {a:Addr} {cls a0:Value} {B:Heap}
end
section
variable {X:Cx} {k i:Nat} {f C CH:Addr} {fd:FuncData} {ps:List Str} {sp:Sp} {x xh n:Str} {p pos pos2 pos3 pos4 pos5:Pos} {e:Expr} {es:List Expr} {t:TA} {b0:Stmt} {suite:List Stmt} {b:Bool}
end
end L2
namespace L2
open PySem PySem.Spec PyProof.Rows
section
variable {X:Cx} {a C:Addr} {oe:Obj} {i:Nat} {b:Bool}
inductive ClV:V->Value->Prop
  | own (c:Addr):ClV (.ref c) (.ref c)
  | ty (c:String):ClV (.ty c) (.type c)
theorem ClV.get {c:V} {u cv:Value} (h:ClV c cv) (r:RelV c u):u=cv:=by
  cases h with
  | own c=>exact r
  | ty c=>exact r
inductive ClVs:List V->List Value->Prop
  | nil:ClVs [] []
  | cons {c:V} {cv:Value} {r:List V} {s:List Value}:ClV c cv->ClVs r s->ClVs (c :: r) (cv :: s)
theorem ClVs.get:∀ {cs:List V} {us cvs:List Value},ClVs cs cvs->Vals cs us->us=cvs
  | [],_,_,.nil,.nil=>rfl
  | _ :: _,_,_,.cons h t,.cons r s=>by rw [h.get r,t.get s]
end
end L2
namespace L2
open PySem PySem.Spec PyProof.Rows
section
variable {X:Cx}
variable {k i:Nat} {f C CH:Addr} {fd:FuncData} {ps:List Str} {sp:Sp} {x xh n:Str} {p pos pos2 pos3 pos4 pos5:Pos} {e:Expr} {es:List Expr} {t:TA} {b0:Stmt} {suite:List Stmt} {b:Bool}
end
end L2
namespace Pu
open PySem PySem.Spec PyProof.Rows L2 My Prf
end Pu
namespace L2
open PySem PySem.Spec PyProof.Rows
theorem us0:∀ {us:List Value},us.length=0->us=[]
  | [],_=>rfl
theorem usS {n:Nat}:∀ {us:List Value},us.length=n + 1->∃ a r,us=a :: r/\r.length=n
  | a :: r,h=>⟨a,r,rfl,Nat.succ.inj h⟩
theorem us1 {us:List Value} (h:us.length=1):∃ a,us=[a]:=by
  obtain ⟨a,r,e,k⟩:=usS h;exact ⟨a,by rw [e,us0 k]⟩
theorem us2 {us:List Value} (h:us.length=2):∃ a b,us=[a,b]:=by
  obtain ⟨a,r,e,k⟩:=usS h; obtain ⟨b,z⟩:=us1 k; exact ⟨a,b,by rw [e,z]⟩
theorem us3 {us:List Value} (h:us.length=3):∃ a b c,us=[a,b,c]:=by
  obtain ⟨a,r,e,k⟩:=usS h; obtain ⟨b,c,z⟩:=us2 k; exact ⟨a,b,c,by rw [e,z]⟩
theorem us4 {us:List Value} (h:us.length=4):∃ a b c d,us=[a,b,c,d]:=by
  obtain ⟨a,r,e,k⟩:=usS h; obtain ⟨b,c,d,z⟩:=us3 k; exact ⟨a,b,c,d,by rw [e,z]⟩
theorem us5 {us:List Value} (h:us.length=5):∃ a b c d x,us=[a,b,c,d,x]:=by
  obtain ⟨a,r,e,k⟩:=usS h; obtain ⟨b,c,d,x,z⟩:=us4 k; exact ⟨a,b,c,d,x,by rw [e,z]⟩
theorem us6 {us:List Value} (h:us.length=6):∃ a b c d x y,us=[a,b,c,d,x,y]:=by
  obtain ⟨a,r,e,k⟩:=usS h; obtain ⟨b,c,d,x,y,z⟩:=us5 k; exact ⟨a,b,c,d,x,y,by rw [e,z]⟩
end L2
namespace L2
open PySem PySem.Spec PyProof.Rows
def rngV (n:Nat):List V:=(List.range n).map fun k:Nat=>V.int (0 + (k:Int))
theorem A12:∀ {xs:List V} {us:List Value},xs.length=us.length->(∀ (i:Nat) x u,xs[i]?=some x->us[i]?=some u->RelV x u)->Vals xs us
  | [],[],_,_=>.nil
  | x :: xs,u :: us,h,k=>.cons (k 0 x u rfl rfl) (A12 (Nat.succ.inj h) fun i y v e1 e2=>k (i + 1) y v e1 e2)
theorem A7l {n:Nat} {acc:Array Value} (h:ItemsOf (fun i v=>∃ t,v=.int (0 + (i:Int) * 1) t) acc n):Vals (rngV n) acc.toList:=by
  refine A12 (by simp [rngV,h.1]) fun i x u hx hu=>?_;unfold rngV at hx;rw [Zh] at hx;cases q:(List.range n)[i]? with
  | none=>rw [q] at hx; cases hx
  | some k =>
    rw [q] at hx;have hk:k=i:=by
      obtain ⟨h1,h2⟩:=Zs q;rw [List.getElem_range] at h2; exact h2.symm
    subst hk;have hx':V.int (0 + (k:Int))=x:=Zj hx;subst hx';obtain ⟨t,e⟩:=h.2 k u (by rw [<- Array.getElem?_toList]; exact hu);exact ⟨t,by rw [e,Int.mul_one]⟩
def tRng (ta:TA):TE:=fun σ H Q=>ta σ H fun vs H1=>∃ n:Int,vs=[.int n]/\∀ r,H1 r=none->Q (.ref r) (upd H1 r (.rng 0 n))
def A4s:List V->Hp->VK->Prop:=fun xs H Q=>∃ (r:Addr) (n:Int),xs=[.ref r]/\H r=some (.rng 0 n)/\0<=n/\n<=1000/\∀ p,H p=none->Q (.ref p) (upd H p (.lst (rngV n.toNat)))
section
variable {X:Cx}
theorem A7z {a:Expr} {ta:TA} {p2 pos2:Pos} (hg:Gl X "range") (hm:X.mg "range"=none) (ha:QA X [a] ta) (hs:starEach [a] X.env=[(false,eval a X.env)]:=by rfl):QE X (.Call (.Name "range" p2) [a] [] pos2) (tRng ta):=by
  refine ⟨fun pins s σ H Q I h=>?_⟩;refine Call_ (Q6 I hg hm boot_range (PyProof.Rows.callWith_type1 (thn (ha.out pos2 pins s σ H _ I h) fun us s1 ⟨vs,H1,I1,r1,q1⟩=>?_) hs rfl));obtain ⟨n,e,q⟩:=q1;subst e;cases r1 with
  | cons r rr =>
    cases rr;obtain ⟨t,rfl⟩:=r;refine call_range_1 ⟨.ref s1.heap.objs.size,_,I1.laid (t':=s1.toks + 1 + 1) (fun b o e=>Heap.get?_push_of_some _ e) (Zv _) ?_,rfl,q _ (I1.hok.fresh (Zv _))⟩;exact ⟨_,_,_,Heap.get?_push_size _ rfl⟩
theorem A1s (hc:X.calm=true):CallR X (.type "list") A4s:=by
  intro pins s σ H xs us Q I r h;obtain ⟨a,n,rfl,hr,n0,n1,q⟩:=h;obtain ⟨u,rfl,rx⟩:=A09 r;cases rx;obtain ⟨t,u,v,e⟩:=(show ObjOk X.prog X.w H s.heap a (.rng 0 n) from I.hok a _ hr);refine call_list_range (n:=n.toNat) (I.ok.hd hc) e (small_one (by omega) (by omega) (by omega) (by omega)) (by rw [rangeSize_one]; split <;> omega) (by omega) fun h' tk acc' c' kp e' it=>?_
  refine ⟨.ref s.heap.objs.size,_,I.laid (t':=tk) kp (Zv _) (show ObjOk X.prog X.w _ h' _ (.lst (rngV n.toNat)) from ⟨?_,acc'.toList,c',A7l it,e'⟩),rfl,q _ (I.hok.fresh (Zv _))⟩;simp only [rngV,List.length_map,List.length_range];exact Zx (by omega:n.toNat<=1000) S2
end
end L2
namespace Pu
open PySem L2 My Prf
theorem B58 {K:Frag} {F:Hpp} (n:Nat):DenAll K F (rngV n) (rngD 0 n):=by
  unfold rngV rngD;generalize List.range n=l;induction l with
  | nil=>exact .nil
  | cons k r ih=>exact .cons (.int _) ih
def B2y (pa:PAr) (env:PEnv) (Q:SV->PEnv->Prop):Prop:=pa env fun xs e=>∃ n:Int,xs=[.int n]/\0<=n/\n<=1000/\Q (.own (rngD 0 n.toNat)) e
instance re_lstRng {K:Frag} {ta:TA} {pa:PAr} [ha:RAv K ta pa]:RE K (tCB A4s (K6 (tRng ta) tNil)) (B2y pa) where
  ok:=by
    rintro c w env σ Qp Q rfl E p k;refine ha.ok c w env σ _ _ rfl E p fun vs xs e1 w1 E1 l1 v1 q1=>?_;obtain ⟨n,rfl,n0,n1,q⟩:=q1;have ev:vs=[.int n]:=by
      cases v1 with
      | cons h t=>cases t; rw [h.intE]
    subst ev;refine ⟨n,rfl,fun r hr=>⟨r,n,rfl,C6,n0,n1,fun p hp=>?_⟩⟩;have E2:EnvOk c (w1.lay r (.rng 0 n)) e1 σ:=E1.mono (Wd.lay_ok E1.wok hr) (Wd.lay_le hr);exact k _ _ e1 _ ((Res.lst E2 hp (B58 _)).pre (l1.trans (Wd.lay_le hr).toLw)) q
def pRep (pe:PX) (pb:PDt) (env:PEnv) (Q:SV->PEnv->Prop):Prop:=pe env fun s e=>∃ xs,s=.own xs/\pb e fun y e2=>∃ n:Int,y=.int n/\0<=n/\n<=1000/\xs.length<=1000/\Q (.own (List.replicate n.toNat xs).flatten) e2
theorem B6y {k len:Nat} (h:k < len):PySem.seqIndex? (k:Int) len=some k:=by
  unfold PySem.seqIndex?;have h1:¬ ((k:Int) < 0):=by omega
  have h2:(decide ((0:Int)<=(k:Int)) && decide ((k:Int) < (len:Int)))=true:=by simp; omega
  simp only [h1,if_false,h2,if_true,Int.toNat_natCast]
theorem A0s {K:Frag} {F:Hpp}:∀ {vs:List V} {xs:List PyData} (_:DenAll K F vs xs) (k:Nat),DenAll K F (vs.eraseIdx k) (xs.eraseIdx k)
  | _,_,.nil,_=>.nil
  | _,_,.cons h t,0=>t
  | _,_,.cons h t,k + 1=>.cons h (A0s t k)
def A5g (i j:Nat) (pd:PDt) (D:PEnds) (env:PEnv):Prop:=i≠j/\L9 env[i]? fun _=>L9 env[j]? fun _=>pd env fun x e=>L9 e[i]? fun xs=>L9 e[j]? fun ys=>∃ (k:Nat) (y:PyData),x=.int k/\ys[k]?=some y/\xs.length < 1000000/\ys.length < 1000000/\D.nx ((e.set j (some (.own (ys.eraseIdx k)))).set i (some (.own (xs++[y]))))
instance rs_appPop {K:Frag} {i j:Nat} {te:TE} {pd:PDt} [he:RD K te pd]:RS K (A3d (tBM K "list" A1f (tVar i) (K6 (tBM K "list" A97 (tVar j) (K6 te tNil)) tNil))) (A5g i j pd) where
  ok:=by
    rintro c w env σ Dp D rfl E h ⟨hij,p⟩;unfold L9 at p;split at p
    · rename_i xs0 e0
      split at p
      · rename_i ys0 f0
        obtain ⟨v,g0,l,vs,ev,h1,h2,h3,h4,h5⟩:=E.at' i _ e0;subst ev;obtain ⟨v',g1,m,us,ev',k1,k2,k3,k4,k5⟩:=E.at' j _ f0;subst ev';refine ⟨_,g0,.inl ⟨rfl,_,SqL.of h1⟩,_,g1,.inl ⟨rfl,_,SqL.of k1⟩,?_⟩;refine he.ok c w env σ _ _ rfl E p fun z x e1 w1 E1 l1 d1 q1=>?_;split at q1
        · rename_i xs e2
          split at q1
          · rename_i ys f2
            obtain ⟨k,y,rfl,hy,b1,b2,q⟩:=q1;obtain ⟨v2,g2,l',vs',ev2,a1,a2,a3,a4,a5⟩:=E1.at' i _ e2;rw [g0] at g2; cases g2; cases ev2;obtain ⟨v3,g3,m',us',ev3,c1,c2,c3,c4,c5⟩:=E1.at' j _ f2;rw [g1] at g3; cases g3; cases ev3;have hz:z=.int k:=Den.intE d1;subst hz;obtain ⟨hk,_⟩:=Zs hy;have hl:=c5.len;have hku:k < us'.length:=by omega
            obtain ⟨y',hy',dy⟩:=c5.get (Zg hku);rw [hy] at hy'; cases hy';have hml:m≠l:=fun z=>by
              subst z;exact hij (E1.own i j _ _ _ _ m e2 f2 g0 g1 rfl rfl)
            refine ⟨m,us',k,k,us'[k],rfl,rfl,c1,by omega,by omega,B6y hku,Zg hku,?_⟩;have E2:=E1.write f2 g1 c1 c2 c3 c4 (A0s c5 k);have e3:(e1.set j (some (.own (ys.eraseIdx k))))[i]?=some (some (.own xs)):=by rw [List.getElem?_set_ne (Ne.symm hij)]; exact e2
            obtain ⟨v4,g4,l4,vs4,ev4,b1',b2',b3',b4',b5'⟩:=E2.at' i _ e3;rw [g0] at g4; cases g4; cases ev4;have ha:upd w1.H m (.lst (us'.eraseIdx k)) l=some (.lst vs'):=by rw [C7 (Ne.symm hml)]; exact a1
            refine ⟨l,vs',us'[k],rfl,rfl,ha,by rw [a5.len]; exact Y7 b1,?_⟩;have hv:vs4=vs':=by
              have:=b1';rw [show (Wd.mk w1.M (upd w1.H m (.lst (us'.eraseIdx k))) w1.F).H=upd w1.H m (.lst (us'.eraseIdx k)) from rfl,ha] at this;cases this; rfl
            subst hv;exact h.nx _ σ _ (E2.write e3 g0 b1' b2' b3' b4' (b5'.app (.cons dy .nil))) l1.f q
          · exact q1.elim
        · exact q1.elim
      · exact p.elim
    · exact p.elim
end Pu
namespace L2
open PySem PySem.Spec PyProof.Rows
section
variable {prog:Program} {w:World} {A:Around} {E:Value->Shared->Prop} {s:Shared}
end
section
variable {prog:Program} {w:World} {A:Around} {E:Value->Shared->Prop} {s:Shared} {R:Result->Shared->Prop} {us vs:Array Value}
end
section
variable {prog:Program} {w:World} {A:Around} {E:Value->Shared->Prop} {s:Shared} {us vs:Array Value}
end
section
variable {X:Cx} {pins:List (Addr × Obj)} {σ:St} {H:Hp} {s:Shared}
end
section
variable {X:Cx}
end
end L2
namespace Pu
open PySem L2 My Prf
def B2v (pa:PEnv->(List (List PyData)->PEnv->Prop)->Prop) (env:PEnv) (Q:SV->PEnv->Prop):Prop:=pa env fun xss e=>∃ xs ys,xss=[xs,ys]/\xs.length<=1000/\Q (.own (zipD xs ys)) e
end Pu
namespace L2
open PySem PySem.Spec PyProof.Rows
def A1e (K:PySem.W.Frag):V->List V->Hp->VK->Prop:=fun x vs H Q=>∃ y d xs j,vs=[y]/\Den K H x (.list xs)/\Den K H y d/\PyData.canLayAll0 xs=true/\d.canLay0=true/\d.depth<=60/\xs.length<=1000/\xs.findIdx? (fun z=>z.eqv d)=some j/\Q (.int j) H
section
variable {X:Cx}
theorem A5y (hu:X.A.units + 64 < cLine):MtR X "list.index" (A1e X.K):=by
  intro pins s σ H x vs v us Q I rx rv h;obtain ⟨y,d,xs,j,rfl,h1,h2,c1,c2,hd,hl,hj,q⟩:=h;obtain ⟨u,rfl,ru⟩:=rv.one;obtain ⟨as,r1⟩:=h1.reads I rx c1;obtain ⟨bs,r2⟩:=h2.reads I ru c2;cases r1 with
  | list e1 e2 e3 e4 =>
    rename_i l o vs n ns;have em:=PySem.SeqAt.readsAll_map xs _ _ c1 e4;have hsz:vs.size=xs.length:=by rw [<- em,Zl,Array.length_toList]
    obtain ⟨hjl,hjt,hjn⟩:=List.findIdx?_eq_some_iff_getElem.mp hj;have at':∀ m (hm:m < vs.size),PySem.SeqAt.readOf s.heap vs[m]=xs[m]'(by omega):=fun m hm=>by
      have:(vs.toList.map (PySem.SeqAt.readOf s.heap))[m]?=xs[m]?:=by rw [em]
      rw [Zh,Array.getElem?_toList,Array.getElem?_eq_getElem hm,Zg (by omega)] at this;exact Zj this
    obtain ⟨cl,dd,dt,sl⟩:=o;have e2':cl=.type "list":=e2;have e3':dt=.seq vs n:=e3;subst e2' e3';refine call_meets PySem.F.slot_list_index ⟨_,e1,rfl⟩ PySem.F.entry_list_index (PySem.F.args_list_index_2 _ _) (PySem.SeqAt.list_indexAt l vs n dd sl u (fun z=>PyData.eqv (PySem.SeqAt.readOf s.heap z) d) j (by omega) (by omega) (by rw [at' j (by omega)]; exact hjt) (fun m hm hlt=>by
      rw [at' m hm];exact Bool.eq_false_iff.mpr (hjn m hlt))) ⟨e1,PySem.SeqAt.items_eqAt e4 r2 c1 c2 (by omega),?_⟩
    exact ⟨.int j,H,I.tok _,⟨_,rfl⟩,q⟩
theorem A3x {K:PySem.W.Frag} (h:X.K=K) (hu:X.A.units + 64 < cLine):MtR X "list.index" (A1e K):=by subst h; exact A5y hu
end
end L2
namespace Pu
open PySem L2 My Prf
def pIdx (po pa:PDt) (env:PEnv) (Q:SV->PEnv->Prop):Prop:=po env fun x e=>asL x fun xs=>pa e fun d e2=>PyData.canLayAll0 xs=true/\d.canLay0=true/\d.depth<=60/\xs.length<=1000/\∃ j:Nat,xs.findIdx? (fun z=>z.eqv d)=some j/\Q (.d (.int (j:Int))) e2
instance re_idx {K:Frag} {to ta:TE} {po pa:PDt} [ho:RW K to po] [ha:RD K ta pa]:RE K (tBM K "list" (A1e K) to (K6 ta tNil)) (pIdx po pa) where
  ok:=by
    rintro c w env σ Qp Q rfl E p k;refine ho.ok c w env σ _ _ rfl E p fun v x e1 w1 E1 l1 d1 q1=>?_;unfold asL at q1;split at q1
    · rename_i xs
      obtain ⟨a,us,e,h1,h2⟩:=d1.lst E1.wok;subst e;refine ⟨.inl ⟨rfl,_,h1⟩,ha.ok c w1 e1 σ _ _ rfl E1 q1 fun u y e2 w2 E2 l2 d2 q2=>?_⟩;obtain ⟨c1,c2,hd,hl,j,hj,q⟩:=q2;exact ⟨u,y,xs,j,rfl,(d1.mono l2).den E2.wok,Den.same E2.wok.sub d2,c1,c2,hd,hl,hj,k _ _ e2 w2 ((Res.data E2 (.int _)).pre (l1.trans l2)) q⟩
    · exact q1.elim
end Pu
namespace L2
open PySem PySem.Spec PyProof.Rows
def B1l (d:PyData):Prop:=(d.canLay0=true/\d.showable=true/\d.hasDict=false\/d=.dict [])/\d.depth<=60/\d.shown.length<=sizeLine
section
variable {X:Cx}
end
end L2
namespace Pu
open PySem L2 My Prf
def C2g (pa:PDt) (env:PEnv) (Q:SV->PEnv->Prop):Prop:=pa env fun d e=>B1l d/\Q (.d (.str d.shown)) e
end Pu
namespace L2
open PySem PySem.Spec PyProof.Rows
def B6p (n:Nat) (i j:Int):List Nat:=sliceRange (sliceBounds (some i) none (some j) n).1 (sliceBounds (some i) none (some j) n).2.1 (sliceBounds (some i) none (some j) n).2.2
section
variable {X:Cx}
end
end L2
namespace Pu
open PySem L2 My Prf
def C1x (xs:List PyData) (i j:Int):List PyData:=(B6p xs.length i j).filterMap (xs[·]?)
def C2b (pe pl ps:PDt) (env:PEnv) (Q:SV->PEnv->Prop):Prop:=pe env fun x e1=>asL x fun xs=>pl e1 fun y e2=>asI y fun i=>ps e2 fun z e3=>asI z fun j=>j≠0/\Q (.own (C1x xs i j)) e3
end Pu
namespace L2
open PySem PySem.Spec PyProof.Rows
end L2
namespace Pu
open PySem L2 My Prf
def B7w (pa:PEnv->(List (List PyData)->PEnv->Prop)->Prop) (env:PEnv) (Q:SV->PEnv->Prop):Prop:=pa env fun xss e=>∃ xs,xss=[xs]/\Q (.d (.tuple xs)) e
end Pu
namespace L2
open PySem PySem.Spec PyProof.Rows
def told:PyData->Str
  | .str z=>z
  | d=>d.shown
section
variable {X:Cx}
end
end L2
namespace Pu
open PySem L2 My Prf
def pStr (pa:PDt) (env:PEnv) (Q:SV->PEnv->Prop):Prop:=pa env fun d e=>B1l d/\Q (.d (.str (told d))) e
end Pu
namespace L2
open PySem PySem.Spec PyProof.Rows
mutual
def lay1:PyData->Bool
  | .list xs=>B4s xs
  | .tuple xs=>B4s xs
  | .dict kvs=>kvs.isEmpty
  | .str x=>PyData.strOk x
  | _=>true
def B4s:List PyData->Bool
  | []=>true
  | x :: r=>lay1 x && B4s r
end
section
variable {X:Cx} {pins:List (Addr × Obj)} {σ:St} {H:Hp} {s:Shared}
end
end L2
namespace L2
open PySem PySem.Spec PyProof.Rows
def B6v (d:PyData):Prop:=(lay1 d=true/\d.showable=true)/\d.depth<=60/\d.shown.length<=sizeLine
section
variable {X:Cx}
end
end L2
namespace Pu
open PySem L2 My Prf
def C2a (pa:PDt) (env:PEnv) (Q:SV->PEnv->Prop):Prop:=pa env fun d e=>B6v d/\Q (.d (.str (told d))) e
end Pu
namespace L2
open PySem PySem.Spec PyProof.Rows
end L2
namespace Pu
open PySem L2 My Prf
def C2x (x y:PyData) (Q:SV->Prop):Prop:=match x,y with
  | .tuple (x :: xs),.tuple (y :: ys)=>xs.length + ys.length<=1000/\Q (.d (.tuple (x :: xs++y :: ys)))
  | _,_=>False
theorem B3h {x y:PyData} {xs ys:List PyData} {Q:SV->Prop}:C2x (.tuple (x :: xs)) (.tuple (y :: ys)) Q=(xs.length + ys.length<=1000/\Q (.d (.tuple (x :: xs++y :: ys)))):=rfl
end Pu
namespace L2
open PySem PySem.Spec PyProof.Rows
section
variable {prog:Program} {w:World} {A:Around} {E:Value->Shared->Prop}
theorem C1n {I l:Addr} {xs:Array Value} (ne:l≠I):∀ (n i:Nat) (s:Shared) (Q:List Value->Shared->Prop),s.heap.IsListIter I l i->s.heap.IsList l xs->i + n<=xs.size ->
    (∀ h',h'.IsListIter I l (i + n)->Heap.SameBut I s.heap h'->Q ((xs.toList.drop i).take n) { s with heap:=h' })->wpAny (model prog w) A (draw (.ref I) n) Q E s
  | 0,i,s,Q,a,_,_,q=>wpAny_pure (by have:=q s.heap a (Heap.SameBut.refl ..); simpa using this)
  | n + 1,i,s,Q,a,b,le,q=>by
    have lt:i < xs.size:=by omega
    refine wpAny_bind (wpAny_pyNext_list_item a b (x:=xs[i]) (by simp [lt]) fun h1 a1 s1=>?_);refine wpAny_bind (wpAny_holding (C1n ne n (i + 1) _ _ a1 (b.extBut s1.extBut ne) (by omega) fun h2 a2 s2=>?_));refine wpAny_pure ?_;have e:xs.toList.drop i=xs[i] :: xs.toList.drop (i + 1):=by simp [List.drop_eq_getElem_cons,lt]
    have z:=q h2 (by rw [Nat.add_comm n 1,<- Nat.add_assoc]; exact a2) (s1.trans s2);rw [e,List.take_succ_cons] at z;exact z
theorem B02 {l:Addr} {xs:Array Value} {ts:List (Bool × (Value->Sem Unit))} {s:Shared} {Q:Unit->Shared->Prop} (hh:A.handled=none) (b:s.heap.IsList l xs) (hn:ts.length=xs.size) (hs:ts.findIdx? (·.1)=none)
    (q:∀ h',Heap.ExtBut s.heap.objs.size s.heap h'->wpAny (model prog w) A (assignInOrder (ts.map (·.2)) xs.toList) Q E { s with heap:=h' }):wpAny (model prog w) A (unpack (.ref l) ts) Q E s:=by
  have ne:l≠s.heap.objs.size:=by obtain ⟨o,ho,_⟩:=b; exact Nat.ne_of_lt (Heap.lt_size ho)
  unfold unpack;rw [hn,hs];refine wpAny_bind (wpAny_holding ?_);unfold unpackItems;refine wpAny_bind ?_;unfold notIterableAtAll;refine wpAny_bind (wpAny_specialOf b.typeIs slot_list_iter.lookup (wpAny_pure ?_));simp only [Bool.false_eq_true,if_false];refine wpAny_bind (wpAny_holding (wpAny_pyIter_list b ?_));refine wpAny_bind (wpAny_holding (C1n ne xs.size 0 _ _ ⟨_,Heap.get?_push_size _ rfl,rfl,rfl⟩ (b.push _) (by omega) fun h1 a1 s1=>?_));have e:(xs.toList.drop 0).take xs.size=xs.toList:=List.take_of_length_le (Nat.le_of_eq (by simp));rw [e,if_neg (by simp)];refine wpAny_bind (wpAny_holding (wpAny_pyNext_list_end hh a1 ((b.push _).extBut s1.extBut ne) (by simp) fun h2 x2=>?_));simp only [Option.isSome_none,Bool.false_eq_true,if_false];exact wpAny_pure (q h2 fun c o hc z=>x2 c o hc (s1.extBut c o hc (Heap.get?_push_of_some _ z)))
end
def gLst (K:PySem.W.Frag) (n:Nat) (t:TGs):TG:=fun v σ H Q=>∃ a xs,v=.ref a/\SqL K H a xs/\xs.length=n/\t xs σ H Q
theorem A2c {X:Cx} {K:PySem.W.Frag} {pos:Pos} {es:List Expr} {k:Nat} {t:TGs} {n:Nat} (h:X.K=K) (hc:X.calm=true) (hg:QGs X es t)
    (hn:(assignEach es X.env).length=n:=by rfl) (hst:(assignEach es X.env).findIdx? (·.1)=none:=by rfl):QG X (.Tuple es k pos) (gLst K n t):=⟨by
  subst h;intro pins s σ H v u Q I r hw;obtain ⟨a,xs,e,hq,hl,hw⟩:=hw;subst e;cases r;obtain ⟨its,rv,ht,hz⟩:=I.list hq;have hL:s.heap.IsList a its.toArray:=by obtain ⟨o,m,h1,h2,_,h3⟩:=ht; exact ⟨o,h1,h2,m,h3⟩
  rw [assign_Tuple];refine wpAny_bind (wpAny_standAt (B02 (I.ok.hd hc) hL (by simp [hn,<- hl,rv.length]) hst fun h' hx=>?_));have J:Inv X pins σ H { s with heap:=h' }:=I.kept (t':=s.toks) fun b o z=>hx b o (Nat.ne_of_lt (Heap.lt_size z)) z;exact hg.out pins _ σ H xs _ Q J (by simpa using rv) hw⟩
end L2
namespace Pu
open PySem L2 My Prf
def qLsU (n:Nat) (pr:List PyData->PEnv->(PEnv->Prop)->Prop) (x:PyData) (env:PEnv) (Q:PEnv->Prop):Prop:=match x with
  | .list xs=>xs.length=n/\pr xs env Q
  | _=>False
theorem B7b {n:Nat} {pr:List PyData->PEnv->(PEnv->Prop)->Prop} {xs:List PyData} {env:PEnv} {Q:PEnv->Prop}:qLsU n pr (.list xs) env Q=(xs.length=n/\pr xs env Q):=rfl
theorem A7u {K:Frag} {F H:Hpp} {a:Addr} {vs:List V} (s:Same F H) (h:SqL K F a vs):SqL K H a vs:=by
  rcases h with (h | ⟨o,h⟩) | h
  · exact .inl (.inl (s _ _ h))
  · exact .inl (.inr ⟨o,s _ _ h⟩)
  · exact .inr h
instance rg_lst {K:Frag} {n:Nat} {gs:TGs} {pr:List PyData->PEnv->(PEnv->Prop)->Prop} [hr:RGs K gs pr]:RG K (gLst K n gs) (qLsU n pr) where
  ok:=by
    rintro c w env σ v x Qp Q rfl E d p k;unfold qLsU at p;split at p
    · obtain ⟨a,vs,e,h1,h2⟩:=d.lstE
      exact ⟨a,vs,e,A7u E.wok.sub h1,h2.len.trans p.1,hr.ok c w env σ _ _ _ _ rfl E h2 p.2 k⟩
    · exact p.elim
def B9b (pd:PDt) (n:Nat) (pr:List PyData->PEnv->(PEnv->Prop)->Prop) (D:PEnds) (env:PEnv):Prop:=pd env fun x e=>qLsU n pr x e D.nx
instance rs_asgL {K:Frag} {te:TE} {pd:PDt} {n:Nat} {gs:TGs} {pr:List PyData->PEnv->(PEnv->Prop)->Prop} [he:RD K te pd] [hr:RGs K gs pr]:RS K (tAsg te (gLst K n gs)) (B9b pd n pr) where
  ok:=by
    rintro c w env σ Dp D rfl E h p;refine he.ok c w env σ _ _ rfl E p fun v x e1 w1 E1 l1 d1 q1=>?_;exact rg_lst.ok c w1 e1 σ v x _ _ rfl E1 d1 q1 fun e2 σ2 E2 q2=>h.nx e2 σ2 w1 E2 l1.f q2
end Pu
namespace L2
open PySem PySem.Spec PyProof.Rows
section
variable {M:Model} {A:Around} {E:Value->Shared->Prop} {s:Shared}
end
section
variable {P:Program} {w:World} {K:PySem.W.Frag} {mg:Str->Option Value} {base:Heap} {N:List Str} {qual:Str} {scope:Scope} {f:Addr} {cd:Value} {A:Around} {outer:List Env} {s0:Shared} {H0:Hp} {E:XK}
end
end L2
namespace L2
open PySem PySem.Spec PyProof.Rows
section
variable {X:Cx} {scope:Scope} {cl:List (Str × Addr)} {N':List Str} {cap:List (Option Nat)} {elt tg iter:Expr} {ifs:List Expr} {wi:TI} {g:TG} {tt:TT} {te:TE} {pos:Pos}
end
section
variable {P:Program} {w:World} {K:PySem.W.Frag} {mg:Str->Option Value} {base:Heap} {N:List Str} {qual:Str} {dsc:Scope} {f:Addr} {cd:Value} {A:Around} {outer:List Env} {s0:Shared} {H0:Hp} {E:XK}
variable {scope:Scope} {cl:List (Str × Addr)} {N':List Str} {cap:List (Option Nat)} {elt tg iter:Expr} {ifs:List Expr} {wi:TI} {g:TG} {tt:TT} {te:TE} {pos:Pos}
end
end L2
namespace L2
open PySem PySem.Spec PyProof.Rows
section
variable {X:Cx} {e:Expr} {t u:TE}
end
section
variable {P:Program} {w:World} {K:PySem.W.Frag} {mg:Str->Option Value} {base:Heap} {N:List Str} {qual:Str} {dsc:Scope} {f:Addr} {cd:Value} {A:Around} {outer:List Env} {s0:Shared} {H0:Hp} {E:XK}
variable {scope:Scope} {cl:List (Str × Addr)} {N':List Str} {cap:List (Option Nat)} {elt tg iter:Expr} {ifs:List Expr} {wi:TI} {g:TG} {tt:TT} {te:TE} {pos:Pos}
end
end L2
namespace Pu
open PySem PySem.Spec PyProof.Rows L2 My Prf
end Pu
namespace L2
open PySem PySem.Spec PyProof.Rows
def A4r:R2:=fun x y H Q=>∃ i n,x=.str i/\y=.int n/\(0<=n/\n<=100)/\i.length<=100/\Q (.str (Txt.mul i n)) H
theorem B98 {x:Str} {n:Int} (h0:0<=n) (h1:n<=100) (h:x.length<=100):MulOk x n:=by
  refine ⟨?_,fun hn _=>?_,fun hn _=>?_⟩
  · rw [Bool.or_eq_false_iff]
    exact ⟨Zd (by omega),Zd (by omega)⟩
  · have hp:0 < n:=by omega
    have h2:100 * n<=2 ^ 63 - 1:=by omega
    have h3:(100:Int)<=(2 ^ 63 - 1) / n:=Int.le_ediv_of_mul_le hp h2;omega
  · have h2:x.length * n.toNat<=100 * 100:=Nat.mul_le_mul h (by omega)
    have h3:100 * 100<=sizeLine:=by rw [sizeLine_eq]; decide
    show decide _=false;exact Zd (by omega)
theorem B3m {X:Cx}:OpR X (binaryOp .Mult) A4r:=by
  intro pins s σ H x y v u Q I rx ry h;obtain ⟨i,n,rfl,rfl,⟨h0,h1⟩,h2,q⟩:=h;obtain ⟨t,rfl⟩:=rx;obtain ⟨t2,rfl⟩:=ry;exact PySem.SB.mul (B98 h0 h1 h2) fun t' k=>⟨.str _,H,I.tok _,⟨t',rfl⟩,q⟩
end L2
namespace Pu
open PySem L2 My Prf
def B2u (x y:PyData) (Q:SV->Prop):Prop:=asS x fun i=>asI y fun n=>(0<=n/\n<=100)/\i.length<=100/\Q (.d (.str (Txt.mul i n)))
theorem B2t {i:Str} {n:Int} {Q:SV->Prop}:B2u (.str i) (.int n) Q=((0<=n/\n<=100)/\i.length<=100/\Q (.d (.str (Txt.mul i n)))):=rfl
instance ro_mulS {K:Frag}:RO K A4r B2u where
  ok:=by
    rintro c w env σ x y dx dy Qp Q rfl E vx vy p k;unfold B2u asS at p;split at p
    · unfold asI at p
      split at p
      · exact ⟨_,_,vx.strE,vy.intE,p.1,p.2.1,k _ _ w (Res.data E (.str _)) p.2.2⟩
      · exact p.elim
    · exact p.elim
end Pu
namespace L2
open PySem PySem.Spec PyProof.Rows
section
variable {pg:Program} {wo:World} {ar:Around} {xe:Value->Shared->Prop} {st:Shared}
end
end L2
namespace Pu
open PySem L2 My Prf
def pSlT (pa:PDt) (pl ph:PEnv->(Option Int->PEnv->Prop)->Prop) (env:PEnv) (Q:SV->PEnv->Prop):Prop:=pa env fun x e=>pl e fun lo e1=>ph e1 fun hi e2=>∃ (xs:List PyData) (b:Nat),x=.tuple xs/\lo=none/\hi=some (b:Int)/\Q (.d (.tuple (xs.take b))) e2
end Pu
namespace Pu
open PySem L2 My Prf
def OT.part:OT->Int->Option OT
  | .leaf (.tuple xs),i=>(L2.atI xs i).map .leaf
  | .leaf (.list xs),i=>(L2.atI xs i).map .leaf
  | .nd _ _ k,i=>(ixN k.len i).bind k.kid
  | _,_=>none
theorem B2h {c:Ct} {w:Wd} {v:V} {t u:OT} {i:Int} (ok:w.Ok) (l:Le c.w0 w) (h:VR c w v (.bt t)) (e:t.part i=some u):∃ p vs x,v=.ref p/\(SqL c.K w.H p vs\/SqT c.K w.H p vs)/\L2.atI vs i=some x/\VR c w x (.bt u):=by
  unfold OT.part at e;split at e
  · obtain ⟨⟨v',ev,h⟩,_⟩:=h
    cases ev;obtain ⟨x,hx,rfl⟩:=Zo e;obtain ⟨p,vs,rfl,h1,h2⟩:=Den.tupE h;obtain ⟨y,hy,hd⟩:=h2.atIE hx;exact ⟨p,vs,y,rfl,.inr (SqT.same ok.sub h1),hy,⟨_,rfl,hd⟩,fun q hq=>nomatch hq⟩
  · obtain ⟨⟨v',ev,h⟩,_⟩:=h
    cases ev;obtain ⟨x,hx,rfl⟩:=Zo e;obtain ⟨p,vs,rfl,h1,h2⟩:=Den.lstE h;obtain ⟨y,hy,hd⟩:=h2.atIE hx;exact ⟨p,vs,y,rfl,.inl (ok.sub.seq h1),hy,⟨_,rfl,hd⟩,fun q hq=>nomatch hq⟩
  · rename_i b a k
    obtain ⟨⟨ev,us,h1,h2⟩,h3⟩:=h;cases ev;obtain ⟨j,hj,hk⟩:=Option.bind_eq_some_iff.mp e;obtain ⟨x,hx,hu⟩:=h2.kid hk;have hH:=l.h _ _ h1 (h3 a (by simp [OT.fp]));refine ⟨a,us,x,rfl,?_,?_,hu,fun q hq=>h3 q (Zr _ (A0o hk hq))⟩
    · cases b with
      | true=>exact .inl (SqL.of hH)
      | false=>exact .inr (SqT.of hH)
    · unfold L2.atI
      rw [h2.len,hj]; exact hx
  · cases e
def B4f (o:Option (Option SV)) (env:PEnv) (Q:OT->PEnv->Prop):Prop:=match o with
  | some (some (.bt t))=>Q t env
  | some (some (.d x))=>Q (.leaf x) env
  | _=>False
def C2m (i:Nat) (env:PEnv) (Q:OT->PEnv->Prop):Prop:=B4f env[i]? env Q
theorem B4e {t:OT} {env:PEnv} {Q:OT->PEnv->Prop}:B4f (some (some (.bt t))) env Q=Q t env:=rfl
theorem B4d {x:PyData} {env:PEnv} {Q:OT->PEnv->Prop}:B4f (some (some (.d x))) env Q=Q (.leaf x) env:=rfl
def pPth (pb:PEnv->(OT->PEnv->Prop)->Prop) (pi:PDt) (env:PEnv) (Q:OT->PEnv->Prop):Prop:=pb env fun t e1=>pi e1 fun y e2=>asI y fun n=>∃ u,t.part n=some u/\Q u e2
def OT.vw (t:OT) (k:PyData->Prop):Prop:=match t with
  | .leaf x=>k x
  | t=>∃ xs,t.sv=.bor xs/\k (.list xs)
theorem B01 {x:PyData} {k:PyData->Prop}:OT.vw (.leaf x) k=k x:=rfl
theorem C1v {a:Addr} {xs:List PyData} {k:PyData->Prop} (h:k (.list xs)):OT.vw (.nd true a (B9 xs)) k:=⟨xs,Y2,h⟩
def pVw (pb:PEnv->(OT->PEnv->Prop)->Prop) (env:PEnv) (Q:PyData->PEnv->Prop):Prop:=pb env fun t e=>t.vw fun x=>Q x e
def OT.lf (t:OT) (k:PyData->Prop):Prop:=match t with
  | .leaf x=>k x
  | _=>False
theorem B4o {x:PyData} {k:PyData->Prop}:OT.lf (.leaf x) k=k x:=rfl
def pLf (pb:PEnv->(OT->PEnv->Prop)->Prop) (env:PEnv) (Q:SV->PEnv->Prop):Prop:=pb env fun t e=>t.lf fun x=>Q (.d x) e
def pBr (pb:PEnv->(OT->PEnv->Prop)->Prop) (env:PEnv) (Q:List PyData->PEnv->Prop):Prop:=pb env fun t e=>∃ xs,t.sv=.bor xs/\Q xs e
end Pu
namespace L2
open PySem PySem.Spec PyProof.Rows
end L2
namespace Pu
open PySem L2 My Prf
def Mut (K:Frag) (w:Wd) (l:Addr) (xs:List PyData):Prop:=∃ vs,w.H l=some (.lst vs)/\w.F l=none/\¬ w.M l/\DenAll K w.F vs xs
abbrev PMu:=List PyData->List PyData->List PyData->(PyData->List PyData->List PyData->Prop)->Prop
def C1a (nd:Nat) (p q:Addr) (Qp:PyData->List PyData->List PyData->Prop) (x:PyData) (e:PEnv):Prop:=∃ ys zs,e[nd]?=some (some (.tr (.nd true p (B9 ys))))/\e[nd + 1]?=some (some (.tr (.nd true q (B9 zs))))/\Qp x ys zs
def rtMu (nd:Nat) (p q:Addr) (Qp:PyData->List PyData->List PyData->Prop) (s:SV) (e:PEnv):Prop:=match s with
  | .d x=>C1a nd p q Qp x e
  | _=>False
theorem B61 {nd:Nat} {p q:Addr} {Qp:PyData->List PyData->List PyData->Prop} {x:PyData} {e:PEnv}:rtMu nd p q Qp (.d x) e=C1a nd p q Qp x e:=rfl
def oMu (o:Option (Option SV)) (k:Addr->List PyData->Prop):Prop:=match o with
  | some (some (.tr t))=>∃ a xs,t=.nd true a (B9 xs)/\k a xs
  | _=>False
theorem C23 {a:Addr} {xs:List PyData} {k:Addr->List PyData->Prop} (h:k a xs):oMu (some (some (.tr (.nd true a (B9 xs))))) k:=⟨a,xs,rfl,h⟩
theorem V5 {xs ys:List PyData} (h:B9 xs=B9 ys):xs=ys:=by
  have:=congrArg OT.dat h
  rwa [N7,N7] at this
theorem C24 {a:Addr} {xs:List PyData} {k:Addr->List PyData->Prop}:oMu (some (some (.tr (.nd true a (B9 xs))))) k=k a xs :=
  propext ⟨fun ⟨_,_,e,h⟩=>by
    have e1:=(OT.nd.inj e).2.1;have e2:=V5 (OT.nd.inj e).2.2;subst e1; subst e2; exact h,C23⟩
def pMuV (i:Nat) (env:PEnv) (Q:PyData->PEnv->Prop):Prop:=oMu env[i]? fun _ xs=>Q (.list xs) env
def B7y (pd:PDt) (i:Nat) (pi:PDt) (D:PEnds) (env:PEnv):Prop:=pd env fun x e=>oMu e[i]? fun _ _=>pi e fun y e2=>asI y fun n=>oMu e2[i]? fun a xs=>∃ j,ixN xs.length n=some j/\D.nx (e2.set i (some (.tr (.nd true a (B9 (xs.set j x))))))
def is2 (o o':Option (Option SV)) (k:Prop):Prop:=match o,o' with
  | some (some (.own _)),some (some (.own _))=>k
  | _,_=>False
theorem C3d {xs ys:List PyData} {k:Prop}:is2 (some (some (.own xs))) (some (some (.own ys))) k=k:=rfl
def pA2 (i j:Nat) (env:PEnv) (Q:List PyData->Nat->Nat->PEnv->Prop):Prop:=is2 env[i]? env[j]? (Q [] i j env)
def pC2 (pd:PDt) (pr:PEnv->(List PyData->Nat->Nat->PEnv->Prop)->Prop) (env:PEnv) (Q:List PyData->Nat->Nat->PEnv->Prop):Prop:=pd env fun x e1=>pr e1 fun xs i j e2=>Q (x :: xs) i j e2
def own2 (o o':Option (Option SV)) (k:List PyData->List PyData->Prop):Prop:=match o,o' with
  | some (some (.own xs)),some (some (.own ys))=>k xs ys
  | _,_=>False
theorem B9h {xs ys:List PyData} {k:List PyData->List PyData->Prop}:own2 (some (some (.own xs))) (some (some (.own ys))) k=k xs ys:=rfl
def pMu (psp:PMu) (pa:PEnv->(List PyData->Nat->Nat->PEnv->Prop)->Prop) (env:PEnv) (Q:PyData->PEnv->Prop):Prop:=pa env fun xs i j e=>i≠j/\own2 e[i]? e[j]? fun ys zs=>psp xs ys zs fun x ys' zs'=>Q x ((e.set i (some (.own ys'))).set j (some (.own zs')))
def B9a (psp:PMu) (pa:PEnv->(List PyData->Nat->Nat->PEnv->Prop)->Prop) (m:Nat) (D:PEnds) (env:PEnv):Prop:=pMu psp pa env fun x e=>D.nx (e.set m (some (.d x)))
def B3a (psp:PMu) (pa:PEnv->(List PyData->Nat->Nat->PEnv->Prop)->Prop) (D:PEnds) (env:PEnv):Prop:=pMu psp pa env fun _ e=>D.nx e
end Pu
namespace L2
open PySem PySem.Spec PyProof.Rows
end L2
namespace Pu
open PySem L2 My Prf
def B8z (i:Nat) (pg:PyData->PEnv->(PEnv->Prop)->Prop) (pt:PTt) (pd:PDt) (cap:List (Option Nat)) (env:PEnv) (Q:SV->PEnv->Prop):Prop:=L9 env[i]? fun xs=>xs.length < 1000000/\L5 xs pg pt pd (J7 cap env) fun ys=>Q (.own ys) env
def A5b (i:Nat) (pg:PyData->PEnv->(PEnv->Prop)->Prop) (pt:PTt) (pd:PDt) (cap:List (Option Nat)) (j:Nat) (D:PEnds) (env:PEnv):Prop:=L9 env[i]? fun xs=>xs.length < 1000000/\L5 xs pg pt pd (J7 cap env) fun ys=>D.nx (env.set j (some (.own ys)))
end Pu
namespace L2
open PySem PySem.Spec PyProof.Rows
end L2
namespace Pu
open PySem L2 My Prf
theorem B2g {K:Frag} {w:Wd} {v:V} {t u:OT} {i:Int} (ok:w.Ok) (h:TV K w v t) (e:t.part i=some u):∃ p vs x,v=.ref p/\(SqL K w.H p vs\/SqT K w.H p vs)/\L2.atI vs i=some x/\TV K w x u:=by
  obtain ⟨p,vs,x,e1,h1,h2,h3⟩:=B2h (c:=⟨K,w,noZ⟩) ok (Le.refl w) (show VR ⟨K,w,noZ⟩ w v (.bt t) from h) e;exact ⟨p,vs,x,e1,h1,h2,h3⟩
def tPo (te:TE):TE:=te
instance (priority:=high) rtr_po {K:Frag} {te ti:TE} {pb:PEnv->(OT->PEnv->Prop)->Prop} {pi:PDt} [hb:RTr K te pb] [hi:RW K ti pi]:RTr K (tPo (tOp (rIx K) te ti)) (pPth pb pi) where
  ok:=by
    rintro c w env σ Qp Q rfl E p k;refine hb.ok c w env σ _ _ rfl E p fun v t e1 w1 E1 l1 v1 q1=>?_;refine hi.ok c w1 e1 σ _ _ rfl E1 q1 fun y dy e2 w2 E2 l2 v2 q2=>?_;unfold asI at q2;split at q2
    · rename_i n
      obtain ⟨u,hu,q⟩:=q2;obtain ⟨p,vs,x,rfl,hs,hx,hv⟩:=B2g E2.wok (v1.mono l2 v1.1.has) hu;have hn:=v2.intE;rcases hs with hs | hs
      · exact .inl ⟨p,vs,n,x,rfl,hn,hs,hx,k x u e2 w2 E2 (l1.trans l2) hv q⟩
      · exact .inr (.inl ⟨p,vs,n,x,rfl,hn,hs,hx,k x u e2 w2 E2 (l1.trans l2) hv q⟩)
    · exact q2.elim
theorem B6n:∀ {t:OT} {xs:List PyData},t.sv=.bor xs->t=.leaf (.list xs)\/∃ a,t=.nd true a (B9 xs)
  | .leaf (.list ys),xs,h=>by cases (show SV.bor ys=.bor xs from h); exact .inl rfl
  | .nd true a k,xs,h=>by
    have h':(match k.lvs with | some xs=>SV.bor xs | none=>.bt (.nd true a k))=.bor xs:=h;cases q:k.lvs with
    | none=>rw [q] at h'; cases h'
    | some ys=>rw [q] at h'; cases h'; exact .inr ⟨a,by rw [Q0 q]⟩
theorem TV.vw {K:Frag} {w:Wd} {v:V} {t:OT} {k:PyData->Prop} (h:TV K w v t) (q:t.vw k):∃ x,VV K w v x/\k x:=by
  have go:∀ {t:OT} {xs:List PyData},TV K w v t->t.sv=.bor xs->VV K w v (.list xs):=fun {t xs} h e=>by
    rcases B6n e with rfl | ⟨a,rfl⟩
    · obtain ⟨⟨v',ev,h⟩,_⟩:=h
      cases ev; exact .inl h
    · obtain ⟨⟨ev,us,h1,h2⟩,h3⟩:=h
      cases ev;exact .inr ⟨a,us,xs,rfl,rfl,h1,h3 a (by simp [OT.fp]),K8 h2⟩
  unfold OT.vw at q;split at q
  · obtain ⟨⟨v',ev,h⟩,_⟩:=h
    cases ev; exact ⟨_,.inl h,q⟩
  · obtain ⟨xs,e,q⟩:=q
    exact ⟨_,go h e,q⟩
instance (priority:=high) rw_po {K:Frag} {te:TE} {pb:PEnv->(OT->PEnv->Prop)->Prop} [hb:RTr K (tPo te) pb]:RW K (tPo te) (pVw pb) where
  ok:=by
    rintro c w env σ Qp Q rfl E p k;refine hb.ok c w env σ _ _ rfl E p fun v t e1 w1 E1 l1 v1 q1=>?_;obtain ⟨x,hx,q⟩:=v1.vw q1;exact k _ _ e1 w1 E1 l1 hx q
def pDa (pb:PEnv->(OT->PEnv->Prop)->Prop) (env:PEnv) (Q:PyData->PEnv->Prop):Prop:=pb env fun t e=>∃ x,t.dat=[x]/\Q x e
instance (priority:=high) rh_po {K:Frag} {te:TE} {pb:PEnv->(OT->PEnv->Prop)->Prop} [hb:RTr K (tPo te) pb]:RH K (tPo te) (pDa pb) where
  ok:=by
    rintro c w env σ Qp Q rfl E p k;refine hb.ok c w env σ _ _ rfl E p fun v t e1 w1 E1 l1 v1 q1=>?_;obtain ⟨x,ex,q⟩:=q1;have:=v1.1.den E1.wok v1.2;rw [ex] at this;cases this with | cons a _=>exact k v x e1 w1 E1 l1 a q
def OT.setK:OT->Nat->OT->OT
  | .cons _ t,0,x=>.cons x t
  | .cons h t,n + 1,x=>.cons h (t.setK n x)
  | t,_,_=>t
theorem A58:∀ {ks:OT} {j:Nat} {u:OT},ks.kid j=some u->∃ A B,ks.fp=A++u.fp++B/\∀ x,(ks.setK j x).fp=A++x.fp++B
  | .cons _ t,0,_,q=>by cases q; exact ⟨[],t.fp,rfl,fun x=>rfl⟩
  | .cons h t,n + 1,u,q=>by
    obtain ⟨A,B,e1,e2⟩:=A58 (ks:=t) (j:=n) (u:=u) q;exact ⟨h.fp++A,B,by show h.fp++t.fp=_; rw [e1]; simp,fun x=>by show h.fp++(t.setK n x).fp=_; rw [e2]; simp⟩
theorem Tre.agree {K:Frag} {w w':Wd} (f:Same w.F w'.F):∀ {t:OT} {vs:List V},Tre K w t vs->(∀ a ∈ t.fp,∀ o,w.H a=some o->w'.H a=some o)->Tre K w' t vs
  | .leaf _,_,⟨v,e,h⟩,_=>⟨v,e,Den.same f h⟩
  | .nd _ p _,_,⟨e,us,h,k⟩,n=>⟨e,us,n p (by simp [OT.fp]) _ h,Tre.agree f k fun q hq=>n q (by simp [OT.fp,hq])⟩
  | .nil,_,e,_=>e
  | .cons _ _,_,⟨v,r,e,h,t⟩,n=>⟨v,r,e,Tre.agree f h fun q hq=>n q (by simp [OT.fp,hq]),Tre.agree f t fun q hq=>n q (by simp [OT.fp,hq])⟩
theorem Tre.setK {K:Frag} {w w':Wd} {x:OT} {v:V} (f:Same w.F w'.F):∀ {ks:OT} {us:List V} {j:Nat} {u:OT},Tre K w ks us->ks.kid j=some u->us[j]?=some v->ks.fp.Nodup->(∀ a o,w.H a=some o->a ∉ u.fp->w'.H a=some o)->Tre K w' x [v]->Tre K w' (ks.setK j x) us
  | .cons h t,_,0,u,⟨y,r,rfl,hh,ht⟩,q,ev,nd,ag,hx=>by
    cases q;have:y=v:=by simpa using ev
    subst this;have d:=(List.nodup_append.mp nd).2.2;exact ⟨y,r,rfl,hx,ht.agree f fun a ha o ho=>ag a o ho fun z=>d a z a ha rfl⟩
  | .cons h t,_,n + 1,u,⟨y,r,rfl,hh,ht⟩,q,ev,nd,ag,hx=>by
    obtain ⟨_,n2,d⟩:=List.nodup_append.mp nd;have q':t.kid n=some u:=q;refine ⟨y,r,rfl,hh.agree f fun a ha o ho=>ag a o ho fun z=>d a ha a (A0o q' z) rfl,?_⟩;exact Tre.setK f (ks:=t) (j:=n) ht q' (by simpa using ev) n2 ag hx
structure Sub (K:Frag) (w:Wd) (T u:OT) (r:OT->OT) (v0 v:V):Prop where
  tre:Tre K w u [v]
  re:∀ (w':Wd) x,(∀ a o,w.H a=some o->a ∉ u.fp->w'.H a=some o)->Same w.F w'.F->Tre K w' x [v]->Tre K w' (r x) [v0]
  fp:∃ A B,T.fp=A++u.fp++B/\∀ x,(r x).fp=A++x.fp++B
class RRt (K:Frag) (te:TE) (i:outParam Nat) (pm:outParam (OT->(OT->(OT->OT)->Prop)->Prop)):Prop where
  ok:∀ (c:Ct) (w:Wd) (env:PEnv) (σ:St) (T:OT) (v0:V) (P:OT->(OT->OT)->Prop) (Q:VK),c.K=K->EnvOk c w env σ->env[i]?=some (some (.tr T))->σ[i]?=some (some v0)->pm T P->(∀ v u r,P u r->Sub K w T u r v0 v->Q v w.H)->te σ w.H Q
def B4k (T:OT) (k:OT->(OT->OT)->Prop):Prop:=k T fun x=>x
instance rrt_var {K:Frag} {i:Nat}:RRt K (tVar i) i B4k where
  ok:=by
    rintro c w env σ T v0 P Q rfl E e hv p k;obtain ⟨v,h1,h2⟩:=E.at' i _ e;rw [hv] at h1; cases h1;exact ⟨v0,hv,k v0 T _ p ⟨h2.1,fun w' x _ _ h=>h,[],[],by simp,fun x=>by simp⟩⟩
def mIx (pm:OT->(OT->(OT->OT)->Prop)->Prop) (n:Int) (T:OT) (k:OT->(OT->OT)->Prop):Prop:=pm T fun t r=>∃ b a ks j u,t=.nd b a ks/\ixN ks.len n=some j/\ks.kid j=some u/\k u fun x=>r (.nd b a (ks.setK j x))
instance rrt_ix {K:Frag} {te:TE} {i:Nat} {n:Int} {pm:OT->(OT->(OT->OT)->Prop)->Prop} [h:RRt K te i pm]:RRt K (tPo (tOp (rIx K) te (tC (.int n)))) i (mIx pm n) where
  ok:=by
    rintro c w env σ T v0 P Q rfl E e hv p k;obtain ⟨v',hv',VRT⟩:=E.at' i _ e;refine h.ok c w env σ T v0 _ _ rfl E e hv p fun v t r ⟨b,a,ks,j,u,et,hj,hk,q⟩ S=>?_;subst et;obtain ⟨⟨ev,us,hH,hks⟩,re,A,B,eT,er⟩:=S;cases ev;obtain ⟨x,hx,hu⟩:=hks.kid hk;have nT:=VRT.2.2;rw [eT] at nT;have nd:(OT.nd b a ks).fp.Nodup:=(List.nodup_append.mp (List.nodup_append.mp nT).1).2.1;obtain ⟨ha,nk⟩:=List.nodup_cons.mp (show (a :: ks.fp).Nodup from nd);obtain ⟨A',B',e1,e2⟩:=A58 hk;have sub:Sub c.K w T u (fun x=>r (.nd b a (ks.setK j x))) v0 x:=⟨hu,fun w' y ag f hy=>by
        refine re w' _ (fun a' o ho hn=>ag a' o ho fun z=>hn (Zr _ (A0o hk z))) f ⟨rfl,us,ag a _ hH fun z=>ha (A0o hk z),?_⟩;exact Tre.setK f hks hk hx nk ag hy,A++a :: A',B'++B,by
        rw [eT,show (OT.nd b a ks).fp=a :: ks.fp from rfl,e1]; simp,fun y=>by
        rw [er,show (OT.nd b a (ks.setK j y)).fp=a :: (ks.setK j y).fp from rfl,e2]; simp⟩
    have at':L2.atI us n=some x:=by unfold L2.atI; rw [hks.len,hj]; exact hx
    cases b with
    | true=>exact .inl ⟨a,us,n,x,rfl,rfl,SqL.of hH,at',k x u _ q sub⟩
    | false=>exact .inr (.inl ⟨a,us,n,x,rfl,rfl,SqT.of hH,at',k x u _ q sub⟩)
theorem EnvOk.change {c:Ct} {w:Wd} {env:PEnv} {σ:St} {i:Nat} {T u:OT} {r:OT->OT} {v0 v:V} {a:Addr} {xs ys:List PyData} {us:List V} (E:EnvOk c w env σ) (e:env[i]?=some (some (.tr T))) (hv:σ[i]?=some (some v0)) (S:Sub c.K w T u r v0 v) (hu:u=.nd true a (B9 xs)) (hd:DenAll c.K w.F us ys) :
    EnvOk c ⟨w.M,upd w.H a (.lst us),w.F⟩ (env.set i (some (.tr (r (.nd true a (B9 ys)))))) σ:=by
  subst hu;obtain ⟨v',hv',VRT⟩:=E.at' i _ e;rw [hv] at hv'; cases hv';obtain ⟨tre,re,A,B,eT,er⟩:=S;obtain ⟨ev,_⟩:=tre;cases ev;have ef:(r (.nd true a (B9 ys))).fp=T.fp:=by
    rw [er,eT,show (OT.nd true a (B9 ys)).fp=a :: (B9 ys).fp from rfl,show (OT.nd true a (B9 xs)).fp=a :: (B9 xs).fp from rfl,N2,N2]
  have haT:a ∈ T.fp:=by rw [eT]; simp [OT.fp]
  refine E.writeAt (s':=.tr (r (.nd true a (B9 ys)))) e hv haT (fun b hb=>by show b ∈ T.fp; rw [<- ef]; exact hb) ⟨re _ _ (fun b o ho hn=>?_) (Same.refl _) ⟨rfl,us,C6,P3 hd⟩,fun b hb=>?_,by rw [ef]; exact VRT.2.2⟩
  · show upd w.H a _ b=_
    rw [C7 (fun z=>hn (by rw [z]; simp [OT.fp]))]; exact ho
  · rw [ef] at hb
    obtain ⟨z1,z2⟩:=VRT.2.1 b hb;exact ⟨fun z=>z1 (M3 z),z2⟩
theorem Sub.lst {K:Frag} {w:Wd} {T u:OT} {r:OT->OT} {v0 v:V} {a:Addr} {xs:List PyData} (S:Sub K w T u r v0 v) (hu:u=.nd true a (B9 xs)):v=.ref a/\∃ us,w.H a=some (.lst us)/\DenAll K w.F us xs:=by
  subst hu;obtain ⟨⟨ev,us,h1,h2⟩,_⟩:=S;cases ev;exact ⟨rfl,us,h1,K8 h2⟩
def isLs (u:OT) (k:Addr->List PyData->Prop):Prop:=∃ a xs,u=.nd true a (B9 xs)/\k a xs
theorem C03 {a:Addr} {xs:List PyData} {k:Addr->List PyData->Prop}:isLs (.nd true a (B9 xs)) k=k a xs :=
  propext ⟨fun ⟨_,_,e,h⟩=>by
    have e1:=(OT.nd.inj e).2.1;have e2:=V5 (OT.nd.inj e).2.2;subst e1; subst e2; exact h,fun h=>⟨a,xs,rfl,h⟩⟩
def A8i (i:Nat) (pm:OT->(OT->(OT->OT)->Prop)->Prop) (D:PEnds) (env:PEnv):Prop:=asTr env[i]? fun T=>pm T fun u r=>isLs u fun a _=>D.nx (env.set i (some (.tr (r (.nd true a .nil)))))
instance (priority:=high) rs_clrP {K:Frag} {te:TE} {i:Nat} {pm:OT->(OT->(OT->OT)->Prop)->Prop} [h:RRt K (tPo te) i pm]:RS K (A3d (tBM0 K "list" A4t (tPo te))) (A8i i pm) where
  ok:=by
    rintro c w env σ Dp D rfl E hD p;unfold A8i asTr at p;split at p
    · rename_i T e
      obtain ⟨v0,hv,_⟩:=E.at' i _ e;refine h.ok c w env σ T v0 _ _ rfl E e hv p fun v u r ⟨a,xs,eu,q⟩ S=>?_;obtain ⟨rfl,us,h1,h2⟩:=S.lst eu;exact ⟨.inl ⟨rfl,_,SqL.of h1⟩,a,us,rfl,rfl,h1,hD.nx _ σ ⟨w.M,upd w.H a (.lst []),w.F⟩ (E.change (ys:=[]) e hv S eu .nil) (Same.refl _) q⟩
    · exact p.elim
def C2z (i:Nat) (pm:OT->(OT->(OT->OT)->Prop)->Prop) (x:PyData) (D:PEnds) (env:PEnv):Prop:=asTr env[i]? fun T=>pm T fun u r=>isLs u fun a xs=>xs.length < 1000000/\D.nx (env.set i (some (.tr (r (.nd true a (B9 (xs++[x])))))))
def oInt (o:Option (Option SV)) (k:Int->Prop):Prop:=match o with
  | some (some (.d (.int n)))=>k n
  | _=>False
def C2c (pd:PDt) (i:Nat) (pm:OT->(OT->(OT->OT)->Prop)->Prop) (j:Nat) (D:PEnds) (env:PEnv):Prop:=pd env fun x e=>asTr e[i]? fun T=>pm T fun u r=>isLs u fun a xs=>oInt e[j]? fun n=>∃ m,ixN xs.length n=some m/\D.nx (e.set i (some (.tr (r (.nd true a (B9 (xs.set m x)))))))
theorem B0j {n:Int} {k:Int->Prop}:oInt (some (some (.d (.int n)))) k=k n:=rfl
def OT.slot:OT->SV
  | .leaf x=>.d x
  | .nd true a k=>match k.lvs with
    | some xs=>.own xs
    | none=>.tr (.nd true a k)
  | t=>.tr t
theorem A4l {x:PyData}:OT.slot (.leaf x)=.d x:=rfl
theorem B1j {a:Addr} {xs:List PyData}:OT.slot (.nd true a (B9 xs))=.own xs:=by show (match (B9 xs).lvs with | some xs=>SV.own xs | none=>_)=_; rw [P9]
def tUn (te:TE):TE:=te
def unT (s:SV) (a b:Nat) (e:PEnv) (k:PEnv->Prop):Prop:=match s with
  | .d x=>∃ y z,x=.tuple [y,z]/\k ((e.set a (some (.d y))).set b (some (.d z)))
  | .tr t=>∃ p u v,t=.nd false p (.cons u (.cons v .nil))/\k ((e.set a (some u.slot)).set b (some v.slot))
  | _=>False
theorem C1w {p:Addr} {u v:OT} {a b:Nat} {e:PEnv} {k:PEnv->Prop}:unT (.tr (.nd false p (.cons u (.cons v .nil)))) a b e k=k ((e.set a (some u.slot)).set b (some v.slot)) :=
  propext ⟨fun ⟨_,_,_,e,h⟩=>by
    obtain ⟨_,_,e3⟩:=OT.nd.inj e;obtain ⟨e4,e5⟩:=OT.cons.inj e3;obtain ⟨e6,_⟩:=OT.cons.inj e5;subst e4; subst e6; exact h,fun h=>⟨p,u,v,rfl,h⟩⟩
def pUnT (pe:PX) (a b:Nat) (D:PEnds) (env:PEnv):Prop:=pe env fun s e=>unT s a b e D.nx
def B84 (psp:PSp) (pa:PAr) (env:PEnv) (Q:SV->PEnv->Prop):Prop:=pa env fun xs e=>psp (xs.map .d) fun s=>∃ b,s=.d (.bool b)/\Q (.d (.bool b)) e
def kids:List OT->OT
  | []=>.nil
  | t :: r=>.cons t (kids r)
def A8h (xs:List PyData) (pg:PyData->PEnv->(PEnv->Prop)->Prop) (pt:PTt) (pe:PX) (e0:PEnv) (Fin:List OT->Prop):Prop :=
  ∃ Pv:Nat->PEnv->List OT->Prop,Pv 0 e0 []/\(∀ i x e ys,xs[i]?=some x->Pv i e ys->pg x e fun e2=>pt e2 fun b e3=>if b=true then pe e3 fun s e4=>s.ot fun t=>Pv (i + 1) e4 (ys++[t]) else Pv (i + 1) e3 ys)/\∀ e ys,Pv xs.length e ys->Fin ys
def pCmT (pi:PAr) (pg:PyData->PEnv->(PEnv->Prop)->Prop) (pt:PTt) (pe:PX) (cap:List (Option Nat)) (env:PEnv) (Q:SV->PEnv->Prop):Prop:=pi env fun xs e=>xs.length < 1000000/\A8h xs pg pt pe (J7 cap e) fun ts=>∀ a,Q (.tr (.nd true a (kids ts))) e
def OT.tup (a:Addr) (k:OT):SV:=match k.lvs with
  | some xs=>.d (.tuple xs)
  | none=>.tr (.nd false a k)
def C18 (pe:PX) (env:PEnv) (Q:SV->PEnv->Prop):Prop:=pe env fun s e=>∃ a k,s=.tr (.nd true a k)/\∀ p,Q (OT.tup p k) e
end Pu
namespace L2
open PySem PySem.Spec PyProof.Rows
section
variable {X:Cx} {e:Expr}
theorem qPo {t:TE} (h:QE X e t):QE X e (Pu.tPo t):=h
end
end L2
namespace Pu
open PySem L2 My Prf
def alAt (o:Option (Option SV)) (n:Nat) (k:Addr->List PyData->(OT->OT)->Prop):Prop:=asTr o fun T=>∃ b p ks a xs,T=.nd b p ks/\ks.kid n=some (.nd true a (B9 xs))/\k a xs fun x=>.nd b p (ks.setK n x)
def B9c (i n j:Nat) (D:PEnds) (env:PEnv):Prop:=alAt env[i]? n fun a _ _=>D.nx (env.set j (some (.al a)))
def isAl (o:Option (Option SV)) (k:Addr->Prop):Prop:=match o with
  | some (some (.al a))=>k a
  | _=>False
theorem C06 {a:Addr} {k:Addr->Prop}:isAl (some (some (.al a))) k=k a:=rfl
def pArV (i n j:Nat) (env:PEnv) (Q:PyData->PEnv->Prop):Prop:=isAl env[j]? fun a=>alAt env[i]? n fun a' xs _=>a'=a/\Q (.list xs) env
def B70 (pd:PDt) (i n j:Nat) (pi:PDt) (D:PEnds) (env:PEnv):Prop:=pd env fun x e=>isAl e[j]? fun _=>pi e fun y e2=>asI y fun m=>isAl e2[j]? fun a=>alAt e2[i]? n fun a' xs r=>a'=a/\∃ l,ixN xs.length m=some l/\D.nx (e2.set i (some (.tr (r (.nd true a (B9 (xs.set l x)))))))
def pFz (i:Nat) (env:PEnv) (Q:SV->PEnv->Prop):Prop:=oFz env[i]? fun x=>Q (.d x) (env.set i (some (.d x)))
where oFz (o:Option (Option SV)) (k:PyData->Prop):Prop:=match o with
  | some (some (.tr T))=>∃ x,T.dat=[x]/\k x
  | some (some (.d x))=>k x
  | _=>False
theorem C25 {T:OT} {k:PyData->Prop}:pFz.oFz (some (some (.tr T))) k=∃ x,T.dat=[x]/\k x:=rfl
theorem C26 {x:PyData} {k:PyData->Prop}:pFz.oFz (some (some (.d x))) k=k x:=rfl
end Pu
namespace L2
open PySem PySem.Spec PyProof.Rows
section
variable {X:Cx} {e:Expr}
end
end L2
namespace L2
open PySem PySem.Spec PyProof.Rows
section
variable {X:Cx} {tg:Expr}
def ItrS (lo st:Int) (n:Nat):It:=⟨fun i _=>i < n,fun i H x H'=>H'=H/\x=.int (lo + (i:Nat) * st),fun i _=>n<=i⟩
theorem A4e {P:Program} {w:World} {K:PySem.W.Frag} {tg:Expr} (it:Addr) (lo st:Int) (n:Nat):Turn P w K tg (ItrS lo st n) [it] it (fun i h=>IsRangeIter h it (lo + (i:Nat) * st) ((n:Int) - (i:Nat)) st) where
  mem:=List.mem_singleton.mpr rfl
  obj:=fun i h st b hb=>by
    cases Zn hb;refine ⟨_,st,fun v z=>?_⟩;have z':Data.fields _=Data.cell v:=z;cases z'
  keep:=fun i h h' st k=>k it (List.mem_singleton.mpr rfl) _ st
  item:=by
    intro X hP hw hK hc i pins s σ H E I hf hst hg;subst hP hw hK;have f:=hf it (List.mem_singleton.mpr rfl);have W:=Walks.range (prog:=X.prog) (w:=X.w) (I.ok.hd hc) it lo st n;refine W.item i s _ _ hg hst fun v h' tk hv st' kk=>?_;obtain ⟨t,rfl⟩:=hv;have I1:Inv X pins σ H { s with heap:=h',toks:=tk }:=I.turned (fun b o hb e=>kk b o (fun z=>hb (Zn z)) e) f.1 f.2.1 f.2.2.2.1 f.2.2.2.2.1 f.2.2.2.2.2;exact ⟨_,rfl,A30 (s:={ s with heap:=h',toks:=tk }) (n:="range_iterator") st' rfl rfl (by decide) ⟨.int (lo + (i:Nat) * st),H,I1,⟨t,rfl⟩,⟨rfl,rfl⟩,st',fun b hb=>(hf b hb).1⟩⟩
  done:=by
    intro X hP hw hK hc i pins s σ H E I hf st hg;subst hP hw hK;have f:=hf it (List.mem_singleton.mpr rfl);have hn:n<=i:=hg;exact wpAny_pyNext_range_end (I.ok.hd hc) st (by omega) fun h' eb=>⟨rfl,I.turned (t':=s.toks) (fun b o hb e=>eb b o hb e) f.1 f.2.1 f.2.2.2.1 f.2.2.2.2.1 f.2.2.2.2.2⟩
  self:=fun _ _ _ _ _ st h=>wpAny_pyIter_rangeiter st h
def stepN (i j k:Int):Nat:=if i < j then ((j - i - 1) / k + 1).toNat else 0
theorem Z0 {a b c:Int} (hc:0 < c):Builtin.Range.rangeSize a b c=(stepN a b c:Nat):=by
  unfold Builtin.Range.rangeSize stepN;rw [if_pos hc];by_cases h:a < b
  · rw [if_pos h,if_pos h]
    have:=Int.ediv_nonneg (show (0:Int)<=b - a - 1 by omega) (Int.le_of_lt hc);omega
  · rw [if_neg h,if_neg h]; rfl
theorem A3e {a b c:Int} (h:(0<=a/\a<=1000)/\(0<=b/\b<=1000)/\0 < c/\c<=1000):Builtin.Range.small a b c=true:=by
  obtain ⟨⟨h1,h2⟩,⟨h3,h4⟩,h5,h6⟩:=h;unfold Builtin.Range.small;rw [Z0 h5];have hn:stepN a b c<=1000:=by
    unfold stepN;split
    · have:=Int.ediv_le_self c (show (0:Int)<=b - a - 1 by omega)
      omega
    · omega
  have hm:0<=(stepN a b c:Int) * c/\(stepN a b c:Int) * c<=1000 * 1000:=⟨Int.mul_nonneg (by omega) (by omega),Int.mul_le_mul (by omega) h6 (by omega) (by omega)⟩;generalize hq:stepN a b c=q at hn hm;simp only [Builtin.Range.rangeFitsLong,Bool.and_eq_true,Bool.or_eq_true,decide_eq_true_eq,beq_iff_eq,h5,if_true];omega
def B5q (ta:TA):TI:=fun σ H R=>ta σ H fun vs H1=>∃ i j k:Int,vs=[.int i,.int j,.int k]/\((0<=i/\i<=1000)/\(0<=j/\j<=1000)/\0 < k/\k<=1000)/\R (ItrS i k (stepN i j k)) H1
theorem A49 {a b c:Expr} {ta:TA} {p pos:Pos} (hg:Gl X "range") (hm:X.mg "range"=none) (ha:PA X [a,b,c] ta) (hs:starEach [a,b,c] X.env=[(false,eval a X.env),(false,eval b X.env),(false,eval c X.env)])
    (hs2:starEach [b,c] X.env=[(false,eval b X.env),(false,eval c X.env)]):PI X tg (.Call (.Name "range" p) [a,b,c] [] pos) (B5q ta):=by
  intro pins s σ H R I h;refine Call_ (Q6 I hg hm boot_range (PyProof.Rows.callWith_type1 (thn (ha pos pins s σ H _ I h) fun us s1 ⟨vs,H1,I1,r1,q1⟩=>?_) (hs.trans (by rw [hs2])) (by rw [hs2]; rfl)));obtain ⟨i,j,k,e,hb,q⟩:=q1;subst e;cases r1 with
  | cons r rr=>cases rr with
    | cons r' rr=>cases rr with
      | cons r2 rr =>
        cases rr;obtain ⟨t,rfl⟩:=r;obtain ⟨t',rfl⟩:=r';obtain ⟨t2,rfl⟩:=r2;refine call_range_3 (by omega) ?_ (.inl (PyProof.noPylong_small (by omega)));refine wpAny_pyIter_range (IsRange.new ..) (A3e hb) ?_;have I2:Inv X pins σ H1 { s1 with heap:=s1.heap.push { cls:=.type "range",data:=.fields #[.int i t,.int j t',.int k t2] },toks:=s1.toks }:=I1.kept fun b o e=>Heap.get?_push_of_some _ e;refine ⟨(s1.heap.push { cls:=.type "range",data:=.fields #[.int i t,.int j t',.int k t2] }).objs.size,[(s1.heap.push { cls:=.type "range",data:=.fields #[.int i t,.int j t',.int k t2] }).objs.size],_,_,H1,rfl,
          I2.kept (t':=s1.toks) fun b o e=>Heap.get?_push_of_some _ e,A4e _ i k (stepN i j k),?_,fun b hb=>?_,q⟩
        · have e1:i + ((0:Nat):Int) * k=i:=by simp
          have e2:((stepN i j k:Nat):Int) - ((0:Nat):Int)=Builtin.Range.rangeSize i j k:=by rw [Z0 hb.2.2.1]; omega
          show IsRangeIter _ _ (i + ((0:Nat):Int) * k) (((stepN i j k:Nat):Int) - ((0:Nat):Int)) k;rw [e1,e2];exact Heap.get?_push_size _ rfl
        · cases Zn hb
          exact I2.fpOk (Zv _) (I2.hok.fresh (Zv _))
theorem A3f {a b c:Expr} {ta:TA} {p pos:Pos} (hg: Gl X "range") (hm: X.mg "range"=none) (ha: QA X [a,b,c] ta) (hs: starEach [a,b,c] X.env=[(false,eval a X.env),(false,eval b X.env),(false,eval c X.env)]:=by rfl) (hs2: starEach [b,c] X.env=[(false,eval b X.env),(false,eval c X.env)]:=by rfl):QI X tg (.Call (.Name "range" p) [a,b,c] [] pos) (B5q ta):=⟨A49 hg hm ha.out hs hs2⟩
end
end L2
namespace Pu
open PySem L2 My Prf
def stpD (lo st:Int) (n:Nat):List PyData:=(List.range n).map fun k:Nat=>PyData.int (lo + (k:Nat) * st)
theorem R7 (lo st:Int) (n:Nat):(stpD lo st n).length=n:=by simp [stpD]
theorem A7t {lo st:Int} {n i:Nat} {x:PyData} (h:(stpD lo st n)[i]?=some x):i < n/\x=.int (lo + (i:Nat) * st):=by
  unfold stpD at h;rw [Zh] at h;by_cases hi:i < n
  · rw [List.getElem?_range hi] at h; cases h; exact ⟨hi,rfl⟩
  · rw [List.getElem?_eq_none (by simpa using hi)] at h; cases h
def B3z (xs:List PyData) (Q:List PyData->Prop):Prop:=match xs with
  | [.int i,.int j,.int k]=>((0<=i/\i<=1000)/\(0<=j/\j<=1000)/\0 < k/\k<=1000)/\Q (stpD i k (stepN i j k))
  | _=>False
theorem B3y {i j k:Int} {Q:List PyData->Prop}:B3z [.int i,.int j,.int k] Q=(((0<=i/\i<=1000)/\(0<=j/\j<=1000)/\0 < k/\k<=1000)/\Q (stpD i k (stepN i j k))):=rfl
def B72 (pa:PAr) (env:PEnv) (Q:List PyData->PEnv->Prop):Prop:=pa env fun xs e=>B3z xs fun ys=>Q ys e
instance ri_rngS {K:Frag} {ta:TA} {pa:PAr} [ha:RAv K ta pa]:RI K (B5q ta) (B72 pa) where
  ok:=by
    rintro c w env σ Qp R rfl E p k;refine ha.ok c w env σ _ _ rfl E p fun vs xs e1 w1 E1 l1 v1 q1=>?_;unfold B3z at q1;split at q1
    · rename_i i j k'
      obtain ⟨hb,q1⟩:=q1;cases v1 with | cons h t=>cases t with | cons h' t=>cases t with | cons h2 t =>
        cases t;refine ⟨i,j,k',by rw [h.intE,h'.intE,h2.intE],hb,k _ _ e1 w1 E1 l1 ?_ q1⟩;intro w' ok l s;refine ⟨fun m hm=>by rw [R7] at hm; exact hm,by rw [R7]; exact Zv _,fun m v H' y hm=>?_⟩;obtain ⟨e,y⟩:=y;subst y;rw [R7] at hm;refine ⟨w',.int (i + (m:Nat) * k'),e.symm,ok,Le.refl w',?_,.int _⟩;unfold stpD;rw [Zh,List.getElem?_range hm]; rfl
    · exact q1.elim
theorem B5w {lo st:Int} {n:Nat} {pg:PyData->PEnv->(PEnv->Prop)->Prop} {pb:PSt} {D:PEnds} {env:PEnv} (Iv:Nat->PEnv->Prop) (h0:Iv 0 env)
    (hs:∀ (i:Nat) e,i < n->Iv i e->pg (.int (lo + (i:Nat) * st)) e fun e2=>pb ⟨Iv (i + 1),D.rt,D.nx,Iv (i + 1)⟩ e2) (hd:∀ e,Iv n e->D.nx e):A0d (stpD lo st n) pg pb D env :=
  ⟨Iv,h0,fun i x e hx hi=>by obtain ⟨h1,rfl⟩:=A7t hx; exact hs i e h1 hi,fun e h=>hd e (by rwa [R7] at h)⟩
def C2i (i j:Nat) (D:PEnds) (env:PEnv):Prop:=L9 env[j]? fun ys=>∃ y r,ys=y :: r/\D.nx ((env.set j (some (.own r))).set i (some (.d y)))
def B2s (i j a b:Nat) (D:PEnds) (env:PEnv):Prop:=a≠b/\L9 env[a]? fun xs=>L9 env[b]? fun ys=>∃ x r y t,xs=x :: r/\ys=y :: t/\D.nx ((((env.set a (some (.own r))).set b (some (.own t))).set i (some (.d x))).set j (some (.d y)))
def C2j (i j:Nat) (pa:PEnv->(OT->PEnv->Prop)->Prop) (D:PEnds) (env:PEnv):Prop:=pa env fun t e=>∃ a b xs ys,t=.cons (.nd true a (B9 xs)) (.cons (.nd true b (B9 ys)) .nil)/\i≠j/\D.nx ((e.set i (some (.own xs))).set j (some (.own ys)))
def OT.lks:OT->Bool
  | .nil=>true
  | .cons (.nd true _ _) t=>t.lks
  | _=>false
def B28 (i j:Nat) (D:PEnds) (env:PEnv):Prop:=asTr env[i]? fun t=>i≠j/\j < env.length/\∃ a ks,t=.nd true a ks/\ks.lks=true/\D.nx ((env.set i none).set j none)
def B3c (pe:PX) (pr:PAs) (env:PEnv) (Q:List SV->PEnv->Prop):Prop:=pe env fun s e1=>isSt (some (some s)) (pr e1 fun as e2=>Q (.st :: as) e2)
def B74 (pa:PDt) (env:PEnv) (Q:SV->PEnv->Prop):Prop:=pa env fun d e=>B1l d/\Q (.d (.str d.shown)) e
end Pu
namespace L2
open PySem
end L2
namespace L2
open PySem PySem.Spec PyProof.Rows
section
variable {X:Cx} {pos:Pos}
end
end L2
namespace Pu
open PySem L2 My Prf
def pDN (kvs:List (Key × V)) (env:PEnv) (Q:SV->PEnv->Prop):Prop:=Q (.d (.dict (kvs.map B53))) env
def B4n:List (PyData × PyData)->Str->Option PyData
  | [],_=>none
  | (.str x,z) :: r,s=>if x=s then some z else B4n r s
  | _ :: r,s=>B4n r s
def pDk (pa pb:PDt) (env:PEnv) (Q:SV->PEnv->Prop):Prop:=pa env fun x e=>pb e fun y e2=>∃ ds s t,x=.dict ds/\y=.str s/\B4n ds s=some (.str t)/\Q (.d (.str t)) e2
end Pu
namespace Pu
open PySem L2 My Prf
def C19 (pe:PX) (env:PEnv) (Q:SV->PEnv->Prop):Prop:=pe env fun s e=>∃ a k,s=.tr (.nd true a k)/\((∀ p,Q (OT.tup p k) e)\/∀ p,Q (.tr (.nd false p k)) e)
def OT.atoms:OT->Bool
  | .leaf x=>match x with
    | .list _=>false
    | .tuple _=>false
    | .dict _=>false
    | _=>true
  | .nd _ _ k=>k.atoms
  | .nil=>true
  | .cons h t=>h.atoms && t.atoms
def B86 (psp:PSp) (pa:PAr) (env:PEnv) (Q:SV->PEnv->Prop):Prop:=pa env fun xs e=>psp (xs.map .d) fun s=>∃ t,s=.tr t/\t.atoms=true/\Q (.tr t) e
end Pu
namespace L2
open PySem PySem.Spec PyProof.Rows
section
variable {X:Cx} {e:Expr}
end
end L2
namespace L2
open PySem PySem.Spec PyProof.Rows
section
variable {κ:Type} [DecidableEq κ]
theorem KV.length {kvs:List (κ × V)} {vs:List (κ × Value)} (r:KV kvs vs):kvs.length=vs.length:=Paired.length r
end
section
variable {P:Program} {w:World} {H:Hp} {h:Heap} {a:Addr}
theorem C1y {u:HO} (ok:HOk P w H h) (e:Rd H a u):ObjOk P w H h a u:=e.ok ok
end
section
variable {X:Cx} {pins:List (Addr × Obj)} {σ:St} {H:Hp} {s:Shared} {a:Addr} {y v:V} {u r:Value} {o:Option V} {A:Around} {E:Value->Shared->Prop}
end
section
variable {X:Cx} {pins:List (Addr × Obj)} {σ:St} {H:Hp} {s:Shared} {a:Addr} {kvs:List (Key × V)} {k:Key} {u:Value} {A:Around} {E:Value->Shared->Prop}
end
section
variable {X:Cx} {o i e value:Expr} {pos pos' tpos:Pos} {td ty tv:TE}
end
section
variable {X:Cx} {pos:Pos}
end
theorem B97 {a b:Int}:NSI [V.int a,V.int b]:=fun _ _ z=>nomatch z
theorem u1 {n:Nat} (h:n + 64 < cLine):n + 1 < cLine:=by omega
section
variable {X:Cx} {o i e value:Expr} {pos pos':Pos} {td ty tv:TE}
end
end L2
namespace Pu
open PySem L2 My Prf
def pDk0 (env:PEnv) (Q:SV->PEnv->Prop):Prop:=Q (.dk []) env
def asP (x:PyData) (k:Str->Int->Prop):Prop:=match x with
  | .tuple [.str c,.int n]=>k c n
  | _=>False
theorem C3k {c:Str} {n:Int} {k:Str->Int->Prop}:asP (.tuple [.str c,.int n]) k=k c n:=rfl
def hasD (kvs:List (PyData × PyData)) (c:Str):Bool:=kvs.any fun p=>match p.1 with
  | .str s=>decide (s=c)
  | _=>false
def inD (o:Option (Option SV)) (x:PyData) (k:Bool->Prop):Prop:=match o with
  | some (some (.dk ks))=>asP x fun c n=>k (decide ((c,n) ∈ ks))
  | some (some (.d (.dict kvs)))=>asS x fun c=>k (hasD kvs c)
  | _=>False
theorem C3e {ks:List (Str × Int)} {x:PyData} {k:Bool->Prop}:inD (some (some (.dk ks))) x k=asP x fun c n=>k (decide ((c,n) ∈ ks)):=rfl
theorem C3f {kvs:List (PyData × PyData)} {x:PyData} {k:Bool->Prop}:inD (some (some (.d (.dict kvs)))) x k=asS x fun c=>k (hasD kvs c):=rfl
def pDIn (pd:PDt) (i:Nat) (env:PEnv) (Q:SV->PEnv->Prop):Prop:=pd env fun x e=>inD e[i]? x fun b=>Q (.d (.bool b)) e
def isDk (o:Option (Option SV)) (k:List (Str × Int)->Prop):Prop:=match o with
  | some (some (.dk ks))=>k ks
  | _=>False
theorem C05 {ks:List (Str × Int)} {k:List (Str × Int)->Prop}:isDk (some (some (.dk ks))) k=k ks:=rfl
def C2v (i:Nat) (pd:PDt) (D:PEnds) (env:PEnv):Prop:=isDk env[i]? fun _=>pd env fun x e=>asP x fun c n=>isDk e[i]? fun ks=>(c,n) ∉ ks/\ks.length < 1000000/\D.nx (e.set i (some (.dk (ks++[(c,n)]))))
def numD:List (PyData × PyData)->Str->Option Int
  | [],_=>none
  | (.str x,.int n) :: r,s=>if x=s then some n else numD r s
  | _,_=>none
def B0s (o:Option (Option SV)) (k:List (PyData × PyData)->Prop):Prop:=match o with
  | some (some (.d (.dict ds)))=>k ds
  | _=>False
theorem A9o {ds:List (PyData × PyData)} {k:List (PyData × PyData)->Prop}:B0s (some (some (.d (.dict ds)))) k=k ds:=rfl
def B6o (o:Option (Option SV)) (k:Str->Prop):Prop:=match o with
  | some (some (.d (.str s)))=>k s
  | _=>False
theorem B1f {s:Str} {k:Str->Prop}:B6o (some (some (.d (.str s)))) k=k s:=rfl
def B8w (i j:Nat) (env:PEnv) (Q:SV->PEnv->Prop):Prop:=B0s env[i]? fun ds=>B6o env[j]? fun s=>∃ n,numD ds s=some n/\Q (.d (.int n)) env
def pPr0 (_:PEnv) (Q:List (Str × Int)->Prop):Prop:=Q []
def C0c (o:Option (Option SV)) (k:Int->Prop):Prop:=match o with
  | some (some (.d (.list xs)))=>k (xs.length:Int)
  | _=>False
theorem B4p {xs:List PyData} {k:Int->Prop}:C0c (some (some (.d (.list xs)))) k=k (xs.length:Int):=rfl
def pPr (s:Str) (i:Nat) (pp:PEnv->(List (Str × Int)->Prop)->Prop) (env:PEnv) (Q:List (Str × Int)->Prop):Prop:=C0c env[i]? fun n=>pp env fun ps=>Q ((s,n) :: ps)
def C2t (pp:PEnv->(List (Str × Int)->Prop)->Prop) (env:PEnv) (Q:SV->PEnv->Prop):Prop:=pp env fun ps=>(ps.map (·.1)).Nodup/\ps.length<=15/\Q (.d (.dict (ps.map fun p=>(.str p.1,.int p.2)))) env
def C2k (i j k:Nat) (pa:PAr) (D:PEnds) (env:PEnv):Prop:=pa env fun xs e=>match xs with
  | [x,y,z]=>D.nx (((e.set i (some (.d x))).set j (some (.d y))).set k (some (.d z)))
  | _=>False
end Pu
open PySem L2 My
namespace Pu
end Pu
namespace Pu
open PySem L2 My Prf
theorem A2u:∀ {ts:List OT},(kids ts).len=ts.length
  | []=>rfl
  | _ :: r=>by show (kids r).len + 1=_; rw [A2u]; rfl
def isKs (o:Option (Option SV)) (k:Addr->List OT->Prop):Prop:=asTr o fun T=>∃ a ks,T=.nd true a (kids ks)/\k a ks
theorem C04 {a:Addr} {ks:List OT} {k:Addr->List OT->Prop} (h:k a ks):isKs (some (some (.tr (.nd true a (kids ks))))) k:=⟨a,ks,rfl,h⟩
end Pu
namespace L2
open PySem PySem.Spec PyProof.Rows
section
variable {X:Cx} {e:Expr}
end
end L2
namespace L2
open PySem
open PySem.Spec PyProof.Rows PySem.W
section
variable {K:PySem.W.Frag} {prog:Program} {w:World} {A:Around} {s:Shared} {x C:Addr} {ox:Obj} {od:Option Obj} {cd:ClassData} {name:Str} {v:Value}
end
section
variable {K:PySem.W.Frag} {prog:Program} {w:World} {A:Around} {s:Shared} {x C:Addr} {ox:Obj} {od:Option Obj} {cd:ClassData} {name:Str} {v:Value}
end
section
variable {prog:Program} {w:World} {A:Around} {E:Value->Shared->Prop} {s:Shared} {nm q:Str} {C N:Addr} {bs bm bmB:List Value} {hdct:Bool} {sn:List Str} {sub:List Value} {ab:Bool} {col:Option Bool} {dd:Option Addr} {k0 k1 k2 k3 k5:Option Value} {B newId initId:String}
end
section
variable {P:Program} {w:World} {K:PySem.W.Frag} {mg:Str->Option Value} {base:Heap} {A:Around} {outer:List Env} {s:Shared} {H:Hp} {f C e:Addr} {u:Value} {qual nm x fld:Str} {params:Arguments} {scope:Scope} {dV kV doc pm cdv ct oc:Value} {an od:Option Addr} {osl:Array (Option Value)} {N:List Str}
  {p1 p2 p3 p4:Pos} {ob:Obj} {cd:ClassData} {vs:Array Value} {sl:Array (Option Value)} {v:V}
end
section
variable {M:Model} {A:Around} {E:Value->Shared->Prop} {s:Shared} {base:Heap} {env:Env} {outer:List Env} {L e:Addr} {oe:Obj} {cls a0:Value} {Q:Unit->Shared->Prop} {dx:Option Addr}
end
section
variable {P:Program} {w:World} {K:PySem.W.Frag} {mg:Str->Option Value} {base:Heap} {N:List Str} {qual:Str} {scope:Scope} {f:Addr} {cd:Value} {A:Around} {outer:List Env} {s0:Shared} {H0:Hp} {E:XK}
end
section
variable {prog:Program} {w:World} {M:Model} {A:Around} {E:Value->Shared->Prop} {s:Shared} {env:Env} {nm q:Str} {C N:Addr} {bs bm bmB:List Value} {hdct:Bool} {sn:List Str} {sub:List Value} {ab:Bool} {col:Option Bool} {dd:Option Addr} {k0 k1 k2 k3 k5:Option Value} {B newId initId:String}
end
end L2
namespace L2
open PySem PySem.Spec PyProof.Rows
section
variable {X:Cx}
end
section
variable {X:Cx}
end
end L2
namespace Pu
open PySem L2 My Prf
end Pu
namespace L2
open PySem PySem.Spec PyProof.Rows
section
variable {X:Cx} {E:XK} {x fld y qual:Str} {st:Stmt} {C fI:Addr} {fd:FuncData} {N:List Str} {pos np cpos:Pos} {e:Expr} {te:TE}
end
section
variable {X:Cx} {hs:List ExceptHandler}
variable {C CH:Addr} {xh n:Str} {pos pos2:Pos} {b0:Stmt} {suite:List Stmt} {rest:List ExceptHandler} {nm:Option Str} {bd:List Stmt}
variable {k:Nat} {f:Addr} {fd:FuncData} {ps:List Str} {sp:Sp} {x:Str} {p pos5:Pos} {e:Expr} {es:List Expr} {t:TA} {h0:ExceptHandler}
end
section
variable {X:Cx} {C fI a:Addr} {fld y qual n:Str} {st:Stmt} {fd:FuncData} {N:List Str} {oe:Obj} {i:Nat} {pos p1:Pos}
end
section
variable {X:Cx} {hs:List ExceptHandler} {pos pos2:Pos} {k:Nat} {f:Addr} {fd:FuncData} {ps:List Str} {sp:Sp} {x:Str} {p pos5:Pos} {e:Expr} {es:List Expr} {t:TA} {h0:ExceptHandler}
end
section
variable {X:Cx} {i:Nat} {a:Addr} {b:Bool}
end
section
variable {X:Cx} {C fI a:Addr} {fld y qual n x:Str} {st:Stmt} {fd:FuncData} {N:List Str} {oe:Obj} {i j:Nat} {pos p1 p2 p3:Pos}
end
end L2
namespace Pu
open PySem PySem.Spec PyProof.Rows L2 My Prf
theorem EnvOk.unset {c:Ct} {w:Wd} {env:PEnv} {σ:L2.St} {i:Nat} {o:Option V} (E:EnvOk c w env σ):EnvOk c w (env.set i none) (σ.set i o):=by
  have hd:∀ {j:Nat} {t:SV},(env.set i none)[j]?=some (some t)->i≠j/\env[j]?=some (some t):=fun {j t} q=>by
    rw [List.getElem?_set] at q;split at q
    · split at q
      · cases q
      · cases q
    · rename_i z; exact ⟨z,q⟩
  have hs:∀ {j:Nat},i≠j->(σ.set i o)[j]?=σ[j]?:=fun {j} z=>by rw [List.getElem?_set,if_neg z]
  refine ⟨E.wok,E.le0,by simpa using E.len,fun j t q=>?_,fun j k s1 t1 v1 u1 a q1 q2 q3 q4 f1 f2=>?_,E.zf,fun a j t u za q q'=>?_⟩
  · obtain ⟨z,q⟩:=hd q
    rw [hs z]; exact E.at' j t q
  · obtain ⟨z1,q1⟩:=hd q1
    obtain ⟨z2,q2⟩:=hd q2;rw [hs z1] at q3;rw [hs z2] at q4;exact E.own j k _ _ _ _ a q1 q2 q3 q4 f1 f2
  · obtain ⟨z,q⟩:=hd q
    rw [hs z] at q';exact E.zo a j t u za q q'
end Pu
namespace L2
open PySem PySem.Spec PyProof.Rows
end L2
namespace Pu
open PySem PySem.Spec PyProof.Rows L2 My Prf
theorem T3 {us:List OT}:∀ {ks:List OT},(kids (ks++us)).fp=(kids ks).fp++(kids us).fp
  | []=>rfl
  | k :: r=>by show k.fp++(kids (r++us)).fp=(k.fp++(kids r).fp)++(kids us).fp; rw [T3,List.append_assoc]
theorem Tre.app {K:Frag} {w:Wd} {us:List OT} {ys:List V} (h:Tre K w (kids us) ys):∀ {ks:List OT} {vs:List V},Tre K w (kids ks) vs->Tre K w (kids (ks++us)) (vs++ys)
  | [],vs,e=>by cases (show vs=[] from e); exact h
  | k :: r,vs,⟨v,r2,e,hk,hr⟩=>⟨v,r2++ys,by rw [e]; rfl,hk,Tre.app h hr⟩
def tCtT (t:TE):TE:=t
def B3b (i:Nat) (pe:PX) (D:PEnds) (env:PEnv):Prop:=isKs env[i]? fun _ _=>pe env fun s e=>∃ b us,s=.tr (.nd true b (kids us))/\isKs e[i]? fun _ ks=>ks.length + us.length < 1000000/\∀ p,D.nx (e.set i (some (.tr (.nd true p (kids (ks++us))))))
instance (priority:=high) rs_ctT {K:Frag} {i:Nat} {te:TE} {pe:PX} [he:RE K te pe]:RS K (tAsg (tCtT (tOp (B1r K) (tVar i) te)) (O8 i)) (B3b i pe) where
  ok:=by
    rintro c w env σ Dp D rfl E h p;unfold B3b isKs asTr at p;split at p
    · rename_i T0 e0
      obtain ⟨a0,k0,rfl,p⟩:=p;obtain ⟨v,g0,⟨ev,us0,h1,h2⟩,o0,n0⟩:=E.at' i _ e0;cases ev;refine ⟨_,g0,?_⟩;refine he.ok c w env σ _ _ rfl E p fun y s e1 w1 R ⟨b,us,es,q1⟩=>?_;subst es;split at q1
      · rename_i T e
        obtain ⟨a,ks,rfl,hl,q⟩:=q1;obtain ⟨v',g0',VT⟩:=R.ev.at' i _ e;obtain ⟨⟨ev',zs,k1,k2⟩,o,nd⟩:=id VT;rw [g0] at g0'; cases g0';have ea:a0=a:=by cases ev'; rfl
        subst ea;obtain ⟨⟨evy,ys,m1,m2⟩,oy,ndy⟩:=id R.val;cases evy;refine ⟨a0,b,zs,ys,rfl,rfl,SqL.of k1,SqL.of m1,?_,fun p hp=>?_⟩
        · have e1:=k2.len
          have e2:=m2.len;rw [A2u] at e1 e2;rw [e1,e2];exact Nat.le_of_lt (Y7 hl)
        have fpe:(OT.nd true p (kids (ks++us))).fp=p :: ((kids ks).fp++(kids us).fp):=by show p :: (kids (ks++us)).fp=_; rw [T3]
        have mk:∀ q ∈ (kids ks).fp,q ∈ (OT.nd true a0 (kids ks)).fp:=fun q hq=>Zr _ hq;have mu:∀ q ∈ (kids us).fp,q ∈ (OT.nd true b (kids us)).fp:=fun q hq=>Zr _ hq;have E2:=R.ev.mono (Wd.lay_ok (o:=.lst (zs++ys)) R.ev.wok hp) (Wd.lay_le hp);have fr:=R.ev.fresh hp;obtain ⟨n1,n2⟩:=List.nodup_cons.mp (show (a0 :: (kids ks).fp).Nodup from nd);obtain ⟨n3,n4⟩:=List.nodup_cons.mp (show (b :: (kids us).fp).Nodup from ndy);have dis:∀ x ∈ (kids ks).fp,∀ z ∈ (kids us).fp,x≠z:=fun x hx z hz ex=>(R.new z (mu z hz)).1 i _ _ e g0 (ex ▸ mk x hx);have lw:Lw w1 (w1.lay p (.lst (zs++ys))):=(Wd.lay_le hp).toLw;have VN:VR c (w1.lay p (.lst (zs++ys))) (.ref p) (.tr (.nd true p (kids (ks++us)))):=by
          refine ⟨⟨rfl,_,C6,Tre.app (m2.mono lw fun q hq=>(oy q (mu q hq)).2.2.1) (k2.mono lw fun q hq=>(o q (mk q hq)).2.2.1)⟩,fun q hq=>?_,?_⟩
          · rw [fpe] at hq
            rcases List.mem_cons.mp hq with rfl | hq
            · exact ⟨by show upd _ _ _ _≠none; rw [C6]; simp,R.ev.wok.fnone hp,fun z=>R.ev.wok.mne hp z rfl,R.ev.le0.dom _ hp⟩
            · have:w1.H q≠none/\w1.F q=none/\¬ w1.M q/\c.w0.H q=none:=(Za hq).elim (fun z=>o q (mk q z)) fun z=>oy q (mu q z)
              exact ⟨lw.hsome this.1,this.2⟩
          · rw [fpe]
            refine List.nodup_cons.mpr ⟨fun z=>?_,List.nodup_append.mpr ⟨n2,n4,dis⟩⟩;rcases Za z with z | z
            · exact (o p (mk p z)).1 hp
            · exact (oy p (mu p z)).1 hp
        have E3:=(E2.unset (i:=i) (o:=none)).set (i:=i) VN fun q fq=>by
          have gz:∀ {j:Nat} {t:SV} {u:V},(e1.set i none)[j]?=some (some t)->(σ.set i none)[j]?=some (some u)->i≠j/\e1[j]?=some (some t)/\σ[j]?=some (some u):=fun {j t u} q1 q2=>by
            rw [List.getElem?_set] at q1 q2;by_cases z:i=j
            · rw [if_pos z] at q1
              split at q1 <;> cases q1
            · rw [if_neg z] at q1 q2; exact ⟨z,q1,q2⟩
          have fq':q ∈ (OT.nd true p (kids (ks++us))).fp:=fq;rw [fpe] at fq';rcases List.mem_cons.mp fq' with rfl | fq'
          · exact ⟨fun j t u q1 q2=>fr.1 j t u (gz q1 q2).2.1 (gz q1 q2).2.2,fr.2⟩
          rcases Za fq' with z | z
          · exact ⟨fun j t u q1 q2 f=>(gz q1 q2).1 (R.ev.own i j _ _ _ _ q e (gz q1 q2).2.1 g0 (gz q1 q2).2.2 (mk q z) f),fun za=>R.ev.zo q i _ _ za e g0 (mk q z)⟩
          · have nn:=R.new q (mu q z)
            exact ⟨fun j t u q1 q2=>nn.1 j t u (gz q1 q2).2.1 (gz q1 q2).2.2,nn.2⟩
        rw [List.set_set,List.set_set] at E3;exact h.nx _ _ _ E3 (R.lw.f.trans lw.f) (q p)
      · exact q1.elim
    · exact p.elim
def B3f (i j:Nat) (D:PEnds) (env:PEnv):Prop:=oInt env[j]? fun n=>A8i i (mIx B4k n) D env
instance (priority:=high) rs_clrV {K:Frag} {i j:Nat}:RS K (A3d (tBM0 K "list" A4t (tPo (tOp (rIx K) (tVar i) (tVar j))))) (B3f i j) where
  ok:=by
    rintro c w env σ Dp D rfl E hD p;unfold B3f oInt at p;split at p
    · rename_i n e
      obtain ⟨v,hv,vr⟩:=E.at' j _ e;have ev:v=.int n:=by cases (show Den c.K w.F v (.int n) from vr); rfl
      subst ev;have z:=(rs_clrP (K:=c.K) (te:=tOp (rIx c.K) (tVar i) (tC (.int n)))).ok c w env σ Dp D rfl E hD p;obtain ⟨v,g,q⟩:=z;exact ⟨v,g,_,hv,q⟩
    · exact p.elim
end Pu
namespace L2
open PySem PySem.Spec PyProof.Rows
variable {X:Cx} {e:Expr}
theorem qCtT {t:TE} (h:QE X e t):QE X e (Pu.tCtT t):=h
end L2
set_option synthInstance.maxHeartbeats 0
set_option synthInstance.maxSize 100000
set_option maxHeartbeats 4000000
namespace Prf
open PySem L2 My Pu
local macro_rules | `(tactic| trivial) => `(tactic| try simp only [pSeq, B8b, B88, C2w, B8c, C2s, pRet, B2q, B36, B35, B34, B33, C2f, pIf, pAsg, B89, B76, B91, pApp, B6e, B81, C2h, B2m, C3s, pYes, pNot, pAnd, pOr, B77, B9e, pOrV, pIfE, pOp, pI_i, C2p, pEqD, pNeD, pIsN, B78, A6a, A9f, A6c, A9e, A6b, A9d, B8h, B8g, pU_i, pUn, pNil, B3d, pTup, pLst, pCB, B2z, A5d, A8d, B9g, B8e, B8d, B8q, B8r, A8c, A8b, B8p, B92, B05, A7q, B04, A7n, A7o, B03, B06, B7u, B9s, B9r, B9q, B2i, B3s, B3r, B3t, pC, pdat, C3r, C3q, B3j, B8a, B0g, B0e, A5f, C3l, C02, B69, B68, B1w, A2f, A74, B0c, B8o, A8g, A8p, A8o, A8q, A93, A35, A7f, A7g, B2p, B32, B2o, B31, pFor, B3e, A3n, J7, SV.lent, A5c, B75, C3m, pSlL, pRev, B2n, B30, B83, B9f, B9d, B26, List.map_cons, List.map_nil, List.replicate_succ, List.replicate_zero, List.cons_append, List.nil_append, List.getElem?_cons_zero, List.getElem?_cons_succ, List.set_cons_zero, List.set_cons_succ, List.length_cons, List.length_nil, B8t, B8s, C2r, C2q, Option.bind_some, Option.bind_none, Option.map_some, Option.map_none, Option.join_some, B25, B24, B4r, A82, A81, B57, A9q, B55, A9p, C0f, C1p, A1q, A6n, A6m, A6l, B5m, B6k, decide_eq_true_eq, Bool.not_eq_true', decide_eq_false_iff_not, ite_not, true_and, and_true, reduceIte, Nat.zero_le, Nat.reduceAdd, Nat.reduceLeDiff, Nat.reduceSub, Int.zero_add, A8f, A8e, List.length_map, B0x, B9m, B07, B5t, B51, B4q, B56, C0h, C0r, C0u, C0q, C0t, C0k, C0o, C0n, C0i, C0j, C0l, Bool.true_eq_false, Bool.false_eq_true, reduceCtorEq, Bool.not_true, Bool.not_false, decide_true, decide_false, B7t, B9p, B29, B4g, pLsN, pLsC, C2l, B2w, B4b, B4a, B4c, A57, A6r, B52, A9g, eq_self, C17, A34, A7e, A9n, B50, A89, A86, A88, A85, A87, A84, C0p, C0s, C0m, B71, B0f, B79, ot_d, ot_o, ot_t, A8j, B2k, B3w, B3v, B3x, B3u, pKid, B3g, C1t, B7s, C3p, C3o, C3n, pTr, B7x, B9w, B9v, B9x, B8y, B7v, B9u, B9t, B3k, B4h, Y2, B1v, A9h, B8n, A8r, B8x, B39, B38, B37, C2n, pIn, B5b, B5c, B49, B5a, B5j, B5k, B5h, B5i, B43, B44, B41, B42, B4z, B40, B4x, B4y, B47, B48, B45, B46, B4v, B4w, B4t, B4u, B5f, B5g, B5d, B5e, A7p, C3j, B0d, pS, B3i, B8l, B8i, B8k, B8m, B8j, B23, B20, B22, B21, B8f, B7z, C2u, B82, pRep, B2v, B8v, pIdx, C2g, C2b, B7w, pStr, C2a, B3h, B9b, B7b, B2t, pSlT, C2m, B4e, B4d, pPth, pVw, B01, pLf, B4o, pBr, pMuV, C24, B7y, pA2, C3d, pC2, pMu, B9h, B9a, B3a, B61, B8z, A5b, pDa, A8i, C2z, C2c, B4k, mIx, C03, B0j, pUnT, C1w, A4l, B1j, B84, pCmT, C18, C19, B86, B9c, alAt, C06, pArV, B70, pFz, C25, C26, B72, B3y, C2i, B2s, C2j, B28, B74, A5g, B3c, pDN, pDk, pDk0, pDIn, C3e, C3f, C3k, C2v, C05, B8w, A9o, B1f, pPr0, pPr, B4p, C2t, C2k, B3b, B3f, B0j])
set_option genInjectivity false
set_option genSizeOfSpec false
structure Adr where
  a_commonpart:Addr
  d_commonpart:FuncData
  a_plus:Addr
  d_plus:FuncData
  a_minus:Addr
  d_minus:FuncData
  a_product:Addr
  d_product:FuncData
  a_isless:Addr
  d_isless:FuncData
  a_isoffered:Addr
  d_isoffered:FuncData
  a_endof:Addr
  d_endof:FuncData
  a_waitslack:Addr
  d_waitslack:FuncData
  a_holdslack:Addr
  d_holdslack:FuncData
  a_takesonecorner:Addr
  d_takesonecorner:FuncData
  a_firstbelow:Addr
  d_firstbelow:FuncData
  a_firstuntaken:Addr
  d_firstuntaken:FuncData
  a_firstbroken:Addr
  d_firstbroken:FuncData
  a_plansbeside:Addr
  d_plansbeside:FuncData
  a_planlater:Addr
  d_planlater:FuncData
  a_planturned:Addr
  d_planturned:FuncData
  a_planscaled:Addr
  d_planscaled:FuncData
  a_Lbegun:Addr
  d_Lbegun:FuncData
  a_Ltake:Addr
  d_Ltake:FuncData
  a_Llow:Addr
  d_Llow:FuncData
  a_Lplus:Addr
  d_Lplus:FuncData
  a_Lminus:Addr
  d_Lminus:FuncData
  a_Ltimes:Addr
  d_Ltimes:FuncData
  a_Lunder:Addr
  d_Lunder:FuncData
  a_Lamount:Addr
  d_Lamount:FuncData
  a_Loffer:Addr
  d_Loffer:FuncData
  a_Lnames:Addr
  d_Lnames:FuncData
  a_Lorder:Addr
  d_Lorder:FuncData
  a_Llag:Addr
  d_Llag:FuncData
  a_Lwaits:Addr
  d_Lwaits:FuncData
  a_Lholds:Addr
  d_Lholds:FuncData
  a_Lgroups:Addr
  d_Lgroups:FuncData
  a_Lnet:Addr
  d_Lnet:FuncData
  a_Lbeside:Addr
  d_Lbeside:FuncData
  a_Lbehind:Addr
  d_Lbehind:FuncData
  a_Lturned:Addr
  d_Lturned:FuncData
  a_Lscaled:Addr
  d_Lscaled:FuncData
  a_Ltimesdrawn:Addr
  d_Ltimesdrawn:FuncData
  a_Lstarts:Addr
  d_Lstarts:FuncData
  a_Lwhole:Addr
  d_Lwhole:FuncData
  a_Lplan:Addr
  d_Lplan:FuncData
  a_Ltoldright:Addr
  d_Ltoldright:FuncData
  a_Ljoinedright:Addr
  d_Ljoinedright:FuncData
  a_Lalike:Addr
  d_Lalike:FuncData
  a_law:Addr
  d_law:FuncData
  k_NOUGHT:Addr
structure TxB (K:PySem.W.Frag) (a_commonpart a_plus a_minus a_product a_isless a_isoffered a_endof a_waitslack a_holdslack a_takesonecorner a_firstbelow a_firstuntaken a_firstbroken a_plansbeside a_planlater a_planturned a_planscaled a_Lbegun a_Ltake a_Llow a_Lplus a_Lminus a_Ltimes a_Lunder a_Lamount a_Loffer a_Lnames a_Lorder a_Llag a_Lwaits a_Lholds a_Lgroups a_Lnet a_Lbeside a_Lbehind a_Lturned a_Lscaled a_Ltimesdrawn a_Lstarts a_Lwhole a_Lplan a_Ltoldright a_Ljoinedright a_Lalike k_NOUGHT:Addr) (d_commonpart d_plus d_minus d_product d_isless d_isoffered d_endof d_waitslack d_holdslack d_takesonecorner d_firstbelow d_firstuntaken d_firstbroken d_plansbeside d_planlater d_planturned d_planscaled d_Lbegun d_Ltake d_Llow d_Lplus d_Lminus d_Ltimes d_Lunder d_Lamount d_Loffer d_Lnames d_Lorder d_Llag d_Lwaits d_Lholds d_Lgroups d_Lnet d_Lbeside d_Lbehind d_Lturned d_Lscaled d_Ltimesdrawn d_Lstarts d_Lwhole d_Lplan d_Ltoldright d_Ljoinedright d_Lalike:FuncData):Prop where
  g_commonpart:PySem.W.nsIn K mainGlobals "common_part"=some (some (.ref a_commonpart))
  F_commonpart:Fun K "common_part" "common_part" s_commonpart a_commonpart d_commonpart
  g_plus:PySem.W.nsIn K mainGlobals "plus"=some (some (.ref a_plus))
  F_plus:Fun K "plus" "plus" s_plus a_plus d_plus
  g_minus:PySem.W.nsIn K mainGlobals "minus"=some (some (.ref a_minus))
  F_minus:Fun K "minus" "minus" s_minus a_minus d_minus
  g_product:PySem.W.nsIn K mainGlobals "product"=some (some (.ref a_product))
  F_product:Fun K "product" "product" s_product a_product d_product
  g_isless:PySem.W.nsIn K mainGlobals "is_less"=some (some (.ref a_isless))
  F_isless:Fun K "is_less" "is_less" s_isless a_isless d_isless
  g_isoffered:PySem.W.nsIn K mainGlobals "is_offered"=some (some (.ref a_isoffered))
  F_isoffered:Fun K "is_offered" "is_offered" s_isoffered a_isoffered d_isoffered
  g_endof:PySem.W.nsIn K mainGlobals "end_of"=some (some (.ref a_endof))
  F_endof:Fun K "end_of" "end_of" s_endof a_endof d_endof
  g_waitslack:PySem.W.nsIn K mainGlobals "wait_slack"=some (some (.ref a_waitslack))
  F_waitslack:Fun K "wait_slack" "wait_slack" s_waitslack a_waitslack d_waitslack
  g_holdslack:PySem.W.nsIn K mainGlobals "hold_slack"=some (some (.ref a_holdslack))
  F_holdslack:Fun K "hold_slack" "hold_slack" s_holdslack a_holdslack d_holdslack
  g_takesonecorner:PySem.W.nsIn K mainGlobals "takes_one_corner"=some (some (.ref a_takesonecorner))
  F_takesonecorner:Fun K "takes_one_corner" "takes_one_corner" s_takesonecorner a_takesonecorner d_takesonecorner
  g_firstbelow:PySem.W.nsIn K mainGlobals "first_below"=some (some (.ref a_firstbelow))
  F_firstbelow:Fun K "first_below" "first_below" s_firstbelow a_firstbelow d_firstbelow
  g_firstuntaken:PySem.W.nsIn K mainGlobals "first_untaken"=some (some (.ref a_firstuntaken))
  F_firstuntaken:Fun K "first_untaken" "first_untaken" s_firstuntaken a_firstuntaken d_firstuntaken
  g_firstbroken:PySem.W.nsIn K mainGlobals "first_broken"=some (some (.ref a_firstbroken))
  F_firstbroken:Fun K "first_broken" "first_broken" s_firstbroken a_firstbroken d_firstbroken
  g_plansbeside:PySem.W.nsIn K mainGlobals "plans_beside"=some (some (.ref a_plansbeside))
  F_plansbeside:Fun K "plans_beside" "plans_beside" s_plansbeside a_plansbeside d_plansbeside
  g_planlater:PySem.W.nsIn K mainGlobals "plan_later"=some (some (.ref a_planlater))
  F_planlater:Fun K "plan_later" "plan_later" s_planlater a_planlater d_planlater
  g_planturned:PySem.W.nsIn K mainGlobals "plan_turned"=some (some (.ref a_planturned))
  F_planturned:Fun K "plan_turned" "plan_turned" s_planturned a_planturned d_planturned
  g_planscaled:PySem.W.nsIn K mainGlobals "plan_scaled"=some (some (.ref a_planscaled))
  F_planscaled:Fun K "plan_scaled" "plan_scaled" s_planscaled a_planscaled d_planscaled
  g_Lbegun:PySem.W.nsIn K mainGlobals "_law_begun"=some (some (.ref a_Lbegun))
  F_Lbegun:Fun K "_law_begun" "_law_begun" s_Lbegun a_Lbegun d_Lbegun
  g_Ltake:PySem.W.nsIn K mainGlobals "_law_take"=some (some (.ref a_Ltake))
  F_Ltake:Fun K "_law_take" "_law_take" s_Ltake a_Ltake d_Ltake
  g_Llow:PySem.W.nsIn K mainGlobals "_law_low"=some (some (.ref a_Llow))
  F_Llow:Fun K "_law_low" "_law_low" s_Llow a_Llow d_Llow
  g_Lplus:PySem.W.nsIn K mainGlobals "_law_plus"=some (some (.ref a_Lplus))
  F_Lplus:Fun K "_law_plus" "_law_plus" s_Lplus a_Lplus d_Lplus
  g_Lminus:PySem.W.nsIn K mainGlobals "_law_minus"=some (some (.ref a_Lminus))
  F_Lminus:Fun K "_law_minus" "_law_minus" s_Lminus a_Lminus d_Lminus
  g_Ltimes:PySem.W.nsIn K mainGlobals "_law_times"=some (some (.ref a_Ltimes))
  F_Ltimes:Fun K "_law_times" "_law_times" s_Ltimes a_Ltimes d_Ltimes
  g_Lunder:PySem.W.nsIn K mainGlobals "_law_under"=some (some (.ref a_Lunder))
  F_Lunder:Fun K "_law_under" "_law_under" s_Lunder a_Lunder d_Lunder
  g_Lamount:PySem.W.nsIn K mainGlobals "_law_amount"=some (some (.ref a_Lamount))
  F_Lamount:Fun K "_law_amount" "_law_amount" s_Lamount a_Lamount d_Lamount
  g_Loffer:PySem.W.nsIn K mainGlobals "_law_offer"=some (some (.ref a_Loffer))
  F_Loffer:Fun K "_law_offer" "_law_offer" s_Loffer a_Loffer d_Loffer
  g_Lnames:PySem.W.nsIn K mainGlobals "_law_names"=some (some (.ref a_Lnames))
  F_Lnames:Fun K "_law_names" "_law_names" s_Lnames a_Lnames d_Lnames
  g_Lorder:PySem.W.nsIn K mainGlobals "_law_order"=some (some (.ref a_Lorder))
  F_Lorder:Fun K "_law_order" "_law_order" s_Lorder a_Lorder d_Lorder
  g_Llag:PySem.W.nsIn K mainGlobals "_law_lag"=some (some (.ref a_Llag))
  F_Llag:Fun K "_law_lag" "_law_lag" s_Llag a_Llag d_Llag
  g_Lwaits:PySem.W.nsIn K mainGlobals "_law_waits"=some (some (.ref a_Lwaits))
  F_Lwaits:Fun K "_law_waits" "_law_waits" s_Lwaits a_Lwaits d_Lwaits
  g_Lholds:PySem.W.nsIn K mainGlobals "_law_holds"=some (some (.ref a_Lholds))
  F_Lholds:Fun K "_law_holds" "_law_holds" s_Lholds a_Lholds d_Lholds
  g_Lgroups:PySem.W.nsIn K mainGlobals "_law_groups"=some (some (.ref a_Lgroups))
  F_Lgroups:Fun K "_law_groups" "_law_groups" s_Lgroups a_Lgroups d_Lgroups
  g_Lnet:PySem.W.nsIn K mainGlobals "_law_net"=some (some (.ref a_Lnet))
  F_Lnet:Fun K "_law_net" "_law_net" s_Lnet a_Lnet d_Lnet
  g_Lbeside:PySem.W.nsIn K mainGlobals "_law_beside"=some (some (.ref a_Lbeside))
  F_Lbeside:Fun K "_law_beside" "_law_beside" s_Lbeside a_Lbeside d_Lbeside
  g_Lbehind:PySem.W.nsIn K mainGlobals "_law_behind"=some (some (.ref a_Lbehind))
  F_Lbehind:Fun K "_law_behind" "_law_behind" s_Lbehind a_Lbehind d_Lbehind
  g_Lturned:PySem.W.nsIn K mainGlobals "_law_turned"=some (some (.ref a_Lturned))
  F_Lturned:Fun K "_law_turned" "_law_turned" s_Lturned a_Lturned d_Lturned
  g_Lscaled:PySem.W.nsIn K mainGlobals "_law_scaled"=some (some (.ref a_Lscaled))
  F_Lscaled:Fun K "_law_scaled" "_law_scaled" s_Lscaled a_Lscaled d_Lscaled
  g_Ltimesdrawn:PySem.W.nsIn K mainGlobals "_law_times_drawn"=some (some (.ref a_Ltimesdrawn))
  F_Ltimesdrawn:Fun K "_law_times_drawn" "_law_times_drawn" s_Ltimesdrawn a_Ltimesdrawn d_Ltimesdrawn
  g_Lstarts:PySem.W.nsIn K mainGlobals "_law_starts"=some (some (.ref a_Lstarts))
  F_Lstarts:Fun K "_law_starts" "_law_starts" s_Lstarts a_Lstarts d_Lstarts
  g_Lwhole:PySem.W.nsIn K mainGlobals "_law_whole"=some (some (.ref a_Lwhole))
  F_Lwhole:Fun K "_law_whole" "_law_whole" s_Lwhole a_Lwhole d_Lwhole
  g_Lplan:PySem.W.nsIn K mainGlobals "_law_plan"=some (some (.ref a_Lplan))
  F_Lplan:Fun K "_law_plan" "_law_plan" s_Lplan a_Lplan d_Lplan
  g_Ltoldright:PySem.W.nsIn K mainGlobals "_law_told_right"=some (some (.ref a_Ltoldright))
  F_Ltoldright:Fun K "_law_told_right" "_law_told_right" s_Ltoldright a_Ltoldright d_Ltoldright
  g_Ljoinedright:PySem.W.nsIn K mainGlobals "_law_joined_right"=some (some (.ref a_Ljoinedright))
  F_Ljoinedright:Fun K "_law_joined_right" "_law_joined_right" s_Ljoinedright a_Ljoinedright d_Ljoinedright
  g_Lalike:PySem.W.nsIn K mainGlobals "_law_alike"=some (some (.ref a_Lalike))
  F_Lalike:Fun K "_law_alike" "_law_alike" s_Lalike a_Lalike d_Lalike
  gc_NOUGHT:PySem.W.nsIn K mainGlobals "NOUGHT"=some (some (.ref k_NOUGHT))
  z_abs:PySem.W.nsIn K mainGlobals "abs"=some none
  z_all:PySem.W.nsIn K mainGlobals "all"=some none
  z_enumerate:PySem.W.nsIn K mainGlobals "enumerate"=some none
  z_int:PySem.W.nsIn K mainGlobals "int"=some none
  z_isinstance:PySem.W.nsIn K mainGlobals "isinstance"=some none
  z_len:PySem.W.nsIn K mainGlobals "len"=some none
  z_list:PySem.W.nsIn K mainGlobals "list"=some none
  z_max:PySem.W.nsIn K mainGlobals "max"=some none
  z_min:PySem.W.nsIn K mainGlobals "min"=some none
  z_range:PySem.W.nsIn K mainGlobals "range"=some none
  z_zip:PySem.W.nsIn K mainGlobals "zip"=some none
structure Txt (K:PySem.W.Frag) (mg:Str->Option Value) (D:Adr):Prop where
  B:TxB K D.a_commonpart D.a_plus D.a_minus D.a_product D.a_isless D.a_isoffered D.a_endof D.a_waitslack D.a_holdslack D.a_takesonecorner D.a_firstbelow D.a_firstuntaken D.a_firstbroken D.a_plansbeside D.a_planlater D.a_planturned D.a_planscaled D.a_Lbegun D.a_Ltake D.a_Llow D.a_Lplus D.a_Lminus D.a_Ltimes D.a_Lunder D.a_Lamount D.a_Loffer D.a_Lnames D.a_Lorder D.a_Llag D.a_Lwaits D.a_Lholds D.a_Lgroups D.a_Lnet D.a_Lbeside D.a_Lbehind D.a_Lturned D.a_Lscaled D.a_Ltimesdrawn D.a_Lstarts D.a_Lwhole D.a_Lplan D.a_Ltoldright D.a_Ljoinedright D.a_Lalike D.k_NOUGHT D.d_commonpart D.d_plus D.d_minus D.d_product D.d_isless D.d_isoffered D.d_endof D.d_waitslack D.d_holdslack D.d_takesonecorner D.d_firstbelow D.d_firstuntaken D.d_firstbroken D.d_plansbeside D.d_planlater D.d_planturned D.d_planscaled D.d_Lbegun D.d_Ltake D.d_Llow D.d_Lplus D.d_Lminus D.d_Ltimes D.d_Lunder D.d_Lamount D.d_Loffer D.d_Lnames D.d_Lorder D.d_Llag D.d_Lwaits D.d_Lholds D.d_Lgroups D.d_Lnet D.d_Lbeside D.d_Lbehind D.d_Lturned D.d_Lscaled D.d_Ltimesdrawn D.d_Lstarts D.d_Lwhole D.d_Lplan D.d_Ltoldright D.d_Ljoinedright D.d_Lalike
  m_commonpart:mg "common_part"=some (.ref D.a_commonpart)
  m_plus:mg "plus"=some (.ref D.a_plus)
  m_minus:mg "minus"=some (.ref D.a_minus)
  m_product:mg "product"=some (.ref D.a_product)
  m_isless:mg "is_less"=some (.ref D.a_isless)
  m_isoffered:mg "is_offered"=some (.ref D.a_isoffered)
  m_endof:mg "end_of"=some (.ref D.a_endof)
  m_waitslack:mg "wait_slack"=some (.ref D.a_waitslack)
  m_holdslack:mg "hold_slack"=some (.ref D.a_holdslack)
  m_takesonecorner:mg "takes_one_corner"=some (.ref D.a_takesonecorner)
  m_firstbelow:mg "first_below"=some (.ref D.a_firstbelow)
  m_firstuntaken:mg "first_untaken"=some (.ref D.a_firstuntaken)
  m_firstbroken:mg "first_broken"=some (.ref D.a_firstbroken)
  m_plansbeside:mg "plans_beside"=some (.ref D.a_plansbeside)
  m_planlater:mg "plan_later"=some (.ref D.a_planlater)
  m_planturned:mg "plan_turned"=some (.ref D.a_planturned)
  m_planscaled:mg "plan_scaled"=some (.ref D.a_planscaled)
  m_Lbegun:mg "_law_begun"=some (.ref D.a_Lbegun)
  m_Ltake:mg "_law_take"=some (.ref D.a_Ltake)
  m_Llow:mg "_law_low"=some (.ref D.a_Llow)
  m_Lplus:mg "_law_plus"=some (.ref D.a_Lplus)
  m_Lminus:mg "_law_minus"=some (.ref D.a_Lminus)
  m_Ltimes:mg "_law_times"=some (.ref D.a_Ltimes)
  m_Lunder:mg "_law_under"=some (.ref D.a_Lunder)
  m_Lamount:mg "_law_amount"=some (.ref D.a_Lamount)
  m_Loffer:mg "_law_offer"=some (.ref D.a_Loffer)
  m_Lnames:mg "_law_names"=some (.ref D.a_Lnames)
  m_Lorder:mg "_law_order"=some (.ref D.a_Lorder)
  m_Llag:mg "_law_lag"=some (.ref D.a_Llag)
  m_Lwaits:mg "_law_waits"=some (.ref D.a_Lwaits)
  m_Lholds:mg "_law_holds"=some (.ref D.a_Lholds)
  m_Lgroups:mg "_law_groups"=some (.ref D.a_Lgroups)
  m_Lnet:mg "_law_net"=some (.ref D.a_Lnet)
  m_Lbeside:mg "_law_beside"=some (.ref D.a_Lbeside)
  m_Lbehind:mg "_law_behind"=some (.ref D.a_Lbehind)
  m_Lturned:mg "_law_turned"=some (.ref D.a_Lturned)
  m_Lscaled:mg "_law_scaled"=some (.ref D.a_Lscaled)
  m_Ltimesdrawn:mg "_law_times_drawn"=some (.ref D.a_Ltimesdrawn)
  m_Lstarts:mg "_law_starts"=some (.ref D.a_Lstarts)
  m_Lwhole:mg "_law_whole"=some (.ref D.a_Lwhole)
  m_Lplan:mg "_law_plan"=some (.ref D.a_Lplan)
  m_Ltoldright:mg "_law_told_right"=some (.ref D.a_Ltoldright)
  m_Ljoinedright:mg "_law_joined_right"=some (.ref D.a_Ljoinedright)
  m_Lalike:mg "_law_alike"=some (.ref D.a_Lalike)
  F_law:Fun K "law" "law" s_law D.a_law D.d_law
  m_law:mg "law"=some (.ref D.a_law)
  c_NOUGHT:mg "NOUGHT"=some (.ref D.k_NOUGHT)
  z_abs:mg "abs"=none
  z_all:mg "all"=none
  z_enumerate:mg "enumerate"=none
  z_int:mg "int"=none
  z_isinstance:mg "isinstance"=none
  z_len:mg "len"=none
  z_list:mg "list"=none
  z_max:mg "max"=none
  z_min:mg "min"=none
  z_range:mg "range"=none
  z_zip:mg "zip"=none
  c2_NOUGHT:Pu.GD K D.k_NOUGHT (dq 0)
abbrev sp_law:=B1g
theorem scI {N P:List Str} {sc:Scope} (a:sc.kind=.function:=by rfl) (b:sc.isCoroutine=false:=by rfl) (c:sc.isGenerator=false:=by rfl) (d:N.Nodup:=by decide +kernel) (e:N.take P.length=P:=by rfl) (f:∀ x ∈ P,sc.names.lookup x=some .local\/sc.names.lookup x=some .cell:=by decide +kernel) (g:∀ y ∈ sc.names,y.2≠.free:=by decide +kernel):FnScope N P sc:=⟨a,b,c,d,e,f,g⟩
structure KCl (K:PySem.W.Frag) (mg:Str->Option Value) (x:Str) (f:Addr) (fd:FuncData) (ps:List Str):Prop where
  m:mg x=some (.ref f)
  k:PySem.W.keepIn K (.ref f)=true
  b:Binds K fd ps []
theorem qcK {X:Cx} {k:Nat} {f:Addr} {fd:FuncData} {ps:List Str} {sp:Sp} {x:Str} {p pos:Pos} {e:Expr} {es:List Expr} {t:TA} (F:FnOk X.prog X.w X.K X.mg X.base CX0 k f fd ps sp) (hr:Room k X.A) (c:KCl X.K X.mg x f fd ps) (ha:QA X (e :: es) t) (hg:Gl X x:=by rfl) (hdb:(x == ("__debug__":Str))=false:=by decide) (he:starEach (e :: es) X.env=(false,eval e X.env) :: starEach es X.env:=by rfl) (hpl:(backTo pos (starEach es X.env)).any (·.1)=false:=by rfl):QE X (.Call (.Name x p) (e :: es) [] pos) (A7s sp [] E0 t):=A71 F hr hg c.m c.k c.b .nil C16 ha hdb he hpl
theorem qgn {X:Cx} (i:Nat) {P:List Str} {sc:Scope} {x:Str} {pos:Pos} (S:FnScope X.N P sc) (hi:X.N[i]?=some x:=by rfl) (hx:Loc X.env.scope x:=by exact Or.inl rfl) (hf:X.fn x=true\/X.env.scope.names.lookup x=some .local:=by first | exact .inl rfl | exact .inr rfl | assumption):QG X (.Name x pos) (O8 i):=A2b S.nd hi hx hf
theorem qgc {X:Cx} (i:Nat) (N:List Str) {x:Str} {pos:Pos} (hN:X.N=N:=by exact rfl) (hd:N.Nodup:=by decide +kernel) (hi:X.N[i]?=some x:=by exact rfl) (hx:Loc X.env.scope x:=by exact Or.inl rfl) (hf:X.fn x=true\/X.env.scope.names.lookup x=some .local:=by exact Or.inr rfl):QG X (.Name x pos) (O8 i):=A2b (hN ▸ hd) hi hx hf
theorem qst {X:Cx} (i:Nat) {P:List Str} {sc:Scope} {x:Str} {e:Expr} {te:TE} {pos pos':Pos} (S:FnScope X.N P sc) (he:QE X e te) (hi:X.N[i]?=some x:=by rfl) (hx:Loc X.env.scope x:=by exact Or.inl rfl) (hs:swapsWith e (some (.Name x pos')) pos.line X.env=pure false:=by rfl) (hf:X.fn x=true\/X.env.scope.names.lookup x=some .local:=by first | exact .inl rfl | exact .inr rfl | assumption):QS X (.Assign [.Name x pos'] e pos) (tAsg te (O8 i)):=K3 S.nd hi hx he hs hf
theorem qln (K:PySem.W.Frag) {X:Cx} {p pos:Pos} {e:Expr} {te:TE} (hm:X.mg "len"=none) (he:QE X e te) (h:X.K=K:=by rfl) (hg:Gl X "len":=by rfl) (hs:starEach [e] X.env=(false,eval e X.env) :: starEach [] X.env:=by rfl) (hpl:(backTo pos (starEach [] X.env)).any (·.1)=false:=by rfl):QE X (.Call (.Name "len" p) [e] [] pos) (tCB (B1p K) (K6 te tNil)):=J5 (A32 h) hg hm PySem.boot_len (A0 he A1 hs) (by decide) (by decide) hs hpl
theorem qix (K:PySem.W.Frag) {X:Cx} {a b:Expr} {ta tb:TE} {pos:Pos} (ha:QE X a ta) (hb:QE X b tb) (h:X.K=K:=by rfl) (hs:A1y b:=by exact fun _ _=>rfl):QE X (.Subscript a b pos) (tOp (rIx K) ta tb):=B64 (B5l h) ha hb hs
theorem _root_.L2.Fun.b1 {K:PySem.W.Frag} {x q:Str} {st:Stmt} {f:Addr} {fd:FuncData} {a:Str} (F:L2.Fun K x q st f fd) (h:∀ (kV doc pm:Value) (an:Option Addr) (cdv ct u:Value),bindArgs (PySem.W.fnOf x q (G5 st) (G1 st) (A6 st) .none kV doc pm an cdv ct) ⟨[u],[]⟩=pure [(a,u)]:=by intros; rfl):Binds K fd [a] []:=F.binds (ps:=[a]) fun _ _ _ _ _ _ us hl=>by obtain ⟨_,rfl⟩:=us1 hl; exact h ..
theorem _root_.L2.Fun.b2 {K:PySem.W.Frag} {x q:Str} {st:Stmt} {f:Addr} {fd:FuncData} {a b:Str} (F:L2.Fun K x q st f fd) (h:∀ (kV doc pm:Value) (an:Option Addr) (cdv ct u v:Value),bindArgs (PySem.W.fnOf x q (G5 st) (G1 st) (A6 st) .none kV doc pm an cdv ct) ⟨[u,v],[]⟩=pure [(a,u),(b,v)]:=by intros; rfl):Binds K fd [a,b] []:=F.binds (ps:=[a,b]) fun _ _ _ _ _ _ us hl=>by obtain ⟨_,_,rfl⟩:=us2 hl; exact h ..
theorem _root_.L2.Fun.b3 {K:PySem.W.Frag} {x q:Str} {st:Stmt} {f:Addr} {fd:FuncData} {a b c:Str} (F:L2.Fun K x q st f fd) (h:∀ (kV doc pm:Value) (an:Option Addr) (cdv ct u v w:Value),bindArgs (PySem.W.fnOf x q (G5 st) (G1 st) (A6 st) .none kV doc pm an cdv ct) ⟨[u,v,w],[]⟩=pure [(a,u),(b,v),(c,w)]:=by intros; rfl):Binds K fd [a,b,c] []:=F.binds (ps:=[a,b,c]) fun _ _ _ _ _ _ us hl=>by obtain ⟨_,_,_,rfl⟩:=us3 hl; exact h ..
theorem _root_.L2.Fun.b4 {K:PySem.W.Frag} {x q:Str} {st:Stmt} {f:Addr} {fd:FuncData} {a b c d:Str} (F:L2.Fun K x q st f fd) (h:∀ (kV doc pm:Value) (an:Option Addr) (cdv ct u v w x1:Value),bindArgs (PySem.W.fnOf x q (G5 st) (G1 st) (A6 st) .none kV doc pm an cdv ct) ⟨[u,v,w,x1],[]⟩=pure [(a,u),(b,v),(c,w),(d,x1)]:=by intros; rfl):Binds K fd [a,b,c,d] []:=F.binds (ps:=[a,b,c,d]) fun _ _ _ _ _ _ us hl=>by obtain ⟨_,_,_,_,rfl⟩:=us4 hl; exact h ..
theorem _root_.L2.Fun.b5 {K:PySem.W.Frag} {x q:Str} {st:Stmt} {f:Addr} {fd:FuncData} {a b c d e:Str} (F:L2.Fun K x q st f fd) (h:∀ (kV doc pm:Value) (an:Option Addr) (cdv ct u v w x1 y:Value),bindArgs (PySem.W.fnOf x q (G5 st) (G1 st) (A6 st) .none kV doc pm an cdv ct) ⟨[u,v,w,x1,y],[]⟩=pure [(a,u),(b,v),(c,w),(d,x1),(e,y)]:=by intros; rfl):Binds K fd [a,b,c,d,e] []:=F.binds (ps:=[a,b,c,d,e]) fun _ _ _ _ _ _ us hl=>by obtain ⟨_,_,_,_,_,rfl⟩:=us5 hl; exact h ..
theorem _root_.L2.Fun.b6 {K:PySem.W.Frag} {x q:Str} {st:Stmt} {f:Addr} {fd:FuncData} {a b c d e g:Str} (F:L2.Fun K x q st f fd) (h:∀ (kV doc pm:Value) (an:Option Addr) (cdv ct u v w x1 y z:Value),bindArgs (PySem.W.fnOf x q (G5 st) (G1 st) (A6 st) .none kV doc pm an cdv ct) ⟨[u,v,w,x1,y,z],[]⟩=pure [(a,u),(b,v),(c,w),(d,x1),(e,y),(g,z)]:=by intros; rfl):Binds K fd [a,b,c,d,e,g] []:=F.binds (ps:=[a,b,c,d,e,g]) fun _ _ _ _ _ _ us hl=>by obtain ⟨_,_,_,_,_,_,rfl⟩:=us6 hl; exact h ..
def Zz:=@Pu.spOf.len
def Zf:=@PassesOwn.never
section
variable {K:PySem.W.Frag} {mg:Str->Option Value} {D:Adr}
theorem sc_commonpart:FnScope ["one","other"] ["one","other"] (A6 s_commonpart):=scI
theorem K2 (T:Txt K mg D):KCl K mg "common_part" D.a_commonpart D.d_commonpart ["one","other"]:=⟨T.m_commonpart,T.B.F_commonpart.kp,T.B.F_commonpart.b2⟩
theorem sc_plus:FnScope ["one","other","shared","mine","theirs","top","rest"] ["one","other"] (A6 s_plus):=scI
theorem A25 (T:Txt K mg D):KCl K mg "plus" D.a_plus D.d_plus ["one","other"]:=⟨T.m_plus,T.B.F_plus.kp,T.B.F_plus.b2⟩
theorem sc_minus:FnScope ["one","other"] ["one","other"] (A6 s_minus):=scI
theorem Q2 (T:Txt K mg D):KCl K mg "minus" D.a_minus D.d_minus ["one","other"]:=⟨T.m_minus,T.B.F_minus.kp,T.B.F_minus.b2⟩
theorem sc_product:FnScope ["one","other","mine","theirs"] ["one","other"] (A6 s_product):=scI
theorem A07 (T:Txt K mg D):KCl K mg "product" D.a_product D.d_product ["one","other"]:=⟨T.m_product,T.B.F_product.kp,T.B.F_product.b2⟩
theorem sc_isless:FnScope ["one","other"] ["one","other"] (A6 s_isless):=scI
theorem X6 (T:Txt K mg D):KCl K mg "is_less" D.a_isless D.d_isless ["one","other"]:=⟨T.m_isless,T.B.F_isless.kp,T.B.F_isless.b2⟩
theorem sc_isoffered:FnScope ["offer","time","kind","corners"] ["offer","time"] (A6 s_isoffered):=scI
theorem A1v (T:Txt K mg D):KCl K mg "is_offered" D.a_isoffered D.d_isoffered ["offer","time"]:=⟨T.m_isoffered,T.B.F_isoffered.kp,T.B.F_isoffered.b2⟩
theorem sc_endof:FnScope ["step"] ["step"] (A6 s_endof):=scI
theorem X7 (T:Txt K mg D):KCl K mg "end_of" D.a_endof D.d_endof ["step"]:=⟨T.m_endof,T.B.F_endof.kp,T.B.F_endof.b1⟩
theorem sc_waitslack:FnScope ["wait","plan","one","other","lag"] ["wait","plan"] (A6 s_waitslack):=scI
theorem A1u (T:Txt K mg D):KCl K mg "wait_slack" D.a_waitslack D.d_waitslack ["wait","plan"]:=⟨T.m_waitslack,T.B.F_waitslack.kp,T.B.F_waitslack.b2⟩
theorem sc_holdslack:FnScope ["hold","plan","kind","work","moment"] ["hold","plan"] (A6 s_holdslack):=scI
theorem A1w (T:Txt K mg D):KCl K mg "hold_slack" D.a_holdslack D.d_holdslack ["hold","plan"]:=⟨T.m_holdslack,T.B.F_holdslack.kp,T.B.F_holdslack.b2⟩
theorem sc_takesonecorner:FnScope ["works","group","plan","numbers","work","times"] ["works","group","plan"] (A6 s_takesonecorner):=scI
theorem R3 (T:Txt K mg D):KCl K mg "takes_one_corner" D.a_takesonecorner D.d_takesonecorner ["works","group","plan"]:=⟨T.m_takesonecorner,T.B.F_takesonecorner.kp,T.B.F_takesonecorner.b3⟩
theorem sc_firstbelow:FnScope ["word","slacks","at","slack"] ["word","slacks"] (A6 s_firstbelow):=scI
theorem K1 (T:Txt K mg D):KCl K mg "first_below" D.a_firstbelow D.d_firstbelow ["word","slacks"]:=⟨T.m_firstbelow,T.B.F_firstbelow.kp,T.B.F_firstbelow.b2⟩
theorem sc_firstuntaken:FnScope ["works","groups","plan","at","work","group"] ["works","groups","plan"] (A6 s_firstuntaken):=scI
theorem U4 (T:Txt K mg D):KCl K mg "first_untaken" D.a_firstuntaken D.d_firstuntaken ["works","groups","plan"]:=⟨T.m_firstuntaken,T.B.F_firstuntaken.kp,T.B.F_firstuntaken.b3⟩
theorem sc_firstbroken:FnScope ["net","plan","whole","works","waits","holds","groups","broken"] ["net","plan","whole"] (A6 s_firstbroken):=scI
theorem D7 (T:Txt K mg D):KCl K mg "first_broken" D.a_firstbroken D.d_firstbroken ["net","plan","whole"]:=⟨T.m_firstbroken,T.B.F_firstbroken.kp,T.B.F_firstbroken.b3⟩
theorem sc_plansbeside:FnScope ["one","other"] ["one","other"] (A6 s_plansbeside):=scI
theorem L8 (T:Txt K mg D):KCl K mg "plans_beside" D.a_plansbeside D.d_plansbeside ["one","other"]:=⟨T.m_plansbeside,T.B.F_plansbeside.kp,T.B.F_plansbeside.b2⟩
theorem sc_planlater:FnScope ["plan","later"] ["plan","later"] (A6 s_planlater):=scI
theorem T9 (T:Txt K mg D):KCl K mg "plan_later" D.a_planlater D.d_planlater ["plan","later"]:=⟨T.m_planlater,T.B.F_planlater.kp,T.B.F_planlater.b2⟩
theorem sc_planturned:FnScope ["plan","whole"] ["plan","whole"] (A6 s_planturned):=scI
theorem Q7 (T:Txt K mg D):KCl K mg "plan_turned" D.a_planturned D.d_planturned ["plan","whole"]:=⟨T.m_planturned,T.B.F_planturned.kp,T.B.F_planturned.b2⟩
theorem sc_planscaled:FnScope ["plan","span"] ["plan","span"] (A6 s_planscaled):=scI
theorem Q8 (T:Txt K mg D):KCl K mg "plan_scaled" D.a_planscaled D.d_planscaled ["plan","span"]:=⟨T.m_planscaled,T.B.F_planscaled.kp,T.B.F_planscaled.b2⟩
theorem sc_Lbegun:FnScope ["_law_script","_law_k","_law_cell"] ["_law_script","_law_k"] (A6 s_Lbegun):=scI
theorem P2 (T:Txt K mg D):KCl K mg "_law_begun" D.a_Lbegun D.d_Lbegun ["_law_script","_law_k"]:=⟨T.m_Lbegun,T.B.F_Lbegun.kp,T.B.F_Lbegun.b2⟩
theorem sc_Ltake:FnScope ["_law_state","_law_many","_law_digit","_law_made","_law_turn"] ["_law_state","_law_many"] (A6 s_Ltake):=scI
theorem C4 (T:Txt K mg D):KCl K mg "_law_take" D.a_Ltake D.d_Ltake ["_law_state","_law_many"]:=⟨T.m_Ltake,T.B.F_Ltake.kp,T.B.F_Ltake.b2⟩
theorem sc_Llow:FnScope ["_law_top","_law_bottom","_law_one","_law_other"] ["_law_top","_law_bottom"] (A6 s_Llow):=scI
theorem A27 (T:Txt K mg D):KCl K mg "_law_low" D.a_Llow D.d_Llow ["_law_top","_law_bottom"]:=⟨T.m_Llow,T.B.F_Llow.kp,T.B.F_Llow.b2⟩
theorem sc_Lplus:FnScope ["_law_one","_law_other"] ["_law_one","_law_other"] (A6 s_Lplus):=scI
theorem F7 (T:Txt K mg D):KCl K mg "_law_plus" D.a_Lplus D.d_Lplus ["_law_one","_law_other"]:=⟨T.m_Lplus,T.B.F_Lplus.kp,T.B.F_Lplus.b2⟩
theorem sc_Lminus:FnScope ["_law_one","_law_other"] ["_law_one","_law_other"] (A6 s_Lminus):=scI
theorem P1 (T:Txt K mg D):KCl K mg "_law_minus" D.a_Lminus D.d_Lminus ["_law_one","_law_other"]:=⟨T.m_Lminus,T.B.F_Lminus.kp,T.B.F_Lminus.b2⟩
theorem sc_Ltimes:FnScope ["_law_one","_law_other"] ["_law_one","_law_other"] (A6 s_Ltimes):=scI
theorem G7 (T:Txt K mg D):KCl K mg "_law_times" D.a_Ltimes D.d_Ltimes ["_law_one","_law_other"]:=⟨T.m_Ltimes,T.B.F_Ltimes.kp,T.B.F_Ltimes.b2⟩
theorem sc_Lunder:FnScope ["_law_one","_law_other"] ["_law_one","_law_other"] (A6 s_Lunder):=scI
theorem X8 (T:Txt K mg D):KCl K mg "_law_under" D.a_Lunder D.d_Lunder ["_law_one","_law_other"]:=⟨T.m_Lunder,T.B.F_Lunder.kp,T.B.F_Lunder.b2⟩
theorem sc_Lamount:FnScope ["_law_state","_law_plain","_law_least","_law_way","_law_bottom"] ["_law_state","_law_plain","_law_least"] (A6 s_Lamount):=scI
theorem F9 (T:Txt K mg D):KCl K mg "_law_amount" D.a_Lamount D.d_Lamount ["_law_state","_law_plain","_law_least"]:=⟨T.m_Lamount,T.B.F_Lamount.kp,T.B.F_Lamount.b3⟩
theorem sc_Loffer:FnScope ["_law_state","_law_kind","_law_most","_law_plain","_law_many","_law_time","_law_price","_law_gaps","_law_gap","_law_corners","_law_rate","_law_step"] ["_law_state","_law_kind","_law_most","_law_plain"] (A6 s_Loffer):=scI
theorem A90 (T:Txt K mg D):KCl K mg "_law_offer" D.a_Loffer D.d_Loffer ["_law_state","_law_kind","_law_most","_law_plain"]:=⟨T.m_Loffer,T.B.F_Loffer.kp,T.B.F_Loffer.b4⟩
theorem sc_Lnames:FnScope ["_law_state","_law_many","_law_way","_law_turn","_law_base","_law_at","_law_words","_law_made","_law_k","_law_letters"] ["_law_state","_law_many"] (A6 s_Lnames):=scI
theorem A91 (T:Txt K mg D):KCl K mg "_law_names" D.a_Lnames D.d_Lnames ["_law_state","_law_many"]:=⟨T.m_Lnames,T.B.F_Lnames.kp,T.B.F_Lnames.b2⟩
theorem sc_Lorder:FnScope ["_law_state","_law_many","_law_left","_law_made"] ["_law_state","_law_many"] (A6 s_Lorder):=scI
theorem A26 (T:Txt K mg D):KCl K mg "_law_order" D.a_Lorder D.d_Lorder ["_law_state","_law_many"]:=⟨T.m_Lorder,T.B.F_Lorder.kp,T.B.F_Lorder.b2⟩
theorem sc_Llag:FnScope ["_law_state","_law_plain","_law_lag_here"] ["_law_state","_law_plain"] (A6 s_Llag):=scI
theorem B0w (T:Txt K mg D):KCl K mg "_law_lag" D.a_Llag D.d_Llag ["_law_state","_law_plain"]:=⟨T.m_Llag,T.B.F_Llag.kp,T.B.F_Llag.b2⟩
theorem sc_Lwaits:FnScope ["_law_state","_law_many","_law_plain","_law_order_here","_law_rare","_law_made","_law_k","_law_j","_law_far"] ["_law_state","_law_many","_law_plain"] (A6 s_Lwaits):=scI
theorem A9z (T:Txt K mg D):KCl K mg "_law_waits" D.a_Lwaits D.d_Lwaits ["_law_state","_law_many","_law_plain"]:=⟨T.m_Lwaits,T.B.F_Lwaits.kp,T.B.F_Lwaits.b3⟩
theorem sc_Lholds:FnScope ["_law_state","_law_many","_law_plain","_law_late","_law_made","_law_k","_law_kind","_law_moment"] ["_law_state","_law_many","_law_plain","_law_late"] (A6 s_Lholds):=scI
theorem A92 (T:Txt K mg D):KCl K mg "_law_holds" D.a_Lholds D.d_Lholds ["_law_state","_law_many","_law_plain","_law_late"]:=⟨T.m_Lholds,T.B.F_Lholds.kp,T.B.F_Lholds.b4⟩
theorem sc_Lgroups:FnScope ["_law_state","_law_works","_law_left","_law_made","_law_size","_law_alike_here"] ["_law_state","_law_works"] (A6 s_Lgroups):=scI
theorem A7c (T:Txt K mg D):KCl K mg "_law_groups" D.a_Lgroups D.d_Lgroups ["_law_state","_law_works"]:=⟨T.m_Lgroups,T.B.F_Lgroups.kp,T.B.F_Lgroups.b2⟩
theorem sc_Lnet:FnScope ["_law_script","_law_at","_law_most","_law_corners","_law_kinds","_law_plain","_law_state","_law_many","_law_names_here","_law_works","_law_late","_law_name","_law_offer_here","_law_waits_here","_law_holds_here"] ["_law_script","_law_at","_law_most","_law_corners","_law_kinds","_law_plain"] (A6 s_Lnet):=scI
theorem B0v (T:Txt K mg D):KCl K mg "_law_net" D.a_Lnet D.d_Lnet ["_law_script","_law_at","_law_most","_law_corners","_law_kinds","_law_plain"]:=⟨T.m_Lnet,T.B.F_Lnet.kp,T.B.F_Lnet.b6⟩
theorem sc_Lbeside:FnScope ["_law_one","_law_other","_law_more","_law_many","_law_works","_law_names_here","_law_k","_law_waits_here","_law_first","_law_second","_law_wait","_law_holds_here","_law_kind","_law_work","_law_moment","_law_groups_here","_law_group"] ["_law_one","_law_other","_law_more"] (A6 s_Lbeside):=scI
theorem A08 (T:Txt K mg D):KCl K mg "_law_beside" D.a_Lbeside D.d_Lbeside ["_law_one","_law_other","_law_more"]:=⟨T.m_Lbeside,T.B.F_Lbeside.kp,T.B.F_Lbeside.b3⟩
theorem sc_Lbehind:FnScope ["_law_one","_law_other","_law_wait","_law_more","_law_first","_law_second"] ["_law_one","_law_other","_law_wait"] (A6 s_Lbehind):=scI
theorem A7d (T:Txt K mg D):KCl K mg "_law_behind" D.a_Lbehind D.d_Lbehind ["_law_one","_law_other","_law_wait"]:=⟨T.m_Lbehind,T.B.F_Lbehind.kp,T.B.F_Lbehind.b3⟩
theorem sc_Lturned:FnScope ["_law_net_here"] ["_law_net_here"] (A6 s_Lturned):=scI
theorem A68 (T:Txt K mg D):KCl K mg "_law_turned" D.a_Lturned D.d_Lturned ["_law_net_here"]:=⟨T.m_Lturned,T.B.F_Lturned.kp,T.B.F_Lturned.b1⟩
theorem sc_Lscaled:FnScope ["_law_net_here","_law_span","_law_cost","_law_works","_law_name","_law_offer_here","_law_corners","_law_waits_here"] ["_law_net_here","_law_span","_law_cost"] (A6 s_Lscaled):=scI
theorem A7a (T:Txt K mg D):KCl K mg "_law_scaled" D.a_Lscaled D.d_Lscaled ["_law_net_here","_law_span","_law_cost"]:=⟨T.m_Lscaled,T.B.F_Lscaled.kp,T.B.F_Lscaled.b3⟩
theorem sc_Ltimesdrawn:FnScope ["_law_state","_law_net_here","_law_times_here","_law_name","_law_offer_here","_law_corner","_law_time"] ["_law_state","_law_net_here"] (A6 s_Ltimesdrawn):=scI
theorem X9 (T:Txt K mg D):KCl K mg "_law_times_drawn" D.a_Ltimesdrawn D.d_Ltimesdrawn ["_law_state","_law_net_here"]:=⟨T.m_Ltimesdrawn,T.B.F_Ltimesdrawn.kp,T.B.F_Ltimesdrawn.b2⟩
theorem sc_Lstarts:FnScope ["_law_net_here","_law_times_here","_law_starts_here","_law_turn","_law_kind","_law_work","_law_moment","_law_one","_law_other","_law_wait","_law_soon"] ["_law_net_here","_law_times_here"] (A6 s_Lstarts):=scI
theorem A69 (T:Txt K mg D):KCl K mg "_law_starts" D.a_Lstarts D.d_Lstarts ["_law_net_here","_law_times_here"]:=⟨T.m_Lstarts,T.B.F_Lstarts.kp,T.B.F_Lstarts.b2⟩
theorem sc_Lwhole:FnScope ["_law_plan_here","_law_whole_here","_law_start","_law_time","_law_end"] ["_law_plan_here"] (A6 s_Lwhole):=scI
theorem A9y (T:Txt K mg D):KCl K mg "_law_whole" D.a_Lwhole D.d_Lwhole ["_law_plan_here"]:=⟨T.m_Lwhole,T.B.F_Lwhole.kp,T.B.F_Lwhole.b1⟩
theorem sc_Lplan:FnScope ["_law_state","_law_net_here","_law_plan_here","_law_at","_law_move","_law_start","_law_whole_here"] ["_law_state","_law_net_here"] (A6 s_Lplan):=scI
theorem A7b (T:Txt K mg D):KCl K mg "_law_plan" D.a_Lplan D.d_Lplan ["_law_state","_law_net_here"]:=⟨T.m_Lplan,T.B.F_Lplan.kp,T.B.F_Lplan.b2⟩
theorem sc_Ltoldright:FnScope ["_law_one","_law_other","_law_later","_law_whole_here","_law_span","_law_dues","_law_kept","_law_k","_law_turn","_law_told"] ["_law_one","_law_other","_law_later","_law_whole_here","_law_span"] (A6 s_Ltoldright):=scI
theorem Q9 (T:Txt K mg D):KCl K mg "_law_told_right" D.a_Ltoldright D.d_Ltoldright ["_law_one","_law_other","_law_later","_law_whole_here","_law_span"]:=⟨T.m_Ltoldright,T.B.F_Ltoldright.kp,T.B.F_Ltoldright.b5⟩
theorem sc_Ljoinedright:FnScope ["_law_one","_law_other","_law_plans","_law_wholes","_law_wait","_law_keeps","_law_whole_here","_law_both","_law_due","_law_gone","_law_joined"] ["_law_one","_law_other","_law_plans","_law_wholes","_law_wait"] (A6 s_Ljoinedright):=scI
theorem U5 (T:Txt K mg D):KCl K mg "_law_joined_right" D.a_Ljoinedright D.d_Ljoinedright ["_law_one","_law_other","_law_plans","_law_wholes","_law_wait"]:=⟨T.m_Ljoinedright,T.B.F_Ljoinedright.kp,T.B.F_Ljoinedright.b5⟩
theorem sc_Lalike:FnScope ["_law_net_here","_law_plan_here","_law_whole_here","_law_span","_law_cost","_law_keeps","_law_scaled_here"] ["_law_net_here","_law_plan_here","_law_whole_here","_law_span","_law_cost"] (A6 s_Lalike):=scI
theorem A28 (T:Txt K mg D):KCl K mg "_law_alike" D.a_Lalike D.d_Lalike ["_law_net_here","_law_plan_here","_law_whole_here","_law_span","_law_cost"]:=⟨T.m_Lalike,T.B.F_Lalike.kp,T.B.F_Lalike.b5⟩
theorem sc_law:FnScope ["_law_script","_law_at","_law_state","_law_plain","_law_one","_law_other","_law_plan_here","_law_whole_here","_law_later","_law_end","_law_wait","_law_span","_law_longer"] ["_law_script"] (A6 s_law):=scI
end
theorem hd {a b:PSt} {D:PEnds} {e:PEnv} (h:∀ R,R=b->pSeq a R D e):pSeq a b D e:=h b rfl
theorem A1c {a b:PSt} {D:PEnds} {e:PEnv} (P:PEnv->Prop) (h1:∀ R:PSt,(∀ e',P e'->R D e')->pSeq a R D e) (h2:∀ e',P e'->b D e'):pSeq a b D e:=h1 b h2
theorem A55:(PyData.str "steps").canLay0=true:=by decide +kernel
theorem A54:(PyData.str "straight").canLay0=true:=by decide +kernel
theorem C1h:PyData.eqv (.str "steps") (.str "steps")=true:=by decide +kernel
theorem C1e:PyData.eqv (.str "straight") (.str "straight")=true:=by decide +kernel
theorem C1f:PyData.eqv (.str "straight") (.str "steps")=false:=by decide +kernel
def offD (kd:Str) (cs:List (Rat × Rat)):PyData:=.tuple [.str kd,.list (cs.map dcn)]
def Kd (kd:Str):Prop:=kd="straight"\/kd="steps"
theorem Kd.lay {kd:Str} (h:Kd kd):(PyData.str kd).canLay0=true:=by rcases h with rfl | rfl; exact A54; exact A55
def R1 (c d:Rat × Rat):Rat:=(d.2 - c.2) / (c.1 - d.1)
theorem C1u {c d:Rat × Rat} (h:d.1 < c.1) (h1:SmR 161 85 c.1) (h2:SmR 285 151 c.2) (h3:SmR 161 85 d.1) (h4:SmR 285 151 d.2):SmR 607 549 (R1 c d) :=
  ((h4.sub h2).div (h1.sub h3) (by grind)).mono (by decide) (by decide)
theorem C3c:("steps":Str)≠"straight":=by decide +kernel
def lm (vs:List Rat) (m:Rat):Rat:=vs.foldl (fun m v=>if v < m then v else m) m
theorem C3a:∀ (vs:List Rat) (m:Rat),lm vs m<=m/\∀ v ∈ vs,lm vs m<=v
  | [],m=>⟨Rat.le_refl,fun v h=>absurd h (by simp)⟩
  | v :: r,m=>by
    obtain ⟨h1,h2⟩:=C3a r (if v < m then v else m);have e:lm (v :: r) m=lm r (if v < m then v else m):=rfl;rw [e];have h3:(if v < m then v else m)<=m/\(if v < m then v else m)<=v:=by
      split
      · constructor <;> grind
      · constructor <;> grind
    refine ⟨by grind,fun x hx=>?_⟩;rcases List.mem_cons.mp hx with rfl | hx
    · grind
    · exact h2 x hx
def val (q:Rat) (c:Rat × Rat):Rat:=c.2 + q * c.1
theorem smr0:SmR 1 1 0:=⟨by unfold Sm; decide,by unfold Sm; decide⟩
theorem smq0:SmQ 3900 0:=⟨smr0.1.mono (by decide),smr0.2.mono (by decide)⟩
def CvI (l:List (Rat × Rat)):Prop:=∀ (i:Nat) a b c,l[i]?=some a->l[i + 1]?=some b->l[i + 2]?=some c->R1 a b < R1 b c
theorem A4i {a b:Rat × Rat} (h:b.1 < a.1):R1 a b * (a.1 - b.1)=b.2 - a.2:=by unfold R1; exact Rat.div_mul_cancel (by grind)
theorem CvI.push {l:List (Rat × Rat)} {c:Rat × Rat} (H:CvI l) (h:∀ A a b,l=A++[a,b]->R1 a b < R1 b c):CvI (l++[c]):=by
  intro j x y z h1 h2 h3;have hl:j + 2 < l.length + 1:=by have:=(Zs h3).1; simpa using this
  rcases (show j + 2 < l.length\/j + 2=l.length by omega) with q | q
  · rw [List.getElem?_append_left (by omega)] at h1 h2 h3
    exact H j x y z h1 h2 h3
  · rw [List.getElem?_append_left (by omega)] at h1 h2
    rw [List.getElem?_append_right (by omega),q,Nat.sub_self] at h3;cases h3;refine h (l.take j) x y ?_;have e1:l.drop j=[x,y]:=by
      refine List.ext_getElem? fun k=>?_;rw [List.getElem?_drop];match k with
      | 0=>simpa using h1
      | 1=>simpa using h2
      | k + 2=>simp; omega
    rw [<- e1,List.take_append_drop]
def CvR (l:List (Rat × Rat)) (R:Rat):Prop:=CvI l/\∀ A a b,l=A++[a,b]->R1 a b=R
theorem CvR.one (c:Rat × Rat):CvR [c] 0:=by
  refine ⟨fun i a b d h1 h2 h3=>?_,fun A a b e=>?_⟩
  · have:=(Zs h3).1; simp at this
  · have:=congrArg List.length e; simp at this
theorem CvR.step {cs:List (Rat × Rat)} {T P R q v v2:Rat} (q0:0 < q) (v0:0 < v) (hv:v2=(R + v) * q) (h:CvR (cs++[(T,P)]) R):CvR (cs++[(T,P)]++[(T - q,P + v2)]) (R + v):=by
  have es:R1 (T,P) (T - q,P + v2)=R + v:=by
    have e:=A4i (a:=(T,P)) (b:=(T - q,P + v2)) (by show T - q < T; grind);have e':R1 (T,P) (T - q,P + v2) * q=(R + v) * q:=by
      rw [<- hv];have:R1 (T,P) (T - q,P + v2) * (T - (T - q))=P + v2 - P:=e;grind
    have hq:q≠0:=by grind
    rw [<- Rat.mul_div_cancel (b:=q) hq (a:=R1 (T,P) (T - q,P + v2)),e',Rat.mul_div_cancel hq]
  refine ⟨h.1.push fun A a b e=>?_,fun A a b e=>?_⟩
  · have hb:b=(T,P):=by
      have e':cs++[(T,P)]=(A++[a])++[b]:=by rw [e]; simp
      have:=(List.append_inj' e' rfl).2;cases this; rfl
    have:=h.2 A a b e;rw [this,hb,es]; grind
  · have e':cs++[(T,P),(T - q,P + v2)]=A++[a,b]:=by rw [<- e]; simp
    have:=(List.append_inj' e' rfl).2;cases this; exact es
def RiseO (cs:List (Rat × Rat)):Prop:=∀ (i:Nat) c d,cs[i]?=some c->cs[i + 1]?=some d->d.1 < c.1/\c.2 < d.2
theorem RiseO.one (c:Rat × Rat):RiseO [c]:=fun i a b _ h=>by rw [List.getElem?_eq_none (by simp)] at h; cases h
theorem RiseO.snoc {cs:List (Rat × Rat)} {c d:Rat × Rat} (h:RiseO (cs++[c])) (h1:d.1 < c.1) (h2:c.2 < d.2):RiseO (cs++[c]++[d]):=fun i a b ha hb=>by
  rcases Nat.lt_trichotomy (i + 1) (cs++[c]).length with z | z | z
  · rw [List.getElem?_append_left (by omega)] at ha
    rw [List.getElem?_append_left z] at hb;exact h i a b ha hb
  · rw [List.getElem?_append_left (by omega)] at ha
    rw [z,List.getElem?_append_right (Zv _),Nat.sub_self] at hb;have hi:i=cs.length:=by simp at z; exact z
    rw [hi,List.getElem?_append_right (Zv _),Nat.sub_self] at ha;cases ha; cases hb;exact ⟨h1,h2⟩
  · rw [List.getElem?_eq_none (by simp at z ⊢; omega)] at hb; cases hb
def sumR (qs:List Rat):Rat:=qs.foldr (· + ·) 0
theorem Y3:∀ (qs:List Rat) (q:Rat),sumR (qs++[q])=sumR qs + q
  | [],q=>by show q + 0=0 + q; grind
  | p :: r,q=>by
    have h:=Y3 r q;show p + sumR (r++[q])=p + sumR r + q;rw [h]; grind
theorem V8:∀ {qs:List Rat},(∀ q ∈ qs,0 < q)->0<=sumR qs
  | [],_=>Rat.le_refl
  | p :: r,h=>by
    have h1:=V8 (qs:=r) fun q hq=>h q (Zr _ hq);have h2:=h p Zy;show 0<=p + sumR r;grind
structure OfG (kd:Str) (cs:List (Rat × Rat)) (a b c d:Nat):Prop where
  ok:OfOk cs a b c d
  nn:∀ x ∈ cs,0<=x.1/\0<=x.2
  up:RiseO cs
  cv:kd="straight"->CvI cs
def wD (w:Int × Int × Rat):PyData:=.tuple [.int w.1,.int w.2.1,dq w.2.2]
def hD (h:Str × Int × Rat):PyData:=.tuple [.str h.1,.int h.2.1,dq h.2.2]
def On (B k:Nat) (q:Rat):Prop:=∃ z:Int,q=Rat.divInt z (B:Int)/\z.natAbs<=k * B
theorem On.mono {B k l:Nat} {q:Rat} (h:On B k q) (g:k<=l):On B l q:=let ⟨z,e,b⟩:=h; ⟨z,e,Zx b (Zu _ g)⟩
theorem On.add {B k l:Nat} {p q:Rat} (hB:0 < B) (h:On B k p) (g:On B l q):On B (k + l) (p + q):=by
  obtain ⟨z,rfl,b⟩:=h;obtain ⟨y,rfl,c⟩:=g;have hn:(B:Int)≠0:=by omega
  refine ⟨z + y,?_,Zx (Int.natAbs_add_le _ _) (by rw [Nat.add_mul]; omega)⟩;rw [Rat.divInt_add_divInt _ _ hn hn,<- Int.add_mul,Rat.divInt_mul_right hn]
theorem On.neg {B k:Nat} {p:Rat} (h:On B k p):On B k (-p):=by
  obtain ⟨z,rfl,b⟩:=h;exact ⟨-z,by rw [Rat.neg_divInt],by rw [Int.natAbs_neg]; exact b⟩
theorem On.sub {B k l:Nat} {p q:Rat} (hB:0 < B) (h:On B k p) (g:On B l q):On B (k + l) (p - q):=by
  rw [Rat.sub_eq_add_neg]; exact h.add hB g.neg
theorem On.of {B a b:Nat} {q:Rat} (hB:0 < B) (h:SmR a b q) (d:q.den ∣ B):On B (2 ^ a) q:=by
  obtain ⟨c,rfl⟩:=d;have hd:=q.den_pos;by_cases hc:c=0
  · subst hc; rw [Nat.mul_zero] at hB; exact absurd hB (Nat.lt_irrefl _)
  · refine ⟨q.num * c,?_,?_⟩
    · rw [Int.natCast_mul,Rat.divInt_mul_right (by omega),Rat.num_divInt_den]
    · rw [Int.natAbs_mul,Int.natAbs_natCast]
      have h1:q.num.natAbs<=2 ^ a:=Nat.le_of_lt h.1;exact Nat.mul_le_mul h1 (Nat.le_mul_of_pos_left _ hd)
theorem On.zero {B:Nat}:On B 0 0:=⟨0,by rw [Rat.zero_divInt],by simp⟩
theorem On.q {B k:Nat} {q:Rat} (hB:0 < B) (h:On B k q) (g:k * B < 2 ^ 3900) (g2:B < 2 ^ 3900):SmQ 3900 q:=by
  obtain ⟨z,rfl,b⟩:=h;have:=SmR.low (n:=3900) (d:=3900) (t:=z) (b:=(B:Int)) (Nat.lt_of_le_of_lt b g) (by unfold Sm; rw [Int.natAbs_natCast]; exact g2) (by omega);exact ⟨this.1,this.2⟩
theorem On.up {B C k:Nat} {q:Rat} (hC:0 < C) (h:On B k q):On (B * C) k q:=by
  obtain ⟨z,rfl,b⟩:=h;refine ⟨z * C,by rw [Int.natCast_mul,Rat.divInt_mul_right (by omega)],?_⟩;rw [Int.natAbs_mul,Int.natAbs_natCast,<- Nat.mul_assoc];exact Zu _ b
theorem A9l {a b:Str}:PyData.eqv (.str a) (.str b)=decide (a=b):=by
  rw [Bool.eq_iff_iff,decide_eq_true_eq];simp [PyData.eqv]
def LL:Nat:=591133442051411133755680800
theorem I0:0 < LL:=by decide
theorem C0b {d:Nat} (h0:0 < d) (h:d < 64):d ∣ LL:=by
  have k:∀ d:Fin 64,d.val=0\/LL % d.val=0:=by decide +kernel
  rcases k ⟨d,h⟩ with z | z
  · exact absurd z (Nat.ne_of_gt h0)
  · exact Nat.dvd_of_mod_eq_zero z
theorem G9 {q:Rat} (h:SmR 41 6 q):On LL (2 ^ 41) q:=by
  refine On.of I0 h (C0b q.den_pos ?_);have:=h.2; unfold Sm at this; rw [Int.natAbs_natCast] at this; exact this
theorem On.mul {B C k l:Nat} {p q:Rat} (h:On B k p) (g:On C l q):On (B * C) (k * l) (p * q):=by
  obtain ⟨z,rfl,b⟩:=h;obtain ⟨y,rfl,c⟩:=g;refine ⟨z * y,by rw [Rat.divInt_mul_divInt,Int.natCast_mul],?_⟩;rw [Int.natAbs_mul];have:=Nat.mul_le_mul b c;rw [Nat.mul_mul_mul_comm] at this;exact this
theorem B9n {B k:Nat} {n:Int} (hB:0 < B) (h:n.natAbs<=k):On B k (n:Rat):=by
  refine ⟨n * (B:Int),?_,by rw [Int.natAbs_mul,Int.natAbs_natCast]; exact Zu _ h⟩;have:=Rat.divInt_mul_right (n:=n) (d:=1) (a:=(B:Int)) (by omega);rw [Int.one_mul] at this;rw [this];have e:=Rat.num_divInt_den (n:Rat);rw [Rat.num_intCast,Rat.den_intCast] at e;exact e.symm
theorem onQ {B k:Nat} {q:Rat} (h:On B k q) (hB:0 < B) (hb:B<=2 ^ 1000) (g:k<=2 ^ 1000):SmQ 3900 q:=by
  refine h.q hB (Nat.lt_of_le_of_lt (Nat.mul_le_mul g hb) ?_) (Nat.lt_of_le_of_lt hb ?_)
  · rw [<- Nat.pow_add]; exact Nat.pow_lt_pow_right (by decide) (by decide)
  · exact Nat.pow_lt_pow_right (by decide) (by decide)
theorem C3u:LL<=2 ^ 1000:=Zx (Nat.le_of_ble_eq_true rfl:LL<=2 ^ 100) (Zp (by decide) (by decide))
theorem onL {a:Nat} {q:Rat} (h:On LL (2 ^ a) q) (ha:a<=1000):SmQ 3900 q:=onQ h I0 C3u (Zp (by decide) ha)
theorem On.p2 {B a b:Nat} {q:Rat} (h:On B (2 ^ a) q) (g:a<=b):On B (2 ^ b) q:=h.mono (Zp (by decide) g)
theorem On.add2 {B a b:Nat} {p q:Rat} (hB:0 < B) (h:On B (2 ^ a) p) (g:On B (2 ^ a) q) (hb:a + 1<=b):On B (2 ^ b) (p + q):=by
  refine (h.add hB g).mono (Zx ?_ (Zp (by decide) hb));rw [Nat.pow_succ]; omega
theorem On.sub2 {B a b:Nat} {p q:Rat} (hB:0 < B) (h:On B (2 ^ a) p) (g:On B (2 ^ a) q) (hb:a + 1<=b):On B (2 ^ b) (p - q):=by
  refine (h.sub hB g).mono (Zx ?_ (Zp (by decide) hb));rw [Nat.pow_succ]; omega
def OnC (cs:List (Rat × Rat)):Prop:=∀ c ∈ cs,On LL (2 ^ 45) c.1/\On (LL * LL) (2 ^ 90) c.2
def WOk (n:Int) (ws:List (Int × Int × Rat)):Prop:=∀ w ∈ ws,(0<=w.1/\w.1 < n)/\(0<=w.2.1/\w.2.1 < n)/\On LL (2 ^ 55) w.2.2
theorem WOk.snoc {n:Int} {ws:List (Int × Int × Rat)} {w:Int × Int × Rat} (h:WOk n ws) (g:(0<=w.1/\w.1 < n)/\(0<=w.2.1/\w.2.1 < n)/\On LL (2 ^ 55) w.2.2):WOk n (ws++[w]):=fun x hx=>by
  rcases Za hx with z | z
  · exact h x z
  · rw [Zn z]; exact g
theorem B0h {n:Int} {os:List Int} (h:∀ o ∈ os,0<=o/\o < n) {j:Nat} (hj:j < os.length):∃ o,(0<=o/\o < n)/\L2.atI (os.map PyData.int) (j:Int)=some (.int o) :=
  ⟨os[j],h _ (List.getElem_mem hj),F5 (by rw [Zh,Zg hj]; rfl)⟩
def Hk (k:Str):Prop:=k="from"\/k="till"\/k="by"
def HOk (n:Int) (hs:List (Str × Int × Rat)):Prop:=∀ h ∈ hs,Hk h.1/\(0<=h.2.1/\h.2.1 < n)/\On LL (2 ^ 55) h.2.2
theorem HOk.snoc {n:Int} {hs:List (Str × Int × Rat)} {h:Str × Int × Rat} (k:HOk n hs) (g:Hk h.1/\(0<=h.2.1/\h.2.1 < n)/\On LL (2 ^ 55) h.2.2):HOk n (hs++[h]):=fun x hx=>by
  rcases Za hx with z | z
  · exact k x z
  · rw [Zn z]; exact g
theorem C3g {g:Int} (g0:0<=g) (g1:g < 4):∃ kd:Str,Hk kd/\L2.atI [PyData.str "from",.str "from",.str "till",.str "by"] g=some (.str kd):=by
  have hg:g=0\/g=1\/g=2\/g=3:=by omega
  rcases hg with rfl | rfl | rfl | rfl
  · exact ⟨_,.inl rfl,rfl⟩
  · exact ⟨_,.inl rfl,rfl⟩
  · exact ⟨_,.inr (.inl rfl),rfl⟩
  · exact ⟨_,.inr (.inr rfl),rfl⟩
theorem Hk.lay {kd:Str} (h:Hk kd):(PyData.str kd).canLay0=true:=by rcases h with rfl | rfl | rfl <;> decide +kernel
theorem A56:(PyData.str "from").canLay0=true:=by decide +kernel
theorem C3w {c:Nat} (h:c < 128):(sgn c).canLay0=true:=by
  show PyData.strOk ⟨#[c]⟩=true;unfold PyData.strOk;simp;omega
theorem A7w:∀ cs:List Nat,PyData.depthAll (cs.map sgn)<=1
  | []=>by decide
  | c :: r=>by
    show max (sgn c).depth (PyData.depthAll (r.map sgn))<=1;have:=A7w r;have:(sgn c).depth=0:=rfl;omega
theorem getS {z:Str} {n:Int} (hl:z.length<=1000) (all:z.cps.toList.all (fun c=>decide (c < 128))=true) (h0:0<=n) (h1:n < z.length) {Q:SV->Prop} (q:∀ c,c < 128->Q (.d (sgn c))):B27 z n Q:=by
  obtain ⟨m,rfl⟩:=Zi h0;have hm:m < z.cps.toList.length:=by rw [Array.length_toList]; exact Int.ofNat_lt.mp h1
  refine ⟨z.cps.toList[m],F5 (Zg hm),q _ ?_⟩;have:=List.all_eq_true.mp all _ (List.getElem_mem hm);simpa using this
def ltr:Str:=Str.ofString "abcdefghijklmnopqrstuvwxyz"
theorem A1j:ltr.length=26:=by decide +kernel
theorem B4l:ltr.cps.toList.all (fun c=>decide (c < 128))=true:=by decide +kernel
theorem A4n:∀ cs:List Nat,A1b (cs.map sgn)=some (cs.map fun c=>(⟨#[c]⟩:Str))
  | []=>rfl
  | c :: r=>by
    show (A1b (r.map sgn)).map ((⟨#[c]⟩:Str) :: ·)=_;rw [A4n r]; rfl
theorem A96:∀ cs:List Nat,((cs.map fun c=>(⟨#[c]⟩:Str)).map fun z=>z.length + (Str.ofString "").length).sum=cs.length
  | []=>rfl
  | c :: r=>by
    rw [List.map_cons,List.map_cons,List.sum_cons,A96 r,List.length_cons];have:(⟨#[c]⟩:Str).length + (Str.ofString "").length=1:=by
      rw [show (Str.ofString "").length=0 by decide +kernel]; rfl
    omega
theorem A4o:∀ (cs:List Nat) (a:Array Nat),(List.foldl (fun acc (p:Str)=>acc++(Str.ofString "").cps++p.cps) a (cs.map fun c=>(⟨#[c]⟩:Str))).toList=a.toList++cs
  | [],a=>by simp
  | c :: r,a=>by
    rw [List.map_cons,List.foldl_cons,A4o r,show (Str.ofString "").cps=#[] by decide +kernel]; simp
theorem B1m (cs:List Nat):((Str.ofString "").join (cs.map fun c=>(⟨#[c]⟩:Str))).cps.toList=cs:=by
  cases cs with
  | nil=>rfl
  | cons c r=>rw [<- StrLaws.glued_eq_join]; exact A4o r #[c]
def wordsZ:List Str:=["from","till","by","work","wait","hold","none","start","end","steps"]
def A1z:List PyData:=wordsZ.map PyData.str
def Lt26 (x:PyData):Prop:=∃ b:Int,x=.int b/\0<=b/\b < 26
theorem A2s (m:Int):Lt26 (.int (m % 26)):=⟨_,rfl,Int.emod_nonneg m (by decide),Int.emod_lt_of_pos m (by decide)⟩
theorem A8z {ys:List PyData} {j:Nat} {m:Int} (h:∀ x ∈ ys,Lt26 x):∀ x ∈ ys.set j (.int (m % 26)),Lt26 x:=fun x hx=>by
  rcases List.mem_or_eq_of_mem_set hx with z | z
  · exact h x z
  · rw [z]; exact A2s m
theorem A37:∀ z ∈ wordsZ,(PyData.str z).canLay0=true:=by decide +kernel
theorem B0y {m:Int} (h0:0<=m) (h1:m < 10):∃ z:Str,L2.atI A1z m=some (.str z)/\(PyData.str z).canLay0=true:=by
  obtain ⟨i,rfl⟩:=Zi h0;have hl:wordsZ.length=10:=rfl;have hi:i < wordsZ.length:=by omega
  exact ⟨wordsZ[i],F5 (by unfold A1z; rw [Zh,Zg hi]; rfl),A37 _ (List.getElem_mem hi)⟩
theorem A9c {cs:List Nat} (h:∀ c ∈ cs,c < 128):(PyData.str ((Str.ofString "").join (cs.map fun c=>(⟨#[c]⟩:Str)))).canLay0=true:=by
  show PyData.strOk _=true;unfold PyData.strOk;rw [<- Array.all_toList,B1m,List.all_eq_true];intro c hc;have:=h c hc;exact Zk (by omega)
abbrev Wk:=Str × Str × List (Rat × Rat)
def kD (x:Wk):PyData:=.tuple [.str x.1,offD x.2.1 x.2.2]
theorem C3z {xs:List Wk} {o:Int} (h0:0<=o) (h1:o < (xs.length:Int)):∃ x,x ∈ xs/\L2.atI (xs.map kD) o=some (kD x):=by
  obtain ⟨i,rfl⟩:=Zi h0;have hi:i < xs.length:=by omega
  exact ⟨xs[i],List.getElem_mem hi,F5 (by rw [Zh,Zg hi]; rfl)⟩
def wat (xs:List Wk) (o:Int):Wk:=xs.getD o.toNat (Str.ofString "",Str.ofString "",[])
theorem A10 {xs:List Wk} {o:Int} (h0:0<=o) (h1:o < (xs.length:Int)):L2.atI (xs.map kD) o=some (.tuple [.str (wat xs o).1,.tuple [.str (wat xs o).2.1,.list ((wat xs o).2.2.map dcn)]]):=by
  obtain ⟨i,rfl⟩:=Zi h0;have hi:i < xs.length:=by omega
  refine F5 ?_;unfold wat;rw [Zh,Int.toNat_natCast,List.getD_eq_getElem?_getD,Zg hi]; rfl
theorem A39 {xs:List Wk} {o:Int} (h0:0<=o) (h1:o < (xs.length:Int)):wat xs o ∈ xs:=by
  unfold wat;rw [List.getD_eq_getElem?_getD,Zg (by omega:o.toNat < xs.length)];exact List.getElem_mem _
theorem B6i {xs:List Wk} {i:Nat} {x:Wk} (h:xs[i]?=some x):wat xs (i:Int)=x:=by
  unfold wat;rw [Int.toNat_natCast,List.getD_eq_getElem?_getD,h]; rfl
structure GrOk (xs:List Wk) (g:List Int):Prop where
  l2:2<=g.length
  l9:g.length<=10
  ix:∀ w ∈ g,0<=w/\w < (xs.length:Int)
  st:∀ w ∈ g,(wat xs w).2.1="steps"
  eq:∀ w ∈ g,∀ v ∈ g,(wat xs w).2.2.length=(wat xs v).2.2.length
def gD (g:List Int):PyData:=.list (g.map .int)
structure NetG (n:Int) (xs:List Wk) (ws:List (Int × Int × Rat)) (hs:List (Str × Int × Rat)) (gs:List (List Int)):Prop where
  ln:(xs.length:Int)=n
  n0:1<=n
  n1:n<=10
  of:∀ x ∈ xs,Kd x.2.1/\OfG x.2.1 x.2.2 100 54 244 130/\OnC x.2.2
  wl:ws.length<=40
  wk:WOk n ws
  hl:hs.length<=40
  hk:HOk n hs
  gl:gs.length<=4
  gk:∀ g ∈ gs,GrOk xs g
  nm:∀ x ∈ xs,(PyData.str x.1).canLay0=true
def netD (xs:List Wk) (ws:List (Int × Int × Rat)) (hs:List (Str × Int × Rat)) (gs:List PyData):PyData:=.tuple [.list (xs.map kD),.list (ws.map wD),.list (hs.map hD),.list gs]
def fb (qs:List Rat):Option Nat:=qs.findIdx? fun q=>decide (q < 0)
theorem C1d {qs:List Rat} {i:Nat} {q:Rat} (h:qs[i]?=some q) (hq:q < 0) (ha:∀ j r,j < i->qs[j]?=some r->¬ r < 0):fb qs=some i:=by
  obtain ⟨hi,e⟩:=Zs h;unfold fb;rw [List.findIdx?_eq_some_iff_getElem];refine ⟨hi,by rw [e]; simpa using hq,fun j hj=>?_⟩;have:=ha j _ hj (Zg (by omega));simpa using this
theorem B5z {qs:List Rat} (ha:∀ j r,j < qs.length->qs[j]?=some r->¬ r < 0):fb qs=none:=by
  unfold fb;rw [List.findIdx?_eq_none_iff];intro q hq;obtain ⟨j,hj,e⟩:=List.getElem_of_mem hq;have:=ha j q hj (by rw [Zg hj,e]);simpa using this
def fbD (w:Str):Option Nat->PyData
  | some i=>.tuple [.str w,.int (i:Int)]
  | none=>.none
theorem C1s {ps:List (Rat × Rat)} {o:Int} {p:Rat × Rat} (h0:0<=o) (h:ps[o.toNat]?=some p):L2.atI (ps.map dcn) o=some (dcn p):=by
  obtain ⟨i,rfl⟩:=Zi h0;exact F5 (by rw [Zh]; rw [Int.toNat_natCast] at h; rw [h]; rfl)
def sat (ps:List (Rat × Rat)) (o:Int):Rat × Rat:=ps.getD o.toNat (0,0)
theorem A18 {ps:List (Rat × Rat)} {o:Int} (h0:0<=o) (h1:o < (ps.length:Int)):L2.atI (ps.map dcn) o=some (dcn (sat ps o)) :=
  C1s h0 (by unfold sat; rw [List.getD_eq_getElem?_getD,Zg (by omega:o.toNat < ps.length)]; rfl)
def enD (p:Rat × Rat):Rat:=p.1 + p.2
def wSl (ps:List (Rat × Rat)) (w:Int × Int × Rat):Rat:=(sat ps w.2.1).1 - (enD (sat ps w.1) + w.2.2)
def hSl (ps:List (Rat × Rat)) (h:Str × Int × Rat):Rat:=if h.1="from" then (sat ps h.2.1).1 - h.2.2 else if h.1="till" then h.2.2 - (sat ps h.2.1).1 else h.2.2 - enD (sat ps h.2.1)
structure PlSm (p:Rat × Rat):Prop where
  s:SmQ 3900 p.1
  t:SmQ 3900 p.2
  e:SmQ 3900 (enD p)
theorem C1j:PyData.eqv (.str "from") (.str "from")=true:=by decide +kernel
theorem C1g:PyData.eqv (.str "till") (.str "from")=false:=by decide +kernel
theorem C1m:PyData.eqv (.str "by") (.str "from")=false:=by decide +kernel
theorem C1i:PyData.eqv (.str "till") (.str "till")=true:=by decide +kernel
theorem C1l:PyData.eqv (.str "by") (.str "till")=false:=by decide +kernel
theorem A53:(PyData.str "till").canLay0=true:=by decide +kernel
theorem C27:(Str.ofString "till")≠Str.ofString "from":=by decide +kernel
theorem C29:(Str.ofString "by")≠Str.ofString "from":=by decide +kernel
theorem C28:(Str.ofString "by")≠Str.ofString "till":=by decide +kernel
structure Off (kd:Str) (cs:List (Rat × Rat)) (t:Rat):Prop where
  st:kd="steps"->∃ c ∈ cs,c.1=t
  sr:kd="straight"->∃ c0 cl,cs[0]?=some c0/\cs[cs.length - 1]?=some cl/\¬ t < cl.1/\¬ c0.1 < t
theorem A1l:∀ cs:List (Rat × Rat),PyData.canLayAll0 (cs.map fun c=>dq c.1)=true
  | []=>rfl
  | c :: r=>by
    show ((dq c.1).canLay0 && PyData.canLayAll0 (r.map fun c=>dq c.1))=true;rw [A1l r]; rfl
theorem M5 {ps:List (Rat × Rat)} {o:Int} (h0:0<=o) (h1:o < (ps.length:Int)):sat ps o ∈ ps:=by
  unfold sat;rw [List.getD_eq_getElem?_getD,Zg (by omega:o.toNat < ps.length)];exact List.getElem_mem _
theorem X0:∀ ls:List Int,PyData.canLayAll0 (ls.map PyData.int)=true
  | []=>rfl
  | n :: r=>by
    show ((PyData.int n).canLay0 && PyData.canLayAll0 (r.map PyData.int))=true;rw [X0 r]; rfl
theorem A21:∀ ls:List Int,PyData.depthAll (ls.map PyData.int)<=1
  | []=>by decide
  | n :: r=>by
    show max (PyData.int n).depth (PyData.depthAll (r.map PyData.int))<=1;have:=A21 r;have:(PyData.int n).depth=0:=rfl;omega
theorem A6p (ls:List Int):(PyData.list (ls.map PyData.int)).depth<=60:=by
  show PyData.depthAll (ls.map PyData.int) + 1<=60;have:=A21 ls;omega
theorem A9m (ls:List Int):(PyData.list (ls.map PyData.int)).eqv (.list [])=ls.isEmpty:=by
  cases ls <;> rfl
theorem A50 (ls:List Int) (k:Nat):(ls.map PyData.int).eraseIdx k=(ls.eraseIdx k).map PyData.int:=by
  induction ls generalizing k with
  | nil=>rfl
  | cons a r ih =>
    cases k with
    | zero=>rfl
    | succ k=>show PyData.int a :: (r.map PyData.int).eraseIdx k=_; rw [ih]; rfl
theorem A6k (ls:List Int) {k:Nat} (h:k < ls.length):(ls.eraseIdx k).length + 1=ls.length:=by
  rw [List.length_eraseIdx,if_pos h]; omega
def fstC (cs:List (Rat × Rat)):Rat × Rat:=(cs[0]?).getD (0,0)
def lstC (cs:List (Rat × Rat)):Rat × Rat:=(cs[cs.length - 1]?).getD (0,0)
def offB (kd:Str) (cs:List (Rat × Rat)) (t:Rat):Bool:=if kd="steps" then cs.any fun c=>decide (c.1=t) else !decide (t < (lstC cs).1) && !decide ((fstC cs).1 < t)
theorem B0o {cs:List (Rat × Rat)} (h:1<=cs.length):cs[0]?=some (fstC cs):=by
  unfold fstC; rw [Zg (by omega:0 < cs.length)]; rfl
theorem B0k {cs:List (Rat × Rat)} (h:1<=cs.length):cs[cs.length - 1]?=some (lstC cs):=by
  unfold lstC; rw [Zg (by omega:cs.length - 1 < cs.length)]; rfl
theorem B6f (cs:List (Rat × Rat)) (t:Rat):((cs.map fun c=>dq c.1).any fun z=>z.eqv (dq t))=cs.any fun c=>decide (c.1=t):=by
  rw [List.any_map];congr 1
  funext c
  exact A6n
theorem B5n (cs:List (Rat × Rat)) (t:Rat):(cs.map fun c=>dq c.1).findIdx? (fun z=>z.eqv (dq t))=cs.findIdx? fun c=>decide (c.1=t):=by
  rw [List.findIdx?_map];congr 1
  funext c
  exact A6n
def idxB (cs:List (Rat × Rat)) (t:Rat):Nat:=(cs.findIdx? fun c=>decide (c.1=t)).getD 0
theorem B5p {cs:List (Rat × Rat)} {t:Rat} (h:(cs.any fun c=>decide (c.1=t))=true):(cs.findIdx? fun c=>decide (c.1=t))=some (idxB cs t):=by
  unfold idxB;cases z:cs.findIdx? fun c=>decide (c.1=t) with
  | some i=>rfl
  | none =>
    rw [List.findIdx?_eq_none_iff] at z;obtain ⟨c,hc,e⟩:=List.any_eq_true.mp h;rw [z c hc] at e; cases e
def nbr (xs:List Wk) (ps:List (Rat × Rat)) (w:Int):Nat:=idxB (wat xs w).2.2 (sat ps w).2
def oneC (xs:List Wk) (ps:List (Rat × Rat)) (g:List Int):Bool:=g.all fun w=>decide (nbr xs ps w=nbr xs ps (g.headD 0))
theorem C3i (a b:Nat):(PyData.int (a:Int)).eqv (.int (b:Int))=decide (a=b):=by
  have e:(PyData.int (a:Int)).eqv (.int (b:Int))=decide ((a:Int)=(b:Int)):=rfl;rw [e,Bool.eq_iff_iff,decide_eq_true_eq,decide_eq_true_eq]; omega
def rat (ss:List Rat) (o:Int):Rat:=ss.getD o.toNat 0
theorem A2a {ss:List Rat} {o:Int} (h0:0<=o) (h1:o < (ss.length:Int)):L2.atI (ss.map dq) o=some (dq (rat ss o)):=by
  obtain ⟨i,rfl⟩:=Zi h0;have hi:i < ss.length:=by omega
  refine F5 ?_;unfold rat;rw [Zh,Int.toNat_natCast,List.getD_eq_getElem?_getD,Zg hi]; rfl
theorem W1 {ss:List Rat} {o:Int} (h0:0<=o) (h1:o < (ss.length:Int)):rat ss o ∈ ss:=by
  unfold rat;rw [List.getD_eq_getElem?_getD,Zg (by omega:o.toNat < ss.length)];exact List.getElem_mem _
theorem A36:∀ (ss ts:List Rat),zipD (ss.map dq) (ts.map dq)=(ss.zip ts).map dcn
  | [],_=>by simp [zipD]
  | _ :: _,[]=>by simp [zipD]
  | s :: ss,t :: ts=>by
    have:=A36 ss ts;unfold zipD at this ⊢;rw [List.map_cons,List.map_cons,List.zipWith_cons_cons,List.zip_cons_cons,List.map_cons,this]; rfl
theorem B0l {o:Int} {n:Nat} (h0:0<=o) (h1:o < (n:Int)):ixN n o=some o.toNat:=by
  obtain ⟨i,rfl⟩:=Zi h0;have hi:i < n:=by omega
  unfold ixN;simp;omega
theorem A5k {B k m:Nat} {p q:Rat} (hB:0 < B) (h:On B (m * k) p) (g:On B k q):On B ((m + 1) * k) (p + q):=(h.add hB g).mono (by rw [Nat.add_mul,Nat.one_mul]; exact Zv _)
theorem B0q {α:Type} {p:α->Bool} {xs:List α} {i:Nat} {x:α} (h:xs[i]?=some x) (hp:p x=true) (ha:∀ j y,j < i->xs[j]?=some y->p y=false):xs.findIdx? p=some i:=by
  obtain ⟨hi,e⟩:=Zs h;rw [List.findIdx?_eq_some_iff_getElem];refine ⟨hi,by rw [e]; exact hp,fun j hj=>?_⟩;rw [ha j _ hj (Zg (by omega))]; decide
theorem A6j {α:Type} {p:α->Bool} {xs:List α} (ha:∀ j y,j < xs.length->xs[j]?=some y->p y=false):xs.findIdx? p=none:=by
  rw [List.findIdx?_eq_none_iff];intro x hx;obtain ⟨j,hj,e⟩:=List.getElem_of_mem hx;exact ha j x hj (by rw [Zg hj,e])
theorem C1c {α:Type} (f:α->Rat) (xs:List α):fb (xs.map f)=xs.findIdx? fun x=>decide (f x < 0):=by
  unfold fb; rw [List.findIdx?_map]; rfl
def vD:Option Rat->PyData
  | none=>.none
  | some q=>dq q
def fiT (xs:List Wk) (ps:List (Rat × Rat)):Option Nat:=(xs.zip ps).findIdx? fun z=>!offB z.1.2.1 z.1.2.2 z.2.2
def fiG (xs:List Wk) (ps:List (Rat × Rat)) (gs:List (List Int)):Option Nat:=gs.findIdx? fun g=>!oneC xs ps g
def brG (xs:List Wk) (ws:List (Int × Int × Rat)) (hs:List (Str × Int × Rat)) (gs:List (List Int)) (ps:List (Rat × Rat)) (v:Option Rat):PyData:=match fiT xs ps with
  | some i=>fbD "time" (some i)
  | none=>match fiG xs ps gs with
    | some i=>fbD "group" (some i)
    | none=>match fb (ps.map (·.1)) with
      | some i=>fbD "start" (some i)
      | none=>match fb (ws.map (wSl ps)) with
        | some i=>fbD "wait" (some i)
        | none=>match fb (hs.map (hSl ps)) with
          | some i=>fbD "hold" (some i)
          | none=>match v with
            | none=>.none
            | some v=>fbD "whole" (fb (ps.map fun p=>v - enD p))
structure BrG (xs:List Wk) (ws:List (Int × Int × Rat)) (hs:List (Str × Int × Rat)) (gs:List (List Int)) (ps:List (Rat × Rat)) (v:Option Rat):Prop where
  ln:xs.length=ps.length
  l10:xs.length<=10
  wl:ws.length<=200
  hl:hs.length<=200
  gl:gs.length<=50
  gk:∀ g ∈ gs,GrOk xs g
  hx:∀ x ∈ xs,Kd x.2.1/\OfOk x.2.2 200 120 600 300
  hp:∀ p ∈ ps,PlSm p
  hw:∀ w ∈ ws,(0<=w.1/\w.1 < (ps.length:Int))/\(0<=w.2.1/\w.2.1 < (ps.length:Int))/\SmQ 3900 w.2.2/\SmQ 3900 (enD (sat ps w.1) + w.2.2)/\SmQ 3900 (wSl ps w)
  hh:∀ h ∈ hs,Hk h.1/\(0<=h.2.1/\h.2.1 < (ps.length:Int))/\SmQ 3900 h.2.2/\SmQ 3900 (hSl ps h)
  hv:∀ q,v=some q->SmQ 3900 q/\∀ p ∈ ps,SmQ 3900 (q - enD p)
theorem B6z {ps:List (Rat × Rat)} {i:Nat} {p:Rat × Rat} (h:ps[i]?=some p):sat ps (i:Int)=p:=by
  unfold sat;rw [Int.toNat_natCast,List.getD_eq_getElem?_getD,h]; rfl
theorem C1b {xs:List Wk} {ps:List (Rat × Rat)} (hl:xs.length=ps.length) (h:fiT xs ps=none) {w:Int} (h0:0<=w) (h1:w < (xs.length:Int)):offB (wat xs w).2.1 (wat xs w).2.2 (sat ps w).2=true:=by
  unfold fiT at h;rw [List.findIdx?_eq_none_iff] at h;obtain ⟨i,rfl⟩:=Zi h0;have hi:i < xs.length:=by omega
  have ex:=Zg hi;have ep:=Zg (show i < ps.length by omega);have:=h (xs[i],ps[i]) (List.mem_iff_getElem?.mpr ⟨i,by rw [List.getElem?_zip_eq_some]; exact ⟨ex,ep⟩⟩);rw [B6i ex,B6z ep];simpa using this
theorem B5y {xs:List Wk} {ps:List (Rat × Rat)} {g:List Int} (hl:xs.length=ps.length) (h:fiT xs ps=none) (gr:GrOk xs g):∀ w ∈ g,((wat xs w).2.2.any fun c=>decide (c.1=(sat ps w).2))=true:=fun w hw=>by
  have:=C1b hl h (gr.ix w hw).1 (gr.ix w hw).2;unfold offB at this
  rwa [gr.st w hw,if_pos rfl] at this
theorem B5x {xs:List Wk} {ps:List (Rat × Rat)} {i:Nat} {x:Wk} {p:Rat × Rat} (hx:xs[i]?=some x) (hp:ps[i]?=some p) (h:offB x.2.1 x.2.2 p.2=false) (ha:∀ j x p,j < i->xs[j]?=some x->ps[j]?=some p->offB x.2.1 x.2.2 p.2=true):fiT xs ps=some i:=by
  refine B0q (x:=(x,p)) (by rw [List.getElem?_zip_eq_some]; exact ⟨hx,hp⟩) (by rw [h]; rfl) fun j y hj hy=>?_;rw [List.getElem?_zip_eq_some] at hy;rw [ha j _ _ hj hy.1 hy.2]; rfl
theorem A20 {xs:List Wk} {ps:List (Rat × Rat)} (ha:∀ j x p,j < xs.length->xs[j]?=some x->ps[j]?=some p->offB x.2.1 x.2.2 p.2=true):fiT xs ps=none:=by
  refine A6j fun j y hj hy=>?_;rw [List.getElem?_zip_eq_some] at hy;rw [ha j _ _ (Zs hy.1).1 hy.1 hy.2]; rfl
theorem B59 (a b:Nat):decide ((a:Int)=(b:Int))=decide (a=b):=by
  rw [Bool.eq_iff_iff,decide_eq_true_eq,decide_eq_true_eq]; omega
theorem A65 {α:Type} (f:α->Bool):∀ xs:List α,blsD (xs.map fun x=>.bool (f x))=some (xs.map f)
  | []=>rfl
  | x :: r=>by
    show (blsD (r.map fun x=>.bool (f x))).map (f x :: ·)=_;rw [A65 f r]; rfl
structure NB (n:Nat) (ws:List (Int × Int × Rat)) (hs:List (Str × Int × Rat)) (ts:List Rat) (B k:Nat):Prop where
  hB:0 < B
  hk:2 ^ 12 * k * B < 2 ^ 3900
  ln:ts.length=n
  n1:1<=n
  n6:n<=10
  wl:ws.length<=40
  hl:hs.length<=40
  ht:∀ t ∈ ts,On B k t
  hw:∀ w ∈ ws,(0<=w.1/\w.1 < (n:Int))/\(0<=w.2.1/\w.2.1 < (n:Int))/\On B k w.2.2
  hh:∀ h ∈ hs,Hk h.1/\(0<=h.2.1/\h.2.1 < (n:Int))/\On B k h.2.2
theorem on_q {B k l:Nat} {q:Rat} (hB:0 < B) (hk:2 ^ 12 * k * B < 2 ^ 3900) (k0:0 < k) (h:On B (l * k) q) (hl:l<=2 ^ 12):SmQ 3900 q:=by
  have h1:l * k * B<=2 ^ 12 * k * B:=Zu _ (Zu _ hl);refine h.q hB (Nat.lt_of_le_of_lt h1 hk) (Nat.lt_of_le_of_lt ?_ hk);exact Nat.le_mul_of_pos_left _ (Nat.mul_pos (by decide) k0)
structure Kept (xs:List Wk) (ws:List (Int × Int × Rat)) (hs:List (Str × Int × Rat)) (gs:List (List Int)) (ps:List (Rat × Rat)) (v:Rat):Prop where
  t:∀ (i:Nat) x p,xs[i]?=some x->ps[i]?=some p->offB x.2.1 x.2.2 p.2=true
  g:∀ g ∈ gs,oneC xs ps g=true
  s:∀ p ∈ ps,0<=p.1
  w:∀ w ∈ ws,0<=wSl ps w
  h:∀ h ∈ hs,0<=hSl ps h
  v:∀ p ∈ ps,enD p<=v
theorem fiT_iff {xs:List Wk} {ps:List (Rat × Rat)}:fiT xs ps=none ↔ ∀ (i:Nat) x p,xs[i]?=some x->ps[i]?=some p->offB x.2.1 x.2.2 p.2=true:=by
  constructor
  · intro h i x p hx hp
    unfold fiT at h;rw [List.findIdx?_eq_none_iff] at h;have:=h (x,p) (List.mem_iff_getElem?.mpr ⟨i,by rw [List.getElem?_zip_eq_some]; exact ⟨hx,hp⟩⟩);simpa using this
  · intro h
    exact A20 fun j x p _ e1 e2=>h j x p e1 e2
theorem fb_iff {α:Type} {f:α->Rat} {xs:List α}:fb (xs.map f)=none ↔ ∀ x ∈ xs,0<=f x:=by
  rw [C1c,List.findIdx?_eq_none_iff];constructor
  · intro h x hx
    have:=h x hx;exact Rat.not_lt.mp (by simpa using this)
  · intro h x hx
    have:=Rat.not_lt.mpr (h x hx);simpa using this
theorem fiG_iff {xs:List Wk} {ps:List (Rat × Rat)} {gs:List (List Int)}:fiG xs ps gs=none ↔ ∀ g ∈ gs,oneC xs ps g=true:=by
  unfold fiG;rw [List.findIdx?_eq_none_iff];constructor
  · intro h g hg; have:=h g hg; simpa using this
  · intro h g hg; have:=h g hg; simpa using this
theorem fbD_none {w:Str} {o:Option Nat}:fbD w o=.none ↔ o=none:=by
  cases o with
  | none=>exact ⟨fun _=>rfl,fun _=>rfl⟩
  | some i=>exact ⟨(fun z=>nomatch (show PyData.tuple _=PyData.none from z)),(fun z=>nomatch z)⟩
theorem brG_none {xs:List Wk} {ws:List (Int × Int × Rat)} {hs:List (Str × Int × Rat)} {gs:List (List Int)} {ps:List (Rat × Rat)} {v:Rat}:brG xs ws hs gs ps (some v)=.none ↔ Kept xs ws hs gs ps v:=by
  constructor
  · intro h
    unfold brG at h;cases h1:fiT xs ps with
    | some i=>rw [h1] at h; exact absurd (fbD_none.mp h) (by simp)
    | none =>
    rw [h1] at h; dsimp only at h;cases h2:fiG xs ps gs with
    | some i=>rw [h2] at h; exact absurd (fbD_none.mp h) (by simp)
    | none =>
    rw [h2] at h; dsimp only at h;cases h3:fb (ps.map (·.1)) with
    | some i=>rw [h3] at h; exact absurd (fbD_none.mp h) (by simp)
    | none =>
    rw [h3] at h; dsimp only at h;cases h4:fb (ws.map (wSl ps)) with
    | some i=>rw [h4] at h; exact absurd (fbD_none.mp h) (by simp)
    | none =>
    rw [h4] at h; dsimp only at h;cases h5:fb (hs.map (hSl ps)) with
    | some i=>rw [h5] at h; exact absurd (fbD_none.mp h) (by simp)
    | none =>
    rw [h5] at h; dsimp only at h;exact ⟨fiT_iff.mp h1,fiG_iff.mp h2,fb_iff.mp h3,fb_iff.mp h4,fb_iff.mp h5,fun p hp=>by
      have:=fb_iff.mp (fbD_none.mp h) p hp;grind⟩
  · intro k
    unfold brG;rw [fiT_iff.mpr k.t]; dsimp only;rw [fiG_iff.mpr k.g]; dsimp only;rw [fb_iff.mpr k.s]; dsimp only;rw [fb_iff.mpr k.w]; dsimp only;rw [fb_iff.mpr k.h]; dsimp only;have h6:fb (ps.map fun p=>v - enD p)=none:=fb_iff.mpr fun p hp=>by have:=k.v p hp; show 0<=v - enD p; grind
    rw [h6];rfl
def later (ps:List (Rat × Rat)) (q:Rat):List (Rat × Rat):=ps.map fun p=>(p.1 + q,p.2)
def turned (ps:List (Rat × Rat)) (v:Rat):List (Rat × Rat):=ps.map fun p=>(v - enD p,p.2)
def G2 (ps:List (Rat × Rat)) (c:Rat):List (Rat × Rat):=ps.map fun p=>(c * p.1,c * p.2)
def shW (n:Int) (w:Int × Int × Rat):Int × Int × Rat:=(w.1 + n,w.2.1 + n,w.2.2)
def shH (n:Int) (h:Str × Int × Rat):Str × Int × Rat:=(h.1,h.2.1 + n,h.2.2)
def shG (n:Int) (g:List Int):List Int:=g.map (· + n)
theorem J3 {f:Rat × Rat->Rat × Rat} {ps:List (Rat × Rat)} {o:Int} (h0:0<=o) (h1:o < (ps.length:Int)):sat (ps.map f) o=f (sat ps o):=by
  unfold sat;rw [List.getD_eq_getElem?_getD,List.getD_eq_getElem?_getD,Zh,Zg (by omega:o.toNat < ps.length)]; rfl
theorem O1 {ps qs:List (Rat × Rat)} {o:Int} (h0:0<=o) (h1:o < (ps.length:Int)):sat (ps++qs) o=sat ps o:=by
  unfold sat;rw [List.getD_eq_getElem?_getD,List.getD_eq_getElem?_getD,List.getElem?_append_left (by omega)]
theorem M4 {ps qs:List (Rat × Rat)} {o n:Int} (h0:0<=o) (hn:n=(ps.length:Int)):sat (ps++qs) (o + n)=sat qs o:=by
  unfold sat;rw [List.getD_eq_getElem?_getD,List.getD_eq_getElem?_getD,List.getElem?_append_right (by omega),show (o + n).toNat - ps.length=o.toNat by omega]
theorem R5 {xs zs:List Wk} {o:Int} (h0:0<=o) (h1:o < (xs.length:Int)):wat (xs++zs) o=wat xs o:=by
  unfold wat;rw [List.getD_eq_getElem?_getD,List.getD_eq_getElem?_getD,List.getElem?_append_left (by omega)]
theorem A38 {zs xs:List Wk} (e:zs.map (·.2)=xs.map (·.2)) (o:Int):(wat zs o).2=(wat xs o).2:=by
  unfold wat;have h:(zs.map (·.2))[o.toNat]?=(xs.map (·.2))[o.toNat]?:=by rw [e]
  rw [Zh,Zh] at h;rw [List.getD_eq_getElem?_getD,List.getD_eq_getElem?_getD];cases h1:zs[o.toNat]? <;> cases h2:xs[o.toNat]? <;> rw [h1,h2] at h <;> first | rfl | (cases h; done) | skip
  exact Zj h
theorem Y0 {xs zs:List Wk} {o n:Int} (h0:0<=o) (hn:n=(xs.length:Int)):wat (xs++zs) (o + n)=wat zs o:=by
  unfold wat;rw [List.getD_eq_getElem?_getD,List.getD_eq_getElem?_getD,List.getElem?_append_right (by omega),show (o + n).toNat - xs.length=o.toNat by omega]
theorem A2o {xs ys:List Wk} {ps qs:List (Rat × Rat)} {g:List Int} {f:Int->Int} (hg:1<=g.length) (h:∀ w ∈ g,nbr ys qs (f w)=nbr xs ps w):oneC ys qs (g.map f)=oneC xs ps g:=by
  unfold oneC;obtain ⟨a,r,rfl⟩:∃ a r,g=a :: r:=by
    cases g with
    | nil=>simp at hg
    | cons a r=>exact ⟨a,r,rfl⟩
  have ha:=h a Zy;rw [List.all_map];show (a :: r).all (fun w=>decide (nbr ys qs (f w)=nbr ys qs (f a)))=(a :: r).all fun w=>decide (nbr xs ps w=nbr xs ps a);rw [ha];rw [Bool.eq_iff_iff,List.all_eq_true,List.all_eq_true];constructor
  · intro z w hw
    have:=z w hw
    rwa [h w hw] at this
  · intro z w hw
    have:=z w hw
    rwa [<- h w hw] at this
theorem O4 {xs ys:List Wk} {ps qs:List (Rat × Rat)} {g:List Int} (hg:1<=g.length) (h:∀ w ∈ g,nbr ys qs w=nbr xs ps w):oneC ys qs g=oneC xs ps g:=by
  have:=A2o (f:=id) hg (fun w hw=>h w hw)
  rwa [List.map_id] at this
structure Ixs (n:Int) (ws:List (Int × Int × Rat)) (hs:List (Str × Int × Rat)) (gs:List (List Int)):Prop where
  w:∀ w ∈ ws,(0<=w.1/\w.1 < n)/\(0<=w.2.1/\w.2.1 < n)
  h:∀ h ∈ hs,0<=h.2.1/\h.2.1 < n
  g:∀ g ∈ gs,1<=g.length/\∀ w ∈ g,0<=w/\w < n
theorem A7k {ps qs:List (Rat × Rat)} {w:Int × Int × Rat} (h:(0<=w.1/\w.1 < (ps.length:Int))/\(0<=w.2.1/\w.2.1 < (ps.length:Int))):wSl (ps++qs) w=wSl ps w:=by
  unfold wSl;rw [O1 h.1.1 h.1.2,O1 h.2.1 h.2.2]
theorem A4b {ps qs:List (Rat × Rat)} {w:Int × Int × Rat} {n:Int} (h:0<=w.1/\0<=w.2.1) (hn:n=(ps.length:Int)):wSl (ps++qs) (shW n w)=wSl qs w:=by
  unfold wSl shW;dsimp only;rw [M4 h.1 hn,M4 h.2 hn]
theorem A9j {ps qs:List (Rat × Rat)} {x:Str × Int × Rat} (h:0<=x.2.1/\x.2.1 < (ps.length:Int)):hSl (ps++qs) x=hSl ps x:=by
  unfold hSl;rw [O1 h.1 h.2]
theorem A6g {ps qs:List (Rat × Rat)} {x:Str × Int × Rat} {n:Int} (h:0<=x.2.1) (hn:n=(ps.length:Int)):hSl (ps++qs) (shH n x)=hSl qs x:=by
  unfold hSl shH;dsimp only;rw [M4 h hn]
theorem T4 {xs zs ys:List Wk} {ws ws2 ms:List (Int × Int × Rat)} {hs hs2:List (Str × Int × Rat)} {gs gs2:List (List Int)} {ps qs:List (Rat × Rat)} {v:Rat} {n m:Int} (hn:n=(xs.length:Int)) (hl:ps.length=xs.length) (hm:m=(ys.length:Int)) (hl2:qs.length=ys.length)
    (hz:zs.map (·.2)=ys.map (·.2)) (i1:Ixs n ws hs gs) (i2:Ixs m ws2 hs2 gs2) :
    Kept (xs++zs) (ws++ws2.map (shW n)++ms) (hs++hs2.map (shH n)) (gs++gs2.map (shG n)) (ps++qs) v ↔ Kept xs ws hs gs ps v/\Kept ys ws2 hs2 gs2 qs v/\∀ w ∈ ms,0<=wSl (ps++qs) w:=by
  have np:n=(ps.length:Int):=by omega
  have eg1:∀ g ∈ gs,oneC (xs++zs) (ps++qs) g=oneC xs ps g:=fun g hg=>O4 (i1.g g hg).1 fun w hw=>by
    have:=(i1.g g hg).2 w hw;unfold nbr;rw [R5 this.1 (by omega),O1 this.1 (by omega)]
  have eg2:∀ g ∈ gs2,oneC (xs++zs) (ps++qs) (shG n g)=oneC ys qs g:=fun g hg=>A2o (i2.g g hg).1 fun w hw=>by
    have:=(i2.g g hg).2 w hw;unfold nbr;rw [Y0 this.1 hn,M4 this.1 np,A38 hz]
  have ew1:∀ w ∈ ws,wSl (ps++qs) w=wSl ps w:=fun w hw=>A7k (by rw [<- np]; exact i1.w w hw);have ew2:∀ w ∈ ws2,wSl (ps++qs) (shW n w)=wSl qs w:=fun w hw=>A4b ⟨(i2.w w hw).1.1,(i2.w w hw).2.1⟩ np;have eh1:∀ h ∈ hs,hSl (ps++qs) h=hSl ps h:=fun h hh=>A9j (by rw [<- np]; exact i1.h h hh);have eh2:∀ h ∈ hs2,hSl (ps++qs) (shH n h)=hSl qs h:=fun h hh=>A6g (i2.h h hh).1 np;have lz:zs.length=ys.length:=by have:=congrArg List.length hz; simpa using this
  constructor
  · intro k
    refine ⟨⟨fun i x p hx hp=>?_,fun g hg=>?_,fun p hp=>k.s p (Zt _ hp),fun w hw=>?_,fun h hh=>?_,fun p hp=>k.v p (Zt _ hp)⟩,⟨fun i x p hx hp=>?_,fun g hg=>?_,fun p hp=>k.s p (Zw _ hp),fun w hw=>?_,fun h hh=>?_,fun p hp=>k.v p (Zw _ hp)⟩,fun w hw=>k.w w (Zw _ hw)⟩
    · exact k.t i x p (by rw [List.getElem?_append_left (Zs hx).1]; exact hx) (by rw [List.getElem?_append_left (Zs hp).1]; exact hp)
    · rw [<- eg1 g hg]; exact k.g g (Zt _ hg)
    · rw [<- ew1 w hw]; exact k.w w (Zt _ (Zt _ hw))
    · rw [<- eh1 h hh]; exact k.h h (Zt _ hh)
    · have hi:=(Zs hx).1
      have ez:=Zg (show i < zs.length by omega);have e2:(zs.map (·.2))[i]?=(ys.map (·.2))[i]?:=by rw [hz]
      rw [Zh,Zh,hx,ez] at e2;have e3:(zs[i]'(by omega)).2=x.2:=Zj e2;rw [<- e3];exact k.t (xs.length + i) _ p (by rw [List.getElem?_append_right (by omega),Nat.add_sub_cancel_left]; exact ez) (by rw [List.getElem?_append_right (by omega),show xs.length + i - ps.length=i by omega]; exact hp)
    · rw [<- eg2 g hg]; exact k.g _ (Zw _ (List.mem_map_of_mem hg))
    · rw [<- ew2 w hw]; exact k.w _ (Zt _ (Zw _ (List.mem_map_of_mem hw)))
    · rw [<- eh2 h hh]; exact k.h _ (Zw _ (List.mem_map_of_mem hh))
  · rintro ⟨a,b,c⟩
    refine ⟨fun i x p hx hp=>?_,fun g hg=>?_,fun p hp=>(Za hp).elim (a.s p) (b.s p),fun w hw=>?_,fun h hh=>?_,fun p hp=>(Za hp).elim (a.v p) (b.v p)⟩
    · by_cases z:i < xs.length
      · rw [List.getElem?_append_left z] at hx
        rw [List.getElem?_append_left (by omega)] at hp;exact a.t i x p hx hp
      · rw [List.getElem?_append_right (by omega)] at hx
        rw [List.getElem?_append_right (by omega),hl] at hp;have hi:=(Zs hx).1;have ey:=Zg (show i - xs.length < ys.length by omega);have e2:(zs.map (·.2))[i - xs.length]?=(ys.map (·.2))[i - xs.length]?:=by rw [hz]
        rw [Zh,Zh,hx,ey] at e2;have e3:x.2=(ys[i - xs.length]'(by omega)).2:=Zj e2;rw [e3];exact b.t _ _ p ey hp
    · rcases Za hg with z | z
      · rw [eg1 g z]; exact a.g g z
      · obtain ⟨g',hg',rfl⟩:=List.mem_map.mp z
        rw [eg2 g' hg']; exact b.g g' hg'
    · rcases Za hw with z | z
      · rcases Za z with z | z
        · rw [ew1 w z]; exact a.w w z
        · obtain ⟨w',hw',rfl⟩:=List.mem_map.mp z
          rw [ew2 w' hw']; exact b.w w' hw'
      · exact c w z
    · rcases Za hh with z | z
      · rw [eh1 h z]; exact a.h h z
      · obtain ⟨h',hh',rfl⟩:=List.mem_map.mp z
        rw [eh2 h' hh']; exact b.h h' hh'
theorem Kept.up {xs:List Wk} {ws:List (Int × Int × Rat)} {hs:List (Str × Int × Rat)} {gs:List (List Int)} {ps:List (Rat × Rat)} {v u:Rat} (k:Kept xs ws hs gs ps v) (h:v<=u):Kept xs ws hs gs ps u :=
  ⟨k.t,k.g,k.s,k.w,k.h,fun p hp=>Rat.le_trans (k.v p hp) h⟩
theorem A3z {xs:List Wk} {ws:List (Int × Int × Rat)} {gs:List (List Int)} {ps:List (Rat × Rat)} {v q:Rat} (hl:ps.length=xs.length) (i1:Ixs (xs.length:Int) ws [] gs) (k:Kept xs ws [] gs ps v) (q0:0<=q):Kept xs ws [] gs (later ps q) (q + v):=by
  unfold later;refine ⟨fun i x p hx hp=>?_,fun g hg=>?_,fun p hp=>?_,fun w hw=>?_,(fun h hh=>nomatch hh),fun p hp=>?_⟩
  · rw [Zh] at hp
    obtain ⟨p',hp',rfl⟩:=Zo hp;exact k.t i x p' hx hp'
  · rw [O4 (i1.g g hg).1 (xs:=xs) (ps:=ps) fun w hw=>by
      have:=(i1.g g hg).2 w hw;unfold nbr;rw [J3 this.1 (by omega)]]
    exact k.g g hg
  · obtain ⟨p',hp',rfl⟩:=List.mem_map.mp hp
    have:=k.s p' hp';show 0<=p'.1 + q;grind
  · obtain ⟨w1,w2⟩:=i1.w w hw
    have:=k.w w hw;unfold wSl enD at this ⊢;rw [J3 w1.1 (by omega),J3 w2.1 (by omega)];dsimp only;grind
  · obtain ⟨p',hp',rfl⟩:=List.mem_map.mp hp
    have:=k.v p' hp';unfold enD at this ⊢;dsimp only;grind
theorem A1m {xs:List Wk} {ws:List (Int × Int × Rat)} {gs:List (List Int)} {ps:List (Rat × Rat)} {v:Rat} (hl:ps.length=xs.length) (i1:Ixs (xs.length:Int) ws [] gs):Kept xs (ws.map fun w=>(w.2.1,w.1,w.2.2)) [] gs (turned ps v) v ↔ Kept xs ws [] gs ps v:=by
  have eg:∀ g ∈ gs,oneC xs (turned ps v) g=oneC xs ps g:=fun g hg=>O4 (i1.g g hg).1 fun w hw=>by
    have:=(i1.g g hg).2 w hw;unfold nbr turned;rw [J3 this.1 (by omega)]
  have ew:∀ w ∈ ws,wSl (turned ps v) (w.2.1,w.1,w.2.2)=wSl ps w:=fun w hw=>by
    obtain ⟨w1,w2⟩:=i1.w w hw;unfold wSl turned enD;dsimp only;rw [J3 w1.1 (by omega),J3 w2.1 (by omega)];dsimp only [enD];grind
  constructor
  · intro k
    refine ⟨fun i x p hx hp=>?_,fun g hg=>by rw [<- eg g hg]; exact k.g g hg,fun p hp=>?_,fun w hw=>by rw [<- ew w hw]; exact k.w _ (List.mem_map_of_mem hw),(fun h hh=>nomatch hh),fun p hp=>?_⟩
    · exact k.t i x (v - enD p,p.2) hx (by unfold turned; rw [Zh,hp]; rfl)
    · have:=k.v (v - enD p,p.2) (List.mem_map.mpr ⟨p,hp,rfl⟩)
      unfold enD at this;dsimp only at this;grind
    · have:=k.s (v - enD p,p.2) (List.mem_map.mpr ⟨p,hp,rfl⟩)
      dsimp only at this;grind
  · intro k
    refine ⟨fun i x p hx hp=>?_,fun g hg=>by rw [eg g hg]; exact k.g g hg,fun p hp=>?_,fun w hw=>?_,(fun h hh=>nomatch hh),fun p hp=>?_⟩
    · unfold turned at hp
      rw [Zh] at hp;obtain ⟨p',hp',rfl⟩:=Zo hp;exact k.t i x p' hx hp'
    · obtain ⟨p',hp',rfl⟩:=List.mem_map.mp hp
      have:=k.v p' hp';show 0<=v - enD p';grind
    · obtain ⟨w',hw',rfl⟩:=List.mem_map.mp hw
      rw [ew w' hw']; exact k.w w' hw'
    · obtain ⟨p',hp',rfl⟩:=List.mem_map.mp hp
      have:=k.s p' hp';unfold enD;dsimp only [enD];grind
def scX (c d:Rat) (x:Wk):Wk:=(x.1,x.2.1,x.2.2.map fun z=>(c * z.1,d * z.2))
def scW (c:Rat) (w:Int × Int × Rat):Int × Int × Rat:=(w.1,w.2.1,c * w.2.2)
def scH (c:Rat) (h:Str × Int × Rat):Str × Int × Rat:=(h.1,h.2.1,c * h.2.2)
theorem A5x {c a b:Rat} (h:0 < c):c * a=c * b ↔ a=b:=by
  constructor
  · intro e
    have h1:c * (a - b)=0:=by grind
    rcases Rat.mul_eq_zero.mp h1 with z | z
    · grind
    · grind
  · rintro rfl; rfl
theorem A0k {c a b:Rat} (h:0 < c):c * a < c * b ↔ a < b:=Rat.mul_lt_mul_left h
theorem V3 {c a:Rat} (h:0 < c):0<=c * a ↔ 0<=a:=by
  have:=A0k (c:=c) (a:=a) (b:=0) h;rw [Rat.mul_zero] at this;rw [<- Rat.not_lt,<- Rat.not_lt,this]
theorem A5t {c d t:Rat} {kd:Str} {cs:List (Rat × Rat)} (h:0 < c) (hc:1<=cs.length):offB kd (cs.map fun z=>(c * z.1,d * z.2)) (c * t)=offB kd cs t:=by
  unfold offB;have e0:fstC (cs.map fun z=>(c * z.1,d * z.2))=(c * (fstC cs).1,d * (fstC cs).2):=by
    unfold fstC;rw [Zh,Zg (by omega:0 < cs.length)]; rfl
  have e1:lstC (cs.map fun z=>(c * z.1,d * z.2))=(c * (lstC cs).1,d * (lstC cs).2):=by
    unfold lstC;rw [Zl,Zh,Zg (by omega:cs.length - 1 < cs.length)]; rfl
  rw [e0,e1,List.any_map];have e2:((fun z:Rat × Rat=>decide (z.1=c * t)) ∘ fun z:Rat × Rat=>(c * z.1,d * z.2))=fun z=>decide (z.1=t):=by
    funext z
    show decide (c * z.1=c * t)=_;rw [Bool.eq_iff_iff,decide_eq_true_eq,decide_eq_true_eq];exact A5x h
  rw [e2];simp only [A0k h]
theorem B5o {c d t:Rat} {cs:List (Rat × Rat)} (h:0 < c):idxB (cs.map fun z=>(c * z.1,d * z.2)) (c * t)=idxB cs t:=by
  unfold idxB;rw [List.findIdx?_map];congr 2
  funext z
  show decide (c * z.1=c * t)=_;rw [Bool.eq_iff_iff,decide_eq_true_eq,decide_eq_true_eq];exact A5x h
theorem A4a {f:Wk->Wk} {xs:List Wk} {o:Int} (h0:0<=o) (h1:o < (xs.length:Int)):wat (xs.map f) o=f (wat xs o):=by
  unfold wat;rw [List.getD_eq_getElem?_getD,List.getD_eq_getElem?_getD,Zh,Zg (by omega:o.toNat < xs.length)]; rfl
theorem A1n {xs:List Wk} {ws:List (Int × Int × Rat)} {hs:List (Str × Int × Rat)} {gs:List (List Int)} {ps:List (Rat × Rat)} {v c d:Rat} (h:0 < c) (hl:ps.length=xs.length) (i1:Ixs (xs.length:Int) ws hs gs) (hx:∀ x ∈ xs,1<=x.2.2.length) :
    Kept (xs.map (scX c d)) (ws.map (scW c)) (hs.map (scH c)) gs (G2 ps c) (c * v) ↔ Kept xs ws hs gs ps v:=by
  have eg:∀ g ∈ gs,oneC (xs.map (scX c d)) (G2 ps c) g=oneC xs ps g:=fun g hg=>O4 (i1.g g hg).1 fun w hw=>by
    have:=(i1.g g hg).2 w hw;unfold nbr G2;rw [J3 this.1 (by omega),A4a this.1 this.2];exact B5o h
  have ew:∀ w ∈ ws,wSl (G2 ps c) (scW c w)=c * wSl ps w:=fun w hw=>by
    obtain ⟨w1,w2⟩:=i1.w w hw;unfold wSl G2 enD scW;dsimp only;rw [J3 w1.1 (by omega),J3 w2.1 (by omega)];dsimp only;grind
  have eh:∀ x ∈ hs,hSl (G2 ps c) (scH c x)=c * hSl ps x:=fun x hx=>by
    have w1:=i1.h x hx;unfold hSl G2 scH enD;dsimp only;rw [J3 w1.1 (by omega)];dsimp only;split
    · grind
    · split <;> grind
  have ee:∀ p:Rat × Rat,enD (c * p.1,c * p.2)=c * enD p:=fun p=>by unfold enD; dsimp only; grind
  constructor
  · intro k
    refine ⟨fun i x p ex ep=>?_,fun g hg=>by rw [<- eg g hg]; exact k.g g hg,fun p hp=>?_,fun w hw=>?_,fun x hx=>?_,fun p hp=>?_⟩
    · rw [<- A5t (d:=d) h (hx x (Zm ex))]
      exact k.t i (scX c d x) (c * p.1,c * p.2) (by rw [Zh,ex]; rfl) (by unfold G2; rw [Zh,ep]; rfl)
    · exact (V3 h).mp (k.s (c * p.1,c * p.2) (List.mem_map.mpr ⟨p,hp,rfl⟩))
    · rw [<- V3 h,<- ew w hw]; exact k.w _ (List.mem_map_of_mem hw)
    · rw [<- V3 h,<- eh x hx]; exact k.h _ (List.mem_map_of_mem hx)
    · have:=k.v (c * p.1,c * p.2) (List.mem_map.mpr ⟨p,hp,rfl⟩)
      rw [ee] at this;rw [<- Rat.not_lt] at this ⊢
      rwa [A0k h] at this
  · intro k
    refine ⟨fun i x p ex ep=>?_,fun g hg=>by rw [eg g hg]; exact k.g g hg,fun p hp=>?_,fun w hw=>?_,fun x hx=>?_,fun p hp=>?_⟩
    · rw [Zh] at ex
      obtain ⟨x',ex',rfl⟩:=Zo ex;unfold G2 at ep;rw [Zh] at ep;obtain ⟨p',ep',rfl⟩:=Zo ep;exact (A5t (d:=d) h (hx x' (Zm ex'))).trans (k.t i x' p' ex' ep')
    · obtain ⟨p',hp',rfl⟩:=List.mem_map.mp hp
      exact (V3 h).mpr (k.s p' hp')
    · obtain ⟨w',hw',rfl⟩:=List.mem_map.mp hw
      rw [ew w' hw',V3 h]; exact k.w w' hw'
    · obtain ⟨x',hx',rfl⟩:=List.mem_map.mp hx
      rw [eh x' hx',V3 h]; exact k.h x' hx'
    · obtain ⟨p',hp',rfl⟩:=List.mem_map.mp hp
      have:=k.v p' hp';show enD (c * p'.1,c * p'.2)<=c * v;rw [ee];rw [<- Rat.not_lt] at this ⊢
      rwa [A0k h]
def lets:List Str:=["a","b","c","d","e","f","g","h","i"]
def Q4 (z:Str):Str:=Str.ofString "q"++Txt.mul z 7
theorem A80:∀ x ∈ lets,x.length=1:=by decide +kernel
theorem A8t:∀ x ∈ lets,(Str.ofString "q").length + (Txt.mul x 7).length<=1000:=by decide +kernel
theorem A8u:∀ z ∈ lets.map Q4,(PyData.str z).canLay0=true:=by decide +kernel
theorem B4i:(lets.map Q4).Nodup:=by decide +kernel
theorem A2y (a:Str):∀ L:List Str,L.Nodup->L.length<=(L.filter fun z=>!decide (a=z)).length + 1
  | [],_=>by simp
  | b :: L,h=>by
    obtain ⟨h1,h2⟩:=List.nodup_cons.mp h;by_cases e:a=b
    · subst e
      have:L.filter (fun z=>!decide (a=z))=L:=List.filter_eq_self.mpr fun z hz=>by
        have:a≠z:=fun q=>h1 (q ▸ hz);simp [this]
      rw [List.filter_cons,if_neg (by simp),this]; simp
    · rw [List.filter_cons,if_pos (by simp [e]),List.length_cons,List.length_cons]
      have:=A2y a L h2;omega
theorem A2z:∀ (xs:List Wk) (L:List Str),L.Nodup->L.length<=(L.filter fun z=>!(xs.any fun x=>decide (x.1=z))).length + xs.length
  | [],L,_=>by
    have:L.filter (fun z=>!(([]:List Wk).any fun x=>decide (x.1=z)))=L:=List.filter_eq_self.mpr fun z _=>rfl;rw [this]; exact Zv _
  | x :: xs,L,h=>by
    have h1:=A2z xs L h;have h2:=A2y x.1 (L.filter fun z=>!(xs.any fun x=>decide (x.1=z))) (h.sublist List.filter_sublist);rw [List.filter_filter] at h2;have e:(fun z=>!decide (x.1=z) && !(xs.any fun x=>decide (x.1=z)))=fun z=>!((x :: xs).any fun x=>decide (x.1=z)):=by
      funext z
      rw [List.any_cons,Bool.not_or]
    rw [e] at h2;rw [List.length_cons];omega
theorem A0m:∀ {xs:List Wk},(∀ x ∈ xs,(PyData.str x.1).canLay0=true)->PyData.canLayAll0 (xs.map fun x=>PyData.str x.1)=true
  | [],_=>rfl
  | x :: r,h=>by
    show ((PyData.str x.1).canLay0 && PyData.canLayAll0 (r.map fun x=>PyData.str x.1))=true;rw [h x Zy,A0m fun y hy=>h y (Zr _ hy)]; rfl
theorem A7h (xs:List Wk) (z:Str):((xs.map fun x=>PyData.str x.1).any fun y=>y.eqv (.str z))=xs.any fun x=>decide (x.1=z):=by
  rw [List.any_map];congr 1
theorem P5 {α β γ:Type} {xs:List α} {f:α->β} {g:β->γ} {A:List β} {i:Nat} {x:α} (h:xs[i]?=some x):(A++(xs.take (i + 1)).map f).map g=(A++(xs.take i).map f).map g++[g (f x)]:=by
  rw [List.take_succ,h,Zc,Zc,Zc,Zc,List.append_assoc]; rfl
theorem A3c {α β:Type} {xs A:List α} {f:α->β} {i:Nat} {x:α} (h:xs[i]?=some x):(A++xs.take (i + 1)).map f=(A++xs.take i).map f++[f x]:=by
  rw [List.take_succ,h,Zc,Zc,Zc,List.append_assoc]; rfl
theorem X2:∀ ps:List (Rat × Rat),PyData.depthAll (ps.map dcn)<=2
  | []=>by decide
  | p :: r=>by
    show max (dcn p).depth (PyData.depthAll (r.map dcn))<=2;have:=X2 r;rw [A6r];omega
theorem B54 (ps qs:List (Rat × Rat)):(PyData.list [PyData.list (ps.map dcn),.list (qs.map dcn)]).depth<=60:=by
  show max (PyData.depthAll (ps.map dcn) + 1) (max (PyData.depthAll (qs.map dcn) + 1) 0) + 1<=60;have:=X2 ps;have:=X2 qs;omega
theorem A6v {zs:List PyData} {n r:Nat} (_:r < n):cutD zs none (some (r:Int))=zs.take r:=by
  unfold cutD;rw [HT.sIx_none,HT.sIx_nat,List.drop_zero,Nat.sub_zero];by_cases z:r<=zs.length
  · rw [Nat.min_eq_left z]
  · rw [Nat.min_eq_right (by omega),List.take_of_length_le (Zv _),List.take_of_length_le (by omega)]
theorem A6w {zs:List PyData} {n r:Nat} (_:r < n):cutD zs (some ((r:Int) + 1)) none=zs.drop (r + 1):=by
  unfold cutD;rw [HT.sIx_none,show (r:Int) + 1=((r + 1:Nat):Int) by omega,HT.sIx_nat];by_cases z:r + 1<=zs.length
  · rw [Nat.min_eq_left z,List.take_of_length_le (by rw [List.length_drop]; omega)]
  · rw [Nat.min_eq_right (by omega),Nat.sub_self,List.take_zero,List.drop_of_length_le (by omega)]
def PlOn (B k:Nat) (ps:List (Rat × Rat)):Prop:=∀ p ∈ ps,On B k p.1/\On B k p.2
structure NetOn (xs:List Wk) (ws:List (Int × Int × Rat)) (hs:List (Str × Int × Rat)) (gs:List (List Int)) (B k:Nat):Prop where
  n10:xs.length<=10
  wl:ws.length<=200
  hl:hs.length<=200
  gl:gs.length<=50
  gk:∀ g ∈ gs,GrOk xs g
  hx:∀ x ∈ xs,Kd x.2.1/\OfOk x.2.2 200 120 600 300
  hw:∀ w ∈ ws,(0<=w.1/\w.1 < (xs.length:Int))/\(0<=w.2.1/\w.2.1 < (xs.length:Int))/\On B k w.2.2
  hh:∀ h ∈ hs,Hk h.1/\(0<=h.2.1/\h.2.1 < (xs.length:Int))/\On B k h.2.2
theorem NetOn.ixs {xs:List Wk} {ws:List (Int × Int × Rat)} {hs:List (Str × Int × Rat)} {gs:List (List Int)} {B k:Nat} (o:NetOn xs ws hs gs B k):Ixs (xs.length:Int) ws hs gs :=
  ⟨fun w hw=>⟨(o.hw w hw).1,(o.hw w hw).2.1⟩,fun h hh=>(o.hh h hh).2.1,fun g hg=>⟨by have:=(o.gk g hg).l2; omega,(o.gk g hg).ix⟩⟩
theorem OfOk.wide {cs:List (Rat × Rat)} (h:OfOk cs 100 54 244 130):OfOk cs 200 120 600 300:=⟨h.ne,h.le,h.dec,fun c hc=>⟨(h.sm c hc).1.mono (by decide) (by decide),(h.sm c hc).2.mono (by decide) (by decide)⟩⟩
theorem N5 {n:Int} {xs:List Wk} {ws:List (Int × Int × Rat)} {hs:List (Str × Int × Rat)} {gs:List (List Int)} {B k:Nat} (ok:NetG n xs ws hs gs) (hB:∀ q,On LL (2 ^ 55) q->On B k q):NetOn xs ws hs gs B k:=by
  have h1:=ok.ln;have h3:=ok.n1;have h4:=ok.wl;have h5:=ok.hl;have h6:=ok.gl;refine ⟨by omega,by omega,by omega,by omega,ok.gk,fun x hx=>⟨(ok.of x hx).1,(ok.of x hx).2.1.ok.wide⟩,fun w hw=>?_,fun h hh=>?_⟩
  · obtain ⟨w1,w2,w3⟩:=ok.wk w hw
    exact ⟨⟨w1.1,by omega⟩,⟨w2.1,by omega⟩,hB _ w3⟩
  · obtain ⟨w1,w2,w3⟩:=ok.hk h hh
    exact ⟨w1,⟨w2.1,by omega⟩,hB _ w3⟩
theorem NetOn.brG {xs:List Wk} {ws:List (Int × Int × Rat)} {hs:List (Str × Int × Rat)} {gs:List (List Int)} {ps:List (Rat × Rat)} {v:Rat} {B k:Nat} (o:NetOn xs ws hs gs B k) (hB:0 < B) (hk:0 < k) (hz:2 ^ 12 * k * B < 2 ^ 3900) (hl:ps.length=xs.length) (op:PlOn B k ps) (ov:On B k v):BrG xs ws hs gs ps (some v):=by
  have smq:∀ {q:Rat} (l:Nat),On B (l * k) q->l<=2 ^ 12->SmQ 3900 q:=fun l o hl=>on_q hB hz hk o hl;have sm1:∀ {q:Rat},On B k q->SmQ 3900 q:=fun o=>smq 1 (by rw [Nat.one_mul]; exact o) (by decide);have en:∀ p ∈ ps,On B (2 * k) (enD p):=fun p hp=>((op p hp).1.add hB (op p hp).2).mono (by omega);refine ⟨hl.symm,o.n10,o.wl,o.hl,o.gl,o.gk,o.hx,fun p hp=>⟨sm1 (op p hp).1,sm1 (op p hp).2,smq 2 (en p hp) (by decide)⟩,fun w hw=>?_,fun h hh=>?_,fun q e=>?_⟩
  · obtain ⟨w1,w2,w3⟩:=o.hw w hw
    have w1:0<=w.1/\w.1 < (ps.length:Int):=⟨w1.1,by omega⟩;have w2:0<=w.2.1/\w.2.1 < (ps.length:Int):=⟨w2.1,by omega⟩;have m1:=M5 w1.1 w1.2;have m2:=M5 w2.1 w2.2;have o3:On B (3 * k) (enD (sat ps w.1) + w.2.2):=((en _ m1).add hB w3).mono (by omega);exact ⟨w1,w2,sm1 w3,smq 3 o3 (by decide),smq 4 (((op _ m2).1.sub hB o3).mono (by omega)) (by decide)⟩
  · obtain ⟨h1,w1,w3⟩:=o.hh h hh
    have w1:0<=h.2.1/\h.2.1 < (ps.length:Int):=⟨w1.1,by omega⟩;have m1:=M5 w1.1 w1.2;refine ⟨h1,w1,sm1 w3,?_⟩;unfold hSl;split
    · exact smq 2 (((op _ m1).1.sub hB w3).mono (by omega)) (by decide)
    · split
      · exact smq 2 ((w3.sub hB (op _ m1).1).mono (by omega)) (by decide)
      · exact smq 3 ((w3.sub hB (en _ m1)).mono (by omega)) (by decide)
  · cases e
    exact ⟨sm1 ov,fun p hp=>smq 3 ((ov.sub hB (en p hp)).mono (by omega)) (by decide)⟩
theorem B5u {xs zs:List Wk} {g:List Int} (h:GrOk xs g):GrOk (xs++zs) g :=
  ⟨h.l2,h.l9,fun w hw=>⟨(h.ix w hw).1,by have:=(h.ix w hw).2; rw [Ze]; omega⟩,fun w hw=>by rw [R5 (h.ix w hw).1 (h.ix w hw).2]; exact h.st w hw,fun w hw v hv=>by
    rw [R5 (h.ix w hw).1 (h.ix w hw).2,R5 (h.ix v hv).1 (h.ix v hv).2]; exact h.eq w hw v hv⟩
theorem A9k {xs zs ys:List Wk} {g:List Int} {n:Int} (h:GrOk ys g) (hz:zs.map (·.2)=ys.map (·.2)) (hn:n=(xs.length:Int)):GrOk (xs++zs) (shG n g):=by
  have lz:zs.length=ys.length:=by have:=congrArg List.length hz; simpa using this
  have e:∀ w ∈ g,(wat (xs++zs) (w + n)).2=(wat ys w).2:=fun w hw=>by rw [Y0 (h.ix w hw).1 hn,A38 hz]
  unfold shG;refine ⟨by rw [Zl]; exact h.l2,by rw [Zl]; exact h.l9,fun w hw=>?_,fun w hw=>?_,fun w hw v hv=>?_⟩
  · obtain ⟨w',hw',rfl⟩:=List.mem_map.mp hw
    have:=h.ix w' hw';rw [Ze];exact ⟨by omega,by omega⟩
  · obtain ⟨w',hw',rfl⟩:=List.mem_map.mp hw
    rw [e w' hw']; exact h.st w' hw'
  · obtain ⟨w',hw',rfl⟩:=List.mem_map.mp hw
    obtain ⟨v',hv',rfl⟩:=List.mem_map.mp hv;rw [e w' hw',e v' hv']; exact h.eq w' hw' v' hv'
theorem Q5 {xs zs ys:List Wk} {ws ws2 ms:List (Int × Int × Rat)} {hs hs2:List (Str × Int × Rat)} {gs gs2:List (List Int)} {B k:Nat} {n:Int} (a:NetOn xs ws hs gs B k) (b:NetOn ys ws2 hs2 gs2 B k) (hz:zs.map (·.2)=ys.map (·.2)) (hn:n=(xs.length:Int))
    (l:xs.length + ys.length<=10) (lw:ws.length + ws2.length + ms.length<=200) (lh:hs.length + hs2.length<=200) (lg:gs.length + gs2.length<=50) (hm:∀ w ∈ ms,(0<=w.1/\w.1 < ((xs++zs).length:Int))/\(0<=w.2.1/\w.2.1 < ((xs++zs).length:Int))/\On B k w.2.2) :
    NetOn (xs++zs) (ws++ws2.map (shW n)++ms) (hs++hs2.map (shH n)) (gs++gs2.map (shG n)) B k:=by
  have lz:zs.length=ys.length:=by have:=congrArg List.length hz; simpa using this
  have la:(xs++zs).length=xs.length + ys.length:=by rw [Ze,lz]
  refine ⟨by omega,by rw [Ze,Ze,Zl]; omega,by rw [Ze,Zl]; omega,by rw [Ze,Zl]; omega,fun g hg=>?_,fun x hx=>?_,fun w hw=>?_,fun h hh=>?_⟩
  · rcases Za hg with z | z
    · exact B5u (a.gk g z)
    · obtain ⟨g',hg',rfl⟩:=List.mem_map.mp z
      exact A9k (b.gk g' hg') hz hn
  · rcases Za hx with z | z
    · exact a.hx x z
    · have:x.2 ∈ ys.map (·.2):=by rw [<- hz]; exact List.mem_map_of_mem z
      obtain ⟨y,hy,e⟩:=List.mem_map.mp this;rw [<- e]; exact b.hx y hy
  · rcases Za hw with z | z
    · rcases Za z with z | z
      · obtain ⟨w1,w2,w3⟩:=a.hw w z
        exact ⟨⟨w1.1,by omega⟩,⟨w2.1,by omega⟩,w3⟩
      · obtain ⟨w',hw',rfl⟩:=List.mem_map.mp z
        obtain ⟨w1,w2,w3⟩:=b.hw w' hw';unfold shW;exact ⟨⟨by dsimp only; omega,by dsimp only; omega⟩,⟨by dsimp only; omega,by dsimp only; omega⟩,w3⟩
    · exact hm w z
  · rcases Za hh with z | z
    · obtain ⟨h1,w1,w3⟩:=a.hh h z
      exact ⟨h1,⟨w1.1,by omega⟩,w3⟩
    · obtain ⟨h',hh',rfl⟩:=List.mem_map.mp z
      obtain ⟨h1,w1,w3⟩:=b.hh h' hh';unfold shH;exact ⟨h1,⟨by dsimp only; omega,by dsimp only; omega⟩,w3⟩
theorem B0u {c d:Rat} (h:0 < c):∀ {cs:List (Rat × Rat)},Dec cs->Dec (cs.map fun z=>(c * z.1,d * z.2))
  | [],_=>True.intro
  | [_],_=>True.intro
  | a :: b :: r,k=>⟨(A0k h).mpr k.1,B0u h (cs:=b :: r) k.2⟩
theorem C22 {c d:Rat} {cs:List (Rat × Rat)} (h:OfOk cs 100 54 244 130) (hc:0 < c) (sc:SmR 41 6 c) (sd:SmR 41 6 d):OfOk (cs.map fun z=>(c * z.1,d * z.2)) 200 120 600 300:=by
  refine ⟨by rw [Zl]; exact h.ne,by rw [Zl]; exact h.le,B0u hc h.dec,fun z hz=>?_⟩;obtain ⟨y,hy,rfl⟩:=List.mem_map.mp hz;exact ⟨(sc.mul (h.sm y hy).1).mono (by decide) (by decide),(sd.mul (h.sm y hy).2).mono (by decide) (by decide)⟩
theorem A0j {n:Int} {xs:List Wk} {ws:List (Int × Int × Rat)} {hs:List (Str × Int × Rat)} {gs:List (List Int)} {B k:Nat} {c d:Rat} (ok:NetG n xs ws hs gs) (hc:0 < c) (sc:SmR 41 6 c) (sd:SmR 41 6 d) (hB:∀ q,On LL (2 ^ 55) q->On B k (c * q)):NetOn (xs.map (scX c d)) (ws.map (scW c)) (hs.map (scH c)) gs B k:=by
  have h1:=ok.ln;have h3:=ok.n1;have h4:=ok.wl;have h5:=ok.hl;have h6:=ok.gl;have e:∀ {w:Int},0<=w->w < (xs.length:Int)->wat (xs.map (scX c d)) w=scX c d (wat xs w):=fun h0 h1=>A4a h0 h1;refine ⟨by rw [Zl]; omega,by rw [Zl]; omega,by rw [Zl]; omega,by omega,fun g hg=>?_,fun x hx=>?_,fun w hw=>?_,fun h hh=>?_⟩
  · have gr:=ok.gk g hg
    refine ⟨gr.l2,gr.l9,fun w hw=>by rw [Zl]; exact gr.ix w hw,fun w hw=>by rw [e (gr.ix w hw).1 (gr.ix w hw).2]; exact gr.st w hw,fun w hw v hv=>?_⟩;rw [e (gr.ix w hw).1 (gr.ix w hw).2,e (gr.ix v hv).1 (gr.ix v hv).2];unfold scX;dsimp only;rw [Zl,Zl]; exact gr.eq w hw v hv
  · obtain ⟨y,hy,rfl⟩:=List.mem_map.mp hx
    exact ⟨(ok.of y hy).1,C22 (ok.of y hy).2.1.ok hc sc sd⟩
  · obtain ⟨w',hw',rfl⟩:=List.mem_map.mp hw
    obtain ⟨w1,w2,w3⟩:=ok.wk w' hw';rw [Zl];exact ⟨⟨w1.1,by have:=w1.2; show w'.1 < _; omega⟩,⟨w2.1,by have:=w2.2; show w'.2.1 < _; omega⟩,hB _ w3⟩
  · obtain ⟨h',hh',rfl⟩:=List.mem_map.mp hh
    obtain ⟨w1,w2,w3⟩:=ok.hk h' hh';rw [Zl];exact ⟨w1,⟨w2.1,by have:=w2.2; show h'.2.1 < _; omega⟩,hB _ w3⟩
theorem NetOn.turned {xs:List Wk} {ws:List (Int × Int × Rat)} {hs:List (Str × Int × Rat)} {gs:List (List Int)} {B k:Nat} (o:NetOn xs ws hs gs B k):NetOn xs (ws.map fun w=>(w.2.1,w.1,w.2.2)) [] gs B k :=
  ⟨o.n10,by rw [Zl]; exact o.wl,by decide,o.gl,o.gk,o.hx,fun w hw=>by
    obtain ⟨w',hw',rfl⟩:=List.mem_map.mp hw;obtain ⟨w1,w2,w3⟩:=o.hw w' hw';exact ⟨w2,w1,w3⟩,fun h hh=>nomatch hh⟩
theorem isNo_iff {x:PyData}:isNo x=true ↔ x=.none:=by
  cases x <;> first | exact ⟨fun _=>rfl,fun _=>rfl⟩ | exact ⟨(fun h=>by cases h),(fun h=>by cases h)⟩
theorem A6o (a b:Bool):(PyData.list [.bool a,.bool b]).eqv (.list [.bool true,.bool true])=(a && b):=by cases a <;> cases b <;> decide
theorem A1k:∀ {hs:List (Str × Int × Rat)},(∀ h ∈ hs,Hk h.1)->PyData.canLayAll0 (hs.map hD)=true
  | [],_=>rfl
  | h :: r,a=>by
    show ((hD h).canLay0 && PyData.canLayAll0 (r.map hD))=true;rw [A1k fun x hx=>a x (Zr _ hx)];have:(hD h).canLay0=true:=by
      show ((PyData.str h.1).canLay0 && ((PyData.int h.2.1).canLay0 && ((dq h.2.2).canLay0 && true)))=true;rw [(a h Zy).lay]; rfl
    rw [this]; rfl
theorem B0t:∀ hs:List (Str × Int × Rat),PyData.depthAll (hs.map hD)<=3
  | []=>by decide
  | h :: r=>by
    show max (hD h).depth (PyData.depthAll (r.map hD))<=3;have:=B0t r;have e:(hD h).depth=2:=rfl;omega
theorem A6q (hs:List (Str × Int × Rat)):(PyData.list (hs.map hD)).depth<=60:=by
  show PyData.depthAll (hs.map hD) + 1<=60;have:=B0t hs;omega
def ren (nn:List Str) (ys:List Wk):List Wk:=List.zipWith (fun z y=>(z,y.2)) nn ys
theorem A1d:∀ {nn:List Str} {ys:List Wk},ys.length<=nn.length->(ren nn ys).map (·.2)=ys.map (·.2)
  | _,[],_=>by unfold ren; simp
  | [],_ :: _,h=>by simp at h
  | z :: nn,y :: ys,h=>by
    show y.2 :: (ren nn ys).map (·.2)=y.2 :: ys.map (·.2);rw [A1d (by simpa using h)]
theorem B1n {nn:List Str} {ys:List Wk} {i:Nat} {z:Str} {y:Wk} (h1:nn[i]?=some z) (h2:ys[i]?=some y):(ren nn ys)[i]?=some (z,y.2):=by
  unfold ren;rw [List.getElem?_zipWith,h1,h2]
def half:Rat:=⟨1,2,by decide,by decide⟩
def th23:Rat:=⟨2,3,by decide,by decide⟩
theorem A15:SmQ 3900 half:=⟨(show My.Sm 2 1 by unfold My.Sm; decide).mono (by decide),(show My.Sm 2 2 by unfold My.Sm; decide).mono (by decide)⟩
theorem B6r:SmQ 3900 th23:=⟨(show My.Sm 2 2 by unfold My.Sm; decide).mono (by decide),(show My.Sm 2 3 by unfold My.Sm; decide).mono (by decide)⟩
theorem B6q:SmQ 3900 (Rat.divInt 1 2):=by rw [show Rat.divInt 1 2=half by decide +kernel]; exact A15
theorem B1i:SmQ 3900 (Rat.divInt 2 3):=by rw [show Rat.divInt 2 3=th23 by decide +kernel]; exact B6r
theorem on_half:On 2 1 half:=⟨1,by decide +kernel,by decide⟩
theorem C21:On 3 1 th23:=⟨2,by decide +kernel,by decide⟩
section
variable {P:Program} {w:World} {K:PySem.W.Frag} {mg:Str->Option Value} {base:Heap} {D:Adr}
theorem J2 (T:Txt K mg D):FnOk P w K mg base CX0 1 D.a_commonpart D.d_commonpart ["one","other"] (Pu.spOf K [.dat,.dat] B7g):=by
  refine T.B.F_commonpart.ok sc_commonpart (Zz rfl) (fun cdv A outer s H vs Q E hr h=>?_);refine ⟨_,(QSs.out (A3 (S4 (i:=0) (j:=1) rfl sc_commonpart.nd rfl rfl (by decide) rfl rfl (A0 (J5 A01 (by rfl) T.z_abs (by rfl) (A0 (qpv 0) A1)) (A0 (J5 A01 (by rfl) T.z_abs (by rfl) (A0 (qpv 1) A1)) A1)) rfl)
      (A3 (O3 Zf (B2 (M9 (K:=K) rfl hr.units) (qpv 1) A2 (B5 _))
        (A4 (S4 (i:=0) (j:=1) rfl sc_commonpart.nd rfl rfl (by decide) rfl rfl (A0 (qpv 1) (A0 (A8 M1 (qpv 0) (qpv 1)) A1)) rfl)))
      (A4 (A7 (qpv 0)))))),?_⟩
  refine Pu.F0 h ?_;rintro as Qp ⟨a,b,rfl,k⟩;trivial;refine ⟨fun m e=>∃ x y:Int,e=[some (.d (.int x)),some (.d (.int y))]/\0<=x/\0<=y/\m=y.toNat/\Int.gcd x y=Int.gcd a b,⟨_,_,_,rfl,by split <;> omega,by split <;> omega,rfl,B5v a b⟩,?_⟩
  rintro m e ⟨x,y,rfl,hx,hy,rfl,hg⟩;trivial;refine ite2 (fun e=>?_) (fun hn=>?_)
  · subst e
    have:=A2v x hx;rw [hg] at this;rw [<- this]; exact k
  · have h1:=Int.emod_lt_of_pos x (show 0 < y by omega)
    have h2:=Int.emod_nonneg x hn;exact ⟨by omega,(x % y).toNat,by omega,y,x % y,rfl,hy,h2,rfl,by rw [A6h,hg]⟩
theorem W8 (T:Txt K mg D):FnOk P w K mg base CX0 2 D.a_plus D.d_plus ["one","other"] (Pu.spOf K [.dat,.dat] (U9 (·+·))):=by
  refine T.B.F_plus.ok sc_plus (Zz rfl) (fun cdv A outer s H vs Q E hr h=>?_);refine ⟨_,(QSs.out (A3 (qst 2 sc_plus (qcK (J2 (K:=K) T) hr.mo (K2 T) (A0 (qix K (qpv 0) A2) (A0 (qix K (qpv 1) A2) A1))))
      (A3 (S4 (i:=3) (j:=4) rfl sc_plus.nd rfl rfl (by decide) rfl rfl (A0 (A8 G0 (qix K (qpv 0) A2) (qpv 2)) (A0 (A8 G0 (qix K (qpv 1) A2) (qpv 2)) A1)) rfl)
      (A3 (qst 5 sc_plus (A8 E8 (A8 D1 (qix K (qpv 0) A2) (qpv 4)) (A8 D1 (qix K (qpv 1) A2) (qpv 3))))
      (A3 (qst 6 sc_plus (qcK (J2 (K:=K) T) hr.mo (K2 T) (A0 (qpv 5) (A0 (qpv 2) A1))))
      (A4 (A7 (A9 (A0 (A8 G0 (qpv 5) (qpv 6)) (A0 (A8 D1 (qpv 3) (A8 G0 (qix K (qpv 1) A2) (qpv 6))) A1)))))))))),?_⟩
  refine Pu.F0 h ?_;rintro as Qp ⟨p,q,rfl,sp,sq,k⟩;trivial;refine ⟨_,_,rfl,?_⟩;trivial;have p2:=sp.2.mono (l:=8000) (by decide);have q2:=sq.2.mono (l:=8000) (by decide);have g0:=Q1 (t:=(p.den:Int)) q;have gs:=Y8 (t:=(p.den:Int)) q2 (den0 q);have gn:(0:Int)<=((Int.gcd (p.den:Int) (q.den:Int):Nat):Int):=Int.natCast_nonneg _;refine ⟨⟨g0,gs⟩,⟨g0,gs⟩,⟨sp.1.mono (by decide),A0q q2 gn⟩,⟨sq.1.mono (by decide),A0q p2 gn⟩,_,_,rfl,?_⟩;trivial;refine ⟨⟨A2w g0,Y8 gs g0⟩,⟨A2w g0,Y8 gs g0⟩,⟨A0q p2 gn,A0q q2 (Int.natCast_nonneg _)⟩,?_⟩;obtain ⟨e1,e2⟩:=B18 p q _ _ rfl rfl;rw [e1,e2]; exact k
theorem N4 (T:Txt K mg D):FnOk P w K mg base CX0 3 D.a_minus D.d_minus ["one","other"] (Pu.spOf K [.dat,.dat] (U9 (·-·))):=by
  refine T.B.F_minus.ok sc_minus (Zz rfl) (fun cdv A outer s H vs Q E hr h=>?_);refine ⟨_,(QSs.out (A4 (A7 (qcK (W8 (K:=K) T) hr.mo (A25 T) (A0 (qpv 0) (A0 (A9 (A0 (A2d A13 (qix K (qpv 1) A2)) (A0 (qix K (qpv 1) A2) A1))) A1)))))),?_⟩;refine Pu.F0 h ?_;rintro as Qp ⟨p,q,rfl,sp,sq,k⟩;trivial;rw [C1o];refine ⟨_,_,rfl,sp,⟨by have:=sq.1; unfold Sm at *; show (-q.num).natAbs < _; omega,sq.2⟩,?_⟩;show Qp (.d (dq (p + -q)));rw [<- Rat.sub_eq_add_neg]; exact k
theorem V1 (T:Txt K mg D):FnOk P w K mg base CX0 2 D.a_product D.d_product ["one","other"] (Pu.spOf K [.dat,.dat] (U9 (·*·))):=by
  refine T.B.F_product.ok sc_product (Zz rfl) (fun cdv A outer s H vs Q E hr h=>?_);refine ⟨_,(QSs.out (A3 (S4 (i:=2) (j:=3) rfl sc_product.nd rfl rfl (by decide) rfl rfl (A0 (qcK (J2 (K:=K) T) hr.mo (K2 T) (A0 (qix K (qpv 0) A2) (A0 (qix K (qpv 1) A2) A1))) (A0 (qcK (J2 (K:=K) T) hr.mo (K2 T) (A0 (qix K (qpv 1) A2) (A0 (qix K (qpv 0) A2) A1))) A1)) rfl)
      (A4 (A7 (A9 (A0 (A8 D1 (A8 G0 (qix K (qpv 0) A2) (qpv 2)) (A8 G0 (qix K (qpv 1) A2) (qpv 3))) (A0 (A8 D1 (A8 G0 (qix K (qpv 0) A2) (qpv 3)) (A8 G0 (qix K (qpv 1) A2) (qpv 2))) A1))))))),?_⟩
  refine Pu.F0 h ?_;rintro as Qp ⟨p,q,rfl,sp,sq,k⟩;trivial;refine ⟨_,_,rfl,?_⟩;trivial;refine ⟨_,_,rfl,?_⟩;trivial;have p1:=sp.1.mono (l:=8000) (by decide);have q1:=sq.1.mono (l:=8000) (by decide);have p2:=sp.2.mono (l:=8000) (by decide);have q2:=sq.2.mono (l:=8000) (by decide);have g0:=Q1 (t:=p.num) q;have gs:=Y8 (t:=p.num) q2 (den0 q);have h0:=Q1 (t:=q.num) p;have hs:=Y8 (t:=q.num) p2 (den0 p);refine ⟨⟨g0,gs⟩,⟨h0,hs⟩,⟨A0q p1 (Int.natCast_nonneg _),A0q q1 (Int.natCast_nonneg _)⟩,⟨h0,hs⟩,⟨g0,gs⟩,⟨A0q p2 (Int.natCast_nonneg _),A0q q2 (Int.natCast_nonneg _)⟩,?_⟩;rw [B99,C0a]; exact k
theorem S8 (T:Txt K mg D):FnOk P w K mg base CX0 1 D.a_isless D.d_isless ["one","other"] (Pu.spOf K [.dat,.dat] A4z):=by
  refine T.B.F_isless.ok sc_isless (Zz rfl) (fun cdv A outer s H vs Q E hr h=>?_);refine ⟨_,(QSs.out (A4 (A7 (E6 A8k (A8 D1 (qix K (qpv 0) A2) (qix K (qpv 1) A2)) (A8 D1 (qix K (qpv 1) A2) (qix K (qpv 0) A2)) (B5 _))))),?_⟩;refine Pu.F0 h ?_;rintro as Qp ⟨p,q,rfl,sp,sq,k⟩;trivial;have p1:=sp.1.mono (l:=8000) (by decide);have p2:=sp.2.mono (l:=8000) (by decide);have q1:=sq.1.mono (l:=8000) (by decide);have q2:=sq.2.mono (l:=8000) (by decide);refine ⟨⟨p1,q2⟩,⟨q1,p2⟩,?_⟩;rw [A2t]; exact k
def Z7:Pu.PSp:=fun as Q=>∃ (kd:Str) (cs:List (Rat × Rat)) (t:Rat),as=[.d (offD kd cs),.d (dq t)]/\Kd kd/\OfOk cs 200 120 600 300/\SmQ 3900 t/\Q (.d (.bool (offB kd cs t)))
theorem A0f (T:Txt K mg D):FnOk P w K mg base CX0 2 D.a_isoffered D.d_isoffered ["offer","time"] (Pu.spOf K [.dat,.dat] Z7):=by
  refine T.B.F_isoffered.ok sc_isoffered (Zz rfl) (fun cdv A outer s H vs Q E hr h=>?_);refine ⟨_,(QSs.out (A3 (L1 (qpv 0) (C5 (K:=K) (n:=2) rfl rfl (A5 (qgn 2 sc_isoffered) (A5 (qgn 3 sc_isoffered) C2)) rfl rfl))
      (A3 (D2 (B2 (D5 (K:=K) rfl hr.units) (qpv 2) C1 (B5 _))
        (A4 (A7 (E6 (B3n (K:=K) rfl hr.units) (qpv 1) (D4 rfl (B3 ["corner"] [none]) (C0 (K:=K) rfl (qpv 3)) (fun _ _ _=>(qgc 0 ["corner"])) (fun _ _ _=>C3) (fun _ _ _=>(qix K (qpv 0) A2))) (by with_unfolding_all rfl))))
        B7)
      (A4 (A7 (B1u (A4w (qcK (S8 (K:=K) T) hr.mo (X6 T) (A0 (qpv 1) (A0 (qix K (qix K (qpv 3) (A2d A13 A2)) A2) A1)))) (B1t (A4w (qcK (S8 (K:=K) T) hr.mo (X6 T) (A0 (qix K (qix K (qpv 3) A2) A2) (A0 (qpv 1) A1))))))))))),?_⟩
  refine Pu.F0 h ?_;rintro as Qp ⟨kd,cs,t,rfl,hk,ok,st,k⟩;unfold offD;have n1:=ok.ne;have n5:=ok.le;trivial;refine ⟨hk.lay,A55,?_⟩;rcases hk with hk | hk
  · have hk':kd="straight":=hk
    subst hk';have e0:=B0o n1;have el:=B0k n1;have s0:=(ok.sm _ (Zm e0)).1;have sl:=(ok.sm _ (Zm el)).1;unfold offB at k;rw [if_neg (Ne.symm C3c)] at k;rw [C1f,if_neg (by decide)];refine M8 (xs:=cs) el (by omega) ?_;trivial;refine ⟨_,_,rfl,st,sl.q (by decide) (by decide),?_⟩;by_cases h1:t < (lstC cs).1
    · rw [Zk h1] at k ⊢
      trivial;exact k
    rw [Zd h1] at k ⊢;trivial;refine J0 (n:=0) e0 ?_;trivial;refine ⟨_,_,rfl,s0.q (by decide) (by decide),st,?_⟩;by_cases h2:(fstC cs).1 < t
    · rw [Zk h2] at k ⊢
      trivial;exact k
    · rw [Zd h2] at k ⊢
      trivial;exact k
  · have hk':kd="steps":=hk
    subst hk';unfold offB at k;rw [if_pos rfl] at k;rw [C1h,if_pos rfl];refine ⟨by omega,⟨fun i e ys=>∃ o:Option SV,e=[o]/\ys=((cs.take i).map fun c=>dq c.1),⟨_,rfl,rfl⟩,?_,?_⟩⟩
    · rintro i x e ys hx ⟨o,rfl,rfl⟩
      rw [Zh] at hx;obtain ⟨b,hb,rfl⟩:=Zo hx;trivial;refine ⟨_,rfl,?_⟩;rw [List.take_succ,hb,Zc]; rfl
    · rintro e ys ⟨o,rfl,rfl⟩
      rw [Zl,List.take_length];trivial;refine ⟨A1l cs,?_⟩;rw [B6f];exact k
def A76:Pu.PSp:=fun as Q=>∃ p:Rat × Rat,as=[.d (dcn p)]/\PlSm p/\Q (.d (dq (enD p)))
theorem S1 (T:Txt K mg D):FnOk P w K mg base CX0 3 D.a_endof D.d_endof ["step"] (Pu.spOf K [.dat] A76):=by
  refine T.B.F_endof.ok sc_endof (Zz rfl) (fun cdv A outer s H vs Q E hr h=>?_);refine ⟨_,(QSs.out (A4 (A7 (qcK (W8 (K:=K) T) hr.mo (A25 T) (A0 (qix K (qpv 0) A2) (A0 (qix K (qpv 0) A2) A1)))))),?_⟩;refine Pu.F0 h ?_;rintro as Qp ⟨p,rfl,hp,k⟩;trivial;exact ⟨p.1,p.2,rfl,hp.s,hp.t,k⟩
def Z5:Pu.PSp:=fun as Q=>∃ (w:Int × Int × Rat) (ps:List (Rat × Rat)),as=[.d (wD w),.d (.list (ps.map dcn))]/\(0<=w.1/\w.1 < (ps.length:Int))/\(0<=w.2.1/\w.2.1 < (ps.length:Int))/\PlSm (sat ps w.1)/\PlSm (sat ps w.2.1)/\SmQ 3900 w.2.2/\SmQ 3900 (enD (sat ps w.1) + w.2.2)/\Q (.d (dq (wSl ps w)))
theorem A0e (T:Txt K mg D):FnOk P w K mg base CX0 4 D.a_waitslack D.d_waitslack ["wait","plan"] (Pu.spOf K [.dat,.dat] Z5):=by
  refine T.B.F_waitslack.ok sc_waitslack (Zz rfl) (fun cdv A outer s H vs Q E hr h=>?_);refine ⟨_,(QSs.out (A3 (L1 (qpv 0) (C5 (K:=K) (n:=3) rfl rfl (A5 (qgn 2 sc_waitslack) (A5 (qgn 3 sc_waitslack) (A5 (qgn 4 sc_waitslack) C2))) rfl rfl))
      (A4 (A7 (qcK (N4 (K:=K) T) hr.mo (Q2 T) (A0 (qix K (qix K (qpv 1) (qpv 3)) A2) (A0 (qcK (W8 (K:=K) T) hr.mo (A25 T) (A0 (qcK (S1 (K:=K) T) hr.mo (X7 T) (A0 (qix K (qpv 1) (qpv 2)) A1)) (A0 (qpv 4) A1))) A1))))))),?_⟩
  refine Pu.F0 h ?_;rintro as Qp ⟨⟨a,b,l⟩,ps,rfl,ha,hb,pa,pb,sl,se,k⟩;have ea:=A18 ha.1 ha.2;have eb:=A18 hb.1 hb.2;unfold wD;trivial;refine B6 eb ?_;trivial;refine B6 ea ?_;trivial;refine ⟨_,rfl,pa,?_⟩;trivial;refine ⟨_,_,rfl,pa.e,sl,?_⟩;trivial;exact ⟨_,_,rfl,pb.s,se,k⟩
def Z8:Pu.PSp:=fun as Q=>∃ (h:Str × Int × Rat) (ps:List (Rat × Rat)),as=[.d (hD h),.d (.list (ps.map dcn))]/\Hk h.1/\(0<=h.2.1/\h.2.1 < (ps.length:Int))/\PlSm (sat ps h.2.1)/\SmQ 3900 h.2.2/\Q (.d (dq (hSl ps h)))
theorem A0g (T:Txt K mg D):FnOk P w K mg base CX0 4 D.a_holdslack D.d_holdslack ["hold","plan"] (Pu.spOf K [.dat,.dat] Z8):=by
  refine T.B.F_holdslack.ok sc_holdslack (Zz rfl) (fun cdv A outer s H vs Q E hr h=>?_);refine ⟨_,(QSs.out (A3 (L1 (qpv 0) (C5 (K:=K) (n:=3) rfl rfl (A5 (qgn 2 sc_holdslack) (A5 (qgn 3 sc_holdslack) (A5 (qgn 4 sc_holdslack) C2))) rfl rfl))
      (A3 (D2 (B2 (D5 (K:=K) rfl hr.units) (qpv 2) C1 (B5 _))
        (A4 (A7 (qcK (N4 (K:=K) T) hr.mo (Q2 T) (A0 (qix K (qix K (qpv 1) (qpv 3)) A2) (A0 (qpv 4) A1)))))
        B7)
      (A3 (D2 (B2 (D5 (K:=K) rfl hr.units) (qpv 2) C1 (B5 _))
        (A4 (A7 (qcK (N4 (K:=K) T) hr.mo (Q2 T) (A0 (qpv 4) (A0 (qix K (qix K (qpv 1) (qpv 3)) A2) A1)))))
        B7)
      (A4 (A7 (qcK (N4 (K:=K) T) hr.mo (Q2 T) (A0 (qpv 4) (A0 (qcK (S1 (K:=K) T) hr.mo (X7 T) (A0 (qix K (qpv 1) (qpv 3)) A1)) A1))))))))),?_⟩
  refine Pu.F0 h ?_;rintro as Qp ⟨⟨kd,b,l⟩,ps,rfl,hk,hb,pb,sl,k⟩;have eb:=A18 hb.1 hb.2;unfold hD;trivial;refine ⟨hk.lay,A56,?_⟩;rcases hk with hk | hk | hk
  · have hk':kd="from":=hk
    subst hk';rw [C1j,if_pos rfl];refine B6 eb ?_;trivial;exact ⟨_,_,rfl,pb.s,sl,k⟩
  · have hk':kd="till":=hk
    subst hk';rw [C1g,if_neg (by decide)];refine ⟨A53,A53,?_⟩;rw [C1i,if_pos rfl];refine B6 eb ?_;trivial;refine ⟨_,_,rfl,sl,pb.s,?_⟩;unfold hSl at k;rw [if_neg C27,if_pos rfl] at k;exact k
  · have hk':kd="by":=hk
    subst hk';rw [C1m,if_neg (by decide)];refine ⟨by decide +kernel,A53,?_⟩;rw [C1l,if_neg (by decide)];refine B6 eb ?_;trivial;refine ⟨_,rfl,pb,?_⟩;trivial;refine ⟨_,_,rfl,sl,pb.e,?_⟩;unfold hSl at k;rw [if_neg C29,if_neg C28] at k;exact k
def P7:Pu.PSp:=fun as Q=>∃ (xs:List Wk) (g:List Int) (ps:List (Rat × Rat)),as=[.d (.list (xs.map kD)),.d (gD g),.d (.list (ps.map dcn))]/\xs.length=ps.length/\(∀ x ∈ xs,x.2.2.length<=5)/\GrOk xs g/\(∀ w ∈ g,((wat xs w).2.2.any fun c=>decide (c.1=(sat ps w).2))=true)/\Q (.d (.bool (oneC xs ps g)))
theorem P8 (T:Txt K mg D):FnOk P w K mg base CX0 1 D.a_takesonecorner D.d_takesonecorner ["works","group","plan"] (Pu.spOf K [.dat,.dat,.dat] P7):=by
  refine T.B.F_takesonecorner.ok sc_takesonecorner (Zz rfl) (fun cdv A outer s H vs Q E hr h=>?_);refine ⟨_,(QSs.out (A3 (K3 (i:=3) sc_takesonecorner.nd rfl (Or.inr rfl) (B4 A1))
      (A3 (C9 Zf rfl (C0 (K:=K) rfl (qpv 1)) (qgn 4 sc_takesonecorner)
        (A3 (E5 (i:=5) rfl sc_takesonecorner.nd rfl rfl (B3 ["corner"] [none]) (C0 (K:=K) rfl (qix K (qix K (qix K (qpv 0) (qpv 4)) A2) A2)) (fun _ _ _=>(qgc 0 ["corner"])) (fun _ _ _=>C3) (fun _ _ _=>(qix K (qpv 0) A2)) rfl)
        (A4 (D3 (E9 (K:=K) rfl Z1 Z2 Z3 C8 (qpv 3) (A0 (E9 (K:=K) rfl Z1 PySem.F.slot_list_index PySem.F.type_list_index (A3x (K:=K) rfl hr.units) (qpv 5) (A0 (qix K (qix K (qpv 2) (qpv 4)) A2) A1)) A1))))))
      (A4 (A7 (J5 (A64 (K:=K) rfl) (by rfl) T.z_all (by rfl) (A0 (D4 rfl (B3 ["numbers","number"] [some 3,none]) (C0 (K:=K) rfl (qpv 3)) (fun _ _ _=>(qgc 1 ["numbers","number"])) (fun _ _ _=>C3) (fun _ _ _=>(E6 (D5 (K:=K) rfl hr.units) (qpv 1) (qix K (qpv 0) A2) (B5 _)))) A1))))))),?_⟩
  refine Pu.F0 h ?_;rintro as Qp ⟨xs,g,ps,rfl,hl,h5,gr,hof,k⟩;have g2:=gr.l2;have g9:=gr.l9;unfold gD;trivial;refine G4 (f:=PyData.int) (xs:=g) (fun i e=>∃ o1 o2:Option SV,e=[some (.d (.list (xs.map kD))),some (.d (.list (g.map .int))),some (.d (.list (ps.map dcn))),some (.own ((g.take i).map fun w=>.int (nbr xs ps w:Int))),o1,o2]) ⟨_,_,rfl⟩ ?_ ?_
  · rintro i w e hw ⟨o1,o2,rfl⟩
    have hwm:=Zm hw;obtain ⟨w0,w1⟩:=gr.ix w hwm;have hx:=h5 _ (A39 w0 w1);trivial;refine B6 (A10 w0 w1) ?_;trivial;refine ⟨by omega,D6 (f:=dcn) (xs:=(wat xs w).2.2) (fun i e ys=>∃ o:Option SV,e=[o]/\ys=(((wat xs w).2.2.take i).map fun c=>dq c.1)) ⟨_,rfl,rfl⟩ ?_ ?_⟩
    · rintro i b e ys hb ⟨o,rfl,rfl⟩
      trivial;refine ⟨_,rfl,?_⟩;rw [List.take_succ,hb,Zc]; rfl
    rintro e ys ⟨o,rfl,rfl⟩;rw [List.take_length];trivial;refine B6 (A18 w0 (by rw [<- hl]; exact w1)) ?_;trivial;refine ⟨A1l _,by first | omega | (rw [Zl]; omega),_,(B5n _ _).trans (B5p (hof w hwm)),?_⟩;trivial;exact ⟨by first | omega | (simp; omega),_,_,by rw [List.take_succ,hw,Zc]; rfl⟩
  rintro e ⟨o1,o2,rfl⟩;rw [List.take_length];obtain ⟨a,r,ea⟩:∃ a r,g=a :: r:=by
    cases g with
    | nil=>simp at g2
    | cons a r=>exact ⟨a,r,rfl⟩
  have hhd:g.headD 0=a:=by rw [ea]; rfl
  have e0:L2.atI (g.map fun w=>PyData.int (nbr xs ps w:Int)) ((0:Nat):Int)=some (.int (nbr xs ps a:Int)):=by rw [ea]; exact F5 rfl
  trivial;refine ⟨by omega,D6 (f:=fun w=>PyData.int (nbr xs ps w:Int)) (xs:=g) (fun i e ys=>∃ o:Option SV,e=[some (.d (.list (g.map fun w=>PyData.int (nbr xs ps w:Int)))),o]/\ys=((g.take i).map fun w=>.bool (decide (nbr xs ps w=nbr xs ps a)))) ⟨_,rfl,rfl⟩ ?_ ?_⟩
  · rintro i w e ys hw ⟨o,rfl,rfl⟩
    trivial;refine B6 e0 ?_;trivial;refine ⟨_,rfl,?_⟩;rw [List.take_succ,hw,Zc,B59]; rfl
  rintro e ys ⟨o,rfl,rfl⟩;rw [List.take_length];trivial;refine ⟨_,A65 (fun w=>decide (nbr xs ps w=nbr xs ps a)) g,?_⟩;unfold oneC at k;rw [hhd] at k;rw [List.all_map];exact k
def W4:Pu.PSp:=fun as Q=>∃ (w:Str) (qs:List Rat),as=[.d (.str w),.bor (qs.map dq)]/\qs.length<=1000/\(∀ q ∈ qs,SmQ 3900 q)/\Q (.d (fbD w (fb qs)))
theorem J1 (T:Txt K mg D):FnOk P w K mg base CX0 2 D.a_firstbelow D.d_firstbelow ["word","slacks"] (Pu.spOf K [.dat,.vw] W4):=by
  refine T.B.F_firstbelow.ok sc_firstbelow (Zz rfl) (fun cdv A outer s H vs Q E hr h => ?_);refine ⟨_, (QSs.out (A3 (C9 Zf rfl (S5 (K := K) rfl rfl T.z_enumerate (A0 (qpv 1) A1)) (C5 (K := K) (n := 2) rfl rfl (A5 (qgn 2 sc_firstbelow) (A5 (qgn 3 sc_firstbelow) C2)) rfl rfl)
        (A4 (D2 (G3 (qcK (S8 (K:=K) T) hr.mo (X6 T) (A0 (qpv 3) (A0 (A70 (v:=.ref D.k_NOUGHT) rfl T.c_NOUGHT rfl) A1))))
          (A4 (A7 (A9 (A0 (qpv 0) (A0 (qpv 2) A1)))))
          B7)))
      (A4 (A7 F6)))),?_⟩
  haveI:=T.c2_NOUGHT
  refine Pu.F0 h ?_;rintro as Qp ⟨w,qs,rfl,hl,hs,k⟩;trivial;refine A1p (fun i e=>∃ o1 o2:Option SV,e=[some (.d (.str w)),some (.bor (qs.map dq)),o1,o2]/\∀ j r,j < i->qs[j]?=some r->¬ r < 0) ⟨_,_,rfl,fun j r h=>absurd h (Nat.not_lt_zero _)⟩ ?_ ?_
  · rintro i x e hx ⟨o1,o2,rfl,ha⟩
    obtain ⟨y,hy,rfl⟩:=T7 hx;rw [Zh] at hy;obtain ⟨q,hq,rfl⟩:=Zo hy;trivial;refine ⟨q,0,rfl,hs q (Zm hq),smq0,?_⟩;trivial;refine ite2 (fun h=>?_) (fun h=>⟨_,_,rfl,fun j r hj hr=>?_⟩)
    · rw [C1d hq h ha] at k; exact k
    · rcases Nat.lt_succ_iff_lt_or_eq.mp hj with z | z
      · exact ha j r z hr
      · subst z; rw [hq] at hr; cases hr; exact h
  · rintro e ⟨o1,o2,rfl,ha⟩
    rw [O9,Zl] at ha;trivial;rw [B5z ha] at k; exact k
def S6:Pu.PSp:=fun as Q=>∃ (xs:List Wk) (gs:List (List Int)) (ps:List (Rat × Rat)),as=[.d (.list (xs.map kD)),.d (.list (gs.map gD)),.d (.list (ps.map dcn))]/\xs.length=ps.length/\xs.length<=10/\gs.length<=50/\(∀ x ∈ xs,Kd x.2.1/\OfOk x.2.2 200 120 600 300)/\(∀ p ∈ ps,SmQ 3900 p.2)/\(∀ g ∈ gs,GrOk xs g)/\Q (.d (match fiT xs ps with | some i=>fbD "time" (some i) | none=>fbD "group" (fiG xs ps gs)))
theorem S9 (T:Txt K mg D):FnOk P w K mg base CX0 3 D.a_firstuntaken D.d_firstuntaken ["works","groups","plan"] (Pu.spOf K [.dat,.dat,.dat] S6):=by
  refine T.B.F_firstuntaken.ok sc_firstuntaken (Zz rfl) (fun cdv A outer s H vs Q E hr h => ?_);refine ⟨_, (QSs.out (A3 (C9 Zf rfl (S5 (K := K) rfl rfl T.z_enumerate (A0 (qpv 0) A1)) (C5 (K := K) (n := 2) rfl rfl (A5 (qgn 3 sc_firstuntaken) (A5 (qgn 4 sc_firstuntaken) C2)) rfl rfl)
        (A4 (D2 (M7 (G3 (qcK (A0f (K:=K) T) hr.mo (A1v T) (A0 (qix K (qpv 4) A2) (A0 (qix K (qix K (qpv 2) (qpv 3)) A2) A1)))))
          (A4 (A7 (A9 (A0 C1 (A0 (qpv 3) A1)))))
          B7)))
      (A3 (C9 Zf rfl (S5 (K:=K) rfl rfl T.z_enumerate (A0 (qpv 1) A1)) (C5 (K:=K) (n:=2) rfl rfl (A5 (qgn 3 sc_firstuntaken) (A5 (qgn 5 sc_firstuntaken) C2)) rfl rfl)
        (A4 (D2 (M7 (G3 (qcK (P8 (K:=K) T) hr.mo (R3 T) (A0 (qpv 0) (A0 (qpv 5) (A0 (qpv 2) A1))))))
          (A4 (A7 (A9 (A0 C1 (A0 (qpv 3) A1)))))
          B7)))
      (A4 (A7 F6))))),?_⟩
  refine Pu.F0 h ?_;rintro as Qp ⟨xs,gs,ps,rfl,hl,h10,hg50,hx,hp,gk,k⟩;trivial;refine A1p (fun i e=>∃ o1 o2 o3:Option SV,e=[some (.d (.list (xs.map kD))),some (.d (.list (gs.map gD))),some (.d (.list (ps.map dcn))),o1,o2,o3]/\∀ j x p,j < i->xs[j]?=some x->ps[j]?=some p->offB x.2.1 x.2.2 p.2=true) ⟨_,_,_,rfl,fun j x p h=>absurd h (Nat.not_lt_zero _)⟩ ?_ ?_
  · rintro i x e hxi ⟨o1,o2,o3,rfl,ha⟩
    obtain ⟨y,hy,rfl⟩:=T7 hxi;rw [Zh] at hy;obtain ⟨q,hq,rfl⟩:=Zo hy;have hi:i < ps.length:=by rw [<- hl]; exact (Zs hq).1
    have hpi:ps[i]?=some ps[i]:=Zg hi;obtain ⟨hkq,hoq⟩:=hx q (Zm hq);have sp:=hp _ (Zm hpi);rw [show kD q=PyData.tuple [.str q.1,offD q.2.1 q.2.2] from rfl];trivial;refine J0 (n:=i) hpi ?_;trivial;refine ⟨_,_,_,rfl,hkq,hoq,sp,?_⟩;cases hb:offB q.2.1 q.2.2 ps[i].2 with
    | false =>
      trivial;rw [B5x hq hpi hb ha] at k;exact k
    | true =>
      trivial;refine ⟨_,_,_,rfl,fun j x p hj ex ep=>?_⟩;rcases Nat.lt_succ_iff_lt_or_eq.mp hj with z | z
      · exact ha j x p z ex ep
      · subst z; rw [hq] at ex; rw [hpi] at ep; cases ex; cases ep; exact hb
  · rintro e ⟨o1,o2,o3,rfl,ha⟩
    rw [O9,Zl] at ha;have hT:=A20 ha;rw [hT] at k;trivial;refine A1p (fun i e=>∃ o1 o2 o3:Option SV,e=[some (.d (.list (xs.map kD))),some (.d (.list (gs.map gD))),some (.d (.list (ps.map dcn))),o1,o2,o3]/\∀ j g,j < i->gs[j]?=some g->oneC xs ps g=true) ⟨_,_,_,rfl,fun j x h=>absurd h (Nat.not_lt_zero _)⟩ ?_ ?_
    · rintro i x e hxi ⟨o1,o2,o3,rfl,ha⟩
      obtain ⟨y,hy,rfl⟩:=T7 hxi;rw [Zh] at hy;obtain ⟨q,hq,rfl⟩:=Zo hy;have gr:=gk q (Zm hq);trivial;refine ⟨xs,q,ps,rfl,hl,fun x hx'=>(hx x hx').2.le,gr,B5y hl hT gr,?_⟩;cases hb:oneC xs ps q with
      | false =>
        trivial;unfold fiG at k;rw [B0q hq (by rw [hb]; rfl) (fun j y hj hy=>by rw [ha j y hj hy]; rfl)] at k;exact k
      | true =>
        trivial;refine ⟨_,_,_,rfl,fun j g hj eg=>?_⟩;rcases Nat.lt_succ_iff_lt_or_eq.mp hj with z | z
        · exact ha j g z eg
        · subst z; rw [hq] at eg; cases eg; exact hb
    · rintro e ⟨o1,o2,o3,rfl,ha⟩
      rw [O9,Zl] at ha;trivial;unfold fiG at k;rw [A6j (fun j y hj hy=>by rw [ha j y hj hy]; rfl)] at k;exact k
def U1:Pu.PSp:=fun as Q=>∃ (xs:List Wk) (ws:List (Int × Int × Rat)) (hs:List (Str × Int × Rat)) (gs:List (List Int)) (ps:List (Rat × Rat)) (v:Option Rat),as=[.d (netD xs ws hs (gs.map gD)),.d (.list (ps.map dcn)),.d (vD v)]/\BrG xs ws hs gs ps v/\Q (.d (brG xs ws hs gs ps v))
theorem D0 (T:Txt K mg D):FnOk P w K mg base CX0 5 D.a_firstbroken D.d_firstbroken ["net","plan","whole"] (Pu.spOf K [.dat,.dat,.dat] U1):=by
  refine T.B.F_firstbroken.ok sc_firstbroken (Zz rfl) (fun cdv A outer s H vs Q E hr h=>?_);refine ⟨_,(QSs.out (A3 (L1 (qpv 0) (C5 (K:=K) (n:=4) rfl rfl (A5 (qgn 3 sc_firstbroken) (A5 (qgn 4 sc_firstbroken) (A5 (qgn 5 sc_firstbroken) (A5 (qgn 6 sc_firstbroken) C2)))) rfl rfl))
      (A3 (qst 7 sc_firstbroken (qcK (S9 (K:=K) T) hr.mo (U4 T) (A0 (qpv 3) (A0 (qpv 6) (A0 (qpv 1) A1)))))
      (A3 (D2 (B2 G8 (qpv 7) F6 (B5 _))
        (A4 (qst 7 sc_firstbroken (qcK (J1 (K:=K) T) hr.mo (K1 T) (A0 C1 (A0 (D4 rfl (B3 ["start","time"] [none,none]) (C0 (K:=K) rfl (qpv 1)) (fun _ _ _=>(C5 (K:=K) (n:=2) rfl rfl (A5 (qgc 0 ["start","time"]) (A5 (qgc 1 ["start","time"]) C2)) rfl rfl)) (fun _ _ _=>C3) (fun _ _ _=>(qpv 0))) A1)))))
        B7)
      (A3 (D2 (B2 G8 (qpv 7) F6 (B5 _))
        (A4 (qst 7 sc_firstbroken (qcK (J1 (K:=K) T) hr.mo (K1 T) (A0 C1 (A0 (D4 rfl (B3 ["plan","wait"] [some 1,none]) (C0 (K:=K) rfl (qpv 4)) (fun _ _ _=>(qgc 1 ["plan","wait"])) (fun _ _ _=>C3) (fun _ _ _=>(qcK (A0e (K:=K) T) hr.mo (A1u T) (A0 (qpv 1) (A0 (qpv 0) A1))))) A1)))))
        B7)
      (A3 (D2 (B2 G8 (qpv 7) F6 (B5 _))
        (A4 (qst 7 sc_firstbroken (qcK (J1 (K:=K) T) hr.mo (K1 T) (A0 C1 (A0 (D4 rfl (B3 ["plan","hold"] [some 1,none]) (C0 (K:=K) rfl (qpv 5)) (fun _ _ _=>(qgc 1 ["plan","hold"])) (fun _ _ _=>C3) (fun _ _ _=>(qcK (A0g (K:=K) T) hr.mo (A1w T) (A0 (qpv 1) (A0 (qpv 0) A1))))) A1)))))
        B7)
      (A3 (D2 (QW.pt (N9 (B2 G8 (qpv 7) F6 (B5 _)) (L0 (B2 A2n (qpv 2) F6 (B5 _)))))
        (A4 (qst 7 sc_firstbroken (qcK (J1 (K:=K) T) hr.mo (K1 T) (A0 C1 (A0 (D4 rfl (B3 ["whole","step"] [some 2,none]) (C0 (K:=K) rfl (qpv 1)) (fun _ _ _=>(qgc 1 ["whole","step"])) (fun _ _ _=>C3) (fun _ _ _=>(qcK (N4 (K:=K) T) hr.mo (Q2 T) (A0 (qpv 0) (A0 (qcK (S1 (K:=K) T) hr.mo (X7 T) (A0 (qpv 1) A1)) A1))))) A1)))))
        B7)
      (A4 (A7 (qpv 7)))))))))),?_⟩
  refine Pu.F0 h ?_;rintro as Qp ⟨xs,ws,hs,gs,ps,v,rfl,ok,k⟩;have l0:=ok.ln;have l1:=ok.l10;unfold netD;trivial;refine ⟨xs,gs,ps,rfl,ok.ln,ok.l10,ok.gl,ok.hx,fun p hp=>(ok.hp p hp).t,ok.gk,?_⟩;unfold brG at k;cases hT:fiT xs ps with
  | some i =>
    rw [hT] at k;unfold fbD;trivial;exact k
  | none =>
  rw [hT] at k;cases hG:fiG xs ps gs with
  | some i =>
    rw [hG] at k;unfold fbD;trivial;exact k
  | none =>
  rw [hG] at k;unfold fbD;trivial;refine ⟨by omega,⟨fun i e ys=>∃ o1 o2:Option SV,e=[o1,o2]/\ys=((ps.take i).map fun p=>dq p.1),⟨_,_,rfl,rfl⟩,?_,?_⟩⟩
  · rintro i x e ys hx ⟨o1,o2,rfl,rfl⟩
    rw [Zh] at hx;obtain ⟨p,hp,rfl⟩:=Zo hx;trivial;refine ⟨_,_,rfl,?_⟩;rw [List.take_succ,hp,Zc]; rfl
  rintro e ys ⟨o1,o2,rfl,rfl⟩;rw [Zl,List.take_length];trivial;refine ⟨"start",ps.map (·.1),by rw [List.map_map]; rfl,by rw [Zl]; omega,fun q hq=>?_,?_⟩
  · obtain ⟨p,hp,rfl⟩:=List.mem_map.mp hq
    exact (ok.hp p hp).s
  cases q1:fb (ps.map (·.1)) with
  | some i =>
    rw [q1] at k;unfold fbD;trivial;exact k
  | none =>
  rw [q1] at k;unfold fbD;trivial;have wl:=ok.wl;refine ⟨by omega,⟨fun i e ys=>∃ o:Option SV,e=[some (.d (.list (ps.map dcn))),o]/\ys=((ws.take i).map fun w=>dq (wSl ps w)),⟨_,rfl,rfl⟩,?_,?_⟩⟩
  · rintro i x e ys hx ⟨o,rfl,rfl⟩
    rw [Zh] at hx;obtain ⟨w,hw,rfl⟩:=Zo hx;obtain ⟨w1,w2,w3,w4,w5⟩:=ok.hw w (Zm hw);trivial;refine ⟨w,ps,rfl,w1,w2,ok.hp _ (M5 w1.1 w1.2),ok.hp _ (M5 w2.1 w2.2),w3,w4,?_⟩;trivial;refine ⟨_,rfl,?_⟩;rw [List.take_succ,hw,Zc]; rfl
  rintro e ys ⟨o,rfl,rfl⟩;rw [Zl,List.take_length];trivial;refine ⟨"wait",ws.map (wSl ps),by rw [List.map_map]; rfl,by rw [Zl]; omega,fun q hq=>?_,?_⟩
  · obtain ⟨w,hw,rfl⟩:=List.mem_map.mp hq
    exact (ok.hw w hw).2.2.2.2
  cases q2:fb (ws.map (wSl ps)) with
  | some i =>
    rw [q2] at k;unfold fbD;trivial;exact k
  | none =>
  rw [q2] at k;unfold fbD;trivial;have hl:=ok.hl;refine ⟨by omega,⟨fun i e ys=>∃ o:Option SV,e=[some (.d (.list (ps.map dcn))),o]/\ys=((hs.take i).map fun h=>dq (hSl ps h)),⟨_,rfl,rfl⟩,?_,?_⟩⟩
  · rintro i x e ys hx ⟨o,rfl,rfl⟩
    rw [Zh] at hx;obtain ⟨h,hh,rfl⟩:=Zo hx;obtain ⟨w1,w2,w3,w4⟩:=ok.hh h (Zm hh);trivial;refine ⟨h,ps,rfl,w1,w2,ok.hp _ (M5 w2.1 w2.2),w3,?_⟩;trivial;refine ⟨_,rfl,?_⟩;rw [List.take_succ,hh,Zc]; rfl
  rintro e ys ⟨o,rfl,rfl⟩;rw [Zl,List.take_length];trivial;refine ⟨"hold",hs.map (hSl ps),by rw [List.map_map]; rfl,by rw [Zl]; omega,fun q hq=>?_,?_⟩
  · obtain ⟨h,hh,rfl⟩:=List.mem_map.mp hq
    exact (ok.hh h hh).2.2.2
  cases q3:fb (hs.map (hSl ps)) with
  | some i =>
    rw [q3] at k;unfold fbD;trivial;exact k
  | none =>
  rw [q3] at k;unfold fbD;cases v with
  | none =>
    unfold vD;trivial;exact k
  | some v =>
  obtain ⟨hv,he⟩:=ok.hv v rfl;dsimp only at k;unfold vD;trivial;refine ⟨by omega,⟨fun i e ys=>∃ o:Option SV,e=[some (.d (dq v)),o]/\ys=((ps.take i).map fun p=>dq (v - enD p)),⟨_,rfl,rfl⟩,?_,?_⟩⟩
  · rintro i x e ys hx ⟨o,rfl,rfl⟩
    rw [Zh] at hx;obtain ⟨p,hp,rfl⟩:=Zo hx;have pp:=ok.hp p (Zm hp);trivial;refine ⟨p,rfl,pp,?_⟩;trivial;refine ⟨v,enD p,rfl,hv,pp.e,?_⟩;trivial;refine ⟨_,rfl,?_⟩;rw [List.take_succ,hp,Zc]; rfl
  rintro e ys ⟨o,rfl,rfl⟩;rw [Zl,List.take_length];trivial;refine ⟨"whole",ps.map (fun p=>v - enD p),by rw [List.map_map]; rfl,by rw [Zl]; omega,fun q hq=>?_,?_⟩
  · obtain ⟨p,hp,rfl⟩:=List.mem_map.mp hq
    exact he p hp
  cases q4:fb (ps.map fun p=>v - enD p) with
  | some i =>
    rw [q4] at k;unfold fbD;trivial;exact k
  | none =>
    rw [q4] at k;unfold fbD;trivial;exact k
theorem A3w (T:Txt K mg D):FnOk P w K mg base CX0 1 D.a_Lbegun D.d_Lbegun ["_law_script","_law_k"] (A14 K):=by
  refine T.B.F_Lbegun.ok sc_Lbegun (fun vs H Q E h=>?_) (fun cdv A outer s H vs Q E hr h=>?_)
  · obtain ⟨a,ns,k,rfl,_⟩:=h; rfl
  · obtain ⟨a,ns,k,rfl,ha,k0,k1,kk⟩:=h
    refine ⟨_,(G6 (U8 (i:=2) sc_Lbegun.nd rfl (Or.inl rfl) E7)
      (G6 (B12 (A4x A8k (pv 1) (A2k call_len_seq (by rfl) T.z_len PySem.boot_len (O0 (pv 0) A0c)) (B5 _))
        (P6 (U8 (i:=2) sc_Lbegun.nd rfl (Or.inl rfl) (W6 ix_list (pv 0) (pv 1) (fun _ _=>rfl))))
        A1i)
      (P6 (A2g (B0b (O0 (pv 2) (O0 (J9 M1 (J9 E8 (J9 E8 (J9 M1 (pv 2) E7) (J9 D1 (J9 D1 E7 (pv 1)) (pv 1))) E7) E7) (O0 (W7 C20 (pv 2) (J9 A5i E7 E7) (B5 _)) A0c)))))))),?_⟩
    have fin:∀ c:Int,∃ v,([some (V.ref a),some (V.int k),some (V.int c)]:St)[2]?=some (some v) /\
        (K6 (tOp (rI (fun _ j=>0 < j) fun i j=>.int (i % j)) (tOp (rI0 fun i j=>.int (i + j)) (tOp (rI0 fun i j=>.int (i + j)) (tOp (rI (fun _ j=>0 < j) fun i j=>.int (i % j)) (tVar 2) (tC (.int 2147483587)))
          (tOp (rI B6h fun i j=>.int (i * j)) (tOp (rI B6h fun i j=>.int (i * j)) (tC (.int 104729)) (tVar 1)) (tVar 1))) (tC (.int 7))) (tC (.int 2147483587)))
          (K6 (tOp (rI0 fun i j=>.bl (decide (j<=i))) (tVar 2) (tOp (rI CPow fun i j=>.int (i ^ j.toNat)) (tC (.int 10)) (tC (.int 18)))) tNil)) [some (V.ref a),some (V.int k),some (V.int c)] H
          fun xs H1=>(v :: xs).length<=sizeLine/\∀ p,H1 p=none->Q (.ref p) (upd H1 p (.lst (v :: xs))):=by
      intro c;refine ⟨_,rfl,_,rfl,_,_,rfl,rfl,(by show (0:Int) < 2147483587; decide),_,rfl,_,_,rfl,rfl,⟨U7 0,A16 k0 k1⟩,_,rfl,_,_,rfl,rfl,⟨(Sm.mul (k:=20) (l:=20) (by unfold Sm; decide) (B6t k0 k1)).mono (by decide),A16 k0 k1⟩,
        _,_,rfl,rfl,_,_,rfl,rfl,_,_,rfl,rfl,(by show (0:Int) < 2147483587; decide),_,rfl,_,_,rfl,rfl,A6x 18,_,_,rfl,rfl,by show 3<=sizeLine; decide,fun p hp=>?_⟩
      have e1:=Int.emod_nonneg (c % 2147483587 + 104729 * k * k + 7) (show (2147483587:Int)≠0 by decide);have e2:=Int.emod_lt_of_pos (c % 2147483587 + 104729 * k * k + 7) (show (0:Int) < 2147483587 by decide);exact kk p _ hp ⟨_,_,_,C6,e1,by omega⟩ (Same.upd hp).kp
    refine ⟨_,rfl,_,rfl,a,_,rfl,.inl ha,_,_,rfl,rfl,_,rfl,?_⟩;refine ifD (fun hn=>?_) (fun hn=>?_)
    · have hk:(ns.map V.int)[k.toNat]?=some (V.int (ns.getD k.toNat 0)):=by
        have hlt:k.toNat < ns.length:=by rw [Zl] at hn; omega
        rw [Zh,Zg hlt,List.getD_eq_getElem?_getD,Zg hlt]; rfl
      have hk':atI (ns.map V.int) k=some (V.int (ns.getD k.toNat 0)):=by
        have:=F5 hk
        rwa [show ((k.toNat:Nat):Int)=k by omega] at this
      refine ⟨_,rfl,_,rfl,a,_,k,_,rfl,rfl,ha,hk',?_⟩;exact fin _
    · exact fin 0
theorem N1 (T:Txt K mg D):FnOk P w K mg base CX0 1 D.a_Lbegun D.d_Lbegun ["_law_script","_law_k"] (Pu.spOf K [.vw,.dat] Pu.A2h):=FnOk.imp (A3w T) Pu.A9x
theorem A5n (T:Txt K mg D):FnOk P w K mg base CX0 1 D.a_Ltake D.d_Ltake ["_law_state","_law_many"] A4j:=by
  refine T.B.F_Ltake.ok sc_Ltake (fun vs H Q E h=>?_) (fun cdv A outer s H vs Q E hr h=>?_)
  · obtain ⟨p,n,rfl,_⟩:=h; rfl
  · obtain ⟨p,n,rfl,S0,n0,sn,k⟩:=h
    refine ⟨_,(G6 (B12 (A99 (W6 ix_list (pv 0) E7 (fun _ _=>rfl)))
        (G6 (U8 (i:=2) sc_Ltake.nd rfl (Or.inl rfl) (J9 M1 (W6 ix_list (pv 0) E7 (fun _ _=>rfl)) (pv 1)))
        (G6 (A2i (J9 G0 (W6 ix_list (pv 0) E7 (fun _ _=>rfl)) (pv 1)) (A2j (pv 0) E7 N3))
        (G6 (A2i (W7 A3p (W6 ix_list (pv 0) E7 (fun _ _=>rfl)) E7 (B5 _)) (A2j (pv 0) E7 N3))
        (P6 (A2g (pv 2))))))
        A1i)
      (G6 (U8 (i:=3) sc_Ltake.nd rfl (Or.inl rfl) E7)
      (G6 (B0a Zf rfl (A0a rfl T.z_range (O0 (J9 E8 E7 (J9 D1 E7 (A0b A00 (by rfl) T.z_int (by rfl) (O0 (W7 A3p (pv 1) (J9 A5i E7 E7) (B5 _)) A0c)))) A0c)) (A5a (i:=4) sc_Ltake.nd rfl (Or.inl rfl) (Or.inl rfl))
        (G6 (A2i (J9 M1 (J9 E8 (J9 D1 (W6 ix_list (pv 0) E7 (fun _ _=>rfl)) E7) E7) E7) (A2j (pv 0) E7 N3))
        (P6 (U8 (i:=3) sc_Ltake.nd rfl (Or.inl rfl) (J9 E8 (J9 D1 (pv 3) E7) (J9 M1 (J9 D1 (W6 ix_list (pv 0) E7 (fun _ _=>rfl)) (W6 ix_list (pv 0) E7 (fun _ _=>rfl))) E7))))))
      (P6 (A2g (J9 M1 (J9 G0 (pv 3) E7) (pv 1))))))),?_⟩
    obtain ⟨c,m,f,hp,m0,m1⟩:=S0.ex;refine ⟨_,rfl,p,_,_,_,rfl,rfl,SqL.of hp,at2,f,rfl,?_⟩;have s8:Sm 8000 n:=sn.mono (by decide);cases f with
    | true =>
      refine iteT ?_;refine ⟨_,rfl,p,_,_,_,rfl,rfl,SqL.of hp,at0,_,rfl,_,_,rfl,rfl,n0,?_⟩;refine ⟨_,rfl,p,_,_,_,rfl,rfl,SqL.of hp,at0,_,rfl,_,_,rfl,rfl,⟨by omega,s8⟩,_,rfl,p,_,_,0,rfl,rfl,hp,rfl,?_⟩;refine ⟨_,rfl,p,_,_,_,rfl,rfl,SqL.of C6,at0,_,_,rfl,rfl,_,rfl,p,_,_,2,rfl,rfl,C6,rfl,?_⟩;refine ⟨_,rfl,?_⟩;exact k _ _ (Int.emod_nonneg c (by omega)) (Int.emod_lt_of_pos c n0) ⟨_,_,_,C6,m0,m1⟩ (Kp.upd.trans Kp.upd)
    | false =>
      refine iteF ?_;refine ⟨_,rfl,_,_,rfl,rfl,A6x 6,_,_,rfl,rfl,.inr ⟨_,rfl,_,_,rfl,rfl,⟨U7 0,B6u _⟩,_,_,rfl,rfl,_,rfl,?_,?_,A6i (lo:=0)
        (fun i σ H'=>∃ (m' md:Int) (x:Option V),σ=[some (V.ref p),some (V.int n),none,some (V.int md),x]/\H' p=some (.lst [.int c,.int m',.bl false])/\0<=m'/\m' < 2147483648/\Kp p H H'/\Sm (40 * i + 1) md)
        ⟨m,0,none,rfl,hp,m0,m1,Kp.refl,by unfold Sm; decide⟩ ?_ ?_⟩⟩
      · split <;> omega
      · split <;> omega
      · rintro i σ H' hi ⟨m',md,x,rfl,hp',h0,h1,kk,sd⟩
        have hi9:i < 9:=by
          refine Nat.lt_of_lt_of_le hi ?_;split <;> decide
        refine ⟨_,rfl,p,_,_,_,rfl,rfl,SqL.of hp',at1,_,_,rfl,rfl,⟨sm32 h0 h1,U7 0⟩,_,_,rfl,rfl,_,_,rfl,rfl,(by show (0:Int) < 2147483647; decide),_,rfl,p,_,_,1,rfl,rfl,hp',rfl,?_⟩;have e1:=Int.emod_nonneg (m' * 39373 + 17) (show (2147483647:Int)≠0 by decide);have e2:=Int.emod_lt_of_pos (m' * 39373 + 17) (show (0:Int) < 2147483647 by decide);have sm:=sm32 e1 (by omega);refine ⟨_,rfl,_,_,rfl,rfl,⟨sd.mono (by omega),U7 0⟩,_,rfl,p,_,_,_,rfl,rfl,SqL.of C6,at1,_,rfl,p,_,_,_,rfl,rfl,SqL.of C6,at1,_,_,rfl,rfl,⟨sm,sm⟩,_,_,rfl,rfl,(by show (0:Int) < 2147483587; decide),_,_,rfl,rfl,?_⟩;have g1:=Int.emod_nonneg ((m' * 39373 + 17) % 2147483647 * ((m' * 39373 + 17) % 2147483647)) (show (2147483587:Int)≠0 by decide);have g2:=Int.emod_lt_of_pos ((m' * 39373 + 17) % 2147483647 * ((m' * 39373 + 17) % 2147483647)) (show (0:Int) < 2147483587 by decide);refine ⟨_,_,_,rfl,C6,e1,by omega,kk.trans Kp.upd,?_⟩;refine Sm.mono (k:=40 * i + 1 + 32 + 1) (Sm.add (sd.mul (l:=32) (by unfold Sm; decide)) ?_) (by omega);exact Sm.mono (k:=32) (by unfold Sm; omega) (by omega)
      · rintro σ H' ⟨m',md,x,rfl,hp',h0,h1,kk,sd⟩
        refine ⟨_,rfl,_,_,rfl,rfl,⟨by decide,U7 0⟩,_,rfl,_,_,rfl,rfl,n0,?_⟩;exact k _ _ (Int.emod_nonneg _ (by omega)) (Int.emod_lt_of_pos _ n0) ⟨_,_,_,hp',h0,h1⟩ kk
theorem B8 (T:Txt K mg D):FnOk P w K mg base CX0 1 D.a_Ltake D.d_Ltake ["_law_state","_law_many"] (Pu.spOf K [.st,.dat] Pu.A4y):=FnOk.imp (A5n T) Pu.B08
theorem W9 (T:Txt K mg D):FnOk P w K mg base CX0 1 D.a_Llow D.d_Llow ["_law_top","_law_bottom"] (Pu.spOf K [.dat,.dat] B11):=by
  refine T.B.F_Llow.ok sc_Llow (Zz rfl) (fun cdv A outer s H vs Q E hr h=>?_);refine ⟨_,(QSs.out (A3 (qst 2 sc_Llow (qpv 0))
      (A3 (qst 3 sc_Llow (qpv 1))
      (A3 (O3 Zf (B2 (M9 (K:=K) rfl hr.units) (qpv 3) A2 (B5 _))
        (A4 (S4 (i:=2) (j:=3) rfl sc_Llow.nd rfl rfl (by decide) rfl rfl (A0 (qpv 3) (A0 (A8 M1 (qpv 2) (qpv 3)) A1)) rfl)))
      (A4 (A7 (A9 (A0 (A8 G0 (qpv 0) (qpv 2)) (A0 (A8 G0 (qpv 1) (qpv 2)) A1))))))))),?_⟩
  refine Pu.F0 h ?_;rintro as Qp ⟨t,b,rfl,hb,st,sb,k⟩;trivial;refine ⟨fun m e=>∃ x y:Int,e=[some (.d (.int t)),some (.d (.int b)),some (.d (.int x)),some (.d (.int y))]/\0<=y/\(y=0->0 < x)/\m=y.toNat/\Int.gcd x y=Int.gcd t b,⟨_,_,_,rfl,by omega,fun e=>by omega,rfl,rfl⟩,?_⟩;rintro m e ⟨x,y,rfl,hy,hx,rfl,hg⟩;trivial;refine ite2 (fun e=>?_) (fun hn=>?_)
  · subst e
    have hx0:=hx rfl;have e1:x=sh t b:=by
      have:=A2v x (by omega);rw [hg] at this;unfold sh; rw [if_neg (by omega)]; exact this.symm
    subst e1;have hb0:b≠0:=by omega
    refine ⟨⟨B6w hb0,B6s sb hb0⟩,⟨B6w hb0,B6s sb hb0⟩,?_⟩;rw [A51 hb0,B4m hb0]; exact k
  · have h1:=Int.emod_lt_of_pos x (show 0 < y by omega)
    have h2:=Int.emod_nonneg x hn;exact ⟨by omega,(x % y).toNat,by omega,y,x % y,rfl,h2,fun _=>by omega,rfl,by rw [A6h,hg]⟩
theorem F1 (T:Txt K mg D):FnOk P w K mg base CX0 2 D.a_Lplus D.d_Lplus ["_law_one","_law_other"] (Pu.spOf K [.dat,.dat] (U9 (·+·))):=by
  refine T.B.F_Lplus.ok sc_Lplus (Zz rfl) (fun cdv A outer s H vs Q E hr h=>?_);refine ⟨_,(QSs.out (A4 (A7 (qcK (W9 (K:=K) T) hr.mo (A27 T) (A0 (A8 E8 (A8 D1 (qix K (qpv 0) A2) (qix K (qpv 1) A2)) (A8 D1 (qix K (qpv 1) A2) (qix K (qpv 0) A2))) (A0 (A8 D1 (qix K (qpv 0) A2) (qix K (qpv 1) A2)) A1)))))),?_⟩;refine Pu.F0 h ?_;rintro as Qp ⟨p,q,rfl,sp,sq,k⟩;trivial;have p1:=sp.1.mono (l:=8000) (by decide);have p2:=sp.2.mono (l:=8000) (by decide);have q1:=sq.1.mono (l:=8000) (by decide);have q2:=sq.2.mono (l:=8000) (by decide);refine ⟨⟨p1,q2⟩,⟨q1,p2⟩,⟨p2,q2⟩,_,_,rfl,Int.mul_pos (denp p) (denp q),((sp.1.mul sq.2).add (sq.1.mul sp.2)).mono (by decide),(sp.2.mul sq.2).mono (by decide),?_⟩;rw [B67]; exact k
theorem N0 (T:Txt K mg D):FnOk P w K mg base CX0 2 D.a_Lminus D.d_Lminus ["_law_one","_law_other"] (Pu.spOf K [.dat,.dat] (U9 (·-·))):=by
  refine T.B.F_Lminus.ok sc_Lminus (Zz rfl) (fun cdv A outer s H vs Q E hr h=>?_);refine ⟨_,(QSs.out (A4 (A7 (qcK (W9 (K:=K) T) hr.mo (A27 T) (A0 (A8 A5h (A8 D1 (qix K (qpv 0) A2) (qix K (qpv 1) A2)) (A8 D1 (qix K (qpv 1) A2) (qix K (qpv 0) A2))) (A0 (A8 D1 (qix K (qpv 0) A2) (qix K (qpv 1) A2)) A1)))))),?_⟩;refine Pu.F0 h ?_;rintro as Qp ⟨p,q,rfl,sp,sq,k⟩;trivial;have p1:=sp.1.mono (l:=8000) (by decide);have p2:=sp.2.mono (l:=8000) (by decide);have q1:=sq.1.mono (l:=8000) (by decide);have q2:=sq.2.mono (l:=8000) (by decide);refine ⟨⟨p1,q2⟩,⟨q1,p2⟩,⟨p2,q2⟩,_,_,rfl,Int.mul_pos (denp p) (denp q),((sp.1.mul sq.2).sub (sq.1.mul sp.2)).mono (by decide),(sp.2.mul sq.2).mono (by decide),?_⟩;rw [B65]; exact k
theorem F8 (T:Txt K mg D):FnOk P w K mg base CX0 2 D.a_Ltimes D.d_Ltimes ["_law_one","_law_other"] (Pu.spOf K [.dat,.dat] (U9 (·*·))):=by
  refine T.B.F_Ltimes.ok sc_Ltimes (Zz rfl) (fun cdv A outer s H vs Q E hr h=>?_);refine ⟨_,(QSs.out (A4 (A7 (qcK (W9 (K:=K) T) hr.mo (A27 T) (A0 (A8 D1 (qix K (qpv 0) A2) (qix K (qpv 1) A2)) (A0 (A8 D1 (qix K (qpv 0) A2) (qix K (qpv 1) A2)) A1)))))),?_⟩;refine Pu.F0 h ?_;rintro as Qp ⟨p,q,rfl,sp,sq,k⟩;trivial;have p1:=sp.1.mono (l:=8000) (by decide);have p2:=sp.2.mono (l:=8000) (by decide);have q1:=sq.1.mono (l:=8000) (by decide);have q2:=sq.2.mono (l:=8000) (by decide);refine ⟨⟨p1,q1⟩,⟨p2,q2⟩,_,_,rfl,Int.mul_pos (denp p) (denp q),(sp.1.mul sq.1).mono (by decide),(sp.2.mul sq.2).mono (by decide),?_⟩;rw [B66]; exact k
theorem T1 (T:Txt K mg D):FnOk P w K mg base CX0 1 D.a_Lunder D.d_Lunder ["_law_one","_law_other"] (Pu.spOf K [.dat,.dat] A4z):=by
  refine T.B.F_Lunder.ok sc_Lunder (Zz rfl) (fun cdv A outer s H vs Q E hr h=>?_);refine ⟨_,(QSs.out (A4 (A7 (E6 A8k (A8 D1 (qix K (qpv 0) A2) (qix K (qpv 1) A2)) (A8 D1 (qix K (qpv 1) A2) (qix K (qpv 0) A2)) (B5 _))))),?_⟩;refine Pu.F0 h ?_;rintro as Qp ⟨p,q,rfl,sp,sq,k⟩;trivial;have p1:=sp.1.mono (l:=8000) (by decide);have p2:=sp.2.mono (l:=8000) (by decide);have q1:=sq.1.mono (l:=8000) (by decide);have q2:=sq.2.mono (l:=8000) (by decide);refine ⟨⟨p1,q2⟩,⟨q1,p2⟩,?_⟩;rw [A2t]; exact k
theorem F4 (T:Txt K mg D):FnOk P w K mg base CX0 2 D.a_Lamount D.d_Lamount ["_law_state","_law_plain","_law_least"] (Pu.spOf K [.st,.dat,.dat] A40):=by
  refine T.B.F_Lamount.ok sc_Lamount (Zz rfl) (fun cdv A outer s H vs Q E hr h=>?_);refine ⟨_,(QSs.out (A3 (qst 3 sc_Lamount (qcK (B8 (K:=K) T) hr.mo (C4 T) (A0 (qpv 0) (A0 A2 A1))))
      (A3 (D2 (G3 (qpv 1))
        (A4 (A7 (A9 (A0 (A8 E8 (qpv 2) (qcK (B8 (K:=K) T) hr.mo (C4 T) (A0 (qpv 0) (A0 (qix K (B4 (A0 A2 (A0 A2 (A0 A2 (A0 A2 (A0 A2 (A0 A2 A1))))))) (qpv 3)) A1)))) (A0 A2 A1)))))
        B7)
      (A3 (qst 4 sc_Lamount (A8 E8 A2 (qcK (B8 (K:=K) T) hr.mo (C4 T) (A0 (qpv 0) (A0 (qix K (B4 (A0 A2 (A0 A2 (A0 A2 (A0 A2 (A0 A2 (A0 A2 A1))))))) (qpv 3)) A1)))))
      (A4 (A7 (qcK (W9 (K:=K) T) hr.mo (A27 T) (A0 (A8 E8 (qpv 2) (qcK (B8 (K:=K) T) hr.mo (C4 T) (A0 (qpv 0) (A0 (qix K (B4 (A0 A2 (A0 A2 (A0 A2 (A0 A2 (A0 (A8 A5i A2 A2) (A0 A2 A1))))))) (qpv 3)) A1)))) (A0 (qpv 4) A1))))))))),?_⟩
  refine Pu.F0 h ?_;rintro as Qp ⟨pl,le,rfl,hle,k⟩;trivial;refine ⟨6,rfl,by decide,sm4 6,fun d d0 d6=>?_⟩;trivial;refine ite2 (fun hp=>?_) (fun hp=>?_)
  · obtain ⟨z,hz,e⟩:=A8y (xs:=[2,3,3,4,5,6]) d0 d6
    have hb:2<=z/\z<=6:=by simp at hz; omega
    refine B6 e ?_;trivial;refine ⟨z,rfl,by omega,A4k (by omega) (by omega),fun d2 g0 g1=>?_⟩;trivial;rw [B0r];have s3:Sm 3 (le + d2):=K7 (B:=7) (by omega) (by omega) (by decide);exact k _ (C08 (by omega)) (fun h1=>C07 (by omega)) ((V9 s3).mono (by decide) (by decide)) fun _=>⟨V9 s3,B1h (V9 s3)⟩
  · obtain ⟨x,hx,ex⟩:=A8y (xs:=[1,1,2,4,12,60]) d0 d6
    have hbx:1<=x/\x<=60:=by simp at hx; omega
    obtain ⟨z,hz,ez⟩:=A8y (xs:=[3,9,12,30,1000000000000,90]) d0 d6;have hbz:3<=z/\z<=1000000000000:=by simp at hz; omega
    refine B6 ex ?_;trivial;refine ⟨x,rfl,by omega,A4k (by omega) (by omega),fun d1 f0 f1=>?_⟩;trivial;refine ⟨A6x 12,B6 ez ?_⟩;trivial;refine ⟨z,rfl,by omega,A4k (by omega) (by omega),fun d2 g0 g1=>?_⟩;trivial;have st:Sm 41 (le + d2):=K7 (B:=1000000000000) (by omega) (by omega) (by decide);have sb:Sm 6 (1 + d1):=K7 (B:=60) (by omega) (by omega) (by decide);refine ⟨_,_,rfl,by omega,st.mono (by decide),sb.mono (by decide),?_⟩;exact k _ (A2e (by omega) (by omega)) (fun h1=>C1z (by omega) (by omega)) (SmR.low st sb (by omega)) fun h=>absurd h hp
def A44:Pu.PSp:=fun as Q=>∃ (kd:Str) (mo:Int) (pl:Bool),as=[.st,.d (.str kd),.d (.int mo),.d (.bool pl)]/\0 < mo/\mo<=5/\Kd kd/\∀ cs,OfG kd cs 100 54 244 130->OnC cs->cs.length<=mo.toNat->Q (.d (offD kd cs))
theorem A5o (T:Txt K mg D):FnOk P w K mg base CX0 3 D.a_Loffer D.d_Loffer ["_law_state","_law_kind","_law_most","_law_plain"] (Pu.spOf K [.st,.dat,.dat,.dat] A44):=by
  refine T.B.F_Loffer.ok sc_Loffer (Zz rfl) (fun cdv A outer s H vs Q E hr h=>?_);refine ⟨_,(QSs.out (A3 (qst 4 sc_Loffer (A8 E8 A2 (qcK (B8 (K:=K) T) hr.mo (C4 T) (A0 (qpv 0) (A0 (qpv 2) A1)))))
      (A3 (qst 5 sc_Loffer (qcK (F4 (K:=K) T) hr.mo (F9 T) (A0 (qpv 0) (A0 (qpv 3) (A0 A2 A1)))))
      (A3 (qst 6 sc_Loffer (qcK (F4 (K:=K) T) hr.mo (F9 T) (A0 (qpv 0) (A0 (qpv 3) (A0 A2 A1)))))
      (A3 (E5 (i:=7) rfl sc_Loffer.nd rfl rfl (B3 ["_law_state","_law_plain","_law_k"] [some 0,some 3,none]) (D8 rfl T.z_range (A0 (A8 A5h (qpv 4) A2) A1)) (fun _ _ _=>(qgc 2 ["_law_state","_law_plain","_law_k"])) (fun _ _ _=>C3) (fun _ _ _=>(qcK (F4 (K:=K) T) hr.mo (F9 T) (A0 (qpv 0) (A0 (qpv 1) (A0 A2 A1))))) rfl)
      (A3 (C9 Zf rfl (C0 (K:=K) rfl (qpv 7)) (qgn 8 sc_Loffer)
        (A4 (qst 5 sc_Loffer (qcK (F1 (K:=K) T) hr.mo (F7 T) (A0 (qpv 5) (A0 (qpv 8) A1))))))
      (A3 (qst 9 sc_Loffer (B4 (A0 (A9 (A0 (qpv 5) (A0 (qpv 6) A1))) A1)))
      (A3 (qst 10 sc_Loffer (A9 (A0 A2 (A0 A2 A1))))
      (A3 (C9 Zf rfl (C0 (K:=K) rfl (qpv 7)) (qgn 8 sc_Loffer)
        (A3 (qst 11 sc_Loffer (qcK (F4 (K:=K) T) hr.mo (F9 T) (A0 (qpv 0) (A0 (qpv 3) (A0 A2 A1)))))
        (A3 (qst 5 sc_Loffer (qcK (N0 (K:=K) T) hr.mo (P1 T) (A0 (qpv 5) (A0 (qpv 8) A1))))
        (A3 (qst 10 sc_Loffer (qcK (F1 (K:=K) T) hr.mo (F7 T) (A0 (qpv 10) (A0 (qpv 11) A1))))
        (A3 (D2 (B2 (D5 (K:=K) rfl hr.units) (qpv 1) C1 (B5 _))
          (A4 (qst 11 sc_Loffer (qcK (F8 (K:=K) T) hr.mo (G7 T) (A0 (qpv 10) (A0 (qpv 8) A1)))))
          B7)
        (A3 (qst 6 sc_Loffer (qcK (F1 (K:=K) T) hr.mo (F7 T) (A0 (qpv 6) (A0 (qpv 11) A1))))
        (A4 (D3 (E9 (K:=K) rfl Z1 Z2 Z3 C8 (qpv 9) (A0 (A9 (A0 (qpv 5) (A0 (qpv 6) A1))) A1))))))))))
      (A4 (A7 (A9 (A0 (qpv 1) (A0 (qpv 9) A1)))))))))))))),?_⟩
  refine Pu.F0 h ?_;rintro as Qp ⟨kd,mo,pl,rfl,m0,m5,hk,k⟩;trivial;refine ⟨mo,rfl,m0,K7 (B:=5) (by omega) (by omega) (by decide),fun d d0 d1=>?_⟩;trivial;refine ⟨_,_,rfl,.inl rfl,fun q1 q10 _ s1 _=>?_⟩;trivial;refine ⟨_,_,rfl,.inl rfl,fun q2 q20 _ s2 _=>?_⟩;trivial;refine ⟨by omega,by rw [K0]; omega,?_⟩;refine X3 (fun i e ys=>∃ (qs:List Rat) (o:Option SV),e=[some .st,some (.d (.bool pl)),o]/\ys=qs.map dq/\qs.length=i/\∀ q ∈ qs,0 < q/\SmR 41 6 q) ⟨[],_,rfl,rfl,rfl,fun _ z=>nomatch z⟩ ?_ ?_
  · rintro i e ys hi ⟨qs,o,rfl,rfl,hl,hq⟩
    trivial;refine ⟨_,_,rfl,.inr rfl,fun q _ qp sq _=>?_⟩;trivial;refine ⟨qs++[q],_,rfl,by rw [Zc]; rfl,by simp [hl],fun c z=>(Za z).elim (hq c) fun z=>?_⟩;simp at z; subst z; exact ⟨qp rfl,sq⟩
  · rintro e ys ⟨qs,o,rfl,rfl,hl,hq⟩
    have hm:qs.length<=4:=by omega
    trivial;refine G4 (fun i e=>∃ (o8:Option SV) (T':Rat),e=[some .st,some (.d (.str kd)),some (.d (.int mo)),some (.d (.bool pl)),some (.d (.int (1 + d))),some (.d (dq T')),some (.d (dq q2)),some (.d (.list (qs.map dq))),o8,none,none,none]/\SmR (41 + 7 * i) (6 + 6 * i) T'/\T'=q1 + sumR (qs.take i)/\On LL ((1 + i) * 2 ^ 41) T') ⟨_,_,rfl,s1,by show q1=q1 + 0; grind,(G9 s1).mono (Nat.le_of_ble_eq_true rfl)⟩ ?_ ?_
    · rintro i q e hqi ⟨o8,T',rfl,sT,eT,oT⟩
      have hil:i < qs.length:=(Zs hqi).1;have sg:=(hq q (Zm hqi)).2;trivial;refine ⟨_,_,rfl,sT.q (by omega) (by omega),sg.q (by decide) (by decide),?_⟩;trivial;exact ⟨_,_,rfl,(sT.add sg).mono (by omega) (by omega),by rw [List.take_add_one,hqi,Option.toList_some,Y3,eT]; grind,(oT.add I0 (G9 sg)).mono (by rw [show 1 + (i + 1)=(1 + i) + 1 by omega,Nat.add_mul (1 + i) 1,Nat.one_mul]; exact Zv _)⟩
    · rintro e ⟨o8,T0,rfl,sT0,eT0,oT0⟩
      try rw [Zl] at oT0
      try rw [Zl] at eT0
      rw [List.take_length] at eT0;have hq0:∀ q ∈ qs,0 < q:=fun q hq'=>(hq q hq').1;have sT0:SmR 69 30 T0:=sT0.mono (by omega) (by omega);trivial;refine G4 (fun i e=>∃ (o8 o11:Option SV) (T' P' R':Rat) (cs:List (Rat × Rat)),e=[some .st,some (.d (.str kd)),some (.d (.int mo)),some (.d (.bool pl)),some (.d (.int (1 + d))),some (.d (dq T')),some (.d (dq P')),some (.d (.list (qs.map dq))),o8,some (.own ((cs++[(T',P')]).map dcn)),some (.d (dq R')),o11] /\
        SmR (69 + 7 * i) (30 + 6 * i) T'/\SmR (116 + 32 * i) (6 + 31 * i) P'/\SmR (41 + 7 * i) (1 + 6 * i) R'/\(On LL ((6 + i) * 2 ^ 41) T'/\On (LL * LL) ((1 + i) * 2 ^ 85) P'/\On LL (i * 2 ^ 41) R'/\OnC cs)/\(T'=q1 + sumR (qs.drop i)/\0<=P'/\0<=R'/\RiseO (cs++[(T',P')])/\∀ c ∈ cs,0<=c.1/\0<=c.2)/\(kd="straight"->CvR (cs++[(T',P')]) R')/\Dec (cs++[(T',P')])/\cs.length=i/\∀ c ∈ cs,SmR 100 54 c.1/\SmR 244 130 c.2)
        ⟨_,_,T0,q2,0,[],rfl,sT0,s2.mono (by decide) (by decide),sm_zero.mono (by decide) (by decide),⟨oT0.mono (Zu _ (by omega)),((G9 s2).up I0).mono (Nat.le_of_ble_eq_true rfl),On.zero.mono (Nat.zero_le _),fun _ z=>nomatch z⟩,⟨eT0,q20,Rat.le_refl,RiseO.one _,fun _ z=>nomatch z⟩,fun _=>CvR.one _,True.intro,rfl,fun _ z=>nomatch z⟩ ?_ ?_
      · rintro i q e hqi ⟨o8,o11,T',P',R',cs,rfl,sT,sP,sR,⟨oT,oP,oR,oC⟩,⟨eT,P0,R0,up,nn⟩,cv,dec,hcl,hcs⟩
        have hil:i < qs.length:=(Zs hqi).1;obtain ⟨qp,sg⟩:=hq q (Zm hqi);have ed:qs.drop i=q :: qs.drop (i + 1):=by rw [List.drop_eq_getElem_cons hil]; congr 1; exact (Zs hqi).2
        have eT2:T' - q=q1 + sumR (qs.drop (i + 1)):=by
          rw [ed] at eT;have:sumR (q :: qs.drop (i + 1))=q + sumR (qs.drop (i + 1)):=rfl;rw [this] at eT; grind
        have nT2:=V8 (qs:=qs.drop (i + 1)) fun x hx=>hq0 x (List.mem_of_mem_drop hx);have nT:=V8 (qs:=qs.drop i) fun x hx=>hq0 x (List.mem_of_mem_drop hx);trivial;refine ⟨_,_,rfl,.inr rfl,fun v1 _ vp sv1 _=>?_⟩;have v0:=vp rfl;have nn':∀ c ∈ cs++[(T',P')],0<=c.1/\0<=c.2:=fun c hc=>by
          rcases Za hc with z | z
          · exact nn c z
          · cases Zn z
            exact ⟨by show 0<=T'; rw [eT]; grind,P0⟩
        trivial;refine ⟨_,_,rfl,sT.q (by omega) (by omega),sg.q (by decide) (by decide),?_⟩;trivial;refine ⟨_,_,rfl,sR.q (by omega) (by omega),sv1.q (by decide) (by decide),?_⟩;trivial;have hi4:i < 4:=by omega
        have oT2:On LL ((6 + (i + 1)) * 2 ^ 41) (T' - q):=(oT.sub I0 (G9 sg)).mono (by rw [show 6 + (i + 1)=(6 + i) + 1 by omega,Nat.add_mul (6 + i) 1,Nat.one_mul]; exact Zv _);have oR2:On LL ((i + 1) * 2 ^ 41) (R' + v1):=(oR.add I0 (G9 sv1)).mono (by rw [Nat.add_mul,Nat.one_mul]; exact Zv _);have oC2:OnC (cs++[(T',P')]):=fun c hc=>by
          rcases Za hc with z | z
          · exact oC c z
          · cases Zn z
            exact ⟨oT.mono (Zx (Zu _ (show 6 + i<=16 by omega)) (Nat.le_of_ble_eq_true rfl)),oP.mono (Zx (Zu _ (show 1 + i<=16 by omega)) (Nat.le_of_ble_eq_true rfl))⟩
        have sT2:SmR (69 + 7 * (i + 1)) (30 + 6 * (i + 1)) (T' - q):=(sT.sub sg).mono (by omega) (by omega);have sR2:SmR (41 + 7 * (i + 1)) (1 + 6 * (i + 1)) (R' + v1):=(sR.add sv1).mono (by omega) (by omega);refine ⟨hk.lay,A54,?_⟩;refine ite2 (fun h2=>?_) (fun h2=>?_);case' refine_1 =>
          refine ⟨_,_,rfl,sR2.q (by omega) (by omega),sg.q (by decide) (by decide),?_⟩;trivial;have sv2:SmR 110 31 ((R' + v1) * q):=(sR2.mul sg).mono (by omega) (by omega);obtain ⟨v2,ev2⟩:∃ v2,v2=(R' + v1) * q:=⟨_,rfl⟩;rw [<- ev2] at sv2 ⊢;have hv:kd="straight"->v2=(R' + v1) * q:=fun _=>ev2;have ov:On (LL * LL) (2 ^ 85) v2:=by rw [ev2]; exact (oR2.mul (G9 sg)).mono (Zx (Zu _ (Zu _ (show i + 1<=8 by omega))) (Nat.le_of_ble_eq_true rfl))
          have w0:0 < v2:=by rw [ev2]; exact Rat.mul_pos (by grind) qp
        case' refine_2 =>
          have sv2:SmR 110 31 v1:=sv1.mono (by decide) (by decide);have hv:kd="straight"->v1=(R' + v1) * q:=fun z=>absurd (by rw [z]; exact C1e) h2;have ov:On (LL * LL) (2 ^ 85) v1:=((G9 sv1).up I0).mono (Nat.le_of_ble_eq_true rfl);have w0:0 < v1:=v0
        all_goals
          refine ⟨_,_,rfl,sP.q (by omega) (by omega),sv2.q (by decide) (by decide),?_⟩;trivial;refine ⟨by simp; omega,_,_,_,_,_,cs++[(T',P')],by simp only [List.map_append]; rfl,sT2,(sP.add sv2).mono (by omega) (by omega),sR2,⟨oT2,(oP.add (Nat.mul_pos I0 I0) ov).mono (by rw [show 1 + (i + 1)=(1 + i) + 1 by omega,Nat.add_mul (1 + i) 1,Nat.one_mul]; exact Zv _),oR2,oC2⟩,⟨eT2,by grind,by grind,RiseO.snoc up (by show T' - q < T'; grind) (by show P' < P' + _; grind),nn'⟩,fun z=>(cv z).step qp (vp rfl) (hv z),Dec.snoc dec (by show T' - q < T'; grind),by simp [hcl],fun c hc=>?_⟩;rcases Za hc with z | z
          · exact hcs c z
          · cases Zn z
            exact ⟨sT.mono (by omega) (by omega),sP.mono (by omega) (by omega)⟩
      · rintro e ⟨o8,o11,T',P',R',cs,rfl,sT,sP,sR,⟨oT,oP,oR,oC⟩,⟨eT,P0,R0,up,nn⟩,cv,dec,hcl,hcs⟩
        trivial;have nT:=V8 (qs:=qs.drop (qs.map dq).length) fun x hx=>hq0 x (List.mem_of_mem_drop hx);have hl4:(qs.map dq).length<=4:=by rw [Zl]; exact hm
        refine k _ ⟨⟨by simp,by simp; omega,dec,fun c hc=>?_⟩,fun c hc=>?_,up,fun z=>(cv z).1⟩ (fun c hc=>?_) (by simp; omega)
        · rcases Za hc with z | z
          · exact hcs c z
          · simp at z; subst z; exact ⟨sT.mono (by omega) (by omega),sP.mono (by omega) (by omega)⟩
        · rcases Za hc with z | z
          · exact nn c z
          · simp at z; subst z; exact ⟨by show 0<=T'; rw [eT]; grind,P0⟩
        · rcases Za hc with z | z
          · exact oC c z
          · cases Zn z
            exact ⟨oT.mono (Zx (Zu _ (show 6 + _<=16 by omega)) (Nat.le_of_ble_eq_true rfl)),oP.mono (Zx (Zu _ (show 1 + _<=16 by omega)) (Nat.le_of_ble_eq_true rfl))⟩
def A45:Pu.PSp:=fun as Q=>∃ n:Int,as=[.st,.d (.int n)]/\1<=n/\n<=10/\∀ zs:List Str,zs.length=n.toNat->(∀ z ∈ zs,(PyData.str z).canLay0=true)->Q (.d (.list (zs.map .str)))
theorem A5q (T:Txt K mg D):FnOk P w K mg base CX0 2 D.a_Lnames D.d_Lnames ["_law_state","_law_many"] (Pu.spOf K [.st,.dat] A45):=by
  refine T.B.F_Lnames.ok sc_Lnames (Zz rfl) (fun cdv A outer s H vs Q E hr h=>?_);refine' Exists.intro _ (And.intro (QSs.out ?h) ?g)
  case h =>
    exact (A3 (qst 2 sc_Lnames (qcK (B8 (K:=K) T) hr.mo (C4 T) (A0 (qpv 0) (A0 A2 A1))))
      (A3 (K3 (i:=3) sc_Lnames.nd rfl (Or.inr rfl) (qcK (B8 (K:=K) T) hr.mo (C4 T) (A0 (qpv 0) (A0 A2 A1))))
      (A3 (E5 (i:=4) rfl sc_Lnames.nd rfl rfl (B3 ["_law_state","_law_k"] [some 0,none]) (D8 rfl T.z_range (A0 (A8 E8 A2 (qcK (B8 (K:=K) T) hr.mo (C4 T) (A0 (qpv 0) (A0 A2 A1)))) A1)) (fun _ _ _=>(qgc 1 ["_law_state","_law_k"])) (fun _ _ _=>C3) (fun _ _ _=>(qcK (B8 (K:=K) T) hr.mo (C4 T) (A0 (qpv 0) (A0 A2 A1)))) rfl)
      (A3 (qst 5 sc_Lnames (qcK (B8 (K:=K) T) hr.mo (C4 T) (A0 (qpv 0) (A0 (qln K T.z_len (qpv 4)) A1))))
      (A3 (K3 (i:=6) sc_Lnames.nd rfl (Or.inr rfl) (B4 (A0 C1 (A0 C1 (A0 C1 (A0 C1 (A0 C1 (A0 C1 (A0 C1 (A0 C1 (A0 C1 (A0 C1 A1))))))))))))
      (A3 (qst 7 sc_Lnames (B4 A1))
      (A3 (C9 Zf rfl (D8 rfl T.z_range (A0 (qpv 1) A1)) (qgn 8 sc_Lnames)
        (A3 (qst 9 sc_Lnames (F3 (J8 (K:=K) rfl) (by rfl) T.z_list (by rfl) (A0 (qpv 4) A1)))
        (A3 (L1 (A8 M1 (A8 E8 (qpv 3) (A8 D1 A2 (qpv 8))) A2) (A1h (qpv 9) (qpv 5) N3))
        (A3 (D2 (B2 (D5 (K:=K) rfl hr.units) (qpv 2) A2 (B5 _))
          (A4 (qst 9 sc_Lnames (A8 (L6 (K:=K) rfl) (B4 (A0 (A8 M1 (A8 E8 (qpv 3) (A8 D1 A2 (qpv 8))) A2) A1)) (J4 (K9 (K:=K) rfl) (qpv 9) L4 (L3 (A8 M1 (qpv 8) (qln K T.z_len (qpv 4))))))))
          B7)
        (A4 (D3 (E9 (K:=K) rfl Z1 Z2 Z3 C8 (qpv 7) (A0 (E9 (K:=K) rfl PySem.F.plainAttrs_str PySem.F.slot_str_join PySem.F.type_str_join (A8w (K:=K) rfl) C1 (A0 (D4 rfl (B3 ["_law_letter"] [none]) (C0 (K:=K) rfl (qpv 9)) (fun _ _ _=>(qgc 0 ["_law_letter"])) (fun _ _ _=>C3) (fun _ _ _=>(qix K C1 (qpv 0)))) A1)) A1))))))))
      (A4 (A7 (qix K (B4 (A0 (qpv 7) (A0 (D4 rfl (B3 ["_law_words","_law_turn","_law_k"] [some 6,some 3,none]) (D8 rfl T.z_range (A0 (qpv 1) A1)) (fun _ _ _=>(qgc 2 ["_law_words","_law_turn","_law_k"])) (fun _ _ _=>C3) (fun _ _ _=>(qix K (qpv 0) (A8 M1 (A8 E8 (qpv 1) (qpv 2)) A2)))) A1))) (F3 A0z (by rfl) T.z_int (by rfl) (A0 (E6 (D5 (K:=K) rfl hr.units) (qpv 2) A2 (B5 _)) A1))))))))))))
  case g =>
    haveI:=T.c2_NOUGHT
    refine Pu.F0 h ?_;rintro as Qp ⟨n,rfl,n0,n1,k⟩;trivial;refine ⟨4,rfl,by decide,sm4 4,fun way w0 w4=>?_⟩;trivial;refine ⟨26,rfl,by decide,sm4 26,fun turn t0 t1=>?_⟩;trivial;refine ⟨8,rfl,by decide,sm4 8,fun d d0 d1=>?_⟩;trivial;refine ⟨⟨by omega,by omega⟩,by rw [K0]; omega,?_⟩;refine X3 (fun i e ys=>∃ (o:Option SV) (bs:List Int),e=[some SV.st,o]/\bs.length=i/\(∀ b ∈ bs,0<=b/\b < 26)/\ys=bs.map .int) ⟨_,[],rfl,rfl,(fun _ h=>by cases h),rfl⟩ ?_ ?_
    · rintro i e ys hi ⟨o,bs,rfl,rfl,hb,rfl⟩
      trivial;refine ⟨26,rfl,by decide,sm4 26,fun x x0 x1=>?_⟩;trivial;exact ⟨_,bs++[x],rfl,by rw [Ze,List.length_singleton],fun b hb'=>by
        rcases Za hb' with z | z
        · exact hb b z
        · rw [Zn z]; exact ⟨x0,x1⟩,by rw [Zc]; rfl⟩
    · rintro e ys ⟨o,bs,rfl,hl,hb,hy⟩
      have hyl:ys.length=bs.length:=by rw [hy,Zl]
      have hp0:(0:Int) < (ys.length:Int):=by omega
      refine Exists.intro (ys.length:Int) (And.intro rfl (And.intro hp0 (And.intro (K7 (B:=40) (by omega) (by omega) (by decide)) fun a a0 a1=>?_)));refine And.intro (Nat.le_of_ble_eq_true rfl) ?_;refine And.intro (Nat.le_of_ble_eq_true rfl) ?_;refine And.intro ⟨by omega,by omega⟩ (K5 (fun i e=>∃ (zs:List Str) (o1 o2:Option SV),e=[some .st,some (.d (.int n)),some (.d (.int way)),some (.d (.int turn)),some (.own ys),some (.d (.int a)),some (.own A1z),some (.own (zs.map .str)),o1,o2]/\zs.length=i/\∀ z ∈ zs,(PyData.str z).canLay0=true) ⟨[],_,_,rfl,rfl,fun _ z=>nomatch z⟩ ?_ ?_)
      · rintro i e hi ⟨zs,o1,o2,rfl,hz,hzl⟩
        have hin:i < n.toNat:=hi;have hLt:∀ x ∈ ys,Lt26 x:=fun x hx=>by
          rw [hy] at hx;obtain ⟨b,hb',rfl⟩:=List.mem_map.mp hx;exact ⟨b,rfl,hb b hb'⟩
        trivial;obtain ⟨aj,rfl⟩:=Zi a0;have haj:aj < ys.length:=by omega
        refine ⟨⟨K7 (B:=8) (by omega) (by omega) (by decide),K7 (B:=10) (by omega) (by omega) (by decide)⟩,by decide,aj,by unfold ixN; simp; omega,?_⟩;have h2:=A8z (j:=aj) (m:=turn + 7 * (i:Int)) hLt;have h3:(ys.set aj (.int ((turn + 7 * (i:Int)) % 26))).length<=8:=by rw [List.length_set]; omega
        refine ite2 (fun hw=>?_) (fun hw=>?_);case' refine_1 =>
          have h4:(cutD (ys.set aj (.int ((turn + 7 * (i:Int)) % 26))) none (some ((i:Int) % (ys.length:Int)))).length<=8:=Zx (by unfold cutD; rw [List.length_take,List.length_drop]; omega) h3;refine ⟨⟨K7 (B:=8) (by omega) (by omega) (by decide),K7 (B:=10) (by omega) (by omega) (by decide)⟩,by decide,hp0,by omega,by omega,?_⟩;have hls:∀ x ∈ PyData.int ((turn + 7 * (i:Int)) % 26) :: cutD (ys.set aj (.int ((turn + 7 * (i:Int)) % 26))) none (some ((i:Int) % (ys.length:Int))),Lt26 x:=fun x hx=>by
            rcases List.mem_cons.mp hx with z | z
            · rw [z]; exact A2s _
            · exact h2 x (A9r z)
          have hll:(PyData.int ((turn + 7 * (i:Int)) % 26) :: cutD (ys.set aj (.int ((turn + 7 * (i:Int)) % 26))) none (some ((i:Int) % (ys.length:Int)))).length<=9:=by rw [List.length_cons]; omega
          revert hls hll;generalize (PyData.int ((turn + 7 * (i:Int)) % 26) :: cutD (ys.set aj (.int ((turn + 7 * (i:Int)) % 26))) none (some ((i:Int) % (ys.length:Int))))=ls;intro hls hll
        case' refine_2 =>
          refine ⟨by omega,?_⟩;have hls:=h2;have hll:(ys.set aj (.int ((turn + 7 * (i:Int)) % 26))).length<=9:=by omega
          revert hls hll;generalize ys.set aj (.int ((turn + 7 * (i:Int)) % 26))=ls;intro hls hll
        all_goals
          refine ⟨fun i e cs=>∃ (o:Option SV) (zs:List Nat),e=[o]/\cs=zs.map sgn/\zs.length=i/\∀ c ∈ zs,c < 128,⟨_,[],rfl,rfl,rfl,fun _ z=>nomatch z⟩,?_,?_⟩
          · rintro i2 x e cs hx ⟨o,gs,rfl,rfl,hg1,hg2⟩
            obtain ⟨b,rfl,b0,b1⟩:=hls x (Zm hx);trivial;refine ⟨(show ltr.length<=1000 by rw [A1j]; decide),?_⟩;refine getS (z:=ltr) (by rw [A1j]; decide) B4l b0 (by rw [A1j]; exact b1) (fun c h=>?_);trivial;exact ⟨_,gs++[c],rfl,by rw [Zc]; rfl,by rw [Ze,List.length_singleton]; omega,fun z hz=>by rcases Za hz with h2 | h2; exact hg2 z h2; rw [Zn h2]; exact h⟩
          · rintro e cs ⟨o,gs,rfl,rfl,hg1,hg2⟩
            trivial;refine ⟨_,A4n gs,by rw [A96]; omega,by omega,zs++[(Str.ofString "").join (gs.map fun c=>⟨#[c]⟩)],_,_,by rw [Zc]; rfl,by rw [Ze,List.length_singleton]; omega,fun z hz'=>by rcases Za hz' with q | q; exact hzl z q; rw [Zn q]; exact A9c hg2⟩
      · rintro e ⟨zs,o1,o2,rfl,hz,hzl⟩
        trivial;refine ⟨⟨by omega,by omega⟩,by rw [K0]; omega,?_⟩;refine X3 (fun i e cs=>∃ (o:Option SV) (ws:List Str),e=[some (.bor A1z),some (.d (.int turn)),o]/\ws.length=i/\(∀ z ∈ ws,(PyData.str z).canLay0=true)/\cs=ws.map .str) ⟨_,[],rfl,rfl,(fun _ z=>nomatch z),rfl⟩ ?_ ?_
        · rintro i e cs hi ⟨o,ws,rfl,hw1,hwl,rfl⟩
          trivial;obtain ⟨z,ez,hzw⟩:=B0y (m:=(turn + (i:Int)) % 10) (Int.emod_nonneg _ (by decide)) (Int.emod_lt_of_pos _ (by decide));refine ⟨by decide,B6 ez ?_⟩;trivial;exact ⟨_,ws++[z],rfl,by rw [Ze,List.length_singleton]; omega,(fun y hy=>by rcases Za hy with q | q; exact hwl y q; rw [Zn q]; exact hzw),by rw [Zc]; rfl⟩
        · rintro e cs ⟨o,ws,rfl,hw1,hwl,rfl⟩
          trivial;by_cases hw:way=0
          · rw [if_pos hw]
            exact B6 rfl (k ws hw1 hwl)
          · rw [if_neg hw]
            exact B6 rfl (k zs hz hzl)
def A43:Pu.PSp:=fun as Q=>∃ n:Int,as=[.st,.d (.int n)]/\0<=n/\n<=40/\∀ os:List Int,os.length=n.toNat->(∀ o ∈ os,0<=o/\o < n)->Q (.own (os.map .int))
theorem A0h (T:Txt K mg D):FnOk P w K mg base CX0 2 D.a_Lorder D.d_Lorder ["_law_state","_law_many"] (Pu.spOf K [.st,.dat] A43):=by
  refine T.B.F_Lorder.ok sc_Lorder (Zz rfl) (fun cdv A outer s H vs Q E hr h=>?_);refine ⟨_,(QSs.out (A3 (qst 2 sc_Lorder (F3 (A1s rfl) (by rfl) T.z_list (by rfl) (A0 (A7z (by rfl) T.z_range (A0 (qpv 1) A1)) A1)))
      (A3 (qst 3 sc_Lorder (B4 A1))
      (A3 (O3 Zf (B2 (M9 (K:=K) rfl hr.units) (qpv 2) (B4 A1) (B5 _))
        (A4 (D3 (E9 (K:=K) rfl Z1 Z2 Z3 C8 (qpv 3) (A0 (E9 (K:=K) rfl Z1 PySem.F.slot_list_pop PySem.F.type_list_pop A8v (qpv 2) (A0 (qcK (B8 (K:=K) T) hr.mo (C4 T) (A0 (qpv 0) (A0 (qln K T.z_len (qpv 2)) A1))) A1)) A1)))))
      (A4 (A7 (qpv 3))))))),?_⟩
  refine Pu.F0 h ?_;rintro as Qp ⟨n,rfl,n0,n1,k⟩;trivial;refine ⟨n,rfl,n0,by omega,?_⟩;trivial;have e0:rngD 0 n.toNat=((List.range n.toNat).map (fun i:Nat=>(i:Int))).map PyData.int:=by
    unfold rngD; rw [List.map_map]; exact List.map_congr_left fun i _=>by show PyData.int (0 + (i:Int))=PyData.int (i:Int); rw [Int.zero_add]
  rw [e0];refine ⟨fun m e=>∃ ls os:List Int,e=[some .st,some (.d (.int n)),some (.own (ls.map .int)),some (.own (os.map .int))]/\m=ls.length/\ls.length + os.length=n.toNat/\(∀ o ∈ ls,0<=o/\o < n)/\(∀ o ∈ os,0<=o/\o < n),⟨_,_,[],rfl,rfl,by simp,?_,fun _ z=>nomatch z⟩,?_⟩
  · intro o ho
    obtain ⟨i,hi,rfl⟩:=List.mem_map.mp ho;have:=List.mem_range.mp hi;omega
  rintro m e ⟨ls,os,rfl,rfl,hl,h1,h2⟩;trivial;refine ⟨X0 ls,A6p ls,?_⟩;rw [A9m];refine ite2 (fun hn=>?_) (fun hn=>?_)
  · have hpos:0 < ls.length:=by cases ls with | nil=>cases hn | cons a r=>exact Nat.succ_pos _
    refine ⟨by decide,?_⟩;trivial;refine ⟨(ls.length:Int),by simp,by omega,K7 (B:=40) (by omega) (by omega) (by decide),fun d d0 d1=>?_⟩;trivial;have hd:d.toNat < ls.length:=by omega
    refine ⟨d.toNat,.int ls[d.toNat],by rw [Int.toNat_of_nonneg d0],by rw [Zh,Zg hd]; rfl,by first | omega | (rw [Zl]; omega),by first | omega | (rw [Zl]; omega),?_⟩;have hel:=A6k ls hd;refine ⟨_,?_,ls.eraseIdx d.toNat,os++[ls[d.toNat]],by rw [A50,Zc]; rfl,rfl,by rw [Ze,List.length_singleton]; omega,fun o ho=>h1 o (List.mem_of_mem_eraseIdx ho),fun o ho=>?_⟩
    · omega
    · rcases Za ho with z | z
      · exact h2 o z
      · rw [Zn z]; exact h1 _ (List.getElem_mem hd)
  · have:ls=[]:=by cases ls with | nil=>rfl | cons a r=>exact absurd rfl hn
    subst this;exact k os (by simpa using hl) h2
def B15:Pu.PSp:=fun as Q=>∃ pl:Bool,as=[.st,.d (.bool pl)]/\∀ q:Rat,On LL (2 ^ 42) q->Q (.d (dq q))
theorem A5r (T:Txt K mg D):FnOk P w K mg base CX0 3 D.a_Llag D.d_Llag ["_law_state","_law_plain"] (Pu.spOf K [.st,.dat] B15):=by
  refine T.B.F_Llag.ok sc_Llag (Zz rfl) (fun cdv A outer s H vs Q E hr h=>?_);refine ⟨_,(QSs.out (A3 (qst 2 sc_Llag (qcK (F4 (K:=K) T) hr.mo (F9 T) (A0 (qpv 0) (A0 (qpv 1) (A0 A2 A1)))))
      (A3 (D2 (B2 (D5 (K:=K) rfl hr.units) (qcK (B8 (K:=K) T) hr.mo (C4 T) (A0 (qpv 0) (A0 A2 A1))) A2 (B5 _))
        (A4 (A7 (qcK (N0 (K:=K) T) hr.mo (P1 T) (A0 (A9 (A0 A2 (A0 A2 A1))) (A0 (qpv 2) A1)))))
        B7)
      (A4 (A7 (qpv 2)))))),?_⟩
  refine Pu.F0 h ?_;rintro as Qp ⟨pl,rfl,k⟩;trivial;refine ⟨_,_,rfl,.inl rfl,fun q1 _ _ s1 _=>?_⟩;trivial;refine ⟨4,rfl,by decide,sm4 4,fun d d0 d4=>?_⟩;trivial;refine ite2 (fun h=>?_) (fun h=>?_)
  · refine ⟨0,q1,rfl,smq0,⟨s1.1.mono (by decide),s1.2.mono (by decide)⟩,?_⟩
    exact k _ ((On.zero.sub I0 (G9 s1)).mono (Nat.le_of_ble_eq_true rfl))
  · exact k _ ((G9 s1).p2 (by decide))
def A42:Pu.PSp:=fun as Q=>∃ (n:Int) (pl:Bool),as=[.st,.d (.int n),.d (.bool pl)]/\1<=n/\n<=10/\∀ ws,ws.length<=40->WOk n ws->Q (.own (ws.map wD))
theorem A5m (T:Txt K mg D):FnOk P w K mg base CX0 4 D.a_Lwaits D.d_Lwaits ["_law_state","_law_many","_law_plain"] (Pu.spOf K [.st,.dat,.dat] A42):=by
  refine T.B.F_Lwaits.ok sc_Lwaits (Zz rfl) (fun cdv A outer s H vs Q E hr h=>?_);refine ⟨_,(QSs.out (A3 (qst 3 sc_Lwaits (qcK (A0h (K:=K) T) hr.mo (A26 T) (A0 (qpv 0) (A0 (qpv 1) A1))))
      (A3 (qst 4 sc_Lwaits (A8 E8 A2 (qcK (B8 (K:=K) T) hr.mo (C4 T) (A0 (qpv 0) (A0 A2 A1)))))
      (A3 (qst 5 sc_Lwaits (B4 A1))
      (A3 (C9 Zf rfl (D8 rfl T.z_range (A0 (qpv 1) A1)) (qgn 6 sc_Lwaits)
        (A4 (C9 Zf rfl (D8 rfl T.z_range (A0 (qpv 6) A1)) (qgn 7 sc_Lwaits)
          (A3 (D2 (B2 (D5 (K:=K) rfl hr.units) (qcK (B8 (K:=K) T) hr.mo (C4 T) (A0 (qpv 0) (A0 (qpv 4) A1))) A2 (B5 _))
            (A4 (D3 (E9 (K:=K) rfl Z1 Z2 Z3 C8 (qpv 5) (A0 (A9 (A0 (qix K (qpv 3) (qpv 7)) (A0 (qix K (qpv 3) (qpv 6)) (A0 (qcK (A5r (K:=K) T) hr.mo (B0w T) (A0 (qpv 0) (A0 (qpv 2) A1))) A1)))) A1))))
            B7)
          (A4 (D2 (B2 (D5 (K:=K) rfl hr.units) (qcK (B8 (K:=K) T) hr.mo (C4 T) (A0 (qpv 0) (A0 A2 A1))) A2 (B5 _))
            (A3 (qst 8 sc_Lwaits (qcK (F1 (K:=K) T) hr.mo (F7 T) (A0 (qcK (F4 (K:=K) T) hr.mo (F9 T) (A0 (qpv 0) (A0 (qpv 2) (A0 A2 A1)))) (A0 (A9 (A0 (A8 D1 A2 (qpv 1)) (A0 A2 A1))) A1))))
            (A4 (D3 (E9 (K:=K) rfl Z1 Z2 Z3 C8 (qpv 5) (A0 (A9 (A0 (qix K (qpv 3) (qpv 6)) (A0 (qix K (qpv 3) (qpv 7)) (A0 (qcK (N0 (K:=K) T) hr.mo (P1 T) (A0 (A9 (A0 A2 (A0 A2 A1))) (A0 (qpv 8) A1))) A1)))) A1)))))
            B7))))))
      (A4 (A7 (J4 (K9 (K:=K) rfl) (qpv 5) L4 (L3 A2))))))))),?_⟩
  refine Pu.F0 h ?_;rintro as Qp ⟨n,pl,rfl,n0,n1,k⟩;trivial;refine ⟨n,rfl,by omega,by omega,fun os ho hos=>?_⟩;trivial;refine ⟨3,rfl,by decide,sm4 3,fun d d0 d3=>?_⟩;trivial;refine ⟨⟨by omega,by omega⟩,K5 (fun i e=>∃ (ws:List (Int × Int × Rat)) (o1 o2 o3:Option SV),e=[some .st,some (.d (.int n)),some (.d (.bool pl)),some (.own (os.map .int)),some (.d (.int (2 + d))),some (.own (ws.map wD)),o1,o2,o3]/\ws.length<=100 * i/\WOk n ws) ⟨[],_,_,_,rfl,by simp,fun _ z=>nomatch z⟩ ?_ ?_⟩
  · rintro i e hi ⟨ws,o1,o2,o3,rfl,hw,wk⟩
    trivial;refine ⟨⟨by omega,by omega⟩,K5 (fun j e=>∃ (ws:List (Int × Int × Rat)) (o2 o3:Option SV),e=[some .st,some (.d (.int n)),some (.d (.bool pl)),some (.own (os.map .int)),some (.d (.int (2 + d))),some (.own (ws.map wD)),some (.d (.int i)),o2,o3]/\ws.length<=100 * i + 2 * j/\WOk n ws) ⟨ws,_,_,rfl,by omega,wk⟩ ?_ ?_⟩
    · rintro j e hj ⟨ws,o2,o3,rfl,hw,wk⟩
      have hji:j < i:=by simpa using hj
      obtain ⟨oj,hoj,ej⟩:=B0h hos (j:=j) (by omega);obtain ⟨oi,hoi,ei⟩:=B0h hos (j:=i) (by omega);trivial;refine ⟨2 + d,rfl,by omega,K7 (B:=10) (by omega) (by omega) (by decide),fun g g0 g1=>?_⟩;trivial;refine ite2 (fun h=>?_) (fun h=>?_);case' refine_1 =>
        refine B6 ej ?_;trivial;refine B6 ei ?_;trivial;refine ⟨_,rfl,fun q sq=>?_⟩;trivial;refine ⟨by omega,12,rfl,by decide,sm4 12,fun f f0 f1=>?_⟩;trivial;have hw':(ws++[(oj,oi,q)]).length<=100 * i + 2 * j + 1:=by rw [Ze,List.length_singleton]; omega
        have wk':WOk n (ws++[(oj,oi,q)]):=wk.snoc ⟨hoj,hoi,sq.p2 (by decide)⟩;rw [show ws.map wD++[PyData.tuple [.int oj,.int oi,dq q]]=(ws++[(oj,oi,q)]).map wD from by rw [Zc]; rfl];revert hw' wk';generalize ws++[(oj,oi,q)]=ws';intro hw' wk'
      case' refine_2 =>
        refine ⟨12,rfl,by decide,sm4 12,fun f f0 f1=>?_⟩;trivial;have hw':ws.length<=100 * i + 2 * j + 1:=by omega
        have wk':WOk n ws:=wk;revert hw' wk';generalize ws=ws';intro hw' wk'
      all_goals
        refine ite2 (fun hf=>?_) (fun hf=>?_)
        · refine ⟨_,_,rfl,.inr rfl,fun q1 _ _ s1 _=>?_⟩
          trivial;rw [B0r];have s4:Sm 6 (4 * n):=K7 (B:=40) (by omega) (by omega) (by decide);have s5:=V9 s4;refine ⟨⟨K7 (B:=4) (by omega) (by omega) (by decide),K7 (B:=40) (by omega) (by omega) (by decide)⟩,q1,_,rfl,⟨s1.1.mono (by decide),s1.2.mono (by decide)⟩,⟨s5.1.mono (by decide),s5.2.mono (by decide)⟩,?_⟩;have s6:=s1.add s5;trivial;refine B6 ei ?_;trivial;refine B6 ej ?_;trivial;refine ⟨0,_,rfl,smq0,⟨s6.1.mono (by decide),s6.2.mono (by decide)⟩,?_⟩;trivial;refine ⟨by omega,ws'++[(oi,oj,0 - (q1 + ((4 * n:Int):Rat)))],_,_,by rw [Zc]; rfl,by rw [Ze,List.length_singleton]; omega,wk'.snoc ⟨hoi,hoj,(On.zero.sub I0 ((G9 s1).add I0 (B9n (k:=40) I0 (by omega)))).mono (Nat.le_of_ble_eq_true rfl)⟩⟩
        · exact ⟨ws',_,_,rfl,by omega,wk'⟩
    · rintro e ⟨ws,o2,o3,rfl,hw,wk⟩
      exact ⟨ws,_,_,_,rfl,by simp at hw; omega,wk⟩
  · rintro e ⟨ws,o1,o2,o3,rfl,hw,wk⟩
    trivial;have e1:cutD (ws.map wD) none (some 40)=(ws.take 40).map wD:=by
      unfold cutD;rw [HT.sIx_none,show (some (40:Int))=some ((40:Nat):Int) from rfl,HT.sIx_nat,List.drop_zero,Zl,Nat.sub_zero,List.map_take];by_cases h:40<=ws.length
      · rw [Nat.min_eq_left h]
      · rw [Nat.min_eq_right (by omega),List.take_of_length_le (by rw [Zl]; exact Zv _),List.take_of_length_le (by rw [Zl]; omega)]
    rw [e1];exact k _ (by rw [List.length_take]; omega) fun w hw=>wk w (List.mem_of_mem_take hw)
def A46:Pu.PSp:=fun as Q=>∃ (n:Int) (late:Rat) (pl:Bool),as=[.st,.d (.int n),.d (.bool pl),.d (dq late)]/\1<=n/\n<=10/\On LL (2 ^ 49) late/\∀ hs,hs.length<=4->HOk n hs->Q (.own (hs.map hD))
theorem A5s (T:Txt K mg D):FnOk P w K mg base CX0 4 D.a_Lholds D.d_Lholds ["_law_state","_law_many","_law_plain","_law_late"] (Pu.spOf K [.st,.dat,.dat,.dat] A46):=by
  refine T.B.F_Lholds.ok sc_Lholds (Zz rfl) (fun cdv A outer s H vs Q E hr h=>?_);refine ⟨_,(QSs.out (A3 (qst 4 sc_Lholds (B4 A1))
      (A3 (C9 Zf rfl (D8 rfl T.z_range (A0 (qix K (B4 (A0 A2 (A0 A2 (A0 A2 (A0 A2 (A0 A2 A1)))))) (qcK (B8 (K:=K) T) hr.mo (C4 T) (A0 (qpv 0) (A0 A2 A1)))) A1)) (qgn 5 sc_Lholds)
        (A3 (qst 6 sc_Lholds (qix K (B4 (A0 C1 (A0 C1 (A0 C1 (A0 C1 A1))))) (qcK (B8 (K:=K) T) hr.mo (C4 T) (A0 (qpv 0) (A0 A2 A1)))))
        (A3 (qst 7 sc_Lholds (qcK (A5r (K:=K) T) hr.mo (B0w T) (A0 (qpv 0) (A0 (qpv 2) A1))))
        (A3 (D2 (QW.pt (N9 (B2 (M9 (K:=K) rfl hr.units) (qpv 6) C1 (B5 _)) (L0 (B2 A3p (qcK (B8 (K:=K) T) hr.mo (C4 T) (A0 (qpv 0) (A0 A2 A1))) A2 (B5 _)))))
          (A4 (qst 7 sc_Lholds (qcK (F1 (K:=K) T) hr.mo (F7 T) (A0 (qpv 7) (A0 (qpv 3) A1)))))
          B7)
        (A4 (D3 (E9 (K:=K) rfl Z1 Z2 Z3 C8 (qpv 4) (A0 (A9 (A0 (qpv 6) (A0 (qcK (B8 (K:=K) T) hr.mo (C4 T) (A0 (qpv 0) (A0 (qpv 1) A1))) (A0 (qpv 7) A1)))) A1))))))))
      (A4 (A7 (qpv 4)))))),?_⟩
  refine Pu.F0 h ?_;rintro as Qp ⟨n,late,pl,rfl,n0,n1,sl,k⟩;trivial;refine ⟨5,rfl,by decide,sm4 5,fun d d0 d5=>?_⟩;trivial;obtain ⟨z,hz,ez⟩:=A8y (xs:=[0,0,1,2,4]) d0 d5;have hbz:0<=z/\z<=4:=by simp at hz; omega
  refine B6 ez ?_;trivial;refine ⟨⟨by omega,by omega⟩,K5 (fun i e=>∃ (hs:List (Str × Int × Rat)) (o1 o2 o3:Option SV),e=[some .st,some (.d (.int n)),some (.d (.bool pl)),some (.d (dq late)),some (.own (hs.map hD)),o1,o2,o3]/\hs.length=i/\HOk n hs) ⟨[],_,_,_,rfl,rfl,fun _ z=>nomatch z⟩ ?_ ?_⟩
  · rintro i e hi ⟨hs,o1,o2,o3,rfl,hw,wk⟩
    trivial;refine ⟨4,rfl,by decide,sm4 4,fun g g0 g4=>?_⟩;trivial;obtain ⟨kd,hk,ek⟩:=C3g g0 g4;refine B6 ek ?_;trivial;refine ⟨_,rfl,fun q sq=>?_⟩;trivial;refine ⟨hk.lay,A56,?_⟩;have sn:Sm 4000 n:=K7 (B:=10) (by omega) (by omega) (by decide);have s1:On LL (2 ^ 55) q:=sq.p2 (by decide);have s2:On LL (2 ^ 55) (q + late):=(sq.p2 (b:=49) (by decide)).add2 I0 sl (by decide);refine ite2 (fun he=>?_) (fun he=>?_)
    · refine ⟨4,rfl,by decide,sm4 4,fun f f0 f4=>?_⟩
      trivial;refine ite2 (fun hf=>?_) (fun hf=>?_)
      · refine ⟨q,late,rfl,onL sq (by decide),onL sl (by decide),?_⟩
        trivial;refine ⟨n,rfl,by omega,sn,fun w w0 w1=>?_⟩;trivial;exact ⟨by omega,hs++[(kd,w,q + late)],_,_,_,by rw [Zc]; rfl,by rw [Ze,List.length_singleton]; omega,wk.snoc ⟨hk,⟨w0,w1⟩,s2⟩⟩
      · refine ⟨n,rfl,by omega,sn,fun w w0 w1=>?_⟩
        trivial;exact ⟨by omega,hs++[(kd,w,q)],_,_,_,by rw [Zc]; rfl,by rw [Ze,List.length_singleton]; omega,wk.snoc ⟨hk,⟨w0,w1⟩,s1⟩⟩
    · refine ⟨n,rfl,by omega,sn,fun w w0 w1=>?_⟩
      trivial;exact ⟨by omega,hs++[(kd,w,q)],_,_,_,by rw [Zc]; rfl,by rw [Ze,List.length_singleton]; omega,wk.snoc ⟨hk,⟨w0,w1⟩,s1⟩⟩
  · rintro e ⟨hs,o1,o2,o3,rfl,hw,wk⟩
    trivial;exact k hs (by omega) wk
def A3k:Pu.PSp:=fun as Q=>∃ (xs:List Wk),as=[.st,.bor (xs.map kD)]/\1<=xs.length/\xs.length<=10/\(∀ x ∈ xs,Kd x.2.1)/\∀ gs:List (List Int),gs.length<=4->(∀ g ∈ gs,GrOk xs g)->Q (.own (gs.map gD))
theorem A3u (T:Txt K mg D):FnOk P w K mg base CX0 3 D.a_Lgroups D.d_Lgroups ["_law_state","_law_works"] (Pu.spOf K [.st,.vw] A3k):=by
  refine T.B.F_Lgroups.ok sc_Lgroups (Zz rfl) (fun cdv A outer s H vs Q E hr h=>?_);refine ⟨_,(QSs.out (A3 (E5 (i:=2) rfl sc_Lgroups.nd rfl rfl (B3 ["_law_works","_law_at"] [some 1,none]) (C0 (K:=K) rfl (qcK (A0h (K:=K) T) hr.mo (A26 T) (A0 (qpv 0) (A0 (qln K T.z_len (qpv 1)) A1)))) (fun _ _ _=>(qgc 1 ["_law_works","_law_at"])) (fun _ _ _=>(R9 (B2 (D5 (K:=K) rfl hr.units) (qix K (qix K (qix K (qpv 0) (qpv 1)) A2) A2) C1 (B5 _)))) (fun _ _ _=>(qpv 1)) rfl)
      (A3 (qst 3 sc_Lgroups (B4 A1))
      (A3 (O3 Zf (QW.pt (N9 (B2 A3p (qln K T.z_len (qpv 2)) A2 (B5 _)) (L0 (B2 A8k (qln K T.z_len (qpv 3)) A2 (B5 _)))))
        (A3 (K3 (i:=4) sc_Lgroups.nd rfl (Or.inr rfl) (qln K T.z_len (qix K (qix K (qix K (qpv 1) (qix K (qpv 2) A2)) A2) A2)))
        (A3 (K3 (i:=5) sc_Lgroups.nd rfl (Or.inr rfl) (J4 (K9 (K:=K) rfl) (D4 rfl (B3 ["_law_size","_law_works","_law_at"] [some 4,some 1,none]) (C0 (K:=K) rfl (qpv 2)) (fun _ _ _=>(qgc 2 ["_law_size","_law_works","_law_at"])) (fun _ _ _=>(R9 (B2 (D5 (K:=K) rfl hr.units) (qln K T.z_len (qix K (qix K (qix K (qpv 1) (qpv 2)) A2) A2)) (qpv 0) (B5 _)))) (fun _ _ _=>(qpv 2))) L4 (L3 (A8 E8 A2 (qcK (B8 (K:=K) T) hr.mo (C4 T) (A0 (qpv 0) (A0 A2 A1)))))))
        (A3 (E5 (i:=2) rfl sc_Lgroups.nd rfl rfl (B3 ["_law_alike_here","_law_at"] [some 5,none]) (C0 (K:=K) rfl (J4 (K9 (K:=K) rfl) (qpv 2) (L3 A2) L4)) (fun _ _ _=>(qgc 1 ["_law_alike_here","_law_at"])) (fun _ _ _=>(R9 (B2 (V0 (K:=K) rfl hr.units) (qpv 1) (qpv 0) (by with_unfolding_all rfl)))) (fun _ _ _=>(qpv 1)) rfl)
        (A4 (D2 (QW.pt (N9 (B2 A3p (qln K T.z_len (qpv 5)) A2 (B5 _)) (L0 (B2 (D5 (K:=K) rfl hr.units) (qcK (B8 (K:=K) T) hr.mo (C4 T) (A0 (qpv 0) (A0 A2 A1))) A2 (B5 _)))))
          (A4 (D3 (E9 (K:=K) rfl Z1 Z2 Z3 C8 (qpv 3) (A0 (qpv 5) A1))))
          B7))))))
      (A4 (A7 (qpv 3))))))),?_⟩
  refine Pu.F0 h ?_;rintro as Qp ⟨xs,rfl,x0,x1,hk,k⟩;trivial;refine ⟨(xs.length:Int),by simp,by omega,by omega,fun os ho hos=>?_⟩;trivial;refine ⟨by omega,⟨fun i e ys=>∃ (o:Option SV) (ls:List Int),e=[some (.bor (xs.map kD)),o]/\ys=ls.map .int/\ls.length<=i/\∀ o ∈ ls,(0<=o/\o < (xs.length:Int))/\(wat xs o).2.1="steps",⟨_,[],rfl,rfl,by simp,fun _ z=>nomatch z⟩,?_,?_⟩⟩
  · rintro i x e ys hx ⟨o,ls,rfl,rfl,hl,hr⟩
    rw [Zh] at hx;obtain ⟨b,hb,rfl⟩:=Zo hx;obtain ⟨b0,b1⟩:=hos b (Zm hb);have hy:=A39 b0 b1;trivial;refine B6 (A10 b0 b1) ?_;trivial;refine ⟨(hk _ hy).lay,A55,?_⟩;refine ite2 (fun h=>⟨_,ls++[b],rfl,by rw [Zc]; rfl,by rw [Ze,List.length_singleton]; omega,fun z hz=>?_⟩) (fun h=>⟨_,ls,rfl,rfl,by omega,hr⟩);rcases Za hz with q | q
    · exact hr z q
    · rw [Zn q]; rw [A9l,decide_eq_true_eq] at h; exact ⟨⟨b0,b1⟩,h⟩
  · rintro e ys ⟨o,ls,rfl,rfl,hl,hr⟩
    rw [Zl] at hl;trivial;refine ⟨fun m e=>∃ (ls:List Int) (gs:List (List Int)) (o1 o2:Option SV),e=[some .st,some (.bor (xs.map kD)),some (.own (ls.map .int)),some (.own (gs.map gD)),o1,o2]/\m=ls.length/\ls.length<=10/\(gs.length<=4/\∀ g ∈ gs,GrOk xs g)/\∀ o ∈ ls,(0<=o/\o < (xs.length:Int))/\(wat xs o).2.1="steps",⟨_,ls,[],_,_,rfl,rfl,by omega,⟨by simp,fun _ z=>nomatch z⟩,hr⟩,?_⟩;rintro m e ⟨ls,gs,o1,o2,rfl,rfl,hl,⟨hg,gk⟩,hr⟩;trivial;refine ite2 (fun h1=>ite2 (fun h2=>?_) (fun _=>k gs hg gk)) (fun _=>k gs hg gk);obtain ⟨a,r,rfl⟩:∃ a r,ls=a :: r:=by
      cases ls with
      | nil=>simp at h1
      | cons a r=>exact ⟨a,r,rfl⟩
    have ey':=A10 (hr a (Zy ..)).1.1 (hr a (Zy ..)).1.2;obtain ⟨y,hy⟩:∃ y,y=wat xs a:=⟨_,rfl⟩;rw [<- hy] at ey';have e0:L2.atI ((a :: r).map PyData.int) ((0:Nat):Int)=some (.int a):=F5 rfl;refine B6 e0 ?_;trivial;refine B6 ey' ?_;trivial;rw [List.length_cons] at hl;refine ⟨by omega,⟨fun i e ys=>∃ (o:Option SV) (ts:List Int),e=[some (.d (.int (y.2.2.length:Int))),some (.bor (xs.map kD)),o]/\ys=ts.map .int/\ts.length<=i/\∀ b ∈ ts,b ∈ a :: r/\(wat xs b).2.2.length=y.2.2.length,⟨_,[],rfl,rfl,by simp,fun _ z=>nomatch z⟩,?_,?_⟩⟩
    · rintro i x e ys hx ⟨o,ts,rfl,rfl,ht,htm⟩
      have hx':((a :: r).map PyData.int)[i]?=some x:=hx;rw [Zh] at hx';obtain ⟨b,hb,rfl⟩:=Zo hx';obtain ⟨⟨b0,b1⟩,b2⟩:=hr b (Zm hb);trivial;refine B6 (A10 b0 b1) ?_;trivial;refine ite2 (fun h=>⟨_,ts++[b],rfl,by rw [Zc]; rfl,by rw [Ze,List.length_singleton]; omega,fun z hz=>?_⟩) (fun h=>⟨_,ts,rfl,rfl,by omega,htm⟩);rcases Za hz with q | q
      · exact htm z q
      · rw [Zn q]; exact ⟨Zm hb,by omega⟩
    · rintro e ys ⟨o,ts,rfl,rfl,ht,htm⟩
      have ht':ts.length<=10:=by
        have h:=ht;rw [List.length_cons,Zl] at h;omega
      trivial;refine ⟨2,rfl,by decide,sm4 2,fun d d0 d2=>?_⟩;trivial;rw [show cutD (PyData.int a :: r.map PyData.int) (some 1) none=r.map PyData.int from A6u (f:=PyData.int) (xs:=a :: r)];obtain ⟨al,eal,hsub,hal⟩:=B6a (f:=PyData.int) (xs:=ts) none (some (2 + d));rw [eal];refine ⟨by rw [Zl]; omega,⟨fun i e ys=>∃ (o:Option SV) (us:List Int),e=[some (.bor (al.map .int)),o]/\ys=us.map .int/\us.length<=i/\∀ o ∈ us,(0<=o/\o < (xs.length:Int))/\(wat xs o).2.1="steps",⟨_,[],rfl,rfl,by simp,fun _ z=>nomatch z⟩,?_,?_⟩⟩
      · rintro i x e ys hx ⟨o,us,rfl,rfl,hu,hur⟩
        rw [Zh] at hx;obtain ⟨b,hb,rfl⟩:=Zo hx;have hbr:=hr b (Zr _ (Zm hb));trivial;refine ⟨X0 al,?_⟩;refine ite2 (fun h=>⟨_,us++[b],rfl,by rw [Zc]; rfl,by rw [Ze,List.length_singleton]; omega,fun z hz=>?_⟩) (fun h=>⟨_,us,rfl,rfl,by omega,hur⟩);rcases Za hz with q | q
        · exact hur z q
        · rw [Zn q]; exact hbr
      · rintro e ys ⟨o,us,rfl,rfl,hu,hur⟩
        rw [Zl] at hu;trivial;have fin:∀ gs':List (List Int),gs'.length<=4->(∀ g ∈ gs',GrOk xs g)->∃ m',m' < r.length + 1/\∃ (ls:List Int) (gs_1:List (List Int)) (o1 o2:Option SV),[some SV.st,some (SV.bor (List.map kD xs)),some (SV.own (List.map PyData.int us)),some (SV.own (gs'.map gD)),some (SV.d (PyData.int y.2.2.length)),some (SV.own (List.map PyData.int al))]=[some SV.st,some (SV.bor (List.map kD xs)),some (SV.own (List.map PyData.int ls)),some (SV.own (gs_1.map gD)),o1,o2]/\m'=ls.length/\ls.length<=10/\(gs_1.length<=4/\∀ g ∈ gs_1,GrOk xs g)/\∀ o ∈ ls,(0<=o/\o < (xs.length:Int))/\(wat xs o).2.1="steps":=fun gs' h h'=>⟨_,by omega,us,gs',_,_,rfl,rfl,by omega,⟨h,h'⟩,hur⟩;refine ite2 (fun h3=>?_) (fun h3=>fin gs hg gk);refine ⟨2,rfl,by decide,sm4 2,fun f f0 f2=>?_⟩;trivial;refine ite2 (fun h4=>?_) (fun h4=>fin gs hg gk);have gal:GrOk xs al:=⟨by omega,by omega,fun w hw=>(hr w (htm w (hsub w hw)).1).1,fun w hw=>(hr w (htm w (hsub w hw)).1).2,fun w hw v hv=>by rw [(htm w (hsub w hw)).2,(htm v (hsub v hv)).2]⟩;refine ⟨by omega,_,by omega,us,gs++[al],_,_,by rw [Zc]; rfl,rfl,by omega,⟨by rw [Ze,List.length_singleton]; omega,fun g hg'=>?_⟩,hur⟩;rcases Za hg' with q | q
        · exact gk g q
        · rw [Zn q]; exact gal
def B14:Pu.PSp:=fun as Q=>∃ (ns:List Int) (at_:Int) (kz:List Str) (mw mc:Int) (pl:Bool),as=[.bor (ns.map .int),.d (.int at_),.d (.int mw),.d (.int mc),.d (.list (kz.map .str)),.d (.bool pl)]/\0<=at_/\at_<=50/\1<=kz.length/\kz.length<=3/\(∀ z ∈ kz,Kd z)/\(1<=mw/\mw<=10)/\(1<=mc/\mc<=5)/\∀ n xs ws hs gs,NetG n xs ws hs gs->n<=mw->hs.length<=4->(∀ x ∈ xs,x.2.1 ∈ kz/\x.2.2.length<=mc.toNat)->Q (.d (netD xs ws hs (gs.map gD)))
theorem A5p (T:Txt K mg D):FnOk P w K mg base CX0 5 D.a_Lnet D.d_Lnet ["_law_script","_law_at","_law_most","_law_corners","_law_kinds","_law_plain"] (Pu.spOf K [.vw,.dat,.dat,.dat,.dat,.dat] B14):=by
  refine T.B.F_Lnet.ok sc_Lnet (Zz rfl) (fun cdv A outer s H vs Q E hr h=>?_);refine ⟨_,(QSs.out (A3 (qst 6 sc_Lnet (qcK (N1 (K:=K) T) hr.mo (P2 T) (A0 (qpv 0) (A0 (qpv 1) A1))))
      (A3 (qst 7 sc_Lnet (A8 E8 A2 (qcK (B8 (K:=K) T) hr.mo (C4 T) (A0 (qpv 6) (A0 (qpv 2) A1)))))
      (A3 (qst 8 sc_Lnet (qcK (A5q (K:=K) T) hr.mo (A91 T) (A0 (qpv 6) (A0 (qpv 7) A1))))
      (A3 (qst 6 sc_Lnet (qcK (N1 (K:=K) T) hr.mo (P2 T) (A0 (qpv 0) (A0 (A8 E8 (qpv 1) A2) A1))))
      (A3 (qst 9 sc_Lnet (B4 A1))
      (A3 (qst 10 sc_Lnet (A9 (A0 A2 (A0 A2 A1))))
      (A3 (C9 Zf rfl (C0 (K:=K) rfl (qpv 8)) (qgn 11 sc_Lnet)
        (A3 (qst 12 sc_Lnet (qcK (A5o (K:=K) T) hr.mo (A90 T) (A0 (qpv 6) (A0 (qix K (qpv 4) (qcK (B8 (K:=K) T) hr.mo (C4 T) (A0 (qpv 6) (A0 (qln K T.z_len (qpv 4)) A1)))) (A0 (qpv 3) (A0 (qpv 5) A1))))))
        (A3 (qst 10 sc_Lnet (qcK (F1 (K:=K) T) hr.mo (F7 T) (A0 (qpv 10) (A0 (qix K (qix K (qix K (qpv 12) A2) A2) A2) A1))))
        (A4 (D3 (E9 (K:=K) rfl Z1 Z2 Z3 C8 (qpv 9) (A0 (A9 (A0 (qpv 11) (A0 (qpv 12) A1))) A1)))))))
      (A3 (qst 6 sc_Lnet (qcK (N1 (K:=K) T) hr.mo (P2 T) (A0 (qpv 0) (A0 (A8 E8 (qpv 1) A2) A1))))
      (A3 (qst 13 sc_Lnet (qcK (A5m (K:=K) T) hr.mo (A9z T) (A0 (qpv 6) (A0 (qpv 7) (A0 (qpv 5) A1)))))
      (A3 (qst 6 sc_Lnet (qcK (N1 (K:=K) T) hr.mo (P2 T) (A0 (qpv 0) (A0 (A8 E8 (qpv 1) A2) A1))))
      (A3 (qst 14 sc_Lnet (qcK (A5s (K:=K) T) hr.mo (A92 T) (A0 (qpv 6) (A0 (qpv 7) (A0 (qpv 5) (A0 (qpv 10) A1))))))
      (A4 (A7 (A9 (A0 (qpv 9) (A0 (qpv 13) (A0 (qpv 14) (A0 (qcK (A3u (K:=K) T) hr.mo (A7c T) (A0 (qpv 6) (A0 (qpv 9) A1))) A1))))))))))))))))))),?_⟩
  refine Pu.F0 h ?_;rintro as Qp ⟨ns,at_,kz,mw,mc,pl,rfl,a0,a1,k0,k1,hkz,⟨w0,w1⟩,⟨c0,c1⟩,k⟩;trivial;refine ⟨ns,at_,rfl,by omega,by omega,?_⟩;trivial;refine ⟨mw,rfl,by omega,K7 (B:=10) (by omega) (by omega) (by decide),fun d d0 d6=>?_⟩;trivial;refine ⟨1 + d,rfl,by omega,by omega,fun zs hz hzl=>?_⟩;trivial;refine ⟨ns,at_ + 1,rfl,by omega,by omega,?_⟩;trivial;refine G4 (f:=PyData.str) (xs:=zs) (fun i e=>∃ (xs:List Wk) (late:Rat) (o1 o2:Option SV),e=[some (SV.bor (List.map PyData.int ns)),some (SV.d (PyData.int at_)),some (SV.d (PyData.int mw)),some (SV.d (PyData.int mc)),some (SV.d (PyData.list (List.map PyData.str kz))),some (SV.d (PyData.bool pl)),some SV.st,some (SV.d (PyData.int (1 + d))),some (SV.d (PyData.list (List.map PyData.str zs))),some (SV.own (xs.map kD)),some (SV.d (dq late)),o1,o2,none,none]/\xs.length=i/\On LL (i * 2 ^ 45) late/\∀ x ∈ xs,(Kd x.2.1/\OfG x.2.1 x.2.2 100 54 244 130/\OnC x.2.2)/\x.2.1 ∈ kz/\x.2.2.length<=mc.toNat/\(PyData.str x.1).canLay0=true) ⟨[],0,_,_,rfl,rfl,On.zero.mono (Nat.zero_le _),fun _ z=>nomatch z⟩ ?_ ?_
  · rintro i z e hzi ⟨xs,late,o1,o2,rfl,hx,sl,hxs⟩
    have hi:i < zs.length:=(Zs hzi).1;trivial;refine ⟨(kz.length:Int),by simp,by omega,K7 (B:=3) (by omega) (by omega) (by decide),fun g g0 g1=>?_⟩;trivial;obtain ⟨gj,rfl⟩:=Zi g0;have hgj:gj < kz.length:=by omega
    have eg:L2.atI (kz.map PyData.str) (gj:Int)=some (.str kz[gj]):=F5 (by rw [Zh,Zg hgj]; rfl);refine B6 eg ?_;trivial;refine ⟨kz[gj],mc,pl,rfl,by omega,by omega,hkz _ (List.getElem_mem hgj),fun cs og oc ol=>?_⟩;have ok:=og.ok;trivial;unfold offD;trivial;obtain ⟨c,hc,ec⟩:∃ c,c ∈ cs/\L2.atI (cs.map dcn) ((0:Nat):Int)=some (dcn c):=by
      have h0:0 < cs.length:=ok.ne;exact ⟨cs[0],List.getElem_mem h0,F5 (by rw [Zh,Zg h0]; rfl)⟩
    have sc:=(oc c hc).1;have i10:i * 2 ^ 45<=2 ^ 49:=Zx (Zu _ (show i<=10 by omega)) (Nat.le_of_ble_eq_true rfl);refine B6 ec ?_;trivial;refine ⟨late,c.1,rfl,onL (sl.mono i10) (by decide),onL sc (by decide),?_⟩;trivial;refine ⟨by omega,xs++[(z,kz[gj],cs)],_,_,_,by rw [Zc]; rfl,by rw [Ze,List.length_singleton]; omega,(sl.add I0 sc).mono (by rw [Nat.add_mul,Nat.one_mul]; exact Zv _),fun x hx'=>?_⟩;rcases Za hx' with q | q
    · exact hxs x q
    · rw [Zn q]; exact ⟨⟨hkz _ (List.getElem_mem hgj),og,oc⟩,List.getElem_mem hgj,ol,hzl z (Zm hzi)⟩
  · rintro e ⟨xs,late,o1,o2,rfl,hx,sl,hxs⟩
    trivial;refine ⟨ns,at_ + 2,rfl,by omega,by omega,?_⟩;trivial;refine ⟨1 + d,pl,rfl,by omega,by omega,fun ws hw wk=>?_⟩;trivial;refine ⟨ns,at_ + 3,rfl,by omega,by omega,?_⟩;trivial;refine ⟨1 + d,late,pl,rfl,by omega,by omega,sl.mono (Zx (Zu _ (show _<=10 by omega)) (Nat.le_of_ble_eq_true rfl)),fun hs hh hhk=>?_⟩;trivial;refine ⟨xs,rfl,by omega,by omega,fun x hx'=>(hxs x hx').1.1,fun gs gl gk=>?_⟩;trivial;exact k (1 + d) xs ws hs gs ⟨by omega,by omega,by omega,fun x hx'=>(hxs x hx').1,hw,wk,by omega,hhk,gl,gk,fun x hx'=>(hxs x hx').2.2.2⟩ (by omega) hh (fun x hx'=>⟨(hxs x hx').2.1,(hxs x hx').2.2.1⟩)
def U0:Pu.PSp:=fun as Q=>∃ ps qs:List (Rat × Rat),as=[.d (.list (ps.map dcn)),.d (.list (qs.map dcn))]/\ps.length<=1000/\qs.length<=1000/\Q (.own ((ps++qs).map dcn))
theorem K4 (T:Txt K mg D):FnOk P w K mg base CX0 1 D.a_plansbeside D.d_plansbeside ["one","other"] (Pu.spOf K [.dat,.dat] U0):=by
  refine T.B.F_plansbeside.ok sc_plansbeside (Zz rfl) (fun cdv A outer s H vs Q E hr h=>?_);refine ⟨_,(QSs.out (A4 (A7 (A8 (L6 (K:=K) rfl) (qpv 0) (qpv 1))))),?_⟩;refine Pu.F0 h ?_;rintro as Qp ⟨ps,qs,rfl,h1,h2,k⟩;trivial;rw [Zc] at k;exact ⟨by omega,k⟩
def Z6:Pu.PSp:=fun as Q=>∃ (ps:List (Rat × Rat)) (q:Rat),as=[.d (.list (ps.map dcn)),.d (dq q)]/\ps.length<=1000/\(∀ p ∈ ps,SmQ 3900 p.1)/\SmQ 3900 q/\Q (.own ((later ps q).map dcn))
theorem Q3 (T:Txt K mg D):FnOk P w K mg base CX0 3 D.a_planlater D.d_planlater ["plan","later"] (Pu.spOf K [.dat,.dat] Z6):=by
  refine T.B.F_planlater.ok sc_planlater (Zz rfl) (fun cdv A outer s H vs Q E hr h=>?_);refine ⟨_,(QSs.out (A4 (A7 (D4 rfl (B3 ["later","start","time"] [some 1,none,none]) (C0 (K:=K) rfl (qpv 0)) (fun _ _ _=>(C5 (K:=K) (n:=2) rfl rfl (A5 (qgc 1 ["later","start","time"]) (A5 (qgc 2 ["later","start","time"]) C2)) rfl rfl)) (fun _ _ _=>C3) (fun _ _ _=>(A9 (A0 (qcK (W8 (K:=K) T) hr.mo (A25 T) (A0 (qpv 1) (A0 (qpv 0) A1))) (A0 (qpv 2) A1)))))))),?_⟩;refine Pu.F0 h ?_;rintro as Qp ⟨ps,q,rfl,h1,hp,hq,k⟩;trivial;refine ⟨by omega,D6 (f:=dcn) (xs:=ps) (fun i e ys=>∃ o1 o2:Option SV,e=[some (.d (dq q)),o1,o2]/\ys=(later (ps.take i) q).map dcn) ⟨_,_,rfl,rfl⟩ ?_ ?_⟩
  · rintro i p e ys hpi ⟨o1,o2,rfl,rfl⟩
    trivial;refine ⟨p.1,q,rfl,hp _ (Zm hpi),hq,?_⟩;trivial;refine ⟨_,_,rfl,?_⟩;unfold later;rw [List.take_succ,hpi,Zc,Zc]; rfl
  rintro e ys ⟨o1,o2,rfl,rfl⟩;rw [List.take_length];trivial;exact k
def W2:Pu.PSp:=fun as Q=>∃ (ps:List (Rat × Rat)) (v:Rat),as=[.d (.list (ps.map dcn)),.d (dq v)]/\ps.length<=1000/\(∀ p ∈ ps,PlSm p)/\SmQ 3900 v/\Q (.own ((turned ps v).map dcn))
theorem O5 (T:Txt K mg D):FnOk P w K mg base CX0 4 D.a_planturned D.d_planturned ["plan","whole"] (Pu.spOf K [.dat,.dat] W2):=by
  refine T.B.F_planturned.ok sc_planturned (Zz rfl) (fun cdv A outer s H vs Q E hr h=>?_);refine ⟨_,(QSs.out (A4 (A7 (D4 rfl (B3 ["whole","step"] [some 1,none]) (C0 (K:=K) rfl (qpv 0)) (fun _ _ _=>(qgc 1 ["whole","step"])) (fun _ _ _=>C3) (fun _ _ _=>(A9 (A0 (qcK (N4 (K:=K) T) hr.mo (Q2 T) (A0 (qpv 0) (A0 (qcK (S1 (K:=K) T) hr.mo (X7 T) (A0 (qpv 1) A1)) A1))) (A0 (qix K (qpv 1) A2) A1)))))))),?_⟩;refine Pu.F0 h ?_;rintro as Qp ⟨ps,v,rfl,h1,hp,hq,k⟩;trivial;refine ⟨by omega,D6 (f:=dcn) (xs:=ps) (fun i e ys=>∃ o1:Option SV,e=[some (.d (dq v)),o1]/\ys=(turned (ps.take i) v).map dcn) ⟨_,rfl,rfl⟩ ?_ ?_⟩
  · rintro i p e ys hpi ⟨o1,rfl,rfl⟩
    have pp:=hp _ (Zm hpi);trivial;refine ⟨p,rfl,pp,?_⟩;trivial;refine ⟨v,enD p,rfl,hq,pp.e,?_⟩;trivial;refine ⟨_,rfl,?_⟩;unfold turned;rw [List.take_succ,hpi,Zc,Zc]; rfl
  rintro e ys ⟨o1,rfl,rfl⟩;rw [List.take_length];trivial;exact k
def W3:Pu.PSp:=fun as Q=>∃ (ps:List (Rat × Rat)) (c:Rat),as=[.d (.list (ps.map dcn)),.d (dq c)]/\ps.length<=1000/\(∀ p ∈ ps,SmQ 3900 p.1/\SmQ 3900 p.2)/\SmQ 3900 c/\Q (.own ((G2 ps c).map dcn))
theorem O6 (T:Txt K mg D):FnOk P w K mg base CX0 3 D.a_planscaled D.d_planscaled ["plan","span"] (Pu.spOf K [.dat,.dat] W3):=by
  refine T.B.F_planscaled.ok sc_planscaled (Zz rfl) (fun cdv A outer s H vs Q E hr h=>?_);refine ⟨_,(QSs.out (A4 (A7 (D4 rfl (B3 ["span","start","time"] [some 1,none,none]) (C0 (K:=K) rfl (qpv 0)) (fun _ _ _=>(C5 (K:=K) (n:=2) rfl rfl (A5 (qgc 1 ["span","start","time"]) (A5 (qgc 2 ["span","start","time"]) C2)) rfl rfl)) (fun _ _ _=>C3) (fun _ _ _=>(A9 (A0 (qcK (V1 (K:=K) T) hr.mo (A07 T) (A0 (qpv 0) (A0 (qpv 1) A1))) (A0 (qcK (V1 (K:=K) T) hr.mo (A07 T) (A0 (qpv 0) (A0 (qpv 2) A1))) A1)))))))),?_⟩;refine Pu.F0 h ?_;rintro as Qp ⟨ps,c,rfl,h1,hp,hq,k⟩;trivial;refine ⟨by omega,D6 (f:=dcn) (xs:=ps) (fun i e ys=>∃ o1 o2:Option SV,e=[some (.d (dq c)),o1,o2]/\ys=(G2 (ps.take i) c).map dcn) ⟨_,_,rfl,rfl⟩ ?_ ?_⟩
  · rintro i p e ys hpi ⟨o1,o2,rfl,rfl⟩
    obtain ⟨p1,p2⟩:=hp _ (Zm hpi);trivial;refine ⟨c,p.1,rfl,hq,p1,?_⟩;trivial;refine ⟨c,p.2,rfl,hq,p2,?_⟩;trivial;refine ⟨_,_,rfl,?_⟩;unfold G2;rw [List.take_succ,hpi,Zc,Zc]; rfl
  rintro e ys ⟨o1,o2,rfl,rfl⟩;rw [List.take_length];trivial;exact k
def A3l:Pu.PSp:=fun as Q=>∃ (xs ys:List Wk) (ws ws2 ms:List (Int × Int × Rat)) (hs hs2:List (Str × Int × Rat)) (gs gs2:List (List Int)),as=[.d (netD xs ws hs (gs.map gD)),.d (netD ys ws2 hs2 (gs2.map gD)),.d (.list (ms.map wD))]/\xs.length<=4/\ys.length<=4/\ws.length<=40/\ws2.length<=40/\ms.length<=20/\hs.length<=40/\hs2.length<=40/\gs.length<=4/\gs2.length<=4/\(∀ g ∈ gs2,g.length<=10)/\(∀ x ∈ xs,(PyData.str x.1).canLay0=true)/\∀ zs:List Wk,zs.map (·.2)=ys.map (·.2)->Q (.d (netD (xs++zs) (ws++ws2.map (shW (xs.length:Int))++ms) (hs++hs2.map (shH (xs.length:Int))) ((gs++gs2.map (shG (xs.length:Int))).map gD)))
theorem V2 (T:Txt K mg D):FnOk P w K mg base CX0 1 D.a_Lbeside D.d_Lbeside ["_law_one","_law_other","_law_more"] (Pu.spOf K [.dat,.dat,.dat] A3l):=by
  refine T.B.F_Lbeside.ok sc_Lbeside (Zz rfl) (fun cdv A outer s H vs Q E hr h=>?_);refine ⟨_,(QSs.out (A3 (K3 (i:=3) sc_Lbeside.nd rfl (Or.inr rfl) (qln K T.z_len (qix K (qpv 0) A2)))
      (A3 (K3 (i:=4) sc_Lbeside.nd rfl (Or.inr rfl) (F3 (J8 (K:=K) rfl) (by rfl) T.z_list (by rfl) (A0 (qix K (qpv 0) A2) A1)))
      (A3 (E5 (i:=5) rfl sc_Lbeside.nd rfl rfl (B3 ["_law_letter"] [none]) (B1s C1) (fun _ _ _=>(qgc 0 ["_law_letter"])) (fun _ _ _=>C3) (fun _ _ _=>(A8 B3o C1 (A8 B3m (qpv 0) A2))) rfl)
      (A3 (E5 (i:=5) rfl sc_Lbeside.nd rfl rfl (B3 ["_law_works","_law_name"] [some 4,none]) (C0 (K:=K) rfl (qpv 5)) (fun _ _ _=>(qgc 1 ["_law_works","_law_name"])) (fun _ _ _=>(R9 (B2 (V0 (K:=K) rfl hr.units) (qpv 1) (D4 rfl (B3 ["_law_work"] [none]) (C0 (K:=K) rfl (qpv 0)) (fun _ _ _=>(qgc 0 ["_law_work"])) (fun _ _ _=>C3) (fun _ _ _=>(qix K (qpv 0) A2))) (by with_unfolding_all rfl)))) (fun _ _ _=>(qpv 1)) rfl)
      (A3 (C9 Zf rfl (D8 rfl T.z_range (A0 (qln K T.z_len (qix K (qpv 1) A2)) A1)) (qgn 6 sc_Lbeside)
        (A4 (D3 (E9 (K:=K) rfl Z1 Z2 Z3 C8 (qpv 4) (A0 (A9 (A0 (qix K (qpv 5) (qpv 6)) (A0 (qix K (qix K (qix K (qpv 1) A2) (qpv 6)) A2) A1))) A1)))))
      (A3 (qst 7 sc_Lbeside (F3 (J8 (K:=K) rfl) (by rfl) T.z_list (by rfl) (A0 (qix K (qpv 0) A2) A1)))
      (A3 (C9 Zf rfl (C0 (K:=K) rfl (qix K (qpv 1) A2)) (C5 (K:=K) (n:=3) rfl rfl (A5 (qgn 8 sc_Lbeside) (A5 (qgn 9 sc_Lbeside) (A5 (qgn 10 sc_Lbeside) C2))) rfl rfl)
        (A4 (D3 (E9 (K:=K) rfl Z1 Z2 Z3 C8 (qpv 7) (A0 (A9 (A0 (A8 E8 (qpv 8) (qpv 3)) (A0 (A8 E8 (qpv 9) (qpv 3)) (A0 (qpv 10) A1)))) A1)))))
      (A3 (qst 11 sc_Lbeside (F3 (J8 (K:=K) rfl) (by rfl) T.z_list (by rfl) (A0 (qix K (qpv 0) A2) A1)))
      (A3 (C9 Zf rfl (C0 (K:=K) rfl (qix K (qpv 1) A2)) (C5 (K:=K) (n:=3) rfl rfl (A5 (qgn 12 sc_Lbeside) (A5 (qgn 13 sc_Lbeside) (A5 (qgn 14 sc_Lbeside) C2))) rfl rfl)
        (A4 (D3 (E9 (K:=K) rfl Z1 Z2 Z3 C8 (qpv 11) (A0 (A9 (A0 (qpv 12) (A0 (A8 E8 (qpv 13) (qpv 3)) (A0 (qpv 14) A1)))) A1)))))
      (A3 (qst 15 sc_Lbeside (F3 (J8 (K:=K) rfl) (by rfl) T.z_list (by rfl) (A0 (qix K (qpv 0) A2) A1)))
      (A3 (C9 Zf rfl (C0 (K:=K) rfl (qix K (qpv 1) A2)) (qgn 16 sc_Lbeside)
        (A4 (D3 (E9 (K:=K) rfl Z1 Z2 Z3 C8 (qpv 15) (A0 (D4 rfl (B3 ["_law_many","_law_work"] [some 3,none]) (C0 (K:=K) rfl (qpv 16)) (fun _ _ _=>(qgc 1 ["_law_many","_law_work"])) (fun _ _ _=>C3) (fun _ _ _=>(A8 E8 (qpv 1) (qpv 0)))) A1)))))
      (A4 (A7 (A9 (A0 (qpv 4) (A0 (A8 (L6 (K:=K) rfl) (qpv 7) (qpv 2)) (A0 (qpv 11) (A0 (qpv 15) A1))))))))))))))))))),?_⟩
  refine Pu.F0 h ?_;rintro as Qp ⟨xs,ys,ws,ws2,ms,hs,hs2,gs,gs2,rfl,hx,hy,hw,hw2,hm,hh,hh2,hg,hg2,g10,nm,k⟩;unfold netD at k ⊢;trivial;rw [show A4m (Str.ofString "abcdefghi")=lets.map .str from by rfl];refine ⟨by decide,D6 (f:=PyData.str) (xs:=lets) (fun i e cs=>∃ (o:Option SV),e=[o]/\cs=(((lets.take i).map Q4).map .str)) ⟨_,rfl,rfl⟩ ?_ ?_⟩
  · rintro i x e cs hx ⟨o,rfl,rfl⟩
    trivial;have hxl:x.length=1:=A80 x (Zm hx);refine ⟨by decide,by omega,A8t x (Zm hx),_,rfl,?_⟩;rw [List.take_succ,hx,Zc,Zc]; rfl
  rintro e cs ⟨o,rfl,rfl⟩;rw [List.take_length];trivial;refine ⟨by decide,D6 (f:=PyData.str) (xs:=lets.map Q4) (fun i e cs=>∃ o:Option SV,e=[some (.bor (xs.map kD)),o]/\cs=(((lets.map Q4).take i).filter fun z=>!(xs.any fun x=>decide (x.1=z))).map .str) ⟨_,rfl,rfl⟩ ?_ ?_⟩
  · rintro i z e cs hz ⟨o,rfl,rfl⟩
    trivial;refine ⟨by omega,D6 (f:=kD) (xs:=xs) (fun i e cs=>∃ o:Option SV,e=[o]/\cs=(xs.take i).map fun x=>PyData.str x.1) ⟨_,rfl,rfl⟩ ?_ ?_⟩
    · rintro i x e cs hx ⟨o,rfl,rfl⟩
      rw [show kD x=PyData.tuple [.str x.1,.tuple [.str x.2.1,.list (x.2.2.map dcn)]] from rfl];trivial;refine ⟨_,rfl,?_⟩;rw [List.take_succ,hx,Zc]; rfl
    rintro e cs ⟨o,rfl,rfl⟩;rw [List.take_length];trivial;refine ⟨A0m nm,A8u z (Zm hz),?_⟩;rw [A7h];refine ite2 (fun h=>?_) (fun h=>?_)
    · refine ⟨_,rfl,?_⟩
      rw [List.take_succ,hz,List.filter_append,Option.toList_some,List.filter_cons,if_pos (by rw [h]; rfl),Zc]; rfl
    · refine ⟨_,rfl,?_⟩
      rw [List.take_succ,hz,List.filter_append,Option.toList_some,List.filter_cons,if_neg (by simpa using h),List.filter_nil,List.append_nil]
  rintro e cs ⟨o,rfl,rfl⟩;rw [List.take_of_length_le (Zv _)];obtain ⟨nn,en⟩:∃ nn,nn=(lets.map Q4).filter fun z=>!(xs.any fun x=>decide (x.1=z)):=⟨_,rfl⟩;rw [<- en];have ln:ys.length<=nn.length:=by
    have:=A2z xs (lets.map Q4) B4i;rw [<- en] at this;have l9:(lets.map Q4).length=9:=rfl;omega
  obtain ⟨zs,ez⟩:∃ zs,zs=ren nn ys:=⟨_,rfl⟩;have lz:zs.length=ys.length:=by
    have:=congrArg List.length (A1d ln);rw [<- ez] at this;simpa using this
  trivial;refine ⟨⟨by omega,by omega⟩,K5 (fun i e=>∃ o1:Option SV,e=[some (.d (.tuple [.list (xs.map kD),.list (ws.map wD),.list (hs.map hD),.list (gs.map gD)])),some (.d (.tuple [.list (ys.map kD),.list (ws2.map wD),.list (hs2.map hD),.list (gs2.map gD)])),some (.d (.list (ms.map wD))),some (.d (.int (xs.length:Int))),some (.own ((xs++zs.take i).map kD)),some (.own (nn.map .str)),o1,none,none,none,none,none,none,none,none,none,none]) ⟨_,by rw [List.take_zero,List.append_nil]⟩ ?_ ?_⟩
  · rintro i e hi ⟨o1,rfl⟩
    have hi2:i < ys.length:=by omega
    have en:nn[i]?=some nn[i]:=Zg (by omega);have ey:ys[i]?=some ys[i]:=Zg hi2;have ezi:zs[i]?=some (nn[i],ys[i].2):=by have:=B1n en ey; rwa [<- ez] at this
    trivial;refine J0 (n:=i) en ?_;trivial;refine J0 (n:=i) ey ?_;rw [show kD ys[i]=PyData.tuple [.str ys[i].1,.tuple [.str ys[i].2.1,.list (ys[i].2.2.map dcn)]] from rfl];trivial;exact ⟨by rw [Ze,List.length_take]; omega,_,by rw [A3c ezi]; rfl⟩
  rintro e ⟨o1,rfl⟩;rw [Int.toNat_natCast,List.take_of_length_le (by omega)];trivial;refine G4 (f:=wD) (xs:=ws2) (fun i e=>∃ o6 o8 o9 o10:Option SV,e=[some (.d (.tuple [.list (xs.map kD),.list (ws.map wD),.list (hs.map hD),.list (gs.map gD)])),some (.d (.tuple [.list (ys.map kD),.list (ws2.map wD),.list (hs2.map hD),.list (gs2.map gD)])),some (.d (.list (ms.map wD))),some (.d (.int (xs.length:Int))),some (.own ((xs++zs).map kD)),some (.own (nn.map .str)),o6,some (.own ((ws++(ws2.take i).map (shW (xs.length:Int))).map wD)),o8,o9,o10,none,none,none,none,none,none]) ⟨_,_,_,_,by rw [List.take_zero,List.map_nil,List.append_nil]⟩ ?_ ?_
  · rintro i w e hwi ⟨o6,o8,o9,o10,rfl⟩
    have hi:=(Zs hwi).1;rw [show wD w=PyData.tuple [.int w.1,.int w.2.1,dq w.2.2] from rfl];trivial;exact ⟨by rw [Ze,Zl,List.length_take]; omega,_,_,_,_,by rw [P5 hwi]; rfl⟩
  rintro e ⟨o6,o8,o9,o10,rfl⟩;rw [List.take_length];trivial;refine G4 (f:=hD) (xs:=hs2) (fun i e=>∃ o12 o13 o14:Option SV,e=[some (.d (.tuple [.list (xs.map kD),.list (ws.map wD),.list (hs.map hD),.list (gs.map gD)])),some (.d (.tuple [.list (ys.map kD),.list (ws2.map wD),.list (hs2.map hD),.list (gs2.map gD)])),some (.d (.list (ms.map wD))),some (.d (.int (xs.length:Int))),some (.own ((xs++zs).map kD)),some (.own (nn.map .str)),o6,some (.own ((ws++ws2.map (shW (xs.length:Int))).map wD)),o8,o9,o10,some (.own ((hs++(hs2.take i).map (shH (xs.length:Int))).map hD)),o12,o13,o14,none,none]) ⟨_,_,_,by rw [List.take_zero,List.map_nil,List.append_nil]⟩ ?_ ?_
  · rintro i w e hwi ⟨o12,o13,o14,rfl⟩
    have hi:=(Zs hwi).1;rw [show hD w=PyData.tuple [.str w.1,.int w.2.1,dq w.2.2] from rfl];trivial;exact ⟨by rw [Ze,Zl,List.length_take]; omega,_,_,_,by rw [P5 hwi]; rfl⟩
  rintro e ⟨o12,o13,o14,rfl⟩;rw [List.take_length];trivial;refine G4 (f:=gD) (xs:=gs2) (fun i e=>∃ o16:Option SV,e=[some (.d (.tuple [.list (xs.map kD),.list (ws.map wD),.list (hs.map hD),.list (gs.map gD)])),some (.d (.tuple [.list (ys.map kD),.list (ws2.map wD),.list (hs2.map hD),.list (gs2.map gD)])),some (.d (.list (ms.map wD))),some (.d (.int (xs.length:Int))),some (.own ((xs++zs).map kD)),some (.own (nn.map .str)),o6,some (.own ((ws++ws2.map (shW (xs.length:Int))).map wD)),o8,o9,o10,some (.own ((hs++hs2.map (shH (xs.length:Int))).map hD)),o12,o13,o14,some (.own ((gs++(gs2.take i).map (shG (xs.length:Int))).map gD)),o16]) ⟨_,by rw [List.take_zero,List.map_nil,List.append_nil]⟩ ?_ ?_
  · rintro i g e hgi ⟨o16,rfl⟩
    have hi:=(Zs hgi).1;have gl:=g10 g (Zm hgi);rw [show gD g=PyData.list (g.map .int) from rfl];trivial;refine ⟨by omega,D6 (f:=PyData.int) (xs:=g) (fun i e cs=>∃ o:Option SV,e=[some (.d (.int (xs.length:Int))),o]/\cs=(shG (xs.length:Int) (g.take i)).map .int) ⟨_,rfl,rfl⟩ ?_ ?_⟩
    · rintro i x e cs hx ⟨o,rfl,rfl⟩
      trivial;refine ⟨_,rfl,?_⟩;unfold shG;rw [List.take_succ,hx,Zc,Zc]; rfl
    rintro e cs ⟨o,rfl,rfl⟩;rw [List.take_length];trivial;exact ⟨by rw [Ze,Zl,List.length_take]; omega,_,by rw [P5 hgi]; rfl⟩
  rintro e ⟨o16,rfl⟩;rw [List.take_length];trivial;refine ⟨by rw [Ze,Zl]; omega,?_⟩;rw [<- Zc];exact k zs (by rw [ez]; exact A1d ln)
def A3m:Pu.PSp:=fun as Q=>∃ (xs ys:List Wk) (ws ws2:List (Int × Int × Rat)) (hs hs2:List (Str × Int × Rat)) (gs gs2:List (List Int)) (q:Rat),as=[.d (netD xs ws hs (gs.map gD)),.d (netD ys ws2 hs2 (gs2.map gD)),.d (dq q)]/\xs.length<=4/\ys.length<=4/\ws.length<=40/\ws2.length<=40/\hs.length<=40/\hs2.length<=40/\gs.length<=4/\gs2.length<=4/\(∀ g ∈ gs2,g.length<=10)/\(∀ x ∈ xs,(PyData.str x.1).canLay0=true)/\∀ (zs:List Wk) (ms:List (Int × Int × Rat)),zs.map (·.2)=ys.map (·.2)->ms.length<=20->(∀ m ∈ ms,∃ a b:Nat,a < xs.length/\b < ys.length/\m=((a:Int),(b:Int) + (xs.length:Int),q))->Q (.d (netD (xs++zs) (ws++ws2.map (shW (xs.length:Int))++ms) (hs++hs2.map (shH (xs.length:Int))) ((gs++gs2.map (shG (xs.length:Int))).map gD)))
theorem A3v (T:Txt K mg D):FnOk P w K mg base CX0 2 D.a_Lbehind D.d_Lbehind ["_law_one","_law_other","_law_wait"] (Pu.spOf K [.dat,.dat,.dat] A3m):=by
  refine T.B.F_Lbehind.ok sc_Lbehind (Zz rfl) (fun cdv A outer s H vs Q E hr h=>?_);refine ⟨_,(QSs.out (A3 (qst 3 sc_Lbehind (B4 A1))
      (A3 (C9 Zf rfl (D8 rfl T.z_range (A0 (qln K T.z_len (qix K (qpv 0) A2)) A1)) (qgn 4 sc_Lbehind)
        (A4 (C9 Zf rfl (D8 rfl T.z_range (A0 (qln K T.z_len (qix K (qpv 1) A2)) A1)) (qgn 5 sc_Lbehind)
          (A4 (D3 (E9 (K:=K) rfl Z1 Z2 Z3 C8 (qpv 3) (A0 (A9 (A0 (qpv 4) (A0 (A8 E8 (qpv 5) (qln K T.z_len (qix K (qpv 0) A2))) (A0 (qpv 2) A1)))) A1)))))))
      (A4 (A7 (qcK (V2 (K:=K) T) hr.mo (A08 T) (A0 (qpv 0) (A0 (qpv 1) (A0 (qpv 3) A1))))))))),?_⟩
  refine Pu.F0 h ?_;rintro as Qp ⟨xs,ys,ws,ws2,hs,hs2,gs,gs2,q,rfl,hx,hy,hw,hw2,hh,hh2,hg,hg2,g10,nm,k⟩;have en:∀ (xs:List Wk) (ws:List (Int × Int × Rat)) (hs:List (Str × Int × Rat)) (gs:List PyData),netD xs ws hs gs=.tuple [.list (xs.map kD),.list (ws.map wD),.list (hs.map hD),.list gs]:=fun _ _ _ _=>rfl;rw [en,en];trivial;refine ⟨⟨by omega,by omega⟩,K5 (fun i e=>∃ (ms:List (Int × Int × Rat)) (o1 o2:Option SV),e=[some (.d (.tuple [.list (xs.map kD),.list (ws.map wD),.list (hs.map hD),.list (gs.map gD)])),some (.d (.tuple [.list (ys.map kD),.list (ws2.map wD),.list (hs2.map hD),.list (gs2.map gD)])),some (.d (dq q)),some (.own (ms.map wD)),o1,o2]/\ms.length<=4 * i/\∀ m ∈ ms,∃ a b:Nat,a < xs.length/\b < ys.length/\m=((a:Int),(b:Int) + (xs.length:Int),q)) ⟨[],_,_,rfl,by decide,fun _ z=>nomatch z⟩ ?_ ?_⟩
  · rintro i e hi ⟨ms,o1,o2,rfl,hl,hm⟩
    have hi2:i < xs.length:=by omega
    trivial;refine ⟨⟨by omega,by omega⟩,K5 (fun j e=>∃ (ms:List (Int × Int × Rat)) (o2:Option SV),e=[some (.d (.tuple [.list (xs.map kD),.list (ws.map wD),.list (hs.map hD),.list (gs.map gD)])),some (.d (.tuple [.list (ys.map kD),.list (ws2.map wD),.list (hs2.map hD),.list (gs2.map gD)])),some (.d (dq q)),some (.own (ms.map wD)),some (.d (.int (i:Int))),o2]/\ms.length<=4 * i + j/\∀ m ∈ ms,∃ a b:Nat,a < xs.length/\b < ys.length/\m=((a:Int),(b:Int) + (xs.length:Int),q)) ⟨ms,_,rfl,hl,hm⟩ ?_ ?_⟩
    · rintro j e hj ⟨ms,o2,rfl,hl,hm⟩
      have hj2:j < ys.length:=by omega
      trivial;refine ⟨by omega,ms++[((i:Int),(j:Int) + (xs.length:Int),q)],_,by rw [Zc]; rfl,by rw [Ze,List.length_singleton]; omega,fun m h=>(Za h).elim (hm m) fun z=>⟨i,j,hi2,hj2,Zn z⟩⟩
    · rintro e ⟨ms,o2,rfl,hl,hm⟩
      exact ⟨ms,_,_,rfl,by omega,hm⟩
  rintro e ⟨ms,o1,o2,rfl,hl,hm⟩;trivial;exact ⟨xs,ys,ws,ws2,ms,hs,hs2,gs,gs2,rfl,hx,hy,hw,hw2,by omega,hh,hh2,hg,hg2,g10,nm,fun zs hz=>k zs ms hz (by omega) hm⟩
def A3h:Pu.PSp:=fun as Q=>∃ (xs:List Wk) (ws:List (Int × Int × Rat)) (hs:List (Str × Int × Rat)) (gs:List (List Int)),as=[.d (netD xs ws hs (gs.map gD))]/\ws.length<=1000/\Q (.d (netD xs (ws.map fun w=>(w.2.1,w.1,w.2.2)) [] (gs.map gD)))
theorem A3r (T:Txt K mg D):FnOk P w K mg base CX0 1 D.a_Lturned D.d_Lturned ["_law_net_here"] (Pu.spOf K [.dat] A3h):=by
  refine T.B.F_Lturned.ok sc_Lturned (Zz rfl) (fun cdv A outer s H vs Q E hr h=>?_);refine ⟨_,(QSs.out (A4 (A7 (A9 (A0 (qix K (qpv 0) A2) (A0 (D4 rfl (B3 ["_law_one","_law_other","_law_wait"] [none,none,none]) (C0 (K:=K) rfl (qix K (qpv 0) A2)) (fun _ _ _=>(C5 (K:=K) (n:=3) rfl rfl (A5 (qgc 0 ["_law_one","_law_other","_law_wait"]) (A5 (qgc 1 ["_law_one","_law_other","_law_wait"]) (A5 (qgc 2 ["_law_one","_law_other","_law_wait"]) C2))) rfl rfl)) (fun _ _ _=>C3) (fun _ _ _=>(A9 (A0 (qpv 1) (A0 (qpv 0) (A0 (qpv 2) A1)))))) (A0 (B4 A1) (A0 (qix K (qpv 0) A2) A1)))))))),?_⟩;refine Pu.F0 h ?_;rintro as Qp ⟨xs,ws,hs,gs,rfl,hl,k⟩;unfold netD at k ⊢;trivial;refine ⟨by omega,D6 (f:=wD) (xs:=ws) (fun i e ys=>∃ o1 o2 o3:Option SV,e=[o1,o2,o3]/\ys=((ws.take i).map fun w=>(w.2.1,w.1,w.2.2)).map wD) ⟨_,_,_,rfl,rfl⟩ ?_ ?_⟩
  · rintro i w e ys hw ⟨o1,o2,o3,rfl,rfl⟩
    rw [show wD w=PyData.tuple [.int w.1,.int w.2.1,dq w.2.2] from rfl];trivial;refine ⟨_,_,_,rfl,?_⟩;rw [List.take_succ,hw,Zc,Zc]; rfl
  rintro e ys ⟨o1,o2,o3,rfl,rfl⟩;rw [List.take_length];trivial;exact k
def A3j:Pu.PSp:=fun as Q=>∃ (xs:List Wk) (ws:List (Int × Int × Rat)) (hs:List (Str × Int × Rat)) (gs:List (List Int)) (c d:Rat),as=[.d (netD xs ws hs (gs.map gD)),.d (dq c),.d (dq d)]/\xs.length<=10/\ws.length<=200/\hs.length<=200/\(∀ x ∈ xs,x.2.2.length<=5/\∀ z ∈ x.2.2,SmQ 3900 z.1/\SmQ 3900 z.2)/\(∀ w ∈ ws,SmQ 3900 w.2.2)/\(∀ h ∈ hs,SmQ 3900 h.2.2)/\SmQ 3900 c/\SmQ 3900 d/\Q (.d (netD (xs.map (scX c d)) (ws.map (scW c)) (hs.map (scH c)) (gs.map gD)))
theorem A3t (T:Txt K mg D):FnOk P w K mg base CX0 3 D.a_Lscaled D.d_Lscaled ["_law_net_here","_law_span","_law_cost"] (Pu.spOf K [.dat,.dat,.dat] A3j):=by
  refine T.B.F_Lscaled.ok sc_Lscaled (Zz rfl) (fun cdv A outer s H vs Q E hr h=>?_);refine ⟨_,(QSs.out (A3 (qst 3 sc_Lscaled (B4 A1))
      (A3 (C9 Zf rfl (C0 (K:=K) rfl (qix K (qpv 0) A2)) (C5 (K:=K) (n:=2) rfl rfl (A5 (qgn 4 sc_Lscaled) (A5 (qgn 5 sc_Lscaled) C2)) rfl rfl)
        (A3 (E5 (i:=6) rfl sc_Lscaled.nd rfl rfl (B3 ["_law_span","_law_cost","_law_time","_law_price"] [some 1,some 2,none,none]) (C0 (K:=K) rfl (qix K (qpv 5) A2)) (fun _ _ _=>(C5 (K:=K) (n:=2) rfl rfl (A5 (qgc 2 ["_law_span","_law_cost","_law_time","_law_price"]) (A5 (qgc 3 ["_law_span","_law_cost","_law_time","_law_price"]) C2)) rfl rfl)) (fun _ _ _=>C3) (fun _ _ _=>(A9 (A0 (qcK (F8 (K:=K) T) hr.mo (G7 T) (A0 (qpv 0) (A0 (qpv 2) A1))) (A0 (qcK (F8 (K:=K) T) hr.mo (G7 T) (A0 (qpv 1) (A0 (qpv 3) A1))) A1)))) rfl)
        (A4 (D3 (E9 (K:=K) rfl Z1 Z2 Z3 C8 (qpv 3) (A0 (A9 (A0 (qpv 4) (A0 (A9 (A0 (qix K (qpv 5) A2) (A0 (qpv 6) A1))) A1))) A1))))))
      (A3 (E5 (i:=7) rfl sc_Lscaled.nd rfl rfl (B3 ["_law_span","_law_one","_law_other","_law_wait"] [some 1,none,none,none]) (C0 (K:=K) rfl (qix K (qpv 0) A2)) (fun _ _ _=>(C5 (K:=K) (n:=3) rfl rfl (A5 (qgc 1 ["_law_span","_law_one","_law_other","_law_wait"]) (A5 (qgc 2 ["_law_span","_law_one","_law_other","_law_wait"]) (A5 (qgc 3 ["_law_span","_law_one","_law_other","_law_wait"]) C2))) rfl rfl)) (fun _ _ _=>C3) (fun _ _ _=>(A9 (A0 (qpv 1) (A0 (qpv 2) (A0 (qcK (F8 (K:=K) T) hr.mo (G7 T) (A0 (qpv 0) (A0 (qpv 3) A1))) A1))))) rfl)
      (A4 (A7 (A9 (A0 (qpv 3) (A0 (qpv 7) (A0 (D4 rfl (B3 ["_law_span","_law_kind","_law_work","_law_moment"] [some 1,none,none,none]) (C0 (K:=K) rfl (qix K (qpv 0) A2)) (fun _ _ _=>(C5 (K:=K) (n:=3) rfl rfl (A5 (qgc 1 ["_law_span","_law_kind","_law_work","_law_moment"]) (A5 (qgc 2 ["_law_span","_law_kind","_law_work","_law_moment"]) (A5 (qgc 3 ["_law_span","_law_kind","_law_work","_law_moment"]) C2))) rfl rfl)) (fun _ _ _=>C3) (fun _ _ _=>(A9 (A0 (qpv 1) (A0 (qpv 2) (A0 (qcK (F8 (K:=K) T) hr.mo (G7 T) (A0 (qpv 0) (A0 (qpv 3) A1))) A1)))))) (A0 (qix K (qpv 0) A2) A1))))))))))),?_⟩
  refine Pu.F0 h ?_;rintro as Qp ⟨xs,ws,hs,gs,c,d,rfl,hx,hw,hh,sx,sw,sh,sc,sd,k⟩;unfold netD at k ⊢;trivial;refine G4 (f:=kD) (xs:=xs) (fun i e=>∃ o1 o2 o3:Option SV,e=[some (.d (.tuple [.list (xs.map kD),.list (ws.map wD),.list (hs.map hD),.list (gs.map gD)])),some (.d (dq c)),some (.d (dq d)),some (.own (((xs.take i).map (scX c d)).map kD)),o1,o2,o3,none]) ⟨_,_,_,rfl⟩ ?_ ?_
  · rintro i x e hxi ⟨o1,o2,o3,rfl⟩
    obtain ⟨l5,xz⟩:=sx x (Zm hxi);rw [show kD x=PyData.tuple [.str x.1,.tuple [.str x.2.1,.list (x.2.2.map dcn)]] from rfl];trivial;refine ⟨by omega,D6 (f:=dcn) (xs:=x.2.2) (fun i e ys=>∃ o1 o2:Option SV,e=[some (.d (dq c)),some (.d (dq d)),o1,o2]/\ys=((x.2.2.take i).map fun z=>(c * z.1,d * z.2)).map dcn) ⟨_,_,rfl,rfl⟩ ?_ ?_⟩
    · rintro i z e ys hz ⟨o1,o2,rfl,rfl⟩
      obtain ⟨z1,z2⟩:=xz z (Zm hz);trivial;refine ⟨c,z.1,rfl,sc,z1,?_⟩;trivial;refine ⟨d,z.2,rfl,sd,z2,?_⟩;trivial;refine ⟨_,_,rfl,?_⟩;rw [List.take_succ,hz,Zc,Zc]; rfl
    rintro e ys ⟨o1,o2,rfl,rfl⟩;rw [List.take_length];trivial;have hi:=(Zs hxi).1;exact ⟨by rw [List.length_take]; omega,_,_,_,by rw [List.take_succ,hxi,Zc,Zc]; rfl⟩
  rintro e ⟨o1,o2,o3,rfl⟩;rw [List.take_length];trivial;refine ⟨by omega,D6 (f:=wD) (xs:=ws) (fun i e ys=>∃ o1 o2 o3:Option SV,e=[some (.d (dq c)),o1,o2,o3]/\ys=((ws.take i).map (scW c)).map wD) ⟨_,_,_,rfl,rfl⟩ ?_ ?_⟩
  · rintro i w e ys hwi ⟨o1,o2,o3,rfl,rfl⟩
    rw [show wD w=PyData.tuple [.int w.1,.int w.2.1,dq w.2.2] from rfl];trivial;refine ⟨c,w.2.2,rfl,sc,sw w (Zm hwi),?_⟩;trivial;refine ⟨_,_,_,rfl,?_⟩;rw [List.take_succ,hwi,Zc,Zc]; rfl
  rintro e ys ⟨o1,o2,o3,rfl,rfl⟩;rw [List.take_length];trivial;refine ⟨by omega,D6 (f:=hD) (xs:=hs) (fun i e ys=>∃ o1 o2 o3:Option SV,e=[some (.d (dq c)),o1,o2,o3]/\ys=((hs.take i).map (scH c)).map hD) ⟨_,_,_,rfl,rfl⟩ ?_ ?_⟩
  · rintro i h e ys hhi ⟨o1,o2,o3,rfl,rfl⟩
    rw [show hD h=PyData.tuple [.str h.1,.int h.2.1,dq h.2.2] from rfl];trivial;refine ⟨c,h.2.2,rfl,sc,sh h (Zm hhi),?_⟩;trivial;refine ⟨_,_,_,rfl,?_⟩;rw [List.take_succ,hhi,Zc,Zc]; rfl
  rintro e ys ⟨o1,o2,o3,rfl,rfl⟩;rw [List.take_length];trivial;exact k
def U2:Pu.PSp:=fun as Q=>∃ (n:Int) (xs:List Wk) (ws:List (Int × Int × Rat)) (hs:List (Str × Int × Rat)) (gs:List (List Int)),as=[.st,.d (netD xs ws hs (gs.map gD))]/\NetG n xs ws hs gs/\∀ ts:List Rat,ts.length=xs.length->(∀ t ∈ ts,On (LL * 6) (2 ^ 50) t)->Q (.own (ts.map dq))
theorem U3 (T:Txt K mg D):FnOk P w K mg base CX0 3 D.a_Ltimesdrawn D.d_Ltimesdrawn ["_law_state","_law_net_here"] (Pu.spOf K [.st,.dat] U2):=by
  refine T.B.F_Ltimesdrawn.ok sc_Ltimesdrawn (Zz rfl) (fun cdv A outer s H vs Q E hr h=>?_);refine ⟨_,(QSs.out (A3 (qst 2 sc_Ltimesdrawn (B4 A1))
      (A3 (C9 Zf rfl (C0 (K:=K) rfl (qix K (qpv 1) A2)) (C5 (K:=K) (n:=2) rfl rfl (A5 (qgn 3 sc_Ltimesdrawn) (A5 (qgn 4 sc_Ltimesdrawn) C2)) rfl rfl)
        (A3 (qst 5 sc_Ltimesdrawn (qix K (qix K (qpv 4) A2) (qcK (B8 (K:=K) T) hr.mo (C4 T) (A0 (qpv 0) (A0 (qln K T.z_len (qix K (qpv 4) A2)) A1)))))
        (A3 (qst 6 sc_Ltimesdrawn (qix K (qpv 5) A2))
        (A3 (D2 (QW.pt (N9 (B2 (D5 (K:=K) rfl hr.units) (qix K (qpv 4) A2) C1 (B5 _)) (L0 (B2 (D5 (K:=K) rfl hr.units) (qcK (B8 (K:=K) T) hr.mo (C4 T) (A0 (qpv 0) (A0 A2 A1))) A2 (B5 _)))))
          (A4 (qst 6 sc_Ltimesdrawn (qcK (F8 (K:=K) T) hr.mo (G7 T) (A0 (qcK (F1 (K:=K) T) hr.mo (F7 T) (A0 (qix K (qix K (qix K (qpv 4) A2) A2) A2) (A0 (qix K (qix K (qix K (qpv 4) A2) (A2d A13 A2)) A2) A1))) (A0 (A9 (A0 A2 (A0 A2 A1))) A1)))))
          B7)
        (A4 (D3 (E9 (K:=K) rfl Z1 Z2 Z3 C8 (qpv 2) (A0 (qix K (B4 (A0 (qpv 6) (A0 (qix K (qix K (qix K (qpv 4) A2) (A2d A13 A2)) A2) A1))) (F3 A0z (by rfl) T.z_int (by rfl) (A0 (E6 (D5 (K:=K) rfl hr.units) (qcK (B8 (K:=K) T) hr.mo (C4 T) (A0 (qpv 0) (A0 A2 A1))) A2 (B5 _)) A1))) A1))))))))
      (A4 (A7 (qpv 2)))))),?_⟩
  refine Pu.F0 h ?_;rintro as Qp ⟨n,xs,ws,hs,gs,rfl,ok,k⟩;unfold netD;trivial;refine G4 (f:=kD) (xs:=xs) (fun i e=>∃ (ts:List Rat) (o1 o2 o3 o4:Option SV),e=[some .st,some (.d (.tuple [.list (xs.map kD),.list (ws.map wD),.list (hs.map hD),.list (gs.map gD)])),some (.own (ts.map dq)),o1,o2,o3,o4]/\ts.length=i/\∀ t ∈ ts,On (LL * 6) (2 ^ 50) t) ⟨[],_,_,_,_,rfl,rfl,fun _ z=>nomatch z⟩ ?_ ?_
  · rintro i x e hx ⟨ts,o1,o2,o3,o4,rfl,hl,ht⟩
    obtain ⟨hk,og,oc⟩:=ok.of x (Zm hx);have okc:=og.ok;have n1:=okc.ne;have n5:=okc.le;have hi:=(Zs hx).1;have hx10:xs.length<=10:=by have:=ok.ln; have:=ok.n1; omega
    rw [show kD x=PyData.tuple [.str x.1,.tuple [.str x.2.1,.list (x.2.2.map dcn)]] from rfl];trivial;refine ⟨(x.2.2.length:Int),by simp,by omega,K7 (B:=5) (by omega) (by omega) (by decide),fun a a0 a1=>?_⟩;trivial;obtain ⟨m,rfl⟩:=Zi a0;obtain ⟨c,ec⟩:∃ c,x.2.2[m]?=some c:=⟨_,Zg (by omega)⟩;have o1:=(oc c (Zm ec)).1;have e0:=B0o n1;have el:=B0k n1;have of:=(oc _ (Zm e0)).1;have ol:=(oc _ (Zm el)).1;have on6:∀ {q:Rat},On LL (2 ^ 45) q->On (LL * 6) (2 ^ 50) q:=fun o=>(o.up (by decide)).p2 (by decide);refine J0 ec ?_;trivial;refine ⟨hk.lay,A54,?_⟩;refine ite2 (fun h=>?_) (fun h=>?_)
    · refine ⟨3,rfl,by decide,sm4 3,fun d d0 d3=>?_⟩
      trivial;refine ite2 (fun h=>?_) (fun h=>?_)
      · refine J0 (n:=0) e0 ?_
        trivial;refine M8 (xs:=x.2.2) el (by omega) ?_;trivial;have sf:=(okc.sm _ (Zm e0)).1;have sl:=(okc.sm _ (Zm el)).1;refine ⟨_,_,rfl,sf.q (by decide) (by decide),sl.q (by decide) (by decide),?_⟩;trivial;refine ⟨_,half,rfl,(sf.add sl).q (by decide) (by decide),A15,?_⟩;trivial;have om:On (LL * 6) (2 ^ 50) (((fstC x.2.2).1 + (lstC x.2.2).1) * half):=by
          have:=((of.add2 (b:=46) I0 ol (by decide)).mul on_half).up (C:=3) (by decide);rw [Nat.mul_assoc] at this;exact this.mono (by decide)
        refine M8 (xs:=x.2.2) el (by omega) ?_;trivial;refine ⟨3,rfl,by decide,sm4 3,fun d d0 d3=>?_⟩;trivial;by_cases hd:d=0
        · rw [if_pos hd]
          refine B6 rfl ?_;trivial;exact ⟨by rw [hl]; omega,ts++[(lstC x.2.2).1],_,_,_,_,by rw [Zc]; rfl,by rw [Ze,List.length_singleton]; omega,fun z hz=>(Za hz).elim (ht z) fun q=>by rw [Zn q]; exact on6 ol⟩
        · rw [if_neg hd]
          refine B6 rfl ?_;trivial;exact ⟨by rw [hl]; omega,ts++[((fstC x.2.2).1 + (lstC x.2.2).1) * half],_,_,_,_,by rw [Zc]; rfl,by rw [Ze,List.length_singleton]; omega,fun z hz=>(Za hz).elim (ht z) fun q=>by rw [Zn q]; exact om⟩
      · refine M8 (xs:=x.2.2) el (by omega) ?_
        trivial;refine ⟨3,rfl,by decide,sm4 3,fun d d0 d3=>?_⟩;trivial;by_cases hd:d=0
        · rw [if_pos hd]
          refine B6 rfl ?_;trivial;exact ⟨by rw [hl]; omega,ts++[(lstC x.2.2).1],_,_,_,_,by rw [Zc]; rfl,by rw [Ze,List.length_singleton]; omega,fun z hz=>(Za hz).elim (ht z) fun q=>by rw [Zn q]; exact on6 ol⟩
        · rw [if_neg hd]
          refine B6 rfl ?_;trivial;exact ⟨by rw [hl]; omega,ts++[c.1],_,_,_,_,by rw [Zc]; rfl,by rw [Ze,List.length_singleton]; omega,fun z hz=>(Za hz).elim (ht z) fun q=>by rw [Zn q]; exact on6 o1⟩
    · refine M8 (xs:=x.2.2) el (by omega) ?_
      trivial;refine ⟨3,rfl,by decide,sm4 3,fun d d0 d3=>?_⟩;trivial;by_cases hd:d=0
      · rw [if_pos hd]
        refine B6 rfl ?_;trivial;exact ⟨by rw [hl]; omega,ts++[(lstC x.2.2).1],_,_,_,_,by rw [Zc]; rfl,by rw [Ze,List.length_singleton]; omega,fun z hz=>(Za hz).elim (ht z) fun q=>by rw [Zn q]; exact on6 ol⟩
      · rw [if_neg hd]
        refine B6 rfl ?_;trivial;exact ⟨by rw [hl]; omega,ts++[c.1],_,_,_,_,by rw [Zc]; rfl,by rw [Ze,List.length_singleton]; omega,fun z hz=>(Za hz).elim (ht z) fun q=>by rw [Zn q]; exact on6 o1⟩
  rintro e ⟨ts,o1,o2,o3,o4,rfl,hl,ht⟩;trivial;exact k ts (by simpa using hl) ht
def A3i:Pu.PSp:=fun as Q=>∃ (xs:List Wk) (ws:List (Int × Int × Rat)) (hs:List (Str × Int × Rat)) (gs:List (List Int)) (ts:List Rat) (B k0:Nat),as=[.d (netD xs ws hs (gs.map gD)),.d (.list (ts.map dq))]/\0 < k0/\NB ts.length ws hs ts B k0/\∀ ss:List Rat,ss.length=ts.length->(∀ s ∈ ss,On B (1024 * k0) s)->Q (.own ((ss.zip ts).map dcn))
theorem A3s (T:Txt K mg D):FnOk P w K mg base CX0 3 D.a_Lstarts D.d_Lstarts ["_law_net_here","_law_times_here"] (Pu.spOf K [.dat,.dat] A3i):=by
  refine T.B.F_Lstarts.ok sc_Lstarts (Zz rfl) (fun cdv A outer s H vs Q E hr h=>?_);refine ⟨_,(QSs.out (A3 (E5 (i:=2) rfl sc_Lstarts.nd rfl rfl (B3 ["_law_time"] [none]) (C0 (K:=K) rfl (qpv 1)) (fun _ _ _=>(qgc 0 ["_law_time"])) (fun _ _ _=>C3) (fun _ _ _=>(A9 (A0 A2 (A0 A2 A1)))) rfl)
      (A3 (C9 Zf rfl (D8 rfl T.z_range (A0 (A8 E8 (qln K T.z_len (qpv 1)) A2) A1)) (qgn 3 sc_Lstarts)
        (A3 (C9 Zf rfl (C0 (K:=K) rfl (qix K (qpv 0) A2)) (C5 (K:=K) (n:=3) rfl rfl (A5 (qgn 4 sc_Lstarts) (A5 (qgn 5 sc_Lstarts) (A5 (qgn 6 sc_Lstarts) C2))) rfl rfl)
          (A4 (D2 (QW.pt (N9 (B2 (D5 (K:=K) rfl hr.units) (qpv 4) C1 (B5 _)) (L0 (G3 (qcK (T1 (K:=K) T) hr.mo (X8 T) (A0 (qix K (qpv 2) (qpv 5)) (A0 (qpv 6) A1)))))))
            (A4 (L1 (qpv 6) (A1h (qpv 2) (qpv 5) N3)))
            B7)))
        (A4 (C9 Zf rfl (C0 (K:=K) rfl (qix K (qpv 0) A2)) (C5 (K:=K) (n:=3) rfl rfl (A5 (qgn 7 sc_Lstarts) (A5 (qgn 8 sc_Lstarts) (A5 (qgn 9 sc_Lstarts) C2))) rfl rfl)
          (A3 (qst 10 sc_Lstarts (qcK (F1 (K:=K) T) hr.mo (F7 T) (A0 (qcK (F1 (K:=K) T) hr.mo (F7 T) (A0 (qix K (qpv 2) (qpv 7)) (A0 (qix K (qpv 1) (qpv 7)) A1))) (A0 (qpv 9) A1))))
          (A4 (D2 (G3 (qcK (T1 (K:=K) T) hr.mo (X8 T) (A0 (qix K (qpv 2) (qpv 8)) (A0 (qpv 10) A1))))
            (A4 (L1 (qpv 10) (A1h (qpv 2) (qpv 8) N3)))
            B7)))))))
      (A4 (A7 (D4 rfl (B3 ["_law_start","_law_time"] [none,none]) (A7y (K:=K) rfl rfl T.z_zip (A0 (qpv 2) (A0 (qpv 1) A1))) (fun _ _ _=>(C5 (K:=K) (n:=2) rfl rfl (A5 (qgc 0 ["_law_start","_law_time"]) (A5 (qgc 1 ["_law_start","_law_time"]) C2)) rfl rfl)) (fun _ _ _=>C3) (fun _ _ _=>(A9 (A0 (qpv 0) (A0 (qpv 1) A1)))))))))),?_⟩
  refine Pu.F0 h ?_;rintro as Qp ⟨xs,ws,hs,gs,ts,B,k0,rfl,kp,ok,k⟩;have l6:=ok.n6;have hB:=ok.hB;unfold netD;trivial;refine ⟨by omega,D6 (f:=dq) (xs:=ts) (fun i e ys=>∃ o1:Option SV,e=[o1]/\ys=(List.replicate i (0:Rat)).map dq) ⟨_,rfl,rfl⟩ ?_ ?_⟩
  · rintro i p e ys hp ⟨o1,rfl,rfl⟩
    trivial;refine ⟨_,rfl,?_⟩;show _=(List.replicate (i + 1) (0:Rat)).map dq;rw [List.replicate_succ',Zc]; rfl
  rintro e ys ⟨o1,rfl,rfl⟩;trivial;refine ⟨⟨by omega,by omega⟩,?_⟩;refine K5 (fun i e=>∃ (ss:List Rat) (o1 o2 o3 o4 o5 o6 o7 o8:Option SV),e=[some (.d (.tuple [.list (xs.map kD),.list (ws.map wD),.list (hs.map hD),.list (gs.map gD)])),some (.d (.list (ts.map dq))),some (.own (ss.map dq)),o1,o2,o3,o4,o5,o6,o7,o8]/\ss.length=ts.length/\∀ s ∈ ss,On B ((1 + 80 * i) * k0) s) ⟨List.replicate ts.length 0,_,_,_,_,_,_,_,_,rfl,by simp,fun s hs=>by rw [(List.mem_replicate.mp hs).2]; exact On.zero.mono (Nat.zero_le _)⟩ ?_ ?_
  · rintro i e hi ⟨ss,o1,o2,o3,o4,o5,o6,o7,o8,rfl,hl,hon⟩
    have hi3:i < 11:=by omega
    trivial;refine G4 (f:=hD) (xs:=hs) (fun j e=>∃ (ss:List Rat) (o2 o3 o4 o5 o6 o7 o8:Option SV),e=[some (.d (.tuple [.list (xs.map kD),.list (ws.map wD),.list (hs.map hD),.list (gs.map gD)])),some (.d (.list (ts.map dq))),some (.own (ss.map dq)),some (.d (.int (i:Int))),o2,o3,o4,o5,o6,o7,o8]/\ss.length=ts.length/\∀ s ∈ ss,On B ((1 + 80 * i) * k0) s) ⟨ss,_,_,_,_,_,_,_,rfl,hl,hon⟩ ?_ ?_
    · rintro j x e hj ⟨ss,o2,o3,o4,o5,o6,o7,o8,rfl,hl,hon⟩
      obtain ⟨h1,h2,h3⟩:=ok.hh x (Zm hj);have oo:=hon _ (W1 (ss:=ss) h2.1 (by rw [hl]; exact h2.2));have h3':On B (1 * k0) x.2.2:=by rw [Nat.one_mul]; exact h3
      rw [show hD x=PyData.tuple [.str x.1,.int x.2.1,dq x.2.2] from rfl];trivial;refine ⟨h1.lay,A56,?_⟩;refine ite2 (fun h=>?_) (fun h=>?_)
      · refine B6 (A2a h2.1 (by rw [hl]; exact h2.2)) ?_
        trivial;refine ⟨_,_,rfl,on_q hB ok.hk kp oo (by omega),on_q hB ok.hk kp h3' (by omega),?_⟩;trivial;refine ite2 (fun h=>?_) (fun h=>?_)
        · refine ⟨x.2.1.toNat,by rw [hl]; exact B0l h2.1 h2.2,ss.set x.2.1.toNat x.2.2,_,_,_,_,_,_,_,by rw [List.map_set],by rw [List.length_set]; exact hl,fun s hs=>?_⟩
          rcases List.mem_or_eq_of_mem_set hs with z | z
          · exact hon s z
          · rw [z]; exact h3'.mono (Zu _ (by omega))
        · exact ⟨ss,_,_,_,_,_,_,_,rfl,hl,hon⟩
      · exact ⟨ss,_,_,_,_,_,_,_,rfl,hl,hon⟩
    · rintro e ⟨ss,o2,o3,o4,o5,o6,o7,o8,rfl,hl,hon⟩
      trivial;refine G4 (f:=wD) (xs:=ws) (fun j e=>∃ (ss:List Rat) (o2 o3 o4 o5 o6 o7 o8:Option SV),e=[some (.d (.tuple [.list (xs.map kD),.list (ws.map wD),.list (hs.map hD),.list (gs.map gD)])),some (.d (.list (ts.map dq))),some (.own (ss.map dq)),some (.d (.int (i:Int))),o2,o3,o4,o5,o6,o7,o8]/\ss.length=ts.length/\∀ s ∈ ss,On B ((1 + 80 * i + 2 * j) * k0) s) ⟨ss,_,_,_,_,_,_,_,rfl,hl,hon⟩ ?_ ?_
      · rintro j w e hj ⟨ss,o2,o3,o4,o5,o6,o7,o8,rfl,hl,hon⟩
        obtain ⟨w1,w2,w3⟩:=ok.hw w (Zm hj);have hjl:j < ws.length:=(Zs hj).1;have hwl:=ok.wl;have os:=hon _ (W1 (ss:=ss) w1.1 (by rw [hl]; exact w1.2));have oo:=hon _ (W1 (ss:=ss) w2.1 (by rw [hl]; exact w2.2));have ot:=ok.ht _ (W1 w1.1 w1.2);have ost:On B ((2 + 80 * i + 2 * j) * k0) (rat ss w.1 + rat ts w.1):=(A5k hB os ot).mono (Zu _ (by omega));have osl:On B ((3 + 80 * i + 2 * j) * k0) (rat ss w.1 + rat ts w.1 + w.2.2):=(A5k hB ost w3).mono (Zu _ (by omega));rw [show wD w=PyData.tuple [.int w.1,.int w.2.1,dq w.2.2] from rfl];trivial;refine B6 (A2a w1.1 (by rw [hl]; exact w1.2)) ?_;trivial;refine B6 (A2a w1.1 w1.2) ?_;trivial;refine ⟨_,_,rfl,on_q hB ok.hk kp os (by omega),on_q hB ok.hk kp (l:=1) (by rw [Nat.one_mul]; exact ot) (by omega),?_⟩;trivial;refine ⟨_,_,rfl,on_q hB ok.hk kp ost (by omega),on_q hB ok.hk kp (l:=1) (by rw [Nat.one_mul]; exact w3) (by omega),?_⟩;trivial;refine B6 (A2a w2.1 (by rw [hl]; exact w2.2)) ?_;trivial;refine ⟨_,_,rfl,on_q hB ok.hk kp oo (by omega),on_q hB ok.hk kp osl (by omega),?_⟩;trivial;refine ite2 (fun h=>?_) (fun h=>?_)
        · refine ⟨w.2.1.toNat,by rw [hl]; exact B0l w2.1 w2.2,ss.set w.2.1.toNat (rat ss w.1 + rat ts w.1 + w.2.2),_,_,_,_,_,_,_,by rw [List.map_set],by rw [List.length_set]; exact hl,fun s hs=>?_⟩
          rcases List.mem_or_eq_of_mem_set hs with z | z
          · exact (hon s z).mono (Zu _ (by omega))
          · rw [z]; exact osl.mono (Zu _ (by omega))
        · exact ⟨ss,_,_,_,_,_,_,_,rfl,hl,fun s hs=>(hon s hs).mono (Zu _ (by omega))⟩
      · rintro e ⟨ss,o2,o3,o4,o5,o6,o7,o8,rfl,hl,hon⟩
        have hwl:=ok.wl;exact ⟨ss,_,_,_,_,_,_,_,_,rfl,hl,fun s hs=>(hon s hs).mono (Zu _ (by first | omega | (simp only [List.length_map]; omega)))⟩
  · rintro e ⟨ss,o1,o2,o3,o4,o5,o6,o7,o8,rfl,hl,hon⟩
    trivial;rw [A36];refine ⟨by rw [Zl,List.length_zip]; omega,D6 (f:=dcn) (xs:=ss.zip ts) (fun i e ys=>∃ o1 o2:Option SV,e=[o1,o2]/\ys=((ss.zip ts).take i).map dcn) ⟨_,_,rfl,rfl⟩ ?_ ?_⟩
    · rintro i p e ys hp ⟨o1,o2,rfl,rfl⟩
      trivial;refine ⟨_,_,rfl,?_⟩;rw [List.take_succ,hp,Zc]; rfl
    rintro e ys ⟨o1,o2,rfl,rfl⟩;rw [List.take_length];trivial;exact k ss hl fun s hs=>(hon s hs).mono (Zu _ (by omega))
def A41:Pu.PSp:=fun as Q=>∃ (ps:List (Rat × Rat)) (B k:Nat),as=[.d (.list (ps.map dcn))]/\0 < B/\0 < k/\2 ^ 12 * k * B < 2 ^ 3900/\ps.length<=10/\PlOn B k ps/\∀ v:Rat,0<=v->On B (2 * k) v->Q (.d (dq v))
theorem A5l (T:Txt K mg D):FnOk P w K mg base CX0 3 D.a_Lwhole D.d_Lwhole ["_law_plan_here"] (Pu.spOf K [.dat] A41):=by
  refine T.B.F_Lwhole.ok sc_Lwhole (Zz rfl) (fun cdv A outer s H vs Q E hr h=>?_);refine ⟨_,(QSs.out (A3 (qst 1 sc_Lwhole (A9 (A0 A2 (A0 A2 A1))))
      (A3 (C9 Zf rfl (C0 (K:=K) rfl (qpv 0)) (C5 (K:=K) (n:=2) rfl rfl (A5 (qgn 2 sc_Lwhole) (A5 (qgn 3 sc_Lwhole) C2)) rfl rfl)
        (A3 (qst 4 sc_Lwhole (qcK (F1 (K:=K) T) hr.mo (F7 T) (A0 (qpv 2) (A0 (qpv 3) A1))))
        (A4 (D2 (G3 (qcK (T1 (K:=K) T) hr.mo (X8 T) (A0 (qpv 1) (A0 (qpv 4) A1))))
          (A4 (qst 1 sc_Lwhole (qpv 4)))
          B7))))
      (A4 (A7 (qpv 1)))))),?_⟩
  refine Pu.F0 h ?_;rintro as Qp ⟨ps,B,k0,rfl,hB,hk,hs,hl,po,k⟩;trivial;have smq:∀ {q:Rat},On B (2 * k0) q->SmQ 3900 q:=fun o=>on_q hB hs hk o (by decide);refine G4 (f:=dcn) (xs:=ps) (fun i e=>∃ (o1 o2 o3:Option SV) (v:Rat),e=[some (.d (.list (ps.map dcn))),some (.d (dq v)),o1,o2,o3]/\0<=v/\On B (2 * k0) v) ⟨_,_,_,0,rfl,Rat.le_refl,On.zero.mono (Nat.zero_le _)⟩ ?_ ?_
  · rintro i p e hp ⟨o1,o2,o3,v,rfl,v0,ov⟩
    obtain ⟨p1,p2⟩:=po p (Zm hp);have oe:On B (2 * k0) (p.1 + p.2):=(p1.add hB p2).mono (by omega);trivial;refine ⟨p.1,p.2,rfl,smq (p1.mono (by omega)),smq (p2.mono (by omega)),?_⟩;trivial;refine ⟨v,p.1 + p.2,rfl,smq ov,smq oe,?_⟩;trivial;refine ite2 (fun h=>?_) (fun h=>?_)
    · exact ⟨_,_,_,_,rfl,by grind,oe⟩
    · exact ⟨_,_,_,_,rfl,v0,ov⟩
  rintro e ⟨o1,o2,o3,v,rfl,v0,ov⟩;trivial;exact k v v0 ov
def A77:Pu.PSp:=fun as Q=>∃ (n:Int) (xs:List Wk) (ws:List (Int × Int × Rat)) (hs:List (Str × Int × Rat)) (gs:List (List Int)),as=[.st,.d (netD xs ws hs (gs.map gD))]/\NetG n xs ws hs gs/\∀ (ps:List (Rat × Rat)) (v:Rat),ps.length=xs.length->PlOn (LL * 18) (2 ^ 74) ps->0<=v->On (LL * 18) (2 ^ 74) v->Q (.own [.list (ps.map dcn),dq v])
theorem A2p (T:Txt K mg D):FnOk P w K mg base CX0 4 D.a_Lplan D.d_Lplan ["_law_state","_law_net_here"] (Pu.spOf K [.st,.dat] A77):=by
  refine T.B.F_Lplan.ok sc_Lplan (Zz rfl) (fun cdv A outer s H vs Q E hr h=>?_);refine ⟨_,(QSs.out (A3 (qst 2 sc_Lplan (qcK (A3s (K:=K) T) hr.mo (A69 T) (A0 (qpv 1) (A0 (qcK (U3 (K:=K) T) hr.mo (X9 T) (A0 (qpv 0) (A0 (qpv 1) A1))) A1))))
      (A3 (D2 (B2 (D5 (K:=K) rfl hr.units) (qcK (B8 (K:=K) T) hr.mo (C4 T) (A0 (qpv 0) (A0 A2 A1))) A2 (B5 _))
        (A3 (qst 3 sc_Lplan (qcK (B8 (K:=K) T) hr.mo (C4 T) (A0 (qpv 0) (A0 (qln K T.z_len (qpv 2)) A1))))
        (A3 (qst 4 sc_Lplan (qcK (F4 (K:=K) T) hr.mo (F9 T) (A0 (qpv 0) (A0 J6 (A0 A2 A1)))))
        (A3 (qst 5 sc_Lplan (qix K (B4 (A0 (qcK (F1 (K:=K) T) hr.mo (F7 T) (A0 (qix K (qix K (qpv 2) (qpv 3)) A2) (A0 (qpv 4) A1))) (A0 (qcK (N0 (K:=K) T) hr.mo (P1 T) (A0 (qix K (qix K (qpv 2) (qpv 3)) A2) (A0 (qpv 4) A1))) A1))) (qcK (B8 (K:=K) T) hr.mo (C4 T) (A0 (qpv 0) (A0 A2 A1)))))
        (A4 (qst 2 sc_Lplan (A8 (L6 (K:=K) rfl) (A8 (L6 (K:=K) rfl) (J4 (K9 (K:=K) rfl) (qpv 2) L4 (L3 (qpv 3))) (B4 (A0 (A9 (A0 (qpv 5) (A0 (qix K (qix K (qpv 2) (qpv 3)) A2) A1))) A1))) (J4 (K9 (K:=K) rfl) (qpv 2) (L3 (A8 E8 (qpv 3) A2)) L4)))))))
        B7)
      (A3 (qst 6 sc_Lplan (qcK (A5l (K:=K) T) hr.mo (A9y T) (A0 (qpv 2) A1)))
      (A4 (A7 (B4 (A0 (qpv 2) (A0 (qix K (B4 (A0 (qpv 6) (A0 (qpv 6) (A0 (qcK (F1 (K:=K) T) hr.mo (F7 T) (A0 (qpv 6) (A0 (A9 (A0 A2 (A0 A2 A1))) A1))) (A0 (qcK (F8 (K:=K) T) hr.mo (G7 T) (A0 (qpv 6) (A0 (A9 (A0 A2 (A0 A2 A1))) A1))) A1))))) (qcK (B8 (K:=K) T) hr.mo (C4 T) (A0 (qpv 0) (A0 A2 A1)))) A1))))))))),?_⟩
  refine Pu.F0 h ?_;rintro as Qp ⟨n,xs,ws,hs,gs,rfl,ok,k⟩;have h1:=ok.ln;have h2:=ok.n0;have h3:=ok.n1;trivial;refine ⟨n,xs,ws,hs,gs,rfl,ok,fun ts tl ton=>?_⟩;trivial;have B0:0 < LL * 6:=by decide
  have hsm:2 ^ 12 * 2 ^ 74 * (LL * 6) < 2 ^ 3900:=Nat.lt_of_lt_of_le (show _ < 2 ^ 300 from Nat.le_of_ble_eq_true rfl) (Zp (by decide) (by decide));have nb:NB ts.length ws hs ts (LL * 6) (2 ^ 60):=by
    refine ⟨B0,Nat.lt_of_lt_of_le (show _ < 2 ^ 300 from Nat.le_of_ble_eq_true rfl) (Zp (by decide) (by decide)),rfl,by omega,by omega,ok.wl,ok.hl,fun t ht=>(ton t ht).p2 (by decide),fun w hw=>?_,fun h hh=>?_⟩
    · obtain ⟨w1,w2,w3⟩:=ok.wk w hw
      exact ⟨⟨w1.1,by omega⟩,⟨w2.1,by omega⟩,(w3.up (by decide)).p2 (by decide)⟩
    · obtain ⟨w1,w2,w3⟩:=ok.hk h hh
      exact ⟨w1,⟨w2.1,by omega⟩,(w3.up (by decide)).p2 (by decide)⟩
  refine ⟨xs,ws,hs,gs,ts,_,_,rfl,by decide,nb,fun ss sl son=>?_⟩;obtain ⟨ps,hps⟩:∃ ps,ps=ss.zip ts:=⟨_,rfl⟩;rw [<- hps];have lp:ps.length=xs.length:=by rw [hps,List.length_zip]; omega
  have op:PlOn (LL * 6) (2 ^ 71) ps:=fun p hp=>by
    rw [hps] at hp;have:=List.of_mem_zip (show (p.1,p.2) ∈ ss.zip ts from hp);exact ⟨(son _ this.1).mono (by decide),(ton _ this.2).p2 (by decide)⟩
  have smp:∀ {q:Rat} (l:Nat),On (LL * 6) (2 ^ l) q->l<=80->SmQ 3900 q:=fun l o hl=>onQ o B0 (Zx (Nat.le_of_ble_eq_true rfl:LL * 6<=2 ^ 110) (Zp (by decide) (by decide))) (Zp (by decide) (by omega));trivial;refine ⟨2,rfl,by decide,sm4 2,fun d d0 d2=>?_⟩;trivial;refine ite2 (fun h=>?_) (fun h=>?_);case' refine_1 =>
    refine ⟨(ps.length:Int),by simp,by omega,K7 (B:=10) (by omega) (by omega) (by decide),fun a a0 a1=>?_⟩;trivial;refine ⟨_,_,rfl,.inl rfl,fun m m0 _ sm _=>?_⟩;trivial;obtain ⟨r,rfl⟩:=Zi a0;obtain ⟨p,ep⟩:∃ p,ps[r]?=some p:=⟨_,Zg (by omega)⟩;have pp:=op p (Zm ep);have om:On (LL * 6) (2 ^ 71) m:=((G9 sm).up (by decide)).p2 (by decide);refine J0 ep ?_;trivial;refine ⟨p.1,m,rfl,smp 71 pp.1 (by decide),smp 71 om (by decide),?_⟩;trivial;refine J0 ep ?_;trivial;refine ⟨p.1,m,rfl,smp 71 pp.1 (by decide),smp 71 om (by decide),?_⟩;trivial;refine ⟨2,rfl,by decide,sm4 2,fun f f0 f2=>?_⟩;trivial;have hgo:∀ q:Rat,q=p.1 + m\/q=p.1 - m->On (LL * 6) (2 ^ 72) q:=fun q hq=>by
      rcases hq with rfl | rfl
      · exact pp.1.add2 B0 om (by decide)
      · exact pp.1.sub2 B0 om (by decide)
    obtain ⟨q,hq,eq⟩:∃ q:Rat,(q=p.1 + m\/q=p.1 - m)/\L2.atI [dq (p.1 + m),dq (p.1 - m)] f=some (dq q):=by
      rcases (show f=0\/f=1 by omega) with rfl | rfl
      · exact ⟨_,.inl rfl,rfl⟩
      · exact ⟨_,.inr rfl,rfl⟩
    refine B6 eq ?_;trivial;refine J0 ep ?_;trivial;have hr:r < ps.length:=(Zs ep).1;have ec:cutD (ps.map dcn) none (some (r:Int))++[PyData.tuple [dq q,dq p.2]]++cutD (ps.map dcn) (some ((r:Int) + 1)) none=(ps.take r++[(q,p.2)]++ps.drop (r + 1)).map dcn:=by
      rw [A6v hr,A6w hr,Zc,Zc,List.map_take,List.map_drop]; rfl
    have ll:(ps.take r++[(q,p.2)]++ps.drop (r + 1)).length=xs.length:=by
      rw [Ze,Ze,List.length_take,List.length_drop,List.length_singleton]; omega
    have oo:PlOn (LL * 6) (2 ^ 72) (ps.take r++[(q,p.2)]++ps.drop (r + 1)):=fun z hz=>by
      rcases Za hz with hz | hz
      · rcases Za hz with hz | hz
        · have:=op z (List.mem_of_mem_take hz); exact ⟨this.1.p2 (by decide),this.2.p2 (by decide)⟩
        · rw [Zn hz]; exact ⟨hgo q hq,pp.2.p2 (by decide)⟩
      · have:=op z (List.mem_of_mem_drop hz); exact ⟨this.1.p2 (by decide),this.2.p2 (by decide)⟩
    have c1:=congrArg List.length ec;rw [Zl,ll,Ze,Ze,List.length_singleton] at c1;refine ⟨by omega,by rw [Ze,List.length_singleton]; omega,?_⟩;rw [ec];revert ll oo;generalize (ps.take r++[(q,p.2)]++ps.drop (r + 1))=rs;intro ll oo
  case' refine_2 =>
    have ll:=lp;have oo:PlOn (LL * 6) (2 ^ 72) ps:=fun z hz=>⟨(op z hz).1.p2 (by decide),(op z hz).2.p2 (by decide)⟩;revert ll oo;generalize ps=rs;intro ll oo
  all_goals
    refine ⟨rs,LL * 6,2 ^ 72,rfl,B0,by decide,Nat.lt_of_le_of_lt (Zu _ (Nat.mul_le_mul_left _ (Zp (by decide) (by decide)))) hsm,by omega,oo,fun v v0 ov=>?_⟩;trivial;have smp2:∀ {q:Rat} (l:Nat),On (LL * 6) (2 ^ l) q->l<=80->SmQ 3900 q:=smp;have ov:On (LL * 6) (2 ^ 73) v:=ov.mono (by decide);refine ⟨v,_,rfl,smp 73 ov (by decide),B6q,?_⟩;trivial;refine ⟨v,_,rfl,smp 73 ov (by decide),B1i,?_⟩;trivial;refine ⟨4,rfl,by decide,sm4 4,fun g g0 g4=>?_⟩;trivial;have eh:Rat.divInt 1 2=half:=by decide +kernel
    have e2:Rat.divInt 2 3=th23:=by decide +kernel
    have e18:LL * 6 * 3=LL * 18:=by decide +kernel
    have up:∀ {q:Rat},On (LL * 6) (2 ^ 74) q->On (LL * 18) (2 ^ 74) q:=fun o=>by
      have:=o.up (C:=3) (by decide)
      rwa [e18] at this
    obtain ⟨u,u0,ou,eu⟩:∃ u:Rat,0<=u/\On (LL * 18) (2 ^ 74) u/\L2.atI [dq v,dq v,dq (v + Rat.divInt 1 2),dq (v * Rat.divInt 2 3)] g=some (dq u):=by
      rcases (show g=0\/g=1\/g=2\/g=3 by omega) with rfl | rfl | rfl | rfl
      · exact ⟨v,v0,up (ov.p2 (by decide)),rfl⟩
      · exact ⟨v,v0,up (ov.p2 (by decide)),rfl⟩
      · refine ⟨_,?_,up (ov.add2 B0 (q:=Rat.divInt 1 2) ?_ (by decide)),rfl⟩
        · have:(0:Rat)<=Rat.divInt 1 2:=by decide +kernel
          grind
        · have:=(on_half.up (C:=LL * 3) (by decide))
          rw [show 2 * (LL * 3)=LL * 6 by decide +kernel] at this;rw [eh];exact this.mono (by decide)
      · refine ⟨_,Rat.mul_nonneg v0 (by decide +kernel),?_,rfl⟩
        have:=ov.mul C21;rw [e18,<- e2] at this;exact this.mono (by decide)
    refine B6 eu ?_;trivial;exact k rs u ll (fun p hp=>⟨up ((oo p hp).1.p2 (by decide)),up ((oo p hp).2.p2 (by decide))⟩) u0 ou
def W5:Pu.PSp:=fun as Q=>∃ (ps qs:List (Rat × Rat)) (w v c:Rat) (B k:Nat),as=[.d (.list (ps.map dcn)),.d (.list (qs.map dcn)),.d (dq w),.d (dq v),.d (dq c)]/\ps.length<=10/\qs.length<=10/\0 < B/\0 < k/\2 ^ 12 * k * B < 2 ^ 3900/\PlOn B k ps/\PlOn B k qs/\On B k w/\On B k v/\On B k c/\Q (.d (.bool true))
theorem O7 (T:Txt K mg D):FnOk P w K mg base CX0 5 D.a_Ltoldright D.d_Ltoldright ["_law_one","_law_other","_law_later","_law_whole_here","_law_span"] (Pu.spOf K [.dat,.dat,.dat,.dat,.dat] W5):=by
  refine T.B.F_Ltoldright.ok sc_Ltoldright (Zz rfl) (fun cdv A outer s H vs Q E hr h=>?_);refine ⟨_,(QSs.out (A3 (qst 5 sc_Ltoldright (B4 (A0 (A8 (L6 (K:=K) rfl) (qpv 0) (qpv 1)) A1)))
      (A3 (D3 (E9 (K:=K) rfl Z1 Z2 Z3 C8 (qpv 5) (A0 (D4 rfl (B3 ["_law_later","_law_start","_law_time"] [some 2,none,none]) (C0 (K:=K) rfl (qpv 0)) (fun _ _ _=>(C5 (K:=K) (n:=2) rfl rfl (A5 (qgc 1 ["_law_later","_law_start","_law_time"]) (A5 (qgc 2 ["_law_later","_law_start","_law_time"]) C2)) rfl rfl)) (fun _ _ _=>C3) (fun _ _ _=>(A9 (A0 (qcK (F1 (K:=K) T) hr.mo (F7 T) (A0 (qpv 1) (A0 (qpv 0) A1))) (A0 (qpv 2) A1))))) A1)))
      (A3 (D3 (E9 (K:=K) rfl Z1 Z2 Z3 C8 (qpv 5) (A0 (D4 rfl (B3 ["_law_whole_here","_law_start","_law_time"] [some 3,none,none]) (C0 (K:=K) rfl (qpv 0)) (fun _ _ _=>(C5 (K:=K) (n:=2) rfl rfl (A5 (qgc 1 ["_law_whole_here","_law_start","_law_time"]) (A5 (qgc 2 ["_law_whole_here","_law_start","_law_time"]) C2)) rfl rfl)) (fun _ _ _=>C3) (fun _ _ _=>(A9 (A0 (qcK (N0 (K:=K) T) hr.mo (P1 T) (A0 (qpv 0) (A0 (qcK (F1 (K:=K) T) hr.mo (F7 T) (A0 (qpv 1) (A0 (qpv 2) A1))) A1))) (A0 (qpv 2) A1))))) A1)))
      (A3 (D3 (E9 (K:=K) rfl Z1 Z2 Z3 C8 (qpv 5) (A0 (D4 rfl (B3 ["_law_span","_law_start","_law_time"] [some 4,none,none]) (C0 (K:=K) rfl (qpv 0)) (fun _ _ _=>(C5 (K:=K) (n:=2) rfl rfl (A5 (qgc 1 ["_law_span","_law_start","_law_time"]) (A5 (qgc 2 ["_law_span","_law_start","_law_time"]) C2)) rfl rfl)) (fun _ _ _=>C3) (fun _ _ _=>(A9 (A0 (qcK (F8 (K:=K) T) hr.mo (G7 T) (A0 (qpv 0) (A0 (qpv 1) A1))) (A0 (qcK (F8 (K:=K) T) hr.mo (G7 T) (A0 (qpv 0) (A0 (qpv 2) A1))) A1))))) A1)))
      (A3 (qst 6 sc_Ltoldright (B4 (A0 (F3 (J8 (K:=K) rfl) (by rfl) T.z_list (by rfl) (A0 (qpv 0) A1)) (A0 (F3 (J8 (K:=K) rfl) (by rfl) T.z_list (by rfl) (A0 (qpv 1) A1)) A1))))
      (A3 (C9 Zf rfl (D8 rfl T.z_range (A0 A2 A1)) (qgn 7 sc_Ltoldright)
        (A4 (C9 Zf rfl (D8 rfl T.z_range (A0 A2 A1)) (qgn 8 sc_Ltoldright)
          (A3 (qst 9 sc_Ltoldright (B7a (B4 (A0 (qcK (K4 (K:=K) T) hr.mo (L8 T) (A0 (qpv 0) (A0 (qpv 1) A1))) A1))))
          (A3 (qst 9 sc_Ltoldright (qCtT (A8 (L6 (K:=K) rfl) (qpv 9) (B7a (B4 (A0 (qcK (Q3 (K:=K) T) hr.mo (T9 T) (A0 (qpv 0) (A0 (qpv 2) A1))) (A0 (qcK (O5 (K:=K) T) hr.mo (Q7 T) (A0 (qpv 0) (A0 (qpv 3) A1))) (A0 (qcK (O6 (K:=K) T) hr.mo (Q8 T) (A0 (qpv 0) (A0 (qpv 4) A1))) A1))))))))
          (A3 (D2 (QW.pt (A4v (B2 (M9 (K:=K) rfl hr.units) (qPo (qix K (qpv 9) (qpv 7))) (qix K (qpv 5) (qpv 7)) (B5 _)) (A1g (M7 (G3 (J5 (A63 (K:=K) rfl) (by rfl) T.z_isinstance (by rfl) (A0 (qPo (qix K (qpv 9) (qpv 7))) (A0 (A73 (v:=.ty "list") rfl T.z_list (by rfl) rfl) A1))))))))
            (A4 (A7 J6))
            B7)
          (A4 (D3 (A72 (K:=K) rfl Z1 PySem.F.slot_list_clear PySem.F.type_list_clear A8x (qPo (qix K (qpv 9) (qpv 7))))))))))))
      (A4 (A7 (E6 (D5 (K:=K) rfl hr.units) (B4 (A0 (qpv 0) (A0 (qpv 1) A1))) (qpv 6) (B5 _))))))))))),?_⟩
  refine Pu.F0 h ?_;rintro as Qp ⟨ps,qs,w,v,c,B,k0,rfl,hp,hq,hB,hk,hs,op,oq,ow,ov,oc,k⟩;have smq:∀ {q:Rat} (l:Nat),On B (l * k0) q->l<=2 ^ 12->SmQ 3900 q:=fun l o hl=>on_q hB hs hk o hl;have sm1:∀ {q:Rat},On B k0 q->SmQ 3900 q:=fun o=>smq 1 (by rw [Nat.one_mul]; exact o) (by decide);have sme:∀ p ∈ ps,SmQ 3900 (p.1 + p.2):=fun p hp=>smq 2 (((op p hp).1.add hB (op p hp).2).mono (by omega)) (by decide);trivial;refine ⟨by omega,by omega,D6 (f:=dcn) (xs:=ps) (fun i e ys=>∃ o1 o2:Option SV,e=[some (.d (dq w)),o1,o2]/\ys=(later (ps.take i) w).map dcn) ⟨_,_,rfl,rfl⟩ ?_ ?_⟩
  · rintro i p e ys hpi ⟨o1,o2,rfl,rfl⟩
    trivial;refine ⟨p.1,w,rfl,sm1 (op p (Zm hpi)).1,sm1 ow,?_⟩;trivial;refine ⟨_,_,rfl,?_⟩;unfold later;rw [List.take_succ,hpi,Zc,Zc]; rfl
  rintro e ys ⟨o1,o2,rfl,rfl⟩;rw [List.take_length];trivial;refine ⟨by simp,by omega,D6 (f:=dcn) (xs:=ps) (fun i e ys=>∃ o1 o2:Option SV,e=[some (.d (dq v)),o1,o2]/\ys=(turned (ps.take i) v).map dcn) ⟨_,_,rfl,rfl⟩ ?_ ?_⟩
  · rintro i p e ys hpi ⟨o1,o2,rfl,rfl⟩
    have hpm:=Zm hpi;trivial;refine ⟨p.1,p.2,rfl,sm1 (op p hpm).1,sm1 (op p hpm).2,?_⟩;trivial;refine ⟨v,p.1 + p.2,rfl,sm1 ov,sme p hpm,?_⟩;trivial;refine ⟨_,_,rfl,?_⟩;unfold turned;rw [List.take_succ,hpi,Zc,Zc]; rfl
  rintro e ys ⟨o1,o2,rfl,rfl⟩;rw [List.take_length];trivial;refine ⟨by simp,by omega,D6 (f:=dcn) (xs:=ps) (fun i e ys=>∃ o1 o2:Option SV,e=[some (.d (dq c)),o1,o2]/\ys=(G2 (ps.take i) c).map dcn) ⟨_,_,rfl,rfl⟩ ?_ ?_⟩
  · rintro i p e ys hpi ⟨o1,o2,rfl,rfl⟩
    have hpm:=Zm hpi;trivial;refine ⟨c,p.1,rfl,sm1 oc,sm1 (op p hpm).1,?_⟩;trivial;refine ⟨c,p.2,rfl,sm1 oc,sm1 (op p hpm).2,?_⟩;trivial;refine ⟨_,_,rfl,?_⟩;unfold G2;rw [List.take_succ,hpi,Zc,Zc]; rfl
  rintro e ys ⟨o1,o2,rfl,rfl⟩;rw [List.take_length];trivial;refine ⟨by decide,⟨by decide,by decide⟩,?_⟩;obtain ⟨dues,ed⟩:∃ dues:List PyData,dues=[PyData.list ((ps++qs).map dcn),.list ((later ps w).map dcn),.list ((turned ps v).map dcn),.list ((G2 ps c).map dcn)]:=⟨_,rfl⟩;rw [<- Zc];rw [<- ed];refine K5 (fun i e=>∃ o1 o2 o3:Option SV,e=[some (.d (.list (ps.map dcn))),some (.d (.list (qs.map dcn))),some (.d (dq w)),some (.d (dq v)),some (.d (dq c)),some (.own dues),some (.own [.list (ps.map dcn),.list (qs.map dcn)]),o1,o2,o3]) ⟨_,_,_,rfl⟩ ?_ ?_
  · rintro i e hi ⟨o1,o2,o3,rfl⟩
    have hi4:i < 4:=by simpa using hi
    trivial;refine ⟨⟨by decide,by decide⟩,K5 (fun j e=>∃ o2 o3:Option SV,e=[some (.d (.list (ps.map dcn))),some (.d (.list (qs.map dcn))),some (.d (dq w)),some (.d (dq v)),some (.d (dq c)),some (.own dues),some (.own [.list (ps.map dcn),.list (qs.map dcn)]),some (.d (.int (i:Int))),o2,o3]) ⟨_,_,rfl⟩ ?_ ?_⟩
    · rintro j e hj ⟨o2,o3,rfl⟩
      trivial;refine ⟨ps,qs,rfl,by omega,by omega,?_⟩;trivial;refine fun a1 _=>⟨by show 1<=1000; decide,fun b1 _=>⟨b1,[.nd true a1 (B9 ((ps++qs).map dcn))],rfl,?_⟩⟩;trivial;refine ⟨ps,w,rfl,by omega,fun p hp=>sm1 (op p hp).1,sm1 ow,?_⟩;trivial;intro a2;refine ⟨ps,v,rfl,by omega,fun p hp=>⟨sm1 (op p hp).1,sm1 (op p hp).2,sme p hp⟩,sm1 ov,?_⟩;trivial;intro a3;refine ⟨ps,c,rfl,by omega,fun p hp=>⟨sm1 (op p hp).1,sm1 (op p hp).2⟩,sm1 oc,?_⟩;trivial;refine fun a4 _ _ _=>⟨by show 3<=1000; decide,fun b2 _=>⟨b2,[.nd true a2 (B9 ((later ps w).map dcn)),.nd true a3 (B9 ((turned ps v).map dcn)),.nd true a4 (B9 ((G2 ps c).map dcn))],rfl,C04 (a:=b1) (ks:=[.nd true a1 (B9 ((ps++qs).map dcn))]) ⟨by show 4 < 1000000; decide,fun b3=>?_⟩⟩⟩;rcases (show i=0\/i=1\/i=2\/i=3 by omega) with rfl | rfl | rfl | rfl;all_goals
        refine ⟨_,rfl,.list _,congrArg (fun z=>[PyData.list z]) (N7 _),?_⟩;refine B6 (by rw [ed]; rfl) ?_;trivial;refine ⟨A0n _,A0n _,C1q _,?_⟩;rw [C1k,if_neg (by decide)];refine ⟨_,rfl,?_⟩;refine C1v ?_;trivial;exact ⟨_,_,_,_,_,rfl,rfl,rfl,_,_,rfl,_,_,rfl⟩
    · rintro e ⟨o2,o3,rfl⟩
      exact ⟨_,_,_,rfl⟩
  rintro e ⟨o1,o2,o3,rfl⟩;trivial;have l2:(PyData.list [PyData.list (ps.map dcn),.list (qs.map dcn)]).canLay0=true:=by
    show ((PyData.list (ps.map dcn)).canLay0 && ((PyData.list (qs.map dcn)).canLay0 && true))=true;rw [A0n,A0n]; rfl
  refine ⟨l2,l2,B54 ps qs,?_⟩;rw [PySem.SeqAt.eqv_refl _ l2];exact k
def S7:Pu.PSp:=fun as Q=>∃ (n m:Int) (xs ys:List Wk) (ws ws2:List (Int × Int × Rat)) (hs hs2:List (Str × Int × Rat)) (gs gs2:List (List Int)) (ps qs:List (Rat × Rat)) (v u q:Rat),as=[.d (netD xs ws hs (gs.map gD)),.d (netD ys ws2 hs2 (gs2.map gD)),.d (.list [.list (ps.map dcn),.list (qs.map dcn)]),.d (.list [dq v,dq u]),.d (dq q)]/\NetG n xs ws hs gs/\NetG m ys ws2 hs2 gs2/\n<=4/\m<=4/\ps.length=xs.length/\qs.length=ys.length/\PlOn (LL * 18) (2 ^ 74) ps/\PlOn (LL * 18) (2 ^ 74) qs/\0<=v/\0<=u/\0<=q/\On (LL * 18) (2 ^ 74) v/\On (LL * 18) (2 ^ 74) u/\On LL (2 ^ 41) q/\Q (.d (.bool true))
theorem T2 (T:Txt K mg D):FnOk P w K mg base CX0 6 D.a_Ljoinedright D.d_Ljoinedright ["_law_one","_law_other","_law_plans","_law_wholes","_law_wait"] (Pu.spOf K [.dat,.dat,.dat,.dat,.dat] S7):=by
  refine T.B.F_Ljoinedright.ok sc_Ljoinedright (Zz rfl) (fun cdv A outer s H vs Q E hr h=>?_);refine ⟨_,(QSs.out (A3 (qst 5 sc_Ljoinedright (B4 (A0 (E6 G8 (qcK (D0 (K:=K) T) hr.mo (D7 T) (A0 (qpv 0) (A0 (qix K (qpv 2) A2) (A0 (qix K (qpv 3) A2) A1)))) F6 (B5 _)) (A0 (E6 G8 (qcK (D0 (K:=K) T) hr.mo (D7 T) (A0 (qpv 1) (A0 (qix K (qpv 2) A2) (A0 (qix K (qpv 3) A2) A1)))) F6 (B5 _)) A1))))
      (A3 (C9 Zf rfl (C0 (K:=K) rfl (qpv 3)) (qgn 6 sc_Ljoinedright)
        (A3 (qst 7 sc_Ljoinedright (B4 (A0 (E6 G8 (qcK (D0 (K:=K) T) hr.mo (D7 T) (A0 (qpv 0) (A0 (qix K (qpv 2) A2) (A0 (qpv 6) A1)))) F6 (B5 _)) (A0 (E6 G8 (qcK (D0 (K:=K) T) hr.mo (D7 T) (A0 (qpv 1) (A0 (qix K (qpv 2) A2) (A0 (qpv 6) A1)))) F6 (B5 _)) A1))))
        (A3 (qst 8 sc_Ljoinedright (E6 G8 (qcK (D0 (K:=K) T) hr.mo (D7 T) (A0 (qcK (V2 (K:=K) T) hr.mo (A08 T) (A0 (qpv 0) (A0 (qpv 1) (A0 (B4 A1) A1)))) (A0 (qcK (K4 (K:=K) T) hr.mo (L8 T) (A0 (qix K (qpv 2) A2) (A0 (qix K (qpv 2) A2) A1))) (A0 (qpv 6) A1)))) F6 (B5 _)))
        (A4 (D2 (B2 (M9 (K:=K) rfl hr.units) (qpv 8) (E6 (D5 (K:=K) rfl hr.units) (qpv 7) (B4 (A0 J6 (A0 J6 A1))) (B5 _)) (B5 _))
          (A4 (A7 J6))
          B7)))))
      (A3 (D2 (QW.pt (N9 (B2 (D5 (K:=K) rfl hr.units) (qpv 5) (B4 (A0 J6 (A0 J6 A1))) (B5 _)) (L0 (B2 (D5 (K:=K) rfl hr.units) (qix K (qpv 1) A2) (B4 A1) (B5 _)))))
        (A3 (qst 9 sc_Ljoinedright (qcK (F1 (K:=K) T) hr.mo (F7 T) (A0 (qix K (qpv 3) A2) (A0 (qpv 4) A1))))
        (A3 (qst 10 sc_Ljoinedright (qcK (K4 (K:=K) T) hr.mo (L8 T) (A0 (qix K (qpv 2) A2) (A0 (qcK (Q3 (K:=K) T) hr.mo (T9 T) (A0 (qix K (qpv 2) A2) (A0 (qpv 9) A1))) A1))))
        (A4 (D2 (B2 A2n (qcK (D0 (K:=K) T) hr.mo (D7 T) (A0 (qcK (A3v (K:=K) T) hr.mo (A7d T) (A0 (qpv 0) (A0 (qpv 1) (A0 (qpv 4) A1)))) (A0 (qpv 10) (A0 (qcK (F1 (K:=K) T) hr.mo (F7 T) (A0 (qpv 9) (A0 (qix K (qpv 3) A2) A1))) A1)))) F6 (B5 _))
          (A4 (A7 J6))
          B7))))
        B7)
      (A4 (A7 J6)))))),?_⟩
  refine Pu.F0 h ?_;rintro as Qp ⟨n,m,xs,ys,ws,ws2,hs,hs2,gs,gs2,ps,qs,v,u,q,rfl,ok,ok2,n4,m4,lp,lq,op,oq,v0,u0,q0,ov,ou,oz,k⟩;have B0:0 < LL * 18:=by decide
  have hup:∀ q,On LL (2 ^ 55) q->On (LL * 18) (2 ^ 74) q:=fun q o=>(o.up (by decide)).p2 (by decide);have hz:2 ^ 12 * 2 ^ 74 * (LL * 18) < 2 ^ 3900:=Nat.lt_of_lt_of_le (show _ < 2 ^ 300 from Nat.le_of_ble_eq_true rfl) (Zp (by decide) (by decide));have on1:=N5 ok hup;have on2:=N5 ok2 hup;have br1:∀ {t:Rat},On (LL * 18) (2 ^ 74) t->BrG xs ws hs gs ps (some t):=fun o=>on1.brG B0 (by decide) hz lp op o;have br2:∀ {t:Rat},On (LL * 18) (2 ^ 74) t->BrG ys ws2 hs2 gs2 qs (some t):=fun o=>on2.brG B0 (by decide) hz lq oq o;trivial;refine ⟨xs,ws,hs,gs,ps,some v,rfl,br1 ov,?_⟩;trivial;refine ⟨ys,ws2,hs2,gs2,qs,some u,rfl,br2 ou,?_⟩;have h1:=ok.ln;have h2:=ok2.ln;have l1:=ok.wl;have l2:=ok2.wl;have l3:=ok.hl;have l4:=ok2.hl;have l5:=ok.gl;have l6:=ok2.gl;trivial;refine G4 (f:=dq) (xs:=[v,u]) (fun i e=>∃ o6 o7 o8:Option SV,e=[some (.d (netD xs ws hs (gs.map gD))),some (.d (netD ys ws2 hs2 (gs2.map gD))),some (.d (.list [.list (ps.map dcn),.list (qs.map dcn)])),some (.d (.list [dq v,dq u])),some (.d (dq q)),some (.own [.bool (isNo (brG xs ws hs gs ps (some v))),.bool (isNo (brG ys ws2 hs2 gs2 qs (some u)))]),o6,o7,o8,none,none]) ⟨_,_,_,rfl⟩ ?_ ?_
  · rintro i t e ht ⟨o6,o7,o8,rfl⟩
    have ot:On (LL * 18) (2 ^ 74) t:=by
      have:=Zm ht;rcases List.mem_cons.mp this with rfl | z
      · exact ov
      · rw [Zn z]; exact ou
    trivial;refine ⟨xs,ws,hs,gs,ps,some t,rfl,br1 ot,?_⟩;trivial;refine ⟨ys,ws2,hs2,gs2,qs,some t,rfl,br2 ot,?_⟩;trivial;refine ⟨xs,ys,ws,ws2,[],hs,hs2,gs,gs2,rfl,by omega,by omega,l1,l2,by decide,l3,l4,l5,l6,fun g hg=>(ok2.gk g hg).l9,ok.nm,fun zs ez=>?_⟩;trivial;refine ⟨ps,qs,rfl,by omega,by omega,?_⟩;trivial;have onb:NetOn (xs++zs) (ws++ws2.map (shW (xs.length:Int))++[]) (hs++hs2.map (shH (xs.length:Int))) (gs++gs2.map (shG (xs.length:Int))) (LL * 18) (2 ^ 74):=Q5 on1 on2 ez rfl (by omega) (by rw [List.length_nil]; omega) (by omega) (by omega) fun w hw=>nomatch hw;have lz:zs.length=ys.length:=by have:=congrArg List.length ez; simpa using this
    have brb:=onb.brG (ps:=ps++qs) (v:=t) B0 (by decide) hz (by rw [Ze,Ze]; omega) (fun p hp=>(Za hp).elim (op p) (oq p)) ot;refine ⟨_,_,_,_,_,some t,rfl,brb,?_⟩;trivial;have eb:=brG_none.trans (T4 (xs:=xs) (ys:=ys) (zs:=zs) (ws:=ws) (ws2:=ws2) (ms:=[]) (hs:=hs) (hs2:=hs2) (gs:=gs) (gs2:=gs2) (ps:=ps) (qs:=qs) (v:=t) rfl lp rfl lq ez on1.ixs on2.ixs);refine ⟨rfl,rfl,(by show 1<=60; decide),?_⟩;rw [A6o,if_pos (by
      rw [Bool.eq_iff_iff,Bool.and_eq_true,isNo_iff,isNo_iff,isNo_iff,eb,brG_none,brG_none];exact ⟨fun h=>⟨h.1,h.2.1⟩,fun h=>⟨h.1,h.2,fun w hw=>nomatch hw⟩⟩)]
    exact ⟨_,_,_,rfl⟩
  rintro e ⟨o6,o7,o8,rfl⟩;trivial;refine ⟨rfl,rfl,(by show 1<=60; decide),?_⟩;rw [A6o];refine ite2 (fun hk=>?_) (fun _=>k);rw [Bool.and_eq_true,isNo_iff,isNo_iff,brG_none,brG_none] at hk;obtain ⟨ka,kb⟩:=hk;rw [show netD ys ws2 hs2 (gs2.map gD)=.tuple [.list (ys.map kD),.list (ws2.map wD),.list (hs2.map hD),.list (gs2.map gD)] from rfl];trivial;refine ⟨A1k fun h hh=>(ok2.hk h hh).1,A6q hs2,?_⟩;refine ite2 (fun he=>?_) (fun _=>k);cases hs2 with
  | cons h0 r=>exact absurd (show false=true from he) (by decide)
  | nil =>
  have sm1:∀ {q:Rat},On (LL * 18) (2 ^ 74) q->SmQ 3900 q:=fun o=>on_q B0 hz (by decide) (l:=1) (by rw [Nat.one_mul]; exact o) (by decide);have oz2:On (LL * 18) (2 ^ 74) q:=(oz.up (by decide)).p2 (by decide);have og:On (LL * 18) (2 ^ 75) (v + q):=ov.add2 B0 oz2 (by decide);have sm5:∀ {q:Rat},On (LL * 18) (2 ^ 75) q->SmQ 3900 q:=fun o=>on_q B0 hz (by decide) (l:=2) (o.mono (by decide)) (by decide);refine ⟨v,q,rfl,sm1 ov,sm1 oz2,?_⟩;trivial;refine ⟨qs,v + q,rfl,by omega,fun p hp=>sm1 (oq p hp).1,sm5 og,?_⟩;trivial;have lq2:(later qs (v + q)).length=ys.length:=by unfold later; rw [Zl]; exact lq
  refine ⟨ps,later qs (v + q),rfl,by omega,by omega,?_⟩;trivial;refine ⟨xs,ys,ws,ws2,hs,[],gs,gs2,q,rfl,by omega,by omega,l1,l2,l3,by decide,l5,l6,fun g hg=>(ok2.gk g hg).l9,ok.nm,fun zs ms ez lm hm=>?_⟩;trivial;refine ⟨v + q,u,rfl,sm5 og,sm1 ou,?_⟩;trivial;have lz:zs.length=ys.length:=by have:=congrArg List.length ez; simpa using this
  have hz3:2 ^ 12 * 2 ^ 77 * (LL * 18) < 2 ^ 3900:=Nat.lt_of_lt_of_le (show _ < 2 ^ 300 from Nat.le_of_ble_eq_true rfl) (Zp (by decide) (by decide));have hup3:∀ q,On LL (2 ^ 55) q->On (LL * 18) (2 ^ 77) q:=fun q o=>(hup q o).p2 (by decide);have onb:NetOn (xs++zs) (ws++ws2.map (shW (xs.length:Int))++ms) (hs++([]:List (Str × Int × Rat)).map (shH (xs.length:Int))) (gs++gs2.map (shG (xs.length:Int))) (LL * 18) (2 ^ 77):=Q5 (N5 ok hup3) (N5 ok2 hup3) ez rfl (by omega) (by omega) (by rw [List.length_nil]; omega) (by omega) fun w hw=>by
    obtain ⟨a,b,ha,hb,rfl⟩:=hm w hw;rw [Ze];exact ⟨⟨by dsimp only; omega,by dsimp only; omega⟩,⟨by dsimp only; omega,by dsimp only; omega⟩,oz2.p2 (by decide)⟩
  have ogu:On (LL * 18) (2 ^ 77) (v + q + u):=(og.p2 (b:=76) (by decide)).add2 B0 (ou.p2 (by decide)) (by decide);have brb:=onb.brG (ps:=ps++later qs (v + q)) (v:=v + q + u) B0 (by decide) hz3 (by rw [Ze,Ze]; omega) (fun p hp=>by
    rcases Za hp with z | z
    · exact ⟨(op p z).1.p2 (by decide),(op p z).2.p2 (by decide)⟩
    · obtain ⟨p',hp',rfl⟩:=List.mem_map.mp z
      exact ⟨((oq p' hp').1.p2 (b:=76) (by decide)).add2 B0 (og.p2 (by decide)) (by decide),(oq p' hp').2.p2 (by decide)⟩) ogu
  have kl:=A3z (q:=v + q) lq on2.ixs kb (by grind);have kj:=(T4 (xs:=xs) (ys:=ys) (zs:=zs) (ws:=ws) (ws2:=ws2) (ms:=ms) (hs:=hs) (hs2:=[]) (gs:=gs) (gs2:=gs2) (ps:=ps) (qs:=later qs (v + q)) (v:=v + q + u) rfl lp rfl lq2 ez on1.ixs on2.ixs).mpr ⟨ka.up (by grind),kl,fun w hw=>by
    obtain ⟨a,b,ha,hb,rfl⟩:=hm w hw;unfold wSl;dsimp only;rw [M4 (by omega) (by omega:(xs.length:Int)=(ps.length:Int)),O1 (by omega) (by omega)];have m1:=M5 (ps:=ps) (o:=(a:Int)) (by omega) (by omega);have m2:=M5 (ps:=qs) (o:=(b:Int)) (by omega) (by omega);have e1:sat (later qs (v + q)) (b:Int)=((sat qs (b:Int)).1 + (v + q),(sat qs (b:Int)).2):=by unfold later; exact J3 (by omega) (by omega)
    rw [e1];have s1:=kb.s _ m2;have s2:=ka.v _ m1;dsimp only;grind⟩
  refine ⟨_,_,_,_,_,some (v + q + u),rfl,brb,?_⟩;trivial;have kn:=brG_none.mpr kj;rw [if_neg (fun h=>Bool.false_ne_true (h.symm.trans (isNo_iff.mpr kn)))];exact k
def A47:Pu.PSp:=fun as Q=>∃ (n:Int) (xs:List Wk) (ws:List (Int × Int × Rat)) (hs:List (Str × Int × Rat)) (gs:List (List Int)) (ps:List (Rat × Rat)) (v c:Rat),as=[.d (netD xs ws hs (gs.map gD)),.d (.list (ps.map dcn)),.d (dq v),.d (dq c),.d (.tuple [.int 3,.int 2])]/\NetG n xs ws hs gs/\ps.length=xs.length/\PlOn (LL * 18) (2 ^ 74) ps/\On (LL * 18) (2 ^ 74) v/\0 < c/\SmR 41 6 c/\Q (.d (.bool true))
theorem A0i (T:Txt K mg D):FnOk P w K mg base CX0 6 D.a_Lalike D.d_Lalike ["_law_net_here","_law_plan_here","_law_whole_here","_law_span","_law_cost"] (Pu.spOf K [.dat,.dat,.dat,.dat,.dat] A47):=by
  refine T.B.F_Lalike.ok sc_Lalike (Zz rfl) (fun cdv A outer s H vs Q E hr h=>?_);refine ⟨_,(QSs.out (A3 (qst 5 sc_Lalike (E6 G8 (qcK (D0 (K:=K) T) hr.mo (D7 T) (A0 (qpv 0) (A0 (qpv 1) (A0 (qpv 2) A1)))) F6 (B5 _)))
      (A3 (qst 6 sc_Lalike (E6 G8 (qcK (D0 (K:=K) T) hr.mo (D7 T) (A0 (qcK (A3t (K:=K) T) hr.mo (A7a T) (A0 (qpv 0) (A0 (qpv 3) (A0 (qpv 4) A1)))) (A0 (qcK (O6 (K:=K) T) hr.mo (Q8 T) (A0 (qpv 1) (A0 (qpv 3) A1))) (A0 (qcK (F8 (K:=K) T) hr.mo (G7 T) (A0 (qpv 3) (A0 (qpv 2) A1))) A1)))) F6 (B5 _)))
      (A3 (D2 (B2 (M9 (K:=K) rfl hr.units) (qpv 6) (qpv 5) (B5 _))
        (A4 (A7 J6))
        B7)
      (A3 (D2 (B2 (M9 (K:=K) rfl hr.units) (qix K (qpv 0) A2) (B4 A1) (B5 _))
        (A4 (A7 J6))
        B7)
      (A4 (A7 (E6 (D5 (K:=K) rfl hr.units) (E6 G8 (qcK (D0 (K:=K) T) hr.mo (D7 T) (A0 (qcK (A3r (K:=K) T) hr.mo (A68 T) (A0 (qpv 0) A1)) (A0 (qcK (O5 (K:=K) T) hr.mo (Q7 T) (A0 (qpv 1) (A0 (qpv 2) A1))) (A0 (qpv 2) A1)))) F6 (B5 _)) (qpv 5) (B5 _))))))))),?_⟩
  refine Pu.F0 h ?_;rintro as Qp ⟨n,xs,ws,hs,gs,ps,v,c,rfl,ok,lp,op,ov,c0,sc,k⟩;have B0:0 < LL * 18:=by decide
  have B1:0 < LL * 18 * LL:=by decide
  have hup:∀ q,On LL (2 ^ 55) q->On (LL * 18) (2 ^ 74) q:=fun q o=>(o.up (by decide)).p2 (by decide);have hz:2 ^ 12 * 2 ^ 74 * (LL * 18) < 2 ^ 3900:=Nat.lt_of_lt_of_le (show _ < 2 ^ 300 from Nat.le_of_ble_eq_true rfl) (Zp (by decide) (by decide));have hz1:2 ^ 12 * 2 ^ 115 * (LL * 18 * LL) < 2 ^ 3900:=Nat.lt_of_lt_of_le (show _ < 2 ^ 500 from Nat.le_of_ble_eq_true rfl) (Zp (by decide) (by decide));have on1:=N5 ok hup;have oc:On LL (2 ^ 41) c:=G9 sc;have mulc:∀ {q:Rat},On (LL * 18) (2 ^ 74) q->On (LL * 18 * LL) (2 ^ 115) (c * q):=fun o=>by
    have:=o.mul oc;rw [Rat.mul_comm];exact this.mono (by decide)
  have s32:SmR 41 6 (Rat.divInt 3 2):=SmR.low (by unfold Sm; decide) (by unfold Sm; decide) (by decide);have on2:NetOn (xs.map (scX c (Rat.divInt 3 2))) (ws.map (scW c)) (hs.map (scH c)) gs (LL * 18 * LL) (2 ^ 115):=A0j ok c0 sc s32 fun q o=>mulc (hup q o);have br1:=on1.brG B0 (by decide) hz lp op ov;have br2:=on2.brG (ps:=G2 ps c) (v:=c * v) B1 (by decide) hz1 (by unfold G2; rw [Zl,Zl]; exact lp) (fun p hp=>by
    obtain ⟨p',hp',rfl⟩:=List.mem_map.mp hp;exact ⟨mulc (op p' hp').1,mulc (op p' hp').2⟩) (mulc ov)
  have e1:=(brG_none (xs:=xs) (ws:=ws) (hs:=hs) (gs:=gs) (ps:=ps) (v:=v));have e2:=brG_none.trans (A1n (xs:=xs) (ws:=ws) (hs:=hs) (gs:=gs) (ps:=ps) (v:=v) (d:=Rat.divInt 3 2) c0 lp on1.ixs fun x hx=>(ok.of x hx).2.1.ok.ne);have l10:=on1.n10;have wl:=ok.wl;have hl:=ok.hl;have sm1:∀ {q:Rat},On (LL * 18) (2 ^ 74) q->SmQ 3900 q:=fun o=>on_q B0 hz (by decide) (l:=1) (by rw [Nat.one_mul]; exact o) (by decide);have sqc:SmQ 3900 c:=sc.q (by decide) (by decide);trivial;refine ⟨xs,ws,hs,gs,ps,some v,rfl,br1,?_⟩;trivial;refine ⟨xs,ws,hs,gs,c,Rat.divInt 3 2,rfl,by omega,by omega,by omega,fun x hx=>⟨(ok.of x hx).2.1.ok.le,fun z hz=>⟨((ok.of x hx).2.1.ok.sm z hz).1.q (by decide) (by decide),((ok.of x hx).2.1.ok.sm z hz).2.q (by decide) (by decide)⟩⟩,fun w hw=>sm1 (hup _ (ok.wk w hw).2.2),fun h hh=>sm1 (hup _ (ok.hk h hh).2.2),sqc,s32.q (by decide) (by decide),?_⟩;trivial;refine ⟨ps,c,rfl,by omega,fun p hp=>⟨sm1 (op p hp).1,sm1 (op p hp).2⟩,sqc,?_⟩;trivial;refine ⟨c,v,rfl,sqc,sm1 ov,?_⟩;trivial;refine ⟨_,_,_,_,_,some (c * v),rfl,br2,?_⟩;trivial;rw [if_pos (by rw [Bool.eq_iff_iff,isNo_iff,isNo_iff,e1,e2])];rw [show netD xs ws hs (gs.map gD)=.tuple [.list (xs.map kD),.list (ws.map wD),.list (hs.map hD),.list (gs.map gD)] from rfl];trivial;refine ⟨A1k fun h hh=>(ok.hk h hh).1,A6q hs,?_⟩;cases hs with
  | cons h0 r =>
    rw [if_pos (show (PyData.list ((h0 :: r).map hD)).eqv (.list [])=false from rfl)];exact k
  | nil =>
  rw [if_neg (by decide)];refine ⟨xs,ws,[],gs,rfl,by omega,?_⟩;trivial;have en:∀ p ∈ ps,On (LL * 18) (2 ^ 75) (enD p):=fun p hp=>(op p hp).1.add2 B0 (op p hp).2 (by decide);have sm5:∀ {q:Rat},On (LL * 18) (2 ^ 75) q->SmQ 3900 q:=fun o=>on_q B0 hz (by decide) (l:=2) (o.mono (by decide)) (by decide);refine ⟨ps,v,rfl,by omega,fun p hp=>⟨sm1 (op p hp).1,sm1 (op p hp).2,sm5 (en p hp)⟩,sm1 ov,?_⟩;trivial;have hz3:2 ^ 12 * 2 ^ 76 * (LL * 18) < 2 ^ 3900:=Nat.lt_of_lt_of_le (show _ < 2 ^ 300 from Nat.le_of_ble_eq_true rfl) (Zp (by decide) (by decide));have br3:=(N5 ok (B:=LL * 18) (k:=2 ^ 76) fun q o=>(hup q o).p2 (by decide)).turned.brG (ps:=turned ps v) (v:=v) B0 (by decide) hz3 (by unfold turned; rw [Zl]; exact lp) (fun p hp=>by
    obtain ⟨p',hp',rfl⟩:=List.mem_map.mp hp;exact ⟨(ov.p2 (b:=75) (by decide)).sub2 B0 (en p' hp') (by decide),(op p' hp').2.p2 (by decide)⟩) (ov.p2 (by decide))
  refine ⟨_,_,_,_,_,some v,rfl,br3,?_⟩;trivial;have e3:=brG_none.trans (A1m (xs:=xs) (ws:=ws) (gs:=gs) (ps:=ps) (v:=v) lp on1.ixs);rw [Zk (by rw [Bool.eq_iff_iff,isNo_iff,isNo_iff,e3,e1])];exact k
theorem B9o (T:Txt K mg D):FnOk P w K mg base CX0 7 D.a_law D.d_law ["_law_script"] (B1g K):=by
  refine FnOk.imp (sp := Pu.spOf K [.vw] Pu.pLaw) ?_ Pu.C0g;refine T.F_law.ok sc_law (Zz rfl) (fun cdv A outer s H vs Q E hr h => ?_);refine ⟨_, (QSs.out (A3 (C9 Zf rfl (A3f rfl T.z_range (A0 A2 (A0 (J5 (A61 rfl) (by rfl) T.z_max (by rfl) (A0 A2 (A0 (J5 (A6z rfl) (by rfl) T.z_min (by rfl) (A0 (qln K T.z_len (qpv 0)) (A0 A2 A1))) A1))) (A0 A2 A1)))) (qgn 1 sc_law)
        (A3 (K3 (i:=2) sc_law.nd rfl (Or.inr rfl) (qcK (N1 (K:=K) T) hr.mo (P2 T) (A0 (qpv 0) (A0 (A8 E8 (qpv 1) A2) A1))))
        (A3 (K3 (i:=3) sc_law.nd rfl (Or.inr rfl) (E6 (D5 (K:=K) rfl hr.units) (qcK (B8 (K:=K) T) hr.mo (C4 T) (A0 (qpv 2) (A0 A2 A1))) A2 (B5 _)))
        (A3 (qst 4 sc_law (qcK (A5p (K:=K) T) hr.mo (B0v T) (A0 (qpv 0) (A0 (qpv 1) (A0 A2 (A0 A2 (A0 (B4 (A0 C1 (A0 C1 A1))) (A0 (qpv 3) A1))))))))
        (A3 (qst 5 sc_law (qcK (A5p (K:=K) T) hr.mo (B0v T) (A0 (qpv 0) (A0 (A8 E8 (qpv 1) A2) (A0 A2 (A0 A2 (A0 (B4 (A0 C1 (A0 C1 A1))) (A0 (qpv 3) A1))))))))
        (A3 (D2 (B2 A3p (qcK (B8 (K:=K) T) hr.mo (C4 T) (A0 (qpv 2) (A0 A2 A1))) A2 (B5 _))
          (A4 (qst 5 sc_law (A9 (A0 (qix K (qpv 5) A2) (A0 (qix K (qpv 5) A2) (A0 (B4 A1) (A0 (qix K (qpv 5) A2) A1)))))))
          B7)
        (A3 (D2 (B2 (D5 (K:=K) rfl hr.units) (qcK (B8 (K:=K) T) hr.mo (C4 T) (A0 (qpv 2) (A0 A2 A1))) A2 (B5 _))
          (A4 (qst 4 sc_law (A9 (A0 (qix K (qpv 4) A2) (A0 (qix K (qpv 4) A2) (A0 (B4 A1) (A0 (qix K (qpv 4) A2) A1)))))))
          B7)
        (A3 (L1 (qcK (A2p (K:=K) T) hr.mo (A7b T) (A0 (qpv 2) (A0 (qpv 4) A1))) (A2c (K:=K) (n:=2) rfl rfl (A5 (qgn 6 sc_law) (A5 (qgn 7 sc_law) C2)) rfl rfl))
        (A3 (L1 (qcK (A2p (K:=K) T) hr.mo (A7b T) (A0 (qpv 2) (A0 (qpv 5) A1))) (A2c (K:=K) (n:=2) rfl rfl (A5 (qgn 8 sc_law) (A5 (qgn 9 sc_law) C2)) rfl rfl))
        (A3 (qst 10 sc_law (qix K (B4 (A0 (A9 (A0 A2 (A0 A2 A1))) (A0 (qcK (F4 (K:=K) T) hr.mo (F9 T) (A0 (qpv 2) (A0 (qpv 3) (A0 A2 A1)))) A1))) (qcK (B8 (K:=K) T) hr.mo (C4 T) (A0 (qpv 2) (A0 A2 A1)))))
        (A3 (qst 11 sc_law (qcK (F4 (K:=K) T) hr.mo (F9 T) (A0 (qpv 2) (A0 (qpv 3) (A0 A2 A1)))))
        (A3 (E5 (i:=12) rfl sc_law.nd rfl rfl (B3 ["_law_state","_law_plain","_law_name","_law_time"] [some 2,some 3,none,none]) (C0 (K:=K) rfl (J4 (K9 (K:=K) rfl) (A8 (L6 (K:=K) rfl) (A8 (L6 (K:=K) rfl) (qpv 6) (qpv 8)) (qpv 6)) L4 (L3 (A8 A5h A2 (qln K T.z_len (qpv 8)))))) (fun _ _ _=>(C5 (K:=K) (n:=2) rfl rfl (A5 (qgc 2 ["_law_state","_law_plain","_law_name","_law_time"]) (A5 (qgc 3 ["_law_state","_law_plain","_law_name","_law_time"]) C2)) rfl rfl)) (fun _ _ _=>C3) (fun _ _ _=>(A9 (A0 (qcK (F4 (K:=K) T) hr.mo (F9 T) (A0 (qpv 0) (A0 (qpv 1) (A0 A2 A1)))) (A0 (qpv 3) A1)))) rfl)
        (A3 (D2 (QW.pt (A4v (M7 (G3 (qcK (O7 (K:=K) T) hr.mo (Q9 T) (A0 (qpv 6) (A0 (qpv 8) (A0 (qpv 10) (A0 (qpv 7) (A0 (qpv 11) A1)))))))) (A1g (M7 (G3 (qcK (O7 (K:=K) T) hr.mo (Q9 T) (A0 (qpv 12) (A0 (qpv 8) (A0 (qpv 10) (A0 (qpv 7) (A0 (qpv 11) A1)))))))))))
          (A4 (A7 J6))
          B7)
        (A3 (D2 (M7 (G3 (qcK (T2 (K:=K) T) hr.mo (U5 T) (A0 (qpv 4) (A0 (qpv 5) (A0 (B4 (A0 (qpv 6) (A0 (qpv 8) A1))) (A0 (B4 (A0 (qpv 7) (A0 (qpv 9) A1))) (A0 (qpv 10) A1))))))))
          (A4 (A7 J6))
          B7)
        (A4 (D2 (QW.pt (A4v (M7 (G3 (qcK (A0i (K:=K) T) hr.mo (A28 T) (A0 (qpv 4) (A0 (qpv 6) (A0 (qpv 7) (A0 (qpv 11) (A0 (A9 (A0 A2 (A0 A2 A1))) A1)))))))) (A1g (M7 (G3 (qcK (A0i (K:=K) T) hr.mo (A28 T) (A0 (qpv 5) (A0 (qpv 8) (A0 (qpv 9) (A0 (qpv 11) (A0 (A9 (A0 A2 (A0 A2 A1))) A1)))))))))))
          (A4 (A7 J6))
          B7))))))))))))))))
      (A4 (A7 J6)))),?_⟩
  refine Pu.F0 h ?_;rintro as Qp ⟨ns,rfl,hns,k⟩;refine hd fun R hR=>?_;trivial;generalize hj:(if (if (18:Int) < (ns.length:Int) then (18:Int) else (ns.length:Int)) > 9 then (if (18:Int) < (ns.length:Int) then (18:Int) else (ns.length:Int)) else 9)=j;have hb:9<=j/\j<=18:=by rw [<- hj]; split <;> (try split) <;> omega
  clear hj;refine ⟨⟨⟨by decide,by decide⟩,⟨by omega,by omega⟩,by decide,by decide⟩,B5w (fun i e=>∃ o1 o2 o3 o4 o5 o6 o7 o8 o9 o10 o11 o12:Option SV,e=[some (.bor (ns.map .int)),o1,o2,o3,o4,o5,o6,o7,o8,o9,o10,o11,o12]) ⟨_,_,_,_,_,_,_,_,_,_,_,_,rfl⟩ ?_ ?_⟩
  · rintro i e hi ⟨o1,o2,o3,o4,o5,o6,o7,o8,o9,o10,o11,o12,rfl⟩
    have hi:i < 3:=by
      unfold stepN at hi;split at hi <;> omega
    have hi2:0 + (i:Int) * 9<=18:=by omega
    generalize hk:(0 + (i:Nat) * 9:Int)=kk at hi2;have kk0:0<=kk:=by omega
    refine hd fun R2 hR2=>?_;trivial;refine ⟨ns,_,rfl,by omega,by omega,?_⟩;trivial;subst hR2;refine hd fun R2 hR2=>?_;trivial;refine ⟨2,rfl,by decide,sm4 2,fun pd pd0 pd2=>?_⟩;trivial;subst hR2;refine hd fun R2 hR2=>?_;trivial;refine ⟨ns,kk,["straight","steps"],4,3,decide (pd=0),rfl,by omega,by omega,by decide,by decide,fun z hz=>by
      rcases List.mem_cons.mp hz with rfl | hz
      · exact .inl rfl
      · rw [Zn hz]; exact .inr rfl,⟨by decide,by decide⟩,⟨by decide,by decide⟩,fun n xs ws hs gs ok n4 hl _=>?_⟩
    trivial;subst hR2;refine hd fun R2 hR2=>?_;trivial;refine ⟨ns,kk + 4,["straight","steps"],4,3,decide (pd=0),rfl,by omega,by omega,by decide,by decide,fun z hz=>by
      rcases List.mem_cons.mp hz with rfl | hz
      · exact .inl rfl
      · rw [Zn hz]; exact .inr rfl,⟨by decide,by decide⟩,⟨by decide,by decide⟩,fun m ys ws2 hs2 gs2 ok2 m4 hl2 _=>?_⟩
    trivial;subst hR2;refine A1c (fun e=>∃ ht:List (Str × Int × Rat),e=[some (.bor (ns.map .int)),some (.d (.int kk)),some .st,some (.d (.bool (decide (pd=0)))),some (.d (netD xs ws hs (gs.map gD))),some (.d (netD ys ws2 ht (gs2.map gD))),o6,o7,o8,o9,o10,o11,o12]/\NetG m ys ws2 ht gs2) (fun R hR=>?_) ?_
    · trivial
      refine ⟨4,rfl,by decide,sm4 4,fun d d0 d4=>?_⟩;trivial;refine ite2 (fun h=>?_) (fun h=>hR _ ⟨hs2,rfl,ok2⟩);rw [show netD ys ws2 hs2 (gs2.map gD)=.tuple [.list (ys.map kD),.list (ws2.map wD),.list (hs2.map hD),.list (gs2.map gD)] from rfl];trivial;exact hR _ ⟨[],rfl,⟨ok2.ln,ok2.n0,ok2.n1,ok2.of,ok2.wl,ok2.wk,by decide,(fun _ z=>nomatch z),ok2.gl,ok2.gk,ok2.nm⟩⟩
    rintro e ⟨ht,rfl,okt⟩;refine A1c (fun e=>∃ hu:List (Str × Int × Rat),e=[some (.bor (ns.map .int)),some (.d (.int kk)),some .st,some (.d (.bool (decide (pd=0)))),some (.d (netD xs ws hu (gs.map gD))),some (.d (netD ys ws2 ht (gs2.map gD))),o6,o7,o8,o9,o10,o11,o12]/\NetG n xs ws hu gs) (fun R hR=>?_) ?_
    · trivial
      refine ⟨2,rfl,by decide,sm4 2,fun d d0 d4=>?_⟩;trivial;refine ite2 (fun h=>?_) (fun h=>hR _ ⟨hs,rfl,ok⟩);rw [show netD xs ws hs (gs.map gD)=.tuple [.list (xs.map kD),.list (ws.map wD),.list (hs.map hD),.list (gs.map gD)] from rfl];trivial;exact hR _ ⟨[],rfl,⟨ok.ln,ok.n0,ok.n1,ok.of,ok.wl,ok.wk,by decide,(fun _ z=>nomatch z),ok.gl,ok.gk,ok.nm⟩⟩
    rintro e ⟨hu,rfl,oku⟩;refine hd fun R2 hR2=>?_;trivial;refine ⟨n,xs,ws,hu,gs,rfl,oku,fun ps v lp op v0 ov=>?_⟩;trivial;subst hR2;refine hd fun R2 hR2=>?_;trivial;refine ⟨m,ys,ws2,ht,gs2,rfl,okt,fun qs u lq oq u0 ou=>?_⟩;trivial;subst hR2;refine A1c (fun e=>∃ q:Rat,e=[some (.bor (ns.map .int)),some (.d (.int kk)),some .st,some (.d (.bool (decide (pd=0)))),some (.d (netD xs ws hu (gs.map gD))),some (.d (netD ys ws2 ht (gs2.map gD))),some (.d (.list (ps.map dcn))),some (.d (dq v)),some (.d (.list (qs.map dcn))),some (.d (dq u)),some (.d (dq q)),o11,o12]/\0<=q/\On LL (2 ^ 41) q) (fun R hR=>?_) ?_
    · trivial
      refine ⟨_,_,rfl,.inl rfl,fun q q0 _ sq _=>?_⟩;trivial;refine ⟨2,rfl,by decide,sm4 2,fun d d0 d2=>?_⟩;trivial;rcases (show d=0\/d=1 by omega) with rfl | rfl
      · refine B6 (z:=dq 0) rfl ?_
        trivial;exact hR _ ⟨0,rfl,Rat.le_refl,On.zero.mono (Nat.zero_le _)⟩
      · refine B6 (z:=dq q) rfl ?_
        trivial;exact hR _ ⟨q,rfl,q0,G9 sq⟩
    rintro e ⟨q,rfl,q0,oz⟩;refine hd fun R2 hR2=>?_;trivial;refine ⟨_,_,rfl,.inr rfl,fun c _ c0 sc _=>?_⟩;trivial;subst hR2;have h1:=ok.ln;have h2:=ok2.ln;have l4:ps.length<=4:=by omega
    have l5:qs.length<=4:=by omega
    refine hd fun R2 hR2=>?_;trivial;have ec:cutD (ps.map dcn++qs.map dcn++ps.map dcn) none (some ((10:Int) - (qs.length:Int)))=((ps++qs++ps).take (10 - qs.length)).map dcn:=by
      rw [show (10:Int) - (qs.length:Int)=((10 - qs.length:Nat):Int) by omega,A6v (n:=100) (by omega),List.map_take,Zc,Zc]
    rw [ec];obtain ⟨ls,els⟩:∃ ls,ls=(ps++qs++ps).take (10 - qs.length):=⟨_,rfl⟩;rw [<- els];have ll:ls.length<=10:=by rw [els,List.length_take]; omega
    have ol:PlOn (LL * 18) (2 ^ 74) ls:=fun p hp=>by
      rw [els] at hp;rcases Za (List.mem_of_mem_take hp) with z | z
      · exact (Za z).elim (op p) (oq p)
      · exact op p z
    refine ⟨by omega,by rw [Ze,Zl,Zl]; omega,by rw [Zl]; omega,D6 (f:=dcn) (xs:=ls) (fun i e cs=>∃ (rs:List (Rat × Rat)) (o3 o4:Option SV),e=[some .st,some (.d (.bool (decide (pd=0)))),o3,o4]/\rs.length=i/\PlOn (LL * 18) (2 ^ 74) rs/\cs=rs.map dcn) ⟨[],_,_,rfl,rfl,(fun _ z=>nomatch z),rfl⟩ ?_ ?_⟩
    · rintro i p e cs hp ⟨rs,o3,o4,rfl,hl,hr,rfl⟩
      trivial;refine ⟨_,_,rfl,.inl rfl,fun a _ _ sa _=>?_⟩;trivial;exact ⟨rs++[(a,p.2)],_,_,rfl,by rw [Ze,List.length_singleton]; omega,fun z hz=>(Za hz).elim (hr z) fun y=>by rw [Zn y]; exact ⟨((G9 sa).up (by decide)).p2 (by decide),(ol p (Zm hp)).2⟩,by rw [Zc]; rfl⟩
    rintro e cs ⟨rs,o3,o4,rfl,hl,hr,rfl⟩;trivial;subst hR2;have B0:0 < LL * 18:=by decide
    have hz:2 ^ 12 * 2 ^ 74 * (LL * 18) < 2 ^ 3900:=Nat.lt_of_lt_of_le (show _ < 2 ^ 300 from Nat.le_of_ble_eq_true rfl) (Zp (by decide) (by decide));have up:∀ {q:Rat},On LL (2 ^ 41) q->On (LL * 18) (2 ^ 74) q:=fun o=>(o.up (by decide)).p2 (by decide);refine hd fun R2 hR2=>?_;trivial;refine ⟨ps,qs,q,v,c,_,_,rfl,by omega,by omega,B0,by decide,hz,op,oq,up oz,ov,up (G9 sc),?_⟩;trivial;refine ⟨rs,qs,q,v,c,_,_,rfl,by omega,by omega,B0,by decide,hz,hr,oq,up oz,ov,up (G9 sc),?_⟩;trivial;subst hR2;refine hd fun R2 hR2=>?_;trivial;refine ⟨n,m,xs,ys,ws,ws2,hu,ht,gs,gs2,ps,qs,v,u,q,rfl,oku,okt,n4,m4,lp,lq,op,oq,v0,u0,q0,ov,ou,oz,?_⟩;trivial;subst hR2;trivial;refine ⟨n,xs,ws,hu,gs,ps,v,c,rfl,oku,lp,op,ov,c0 rfl,sc,?_⟩;trivial;refine ⟨m,ys,ws2,ht,gs2,qs,u,c,rfl,okt,lq,oq,ou,c0 rfl,sc,?_⟩;trivial;exact ⟨_,_,_,_,_,_,_,_,_,_,_,_,rfl⟩
  rintro e ⟨o1,o2,o3,o4,o5,o6,o7,o8,o9,o10,o11,o12,rfl⟩;subst hR;trivial;exact k
end
theorem all_mk {l:PySem.W.OpenLaw} {w:World} {K:PySem.W.Frag} {h:Heap} {mg:Str->Option Value} {fa:Addr} (X:K.In h) (G:h.Ns mainGlobals mg) (hfa:mg "law"=some (.ref fa)) {a_commonpart a_plus a_minus a_product a_isless a_isoffered a_endof a_waitslack a_holdslack a_takesonecorner a_firstbelow a_firstuntaken a_firstbroken a_plansbeside a_planlater a_planturned a_planscaled a_Lbegun a_Ltake a_Llow a_Lplus a_Lminus a_Ltimes a_Lunder a_Lamount a_Loffer a_Lnames a_Lorder a_Llag a_Lwaits a_Lholds a_Lgroups a_Lnet a_Lbeside a_Lbehind a_Lturned a_Lscaled a_Ltimesdrawn a_Lstarts a_Lwhole a_Lplan a_Ltoldright a_Ljoinedright a_Lalike k_NOUGHT:Addr} {d_commonpart d_plus d_minus d_product d_isless d_isoffered d_endof d_waitslack d_holdslack d_takesonecorner d_firstbelow d_firstuntaken d_firstbroken d_plansbeside d_planlater d_planturned d_planscaled d_Lbegun d_Ltake d_Llow d_Lplus d_Lminus d_Ltimes d_Lunder d_Lamount d_Loffer d_Lnames d_Lorder d_Llag d_Lwaits d_Lholds d_Lgroups d_Lnet d_Lbeside d_Lbehind d_Lturned d_Lscaled d_Ltimesdrawn d_Lstarts d_Lwhole d_Lplan d_Ltoldright d_Ljoinedright d_Lalike:FuncData} (B:TxB K a_commonpart a_plus a_minus a_product a_isless a_isoffered a_endof a_waitslack a_holdslack a_takesonecorner a_firstbelow a_firstuntaken a_firstbroken a_plansbeside a_planlater a_planturned a_planscaled a_Lbegun a_Ltake a_Llow a_Lplus a_Lminus a_Ltimes a_Lunder a_Lamount a_Loffer a_Lnames a_Lorder a_Llag a_Lwaits a_Lholds a_Lgroups a_Lnet a_Lbeside a_Lbehind a_Lturned a_Lscaled a_Ltimesdrawn a_Lstarts a_Lwhole a_Lplan a_Ltoldright a_Ljoinedright a_Lalike k_NOUGHT d_commonpart d_plus d_minus d_product d_isless d_isoffered d_endof d_waitslack d_holdslack d_takesonecorner d_firstbelow d_firstuntaken d_firstbroken d_plansbeside d_planlater d_planturned d_planscaled d_Lbegun d_Ltake d_Llow d_Lplus d_Lminus d_Ltimes d_Lunder d_Lamount d_Loffer d_Lnames d_Lorder d_Llag d_Lwaits d_Lholds d_Lgroups d_Lnet d_Lbeside d_Lbehind d_Lturned d_Lscaled d_Ltimesdrawn d_Lstarts d_Lwhole d_Lplan d_Ltoldright d_Ljoinedright d_Lalike)
    {od_law an_law:Option Addr} {sl_law:Array (Option Value)} {oc_law kV_law dc_law pm_law cd_law ct_law:Value} {a_law:Addr}
    {od_NOUGHT:Option Addr} {its_NOUGHT:Array Value} {n_NOUGHT:Nat} {sl_NOUGHT:Array (Option Value)} {t0_NOUGHT t1_NOUGHT:Tok}
    (g_law:PySem.W.nsIn K mainGlobals "law"=some (some (.ref a_law)))
    (l_law:K.lookup a_law=some ⟨oc_law,od_law,.func (PySem.W.fnOf "law" "law" (G5 s_law) (G1 s_law) (A6 s_law) .none kV_law dc_law pm_law an_law cd_law ct_law),sl_law⟩)
    (c_law:PySem.W.codeIn K cd_law "law"=true)
    (k_law:PySem.W.keepIn K (.ref a_law)=true)
    (lq_NOUGHT:K.lookup k_NOUGHT=some ⟨.type "tuple",od_NOUGHT,.seq its_NOUGHT n_NOUGHT,sl_NOUGHT⟩)
    (vq_NOUGHT:its_NOUGHT=#[Value.int 0 t0_NOUGHT,Value.int 1 t1_NOUGHT])
    : ∃ fd:FuncData,(∀ (s:Shared) (v:Value),BindsTo s fd ⟨[v],[]⟩ [("_law_script",v)])/\∀ base:Heap,K.In base->base.Ns mainGlobals mg->FnOk l.prog w K mg base CX0 7 fa fd ["_law_script"] (sp_law K):=by
  have e:=hfa.symm.trans (Zq X G g_law);cases e;have T:Txt K mg ⟨a_commonpart,d_commonpart,a_plus,d_plus,a_minus,d_minus,a_product,d_product,a_isless,d_isless,a_isoffered,d_isoffered,a_endof,d_endof,a_waitslack,d_waitslack,a_holdslack,d_holdslack,a_takesonecorner,d_takesonecorner,a_firstbelow,d_firstbelow,a_firstuntaken,d_firstuntaken,a_firstbroken,d_firstbroken,a_plansbeside,d_plansbeside,a_planlater,d_planlater,a_planturned,d_planturned,a_planscaled,d_planscaled,a_Lbegun,d_Lbegun,a_Ltake,d_Ltake,a_Llow,d_Llow,a_Lplus,d_Lplus,a_Lminus,d_Lminus,a_Ltimes,d_Ltimes,a_Lunder,d_Lunder,a_Lamount,d_Lamount,a_Loffer,d_Loffer,a_Lnames,d_Lnames,a_Lorder,d_Lorder,a_Llag,d_Llag,a_Lwaits,d_Lwaits,a_Lholds,d_Lholds,a_Lgroups,d_Lgroups,a_Lnet,d_Lnet,a_Lbeside,d_Lbeside,a_Lbehind,d_Lbehind,a_Lturned,d_Lturned,a_Lscaled,d_Lscaled,a_Ltimesdrawn,d_Ltimesdrawn,a_Lstarts,d_Lstarts,a_Lwhole,d_Lwhole,a_Lplan,d_Lplan,a_Ltoldright,d_Ltoldright,a_Ljoinedright,d_Ljoinedright,a_Lalike,d_Lalike,fa,PySem.W.fnOf "law" "law" (G5 s_law) (G1 s_law) (A6 s_law) .none kV_law dc_law pm_law an_law cd_law ct_law,k_NOUGHT⟩:=⟨B,Zq X G B.g_commonpart,Zq X G B.g_plus,Zq X G B.g_minus,Zq X G B.g_product,Zq X G B.g_isless,Zq X G B.g_isoffered,Zq X G B.g_endof,Zq X G B.g_waitslack,Zq X G B.g_holdslack,Zq X G B.g_takesonecorner,Zq X G B.g_firstbelow,Zq X G B.g_firstuntaken,Zq X G B.g_firstbroken,Zq X G B.g_plansbeside,Zq X G B.g_planlater,Zq X G B.g_planturned,Zq X G B.g_planscaled,Zq X G B.g_Lbegun,Zq X G B.g_Ltake,Zq X G B.g_Llow,Zq X G B.g_Lplus,Zq X G B.g_Lminus,Zq X G B.g_Ltimes,Zq X G B.g_Lunder,Zq X G B.g_Lamount,Zq X G B.g_Loffer,Zq X G B.g_Lnames,Zq X G B.g_Lorder,Zq X G B.g_Llag,Zq X G B.g_Lwaits,Zq X G B.g_Lholds,Zq X G B.g_Lgroups,Zq X G B.g_Lnet,Zq X G B.g_Lbeside,Zq X G B.g_Lbehind,Zq X G B.g_Lturned,Zq X G B.g_Lscaled,Zq X G B.g_Ltimesdrawn,Zq X G B.g_Lstarts,Zq X G B.g_Lwhole,Zq X G B.g_Lplan,Zq X G B.g_Ltoldright,Zq X G B.g_Ljoinedright,Zq X G B.g_Lalike,B0n (st:=s_law) l_law c_law k_law,Zq X G g_law,Zq X G B.gc_NOUGHT,PySem.W.mg_none_of X G B.z_abs,PySem.W.mg_none_of X G B.z_all,PySem.W.mg_none_of X G B.z_enumerate,PySem.W.mg_none_of X G B.z_int,PySem.W.mg_none_of X G B.z_isinstance,PySem.W.mg_none_of X G B.z_len,PySem.W.mg_none_of X G B.z_list,PySem.W.mg_none_of X G B.z_max,PySem.W.mg_none_of X G B.z_min,PySem.W.mg_none_of X G B.z_range,PySem.W.mg_none_of X G B.z_zip,⟨fun H=>.tup ⟨.inr ⟨_,its_NOUGHT,n_NOUGHT,lq_NOUGHT,rfl,rfl,by rw [vq_NOUGHT]; show 2<=sizeLine; decide,by rw [vq_NOUGHT]; exact .cons ⟨_,rfl⟩ (.cons ⟨_,rfl⟩ .nil)⟩,.inr L2.B97⟩ (.cons (.int _) (.cons (.int _) .nil))⟩⟩;exact ⟨_,fun s v=>.of_eq rfl,fun base _ _=>B9o T⟩
theorem walk {l:PySem.W.OpenLaw} {q:Program} {loose:List Str} {XP:(Str->Option Value)->Heap->Prop} {YP:World->Heap->Prop} {d:DefRec} {K:Params->PySem.W.Frag} (hn:l.most=some 63) (hdf:d.params.defaults=[])
    (hY:∀ (w:World) (h:Heap),YP w h->(K w.params).In h)
    (F:∀ (w:World) (mg:Str->Option Value) (fa:Addr) (h:Heap),(K w.params).In h->h.Ns mainGlobals mg->mg d.name=some (.ref fa) ->
      ∃ fd:FuncData,(∀ (s:Shared) (u:Value),BindsTo s fd ⟨[u],[]⟩ [("_law_script",u)])/\∀ base:Heap,(K w.params).In base->base.Ns mainGlobals mg->FnOk l.prog w (K w.params) mg base CX0 7 fa fd ["_law_script"] (sp_law (K w.params))) :
    PySem.W.WalkO q loose XP YP l.row.toRowW d [] (fun f vs=>PySem.call f vs) :=
  L2.B0z (n:=63) (k:=7) (x:="_law_script") (CX:=fun _=>CX0) (sp:=fun w=>sp_law (K w.params)) hn (by decide) hdf ⟨rfl,rfl,by decide,by decide⟩ hY F (fun _ _ a ns hl _ hS=>⟨a,ns,rfl,hS,hl,fun _=>rfl⟩) fun _ _ _ _ _ z=>z
end Prf
open PySem PySem.W PyProof.Rows
set_option maxRecDepth 100000 in
set_option maxHeartbeats 0 in
theorem PySem.Challenge.cw_hurryprice_k54_plans_joined_holds : PySem.Challenge.rw_hurryprice_k54_plans_joined.Holds := by
  refine holds_law Prf.said fun ws=>?_;refine holds_open (q:=Prf.qq) (loose:=[]) (Xt:=Prf.xt) (XP:=XL Prf.qq []) (Yf:=Prf.hh.obs)
    (Ya:=Prf.hh.val) (YP:=Prf.hh.says) (N:=3012) Prf.left Prf.hh.of Prf.hh.keeps
    (fun s e=>xl_of s (Bool.and_eq_true_iff.mp e).1) XL.keeps
    (by rfl) (by rfl) (by rfl) (fun s e=>recFacts_of (Bool.and_eq_true_iff.mp e).2)
    (by rfl) ws (by decide +kernel)
    ⟨rfl,rfl,rfl,rfl,rfl,by decide +kernel⟩ ?hw ?hc
  case hw=>w_witness2
  refine Prf.walk (l:=PySem.Challenge.rw_hurryprice_k54_plans_joined) (K:=Prf.kk) rfl rfl (fun w h Y=>PySem.W.kIn_of Y) ?F;case F =>
    intro w mg fa h KX G hmg
    k_fill
    refine' Prf.all_mk KX G hmg ⟨?g_commonpart,?F_commonpart,?g_plus,?F_plus,?g_minus,?F_minus,?g_product,?F_product,?g_isless,?F_isless,?g_isoffered,?F_isoffered,?g_endof,?F_endof,?g_waitslack,?F_waitslack,?g_holdslack,?F_holdslack,?g_takesonecorner,?F_takesonecorner,?g_firstbelow,?F_firstbelow,?g_firstuntaken,?F_firstuntaken,?g_firstbroken,?F_firstbroken,?g_plansbeside,?F_plansbeside,?g_planlater,?F_planlater,?g_planturned,?F_planturned,?g_planscaled,?F_planscaled,?g_Lbegun,?F_Lbegun,?g_Ltake,?F_Ltake,?g_Llow,?F_Llow,?g_Lplus,?F_Lplus,?g_Lminus,?F_Lminus,?g_Ltimes,?F_Ltimes,?g_Lunder,?F_Lunder,?g_Lamount,?F_Lamount,?g_Loffer,?F_Loffer,?g_Lnames,?F_Lnames,?g_Lorder,?F_Lorder,?g_Llag,?F_Llag,?g_Lwaits,?F_Lwaits,?g_Lholds,?F_Lholds,?g_Lgroups,?F_Lgroups,?g_Lnet,?F_Lnet,?g_Lbeside,?F_Lbeside,?g_Lbehind,?F_Lbehind,?g_Lturned,?F_Lturned,?g_Lscaled,?F_Lscaled,?g_Ltimesdrawn,?F_Ltimesdrawn,?g_Lstarts,?F_Lstarts,?g_Lwhole,?F_Lwhole,?g_Lplan,?F_Lplan,?g_Ltoldright,?F_Ltoldright,?g_Ljoinedright,?F_Ljoinedright,?g_Lalike,?F_Lalike,?gc_NOUGHT,?z_abs,?z_all,?z_enumerate,?z_int,?z_isinstance,?z_len,?z_list,?z_max,?z_min,?z_range,?z_zip⟩ ?g_law ?l_law ?c_law ?k_law ?lq_NOUGHT ?vq_NOUGHT
    (case g_commonpart | F_commonpart | g_plus | F_plus | g_minus | F_minus | g_product | F_product | g_isless | F_isless | g_isoffered | F_isoffered | g_endof | F_endof | g_waitslack | F_waitslack | g_holdslack | F_holdslack | g_takesonecorner | F_takesonecorner | g_firstbelow | F_firstbelow | g_firstuntaken | F_firstuntaken | g_firstbroken | F_firstbroken | g_plansbeside | F_plansbeside | g_planlater | F_planlater | g_planturned | F_planturned | g_planscaled | F_planscaled | g_Lbegun | F_Lbegun | g_Ltake | F_Ltake | g_Llow | F_Llow | g_Lplus | F_Lplus | g_Lminus | F_Lminus | g_Ltimes | F_Ltimes | g_Lunder | F_Lunder | g_Lamount | F_Lamount | g_Loffer | F_Loffer | g_Lnames | F_Lnames | g_Lorder | F_Lorder | g_Llag | F_Llag | g_Lwaits | F_Lwaits | g_Lholds | F_Lholds | g_Lgroups | F_Lgroups | g_Lnet | F_Lnet | g_Lbeside | F_Lbeside | g_Lbehind | F_Lbehind | g_Lturned | F_Lturned | g_Lscaled | F_Lscaled | g_Ltimesdrawn | F_Ltimesdrawn | g_Lstarts | F_Lstarts | g_Lwhole | F_Lwhole | g_Lplan | F_Lplan | g_Ltoldright | F_Ltoldright | g_Ljoinedright | F_Ljoinedright | g_Lalike | F_Lalike=>first | (apply L2.B0n <;> k_is) | k_is)
    (case gc_NOUGHT=>k_is)
    (case z_abs=>k_is)
    (case z_all=>k_is)
    (case z_enumerate=>k_is)
    (case z_int=>k_is)
    (case z_isinstance=>k_is)
    (case z_len=>k_is)
    (case z_list=>k_is)
    (case z_max=>k_is)
    (case z_min=>k_is)
    (case z_range=>k_is)
    (case z_zip=>k_is)
    (case g_law=>k_is)
    (case l_law=>k_is)
    (case c_law=>k_is)
    (case k_law=>k_is)
    (case lq_NOUGHT=>k_is)
    (case vq_NOUGHT=>exact rfl)
