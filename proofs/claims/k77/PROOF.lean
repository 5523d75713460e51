import PyProof.Rows.All
import Wide.All
import OpenK.AllK
import Wide.FinOn
import Lean
import PyProof.EqAt
import PyProof.EqKinds
import PyProof.TupleCall
import PySem.Challenge.RW_hurryprice_k77_fractions_written
set_option Elab.async false
set_option linter.all false
set_option maxRecDepth 100000
set_option maxHeartbeats 4000000
set_option compiler.extract_closed false
theorem Zm {α:Type u} {l:List α} {i:Nat} {a:α} (h:l[i]?=some a):a ∈ l:=List.mem_of_getElem? h
theorem Zg {α:Type u} {l:List α} {i:Nat} (h:i < l.length):l[i]?=some l[i]:=List.getElem?_eq_getElem h
theorem Zs {α:Type u} {l:List α} {i:Nat} {a:α} (h:l[i]?=some a):∃ h:i < l.length,l[i]=a:=List.getElem?_eq_some_iff.mp h
theorem Za {α:Type u} {a:α} {s t:List α} (h:a ∈ s++t):a ∈ s\/a ∈ t:=List.mem_append.mp h
theorem Zi {a:Int} (h:0<=a):∃ n:Nat,a=(n:Int):=Int.eq_ofNat_of_zero_le h
theorem Zo {α:Type u} {β:Type v} {f:α->β} {x:Option α} {b:β} (h:x.map f=some b):∃ a,x=some a/\f a=b:=Option.map_eq_some_iff.mp h
theorem Zn {α:Type u} {a b:α} (h:a ∈ [b]):a=b:=List.mem_singleton.mp h
theorem Zr {α:Type u} {a:α} {l:List α} (y:α) (h:a ∈ l):a ∈ y :: l:=List.mem_cons_of_mem y h
theorem Zu {m n:Nat} (k:Nat) (h:m<=n):m * k<=n * k:=Nat.mul_le_mul_right k h
theorem Zt {α:Type u} {a:α} {as:List α} (bs:List α) (h:a ∈ as):a ∈ as++bs:=List.mem_append_left bs h
theorem Zw {α:Type u} {b:α} (as:List α) {bs:List α} (h:b ∈ bs):b ∈ as++bs:=List.mem_append_right as h
theorem Zj {α:Type u} {a b:α} (h:some a=some b):a=b:=Option.some.inj h
theorem Zp {n m k:Nat} (h:n > 0) (g:m<=k):n ^ m<=n ^ k:=Nat.pow_le_pow_right h g
theorem Zv (n:Nat):n<=n:=Nat.le_refl n
theorem Zx {n m k:Nat} (a:n<=m) (b:m<=k):n<=k:=Nat.le_trans a b
theorem Zy {α:Type u} {a:α} {l:List α}:a ∈ a :: l:=List.mem_cons_self
theorem Zd {p:Prop} [Decidable p] (h:¬p):decide p=false:=decide_eq_false h
theorem Zk {p:Prop} [Decidable p] (h:p):decide p=true:=decide_eq_true h
def Zq:=@PySem.W.mg_of
def Z1:=@PySem.F.plainAttrs_list
def Z2:=@PySem.F.slot_list_append
def Z3:=@PySem.F.type_list_append
theorem Zl {α:Type u} {β:Type v} {as:List α} {f:α->β}:(as.map f).length=as.length:=List.length_map f
theorem Zh {α:Type u} {β:Type v} {f:α->β} {l:List α} {i:Nat}:(l.map f)[i]?=l[i]?.map f:=List.getElem?_map ..
theorem Zc {α:Type u} {β:Type v} {f:α->β} {l k:List α}:(l++k).map f=l.map f++k.map f:=List.map_append ..
theorem Ze {α:Type u} {as bs:List α}:(as++bs).length=as.length + bs.length:=List.length_append ..
namespace L2
open PySem PySem.Spec PyProof.Rows
def D7 (s:Stmt):Arguments:=match s with
  | .FunctionDef _ a _ _ _ _ _ _ _ _=>a
  | _=>{ posonlyargs:=[],args:=[],vararg:=none,kwonlyargs:=[],kw_defaults:=[],kwarg:=none,defaults:=[] }
def C5 (s:Stmt):List Stmt:=match s with
  | .FunctionDef _ _ b _ _ _ _ _ _ _=>b
  | _=>[]
def A6 (s:Stmt):Scope:=match s with
  | .FunctionDef _ _ _ _ _ _ sc _ _ _=>sc
  | _=>{ kind:=.function,names:=[],isGenerator:=false,isCoroutine:=false }
def B95:Stmt->Nat->Stmt
  | .ClassDef _ _ _ body _ _ _ _ _ _ _,n=>body.getD n (.Pass ⟨0,0,0,0⟩)
  | s,_=>s
open PySem.W
def M3 (tb:String->Option Builtin) (p:Program) (w:World) (m:Nat) (ann:Option Value):Nat->SharedT->Thread->Option SharedT
  | 0,_,_=>none
  | n + 1,s,t=>match through t with
    | true=>some s
    | false=>match stepOk m ann t with
      | false=>none
      | true=>match stepT (denote tb) p w s t with
        | some x=>M3 tb p w m ann n x.1 x.2
        | none=>none
theorem Q0 {tb:String->Option Builtin} {p:Program} {w:World} {m:Nat} {ann:Option Value}:∀ (n:Nat) (s r:SharedT) (t:Thread),M3 tb p w m ann n s t=some r->topRun tb p w m ann n s.abs t=some r.abs
  | 0,_,_,_,h=>by cases h
  | n + 1,s,r,t,h=>by
    unfold M3 at h;unfold topRun;cases a:through t with
    | true=>rw [a] at h; cases h; rfl
    | false =>
      rw [a] at h;cases b:stepOk m ann t with
      | false=>rw [b] at h; cases h
      | true =>
        rw [b] at h;cases c:stepT (denote tb) p w s t with
        | none=>rw [c] at h; cases h
        | some x =>
          rw [c] at h;rw [stepT_spec (s':=x.1) (t':=x.2) c];exact Q0 n x.1 r x.2 h
def mkT (os:List Obj):Nat->Nat->Nat->BT
  | 0,_,_=>.nil
  | k + 1,a,b=>match os[b]? with
    | some o=>.node o (mkT os k (2 * a) (a + b)) (mkT os k (2 * a) (2 * a + b))
    | none=>.nil
noncomputable def A3m (w:World) (os:OsState):Shared:=⟨boot_heap w.params,Array.mk [],boot_drawn,boot_toks,os⟩
noncomputable def B0f (w:World) (os:OsState):SharedT:=⟨mkT (boot_heap w.params).objs.toList 12 1 0,(boot_heap w.params).objs.size,(boot_heap w.params).life,Array.mk [],boot_drawn,boot_toks,os⟩
theorem B0e (w:World) (os:OsState):(B0f w os).abs=A3m w os:=by kernel_rfl
theorem B5o (w:World) (os:OsState):((A3m w os).heap.isNs mainGlobals && (A3m w os).gens.size == 0)=true:=by kernel_rfl
theorem B90 {p q:Program} {loose:List Str} {Xt:Shared->Bool} {α:Type} {Yf:Shared->α} {Ya:World->α} {N:Nat} (ho:opening p=plainProg p.main.scope.names) (hN:Nat.ble 600 N=true) (hf:∀ s,fenceModules? p s=some s)
    (run:∀ (w:World) (os:OsState),(M3 treeTable p w (boot_heap w.params).objs.size ((boot_heap w.params).nsMap mainGlobals "__annotations__") N (B0f w os) (topStub p)).map
      (fun x=>(staticsOk (importedModules p.main.body) (boot_heap w.params) x.abs.heap && namesBound p x.abs.heap && gensDone x.abs && laidKept (boot_heap w.params) x.abs.heap,openSeen q loose (importedModules p.main.body) Xt true x.abs,Yf x.abs))=some (true,openGood q loose,Ya w)) :
    LeftO p q loose Xt Yf Ya N:=fun w=>by
  obtain ⟨⟨h,gs,d,k,os⟩,e,z⟩:=Zo (boot_open ho hN hf w);obtain ⟨rfl,rfl,rfl,rfl⟩:h=boot_heap w.params/\gs=Array.mk []/\d=boot_drawn/\k=boot_toks:=by simpa using z
  obtain ⟨x,r,v⟩:=Zo (run w os);have r:=Q0 _ _ _ _ r;rw [B0e] at r;obtain ⟨v1,v2⟩:=Prod.mk.inj v;obtain ⟨v2,v3⟩:=Prod.mk.inj v2;show ((fencedOpening treeTable p w N).bind (topFrom treeTable p w N)).map _=_;rw [e];show (topFrom treeTable p w N (A3m w os)).map _=_;have t:topFrom treeTable p w N (A3m w os)=some x.abs:=by
    unfold topFrom;rw [B5o];show (topRun treeTable p w (boot_heap w.params).objs.size ((boot_heap w.params).nsMap mainGlobals "__annotations__") N (A3m w os) (topStub p)).bind _=_;rw [r];show (match staticsOk (importedModules p.main.body) (boot_heap w.params) x.abs.heap && namesBound p x.abs.heap && gensDone x.abs && laidKept (boot_heap w.params) x.abs.heap with | true=>some x.abs | false=>none)=_;rw [v1]
  rw [t];show some (openSeen q loose (importedModules p.main.body) Xt true x.abs,Yf x.abs)=_;rw [v2,v3]
noncomputable abbrev ranT (p:Program) (N:Nat) (w:World) (os:OsState):Option SharedT:=M3 treeTable p w (boot_heap w.params).objs.size ((boot_heap w.params).nsMap mainGlobals "__annotations__") N (B0f w os) (topStub p)
theorem B8e {p q:Program} {loose:List Str} {Xt:Shared->Bool} {α:Type} {Yf:Shared->α} {Ya:World->α} {N:Nat} (ho:opening p=plainProg p.main.scope.names) (hN:Nat.ble 600 N=true) (hf:∀ s,fenceModules? p s=some s)
    (a:∀ (w:World) (os:OsState),(ranT p N w os).map (fun x=>staticsOk (importedModules p.main.body) (boot_heap w.params) x.abs.heap && namesBound p x.abs.heap && gensDone x.abs && laidKept (boot_heap w.params) x.abs.heap)=some true)
    (b:∀ (w:World) (os:OsState),(ranT p N w os).map (fun x=>openSeen q loose (importedModules p.main.body) Xt true x.abs)=some (openGood q loose))
    (c:∀ (w:World) (os:OsState),(ranT p N w os).map (fun x=>Yf x.abs)=some (Ya w)):LeftO p q loose Xt Yf Ya N :=
  B90 ho hN hf fun w os=>by
    obtain ⟨x,r,e⟩:=Zo (a w os);have r':M3 treeTable p w (boot_heap w.params).objs.size ((boot_heap w.params).nsMap mainGlobals "__annotations__") N (B0f w os) (topStub p)=some x:=r;have f:openSeen q loose (importedModules p.main.body) Xt true x.abs=openGood q loose:=by have z:=b w os; rw [r] at z; exact Zj z
    have g:Yf x.abs=Ya w:=by have z:=c w os; rw [r] at z; exact Zj z
    rw [r'];show some (_,_,_)=_;rw [e,f,g]
theorem B8d {p q:Program} {loose:List Str} {Xt:Shared->Bool} {α:Type} {Yf:Shared->α} {Ya:World->α} {N:Nat} (ho:opening p=plainProg p.main.scope.names) (hN:Nat.ble 600 N=true) (hf:∀ s,fenceModules? p s=some s)
    (a:∀ (w:World) (os:OsState),(ranT p N w os).map (fun x=>staticsOk (importedModules p.main.body) (boot_heap w.params) x.abs.heap && namesBound p x.abs.heap && gensDone x.abs && laidKept (boot_heap w.params) x.abs.heap)=some true)
    (b:∀ (w:World) (os:OsState),(ranT p N w os).map (fun x=>seen ((recsOf q).map (·.name)) (ownsOf q) [] { heap:=x.abs.heap,drawn:=x.abs.drawn,toks:=x.abs.toks,os:=x.abs.os })=some (expectedOf q))
    (b1:∀ (w:World) (os:OsState),(ranT p N w os).map (fun x=>x.abs.heap.bltView)=some bltViewBooted)
    (k1:∀ (w:World) (os:OsState),(ranT p N w os).map (fun x=>x.abs.heap.keysOk (looseW q loose) ((recsOf q).map (·.name)) ((litsOf q).map (·.1)) ((clssOf q (looseW q loose)).map (·.name)))=some true)
    (k2:∀ (w:World) (os:OsState),(ranT p N w os).map (fun x=>x.abs.heap.accountedOkI (importedModules p.main.body) && x.abs.heap.isNs mainGlobals && x.abs.heap.isNs builtinsNs && tablesOk q x.abs.heap && Xt x.abs && x.abs.gens.size == 0)=some true)
    (b3:∀ (w:World) (os:OsState),(ranT p N w os).map (fun x=>(tabsOk q x.abs,pinSeenD q (drecsOf q) x.abs))=some (true,pinGoodD (drecsOf q)))
    (b5:∀ (w:World) (os:OsState),(ranT p N w os).map (fun x=>(plainSeenE q (looseW q loose) x.abs,plainSeenD q loose x.abs))=some (plainGoodE q (looseW q loose),plainGoodD q loose))
    (b4:∀ (w:World) (os:OsState),(ranT p N w os).map (fun x=>(wideSeen q x.abs,clsSeenW q loose x.abs))=some (wideGood q,clsGoodW q loose))
    (c:∀ (w:World) (os:OsState),(ranT p N w os).map (fun x=>Yf x.abs)=some (Ya w)):LeftO p q loose Xt Yf Ya N :=
  B8e ho hN hf a (fun w os=>by
    obtain ⟨x,r,e⟩:=Zo (b w os);have z1:=b1 w os;have z2:=k1 w os;have z3:=k2 w os;have z4:=b3 w os;have z6:=b4 w os;have z7:=b5 w os;rw [r] at z1 z2 z3 z4 z6 z7 ⊢;have z1:x.abs.heap.bltView=bltViewBooted:=Zj z1;have z2:x.abs.heap.keysOk (looseW q loose) ((recsOf q).map (·.name)) ((litsOf q).map (·.1)) ((clssOf q (looseW q loose)).map (·.name))=true:=Zj z2;have z3:(x.abs.heap.accountedOkI (importedModules p.main.body) && x.abs.heap.isNs mainGlobals && x.abs.heap.isNs builtinsNs && tablesOk q x.abs.heap && Xt x.abs && x.abs.gens.size == 0)=true:=Zj z3;obtain ⟨y1,y2⟩:=Prod.mk.inj (Zj z4);obtain ⟨y3,y4⟩:=Prod.mk.inj (Zj z7);obtain ⟨y5,y6⟩:=Prod.mk.inj (Zj z6);show some (seen ((recsOf q).map (·.name)) (ownsOf q) [] { heap:=x.abs.heap,drawn:=x.abs.drawn,toks:=x.abs.toks,os:=x.abs.os },x.abs.heap.bltView,(x.abs.heap.keysOk (looseW q loose) ((recsOf q).map (·.name)) ((litsOf q).map (·.1)) ((clssOf q (looseW q loose)).map (·.name)) && x.abs.heap.accountedOkI (importedModules p.main.body) && x.abs.heap.isNs mainGlobals && x.abs.heap.isNs builtinsNs && tablesOk q x.abs.heap && Xt x.abs && x.abs.gens.size == 0),tabsOk q x.abs,pinSeenD q (drecsOf q) x.abs,plainSeenE q (looseW q loose) x.abs,plainSeenD q loose x.abs,wideSeen q x.abs,clsSeenW q loose x.abs)=some (expectedOf q,bltViewBooted,true,true,pinGoodD (drecsOf q),plainGoodE q (looseW q loose),plainGoodD q loose,wideGood q,clsGoodW q loose);rw [z1,z2,Bool.true_and,z3,y1,y2,y3,y4,y5,y6];exact congrArg (fun z=>some (z,_)) e) c
end L2
namespace Prf
open PySem L2
def top (i:Nat):Stmt:=PySem.Challenge.pw_hurryprice_k77_fractions_written.main.body.getD i (.Pass ⟨0,0,0,0⟩)
abbrev s_commonpart:Stmt:=top 6
abbrev s_product:Stmt:=top 8
abbrev s_shownwhole:Stmt:=top 14
abbrev s_shownratio:Stmt:=top 15
abbrev s_wholein:Stmt:=top 16
abbrev s_ratioin:Stmt:=top 17
abbrev s_readratio:Stmt:=top 18
abbrev s_Lbegun:Stmt:=top 20
abbrev s_Ltake:Stmt:=top 21
abbrev s_Llow:Stmt:=top 22
abbrev s_Lsame:Stmt:=top 23
abbrev s_Lfigures:Stmt:=top 24
abbrev s_Lfraction:Stmt:=top 25
abbrev s_Ltext:Stmt:=top 26
abbrev s_Lodd:Stmt:=top 27
abbrev s_Lstrange:Stmt:=top 28
abbrev s_Lislonger:Stmt:=top 29
abbrev s_Lisrefused:Stmt:=top 30
abbrev s_law:Stmt:=top 31
abbrev s_NoTextinit:Stmt:=B95 (top 3) 0
abbrev cO (n:Str) (a:Tok) (m:Str) (b c:Tok) (l p f:Int) (x y z u v:Value) (g k:Int) (d:Tok):Obj:=⟨.type "code",none,.fields #[.str n a,.str m b,.str "/claim/cut.py" c,.int l 0,.int p 0,.int 0 0,.int 0 0,.int f 0,x,.bool true,.int 181 0,y,.none,z,u,v,.int g 0,.int k 0,.str "/claim/cut.py" d],#[]⟩
abbrev fO (n:Str) (s:Stmt) (m:Str) (t:Tok) (c:Addr):Obj:=⟨.type "function",none,.func (PySem.W.fnOf n n (D7 s) (C5 s) (A6 s) .none .none .none (.str m t) none (.ref c) .none),#[]⟩
abbrev nE (P:Params) (x:Str) (t:Tok) (v:Value):DictEntry:=⟨PyData.keyHash P x,.str x t,v⟩
noncomputable def kk:Params->PySem.W.Frag:=fun P =>
  (nat_lit 1,⟨(.type "dict"),none,(.dict #[nE P "builtins" 162 (.ref 4),nE P "__main__" 163 (.ref 5)] 2),#[]⟩) ::
  (nat_lit 3,⟨(.type "dict"),none,(.dict #[nE P "__name__" 165 (.str "law_hurryprice_k77_fractions_written" 342),nE P "__doc__" 166 .none,nE P "__package__" 167 .none,nE P "__loader__" 168 (.builtin "__main__.__loader__#opaque"),nE P "__spec__" 169 .none,nE P "__annotations__" 170 (.ref 6),nE P "__builtins__" 171 (.ref 4),nE P "__file__" 173 (.str "/claim/cut.py" 172),nE P "__cached__" 174 .none,nE P "HurryError" 206 (.ref 24),nE P "NoNumber" 222 (.ref 37),nE P "NoText" 247 (.ref 56),nE P "NoRow" 263 (.ref 68),nE P "common_part" 273 (.ref 77),nE P "product" 285 (.ref 84),nE P "FIGURES" 289 (.str "0123456789" 288),nE P "MOST_FIGURES" 291 (.int 60 290),nE P "CHUNK" 293 (.int 1000000000000000000 292),nE P "CHUNK_FIGURES" 295 (.int 18 294),nE P "shown_whole" 306 (.ref 91),nE P "shown_ratio" 315 (.ref 98),nE P "whole_in" 321 (.ref 103),nE P "ratio_in" 333 (.ref 110),nE P "read_ratio" 341 (.ref 117),nE P "_law_begun" 352 (.ref 124),nE P "_law_take" 363 (.ref 131),nE P "_law_low" 373 (.ref 138),nE P "_law_same" 383 (.ref 145),nE P "_law_figures" 391 (.ref 152),nE P "_law_fraction" 402 (.ref 159),nE P "_law_text" 410 (.ref 166),nE P "_law_odd" 418 (.ref 173),nE P "_law_strange" 428 (.ref 180),nE P "_law_is_longer" 438 (.ref 187),nE P "_law_is_refused" 448 (.ref 194),nE P "law" 463 (.ref 201)] 36),#[]⟩) ::
  (nat_lit 23,⟨(.type "dict"),none,(.dict #[nE P "__module__" 196 (.str "hurryprice.errors" 187),nE P "__firstlineno__" 200 (.int 2 199),nE P "__static_attributes__" 201 (.ref 22),nE P "__weakref__" 203 (.ref 25),nE P "__doc__" 204 .none] 3),#[]⟩) ::
  (nat_lit 24,⟨(.type "type"),none,(.cls ⟨"HurryError",[(.type "ValueError")],[(.ref 24),(.type "ValueError"),(.type "Exception"),(.type "BaseException"),(.type "object")],23,"HurryError",true,[],[(.ref 37),(.ref 56),(.ref 68)],false,none,false⟩),#[(some (.ref 15)),none,(some (.str "HurryError" 189)),(some (.str "HurryError" 197)),(some (.builtin "ValueError.__new__")),(some (.bool true))]⟩) ::
  (nat_lit 36,⟨(.type "dict"),none,(.dict #[nE P "__module__" 214 (.str "hurryprice.errors" 187),nE P "__firstlineno__" 218 (.int 4 217),nE P "__static_attributes__" 219 (.ref 35),nE P "__doc__" 220 .none] 2),#[]⟩) ::
  (nat_lit 37,⟨(.type "type"),none,(.cls ⟨"NoNumber",[(.ref 24)],[(.ref 37),(.ref 24),(.type "ValueError"),(.type "Exception"),(.type "BaseException"),(.type "object")],36,"NoNumber",true,[],[],false,none,false⟩),#[(some (.ref 28)),none,(some (.str "NoNumber" 207)),(some (.str "NoNumber" 215)),(some (.builtin "ValueError.__new__")),(some (.bool true))]⟩) ::
  (nat_lit 52,cO "__init__" 235 "NoText.__init__" 236 237 8 2 3 (.ref 47) (.ref 48) (.ref 49) (.ref 50) (.ref 51) 240 8 241) ::
  (nat_lit 53,⟨(.type "function"),none,(.func (PySem.W.fnOf "__init__" "NoText.__init__" (D7 s_NoTextinit) (C5 s_NoTextinit) (A6 s_NoTextinit) .none .none .none (.str "hurryprice.errors" 187) none (.ref 52) .none)),#[]⟩) ::
  (nat_lit 55,⟨(.type "dict"),none,(.dict #[nE P "__module__" 230 (.str "hurryprice.errors" 187),nE P "__firstlineno__" 234 (.int 6 233),nE P "__init__" 242 (.ref 53),nE P "__static_attributes__" 244 (.ref 54),nE P "__doc__" 245 .none] 2),#[]⟩) ::
  (nat_lit 56,⟨(.type "type"),none,(.cls ⟨"NoText",[(.ref 24)],[(.ref 56),(.ref 24),(.type "ValueError"),(.type "Exception"),(.type "BaseException"),(.type "object")],55,"NoText",true,[],[],false,none,false⟩),#[(some (.ref 40)),none,(some (.str "NoText" 223)),(some (.str "NoText" 231)),(some (.builtin "ValueError.__new__")),(some (.bool true))]⟩) ::
  (nat_lit 67,⟨(.type "dict"),none,(.dict #[nE P "__module__" 255 (.str "hurryprice.errors" 187),nE P "__firstlineno__" 259 (.int 10 258),nE P "__static_attributes__" 260 (.ref 66),nE P "__doc__" 261 .none] 2),#[]⟩) ::
  (nat_lit 68,⟨(.type "type"),none,(.cls ⟨"NoRow",[(.ref 24)],[(.ref 68),(.ref 24),(.type "ValueError"),(.type "Exception"),(.type "BaseException"),(.type "object")],67,"NoRow",true,[],[],false,none,false⟩),#[(some (.ref 59)),none,(some (.str "NoRow" 248)),(some (.str "NoRow" 256)),(some (.builtin "ValueError.__new__")),(some (.bool true))]⟩) ::
  (nat_lit 76,cO "common_part" 266 "common_part" 267 268 13 2 3 (.ref 71) (.ref 72) (.ref 73) (.ref 74) (.ref 75) 271 13 272) ::
  (nat_lit 77,fO "common_part" s_commonpart "hurryprice.names" 264 76) ::
  (nat_lit 83,cO "product" 276 "product" 277 278 19 2 3 (.ref 78) (.ref 79) (.ref 80) (.ref 81) (.ref 82) 283 19 284) ::
  (nat_lit 84,fO "product" s_product "hurryprice.ratios" 274 83) ::
  (nat_lit 90,cO "shown_whole" 296 "shown_whole" 297 298 27 1 3 (.ref 85) (.ref 86) (.ref 87) (.ref 88) (.ref 89) 304 27 305) ::
  (nat_lit 91,fO "shown_whole" s_shownwhole "hurryprice.nettexts" 286 90) ::
  (nat_lit 97,cO "shown_ratio" 307 "shown_ratio" 308 309 36 1 3 (.ref 92) (.ref 93) (.ref 94) (.ref 95) (.ref 96) 313 36 314) ::
  (nat_lit 98,fO "shown_ratio" s_shownratio "hurryprice.nettexts" 286 97) ::
  (nat_lit 102,cO "whole_in" 316 "whole_in" 317 318 39 1 3 (.ref 99) (.ref 100) .none .none (.ref 101) 319 39 320) ::
  (nat_lit 103,fO "whole_in" s_wholein "hurryprice.nettexts" 286 102) ::
  (nat_lit 109,cO "ratio_in" 322 "ratio_in" 323 324 45 1 3 (.ref 104) (.ref 105) (.ref 106) (.ref 107) (.ref 108) 331 45 332) ::
  (nat_lit 110,fO "ratio_in" s_ratioin "hurryprice.nettexts" 286 109) ::
  (nat_lit 116,cO "read_ratio" 334 "read_ratio" 335 336 54 1 3 (.ref 111) (.ref 112) (.ref 113) (.ref 114) (.ref 115) 339 54 340) ::
  (nat_lit 117,fO "read_ratio" s_readratio "hurryprice.nettexts" 286 116) ::
  (nat_lit 123,cO "_law_begun" 344 "_law_begun" 345 346 60 2 3 (.ref 118) (.ref 119) (.ref 120) (.ref 121) (.ref 122) 350 60 351) ::
  (nat_lit 124,fO "_law_begun" s_Lbegun "law_hurryprice_k77_fractions_written" 342 123) ::
  (nat_lit 130,cO "_law_take" 353 "_law_take" 354 355 65 2 3 (.ref 125) (.ref 126) (.ref 127) (.ref 128) (.ref 129) 361 65 362) ::
  (nat_lit 131,fO "_law_take" s_Ltake "law_hurryprice_k77_fractions_written" 342 130) ::
  (nat_lit 137,cO "_law_low" 364 "_law_low" 365 366 76 2 3 (.ref 132) (.ref 133) (.ref 134) (.ref 135) (.ref 136) 371 76 372) ::
  (nat_lit 138,fO "_law_low" s_Llow "law_hurryprice_k77_fractions_written" 342 137) ::
  (nat_lit 144,cO "_law_same" 374 "_law_same" 375 376 82 2 3 (.ref 139) (.ref 140) (.ref 141) (.ref 142) (.ref 143) 381 82 382) ::
  (nat_lit 145,fO "_law_same" s_Lsame "law_hurryprice_k77_fractions_written" 342 144) ::
  (nat_lit 151,cO "_law_figures" 384 "_law_figures" 385 386 99 1 3 (.ref 146) (.ref 147) (.ref 148) (.ref 149) (.ref 150) 389 99 390) ::
  (nat_lit 152,fO "_law_figures" s_Lfigures "law_hurryprice_k77_fractions_written" 342 151) ::
  (nat_lit 158,cO "_law_fraction" 392 "_law_fraction" 393 394 105 1 3 (.ref 153) (.ref 154) (.ref 155) (.ref 156) (.ref 157) 400 105 401) ::
  (nat_lit 159,fO "_law_fraction" s_Lfraction "law_hurryprice_k77_fractions_written" 342 158) ::
  (nat_lit 165,cO "_law_text" 403 "_law_text" 404 405 113 1 3 (.ref 160) (.ref 161) (.ref 162) (.ref 163) (.ref 164) 408 113 409) ::
  (nat_lit 166,fO "_law_text" s_Ltext "law_hurryprice_k77_fractions_written" 342 165) ::
  (nat_lit 172,cO "_law_odd" 411 "_law_odd" 412 413 120 1 3 (.ref 167) (.ref 168) (.ref 169) (.ref 170) (.ref 171) 416 120 417) ::
  (nat_lit 173,fO "_law_odd" s_Lodd "law_hurryprice_k77_fractions_written" 342 172) ::
  (nat_lit 179,cO "_law_strange" 419 "_law_strange" 420 421 125 2 3 (.ref 174) (.ref 175) (.ref 176) (.ref 177) (.ref 178) 426 125 427) ::
  (nat_lit 180,fO "_law_strange" s_Lstrange "law_hurryprice_k77_fractions_written" 342 179) ::
  (nat_lit 186,cO "_law_is_longer" 429 "_law_is_longer" 430 431 129 2 3 (.ref 181) (.ref 182) (.ref 183) (.ref 184) (.ref 185) 436 129 437) ::
  (nat_lit 187,fO "_law_is_longer" s_Lislonger "law_hurryprice_k77_fractions_written" 342 186) ::
  (nat_lit 193,cO "_law_is_refused" 439 "_law_is_refused" 440 441 137 1 3 (.ref 188) (.ref 189) (.ref 190) (.ref 191) (.ref 192) 446 137 447) ::
  (nat_lit 194,fO "_law_is_refused" s_Lisrefused "law_hurryprice_k77_fractions_written" 342 193) ::
  (nat_lit 200,cO "law" 449 "law" 450 451 151 1 3 (.ref 195) (.ref 196) (.ref 197) (.ref 198) (.ref 199) 461 151 462) ::
  (nat_lit 201,fO "law" s_law "law_hurryprice_k77_fractions_written" 342 200) :: []
noncomputable def qq:Program:=PySem.W.view PySem.Challenge.pw_hurryprice_k77_fractions_written [1,2,3,4,6,8,10,11,12,13,14,15,16,17,18,20,21,22,23,24,25,26,27,28,29,30,31]
noncomputable def aa:List Nat:=[1,3,23,24,36,37,52,53,55,56,67,68,76,77,83,84,90,91,97,98,102,103,109,110,116,117,123,124,130,131,137,138,144,145,151,152,158,159,165,166,172,173,179,180,186,187,193,194,200,201]
theorem B97:∀ P:Params,aa=(kk P).map (·.1):=fun P=>by kernel_rfl
noncomputable abbrev hh:PySem.W.Hook:=PySem.W.kHook kk aa B97
noncomputable abbrev xt (s:Shared):Bool:=PySem.W.xlAt qq [] s && PySem.W.recOk (PySem.W.RowW.records PySem.Challenge.rw_hurryprice_k77_fractions_written.row.toRowW) s
theorem run1 (w:World) (os:OsState):(L2.ranT PySem.Challenge.pw_hurryprice_k77_fractions_written 3202 w os).map (fun x=>PySem.W.staticsOk (importedModules PySem.Challenge.pw_hurryprice_k77_fractions_written.main.body) (PySem.W.boot_heap w.params) x.abs.heap && PySem.W.namesBound PySem.Challenge.pw_hurryprice_k77_fractions_written x.abs.heap && PySem.W.gensDone x.abs && PySem.W.laidKept (PySem.W.boot_heap w.params) x.abs.heap)=some true:=by kernel_rfl
open PySem.W PySem.Spec PyProof.Rows
theorem run2 (w:World) (os:OsState):(L2.ranT PySem.Challenge.pw_hurryprice_k77_fractions_written 3202 w os).map (fun x=>seen ((recsOf qq).map (·.name)) (ownsOf qq) [] { heap:=x.abs.heap,drawn:=x.abs.drawn,toks:=x.abs.toks,os:=x.abs.os })=some (expectedOf qq):=by kernel_rfl
theorem run4 (w:World) (os:OsState):(L2.ranT PySem.Challenge.pw_hurryprice_k77_fractions_written 3202 w os).map (fun x=>x.abs.heap.bltView)=some bltViewBooted:=by kernel_rfl
theorem run5 (w:World) (os:OsState):(L2.ranT PySem.Challenge.pw_hurryprice_k77_fractions_written 3202 w os).map (fun x=>x.abs.heap.keysOk (looseW qq []) ((recsOf qq).map (·.name)) ((litsOf qq).map (·.1)) ((clssOf qq (looseW qq [])).map (·.name)))=some true:=by kernel_rfl
theorem run6 (w:World) (os:OsState):(L2.ranT PySem.Challenge.pw_hurryprice_k77_fractions_written 3202 w os).map (fun x=>x.abs.heap.accountedOkI (importedModules PySem.Challenge.pw_hurryprice_k77_fractions_written.main.body) && x.abs.heap.isNs mainGlobals && x.abs.heap.isNs builtinsNs && tablesOk qq x.abs.heap && xt x.abs && x.abs.gens.size == 0)=some true:=by kernel_rfl
theorem run7 (w:World) (os:OsState):(L2.ranT PySem.Challenge.pw_hurryprice_k77_fractions_written 3202 w os).map (fun x=>(tabsOk qq x.abs,pinSeenD qq (drecsOf qq) x.abs))=some (true,pinGoodD (drecsOf qq)):=by kernel_rfl
theorem run9 (w:World) (os:OsState):(L2.ranT PySem.Challenge.pw_hurryprice_k77_fractions_written 3202 w os).map (fun x=>(plainSeenE qq (looseW qq []) x.abs,plainSeenD qq [] x.abs))=some (plainGoodE qq (looseW qq []),plainGoodD qq []):=by kernel_rfl
theorem run8 (w:World) (os:OsState):(L2.ranT PySem.Challenge.pw_hurryprice_k77_fractions_written 3202 w os).map (fun x=>(wideSeen qq x.abs,clsSeenW qq [] x.abs))=some (wideGood qq,clsGoodW qq []):=by kernel_rfl
theorem run3 (w:World) (os:OsState):(L2.ranT PySem.Challenge.pw_hurryprice_k77_fractions_written 3202 w os).map (fun x=>hh.obs x.abs)=some (hh.val w):=by kernel_rfl
theorem left:PySem.W.LeftO PySem.Challenge.pw_hurryprice_k77_fractions_written qq [] xt hh.obs hh.val 3202:=L2.B8d (by kernel_rfl) (by decide) (fun s=>by kernel_rfl) run1 run2 run4 run5 run6 run7 run9 run8 run3
theorem said:PySem.Challenge.rw_hurryprice_k77_fractions_written.wellSaid=true:=by
  unfold PySem.W.OpenLaw.wellSaid
  repeat' with_reducible refine Bool.and_eq_true_iff.mpr ⟨?_,?_⟩
  all_goals decide +kernel
end Prf
namespace L2
open PySem PySem.Spec PyProof.Rows
abbrev Key:=Sum Int Str
def B8m:Key->Value->Bool
  | .inl k,v=>Value.isInt k v
  | .inr x,v=>Value.isStrOf x v
def keyH (w:World):Key->Int
  | .inl k=>hashInt k
  | .inr x=>hashStr w x
theorem B9:∀ {k:Key} {v:Value},B8m k v=true->(∃ i t,k=Sum.inl i/\v=Value.int i t)\/(∃ x t,k=Sum.inr x/\v=Value.str x t)
  | .inl i,v,h=>by
    obtain ⟨t,e⟩:=Value.isInt_shape (k:=i) (v:=v) h;exact .inl ⟨i,t,rfl,e⟩
  | .inr x,v,h=>by
    obtain ⟨t,e⟩:=Value.isStrOf_shape (x:=x) (v:=v) h;exact .inr ⟨x,t,rfl,e⟩
theorem B8l (a b:Int):decide ((Sum.inl a:Key)=Sum.inl b)=(a == b):=by
  by_cases e:a=b
  · subst e; simp
  · have h:¬ (Sum.inl a:Key)=Sum.inl b:=fun q=>e (Sum.inl.inj q)
    rw [Zd h];exact (beq_eq_false_iff_ne.mpr e).symm
theorem B8i (a b:Str):decide ((Sum.inr a:Key)=Sum.inr b)=decide (a=b):=by
  by_cases e:a=b
  · subst e; simp
  · have h:¬ (Sum.inr a:Key)=Sum.inr b:=fun q=>e (Sum.inr.inj q)
    rw [Zd h,Zd e]
theorem B8k (a:Int) (b:Str):decide ((Sum.inl a:Key)=Sum.inr b)=false:=Zd (fun q=>nomatch q)
theorem B8j (a:Str) (b:Int):decide ((Sum.inr a:Key)=Sum.inl b)=false:=Zd (fun q=>nomatch q)
def A6z (prog:Program) (w:World):PySem.KeyKind prog w Key where
  is:=B8m
  hash:=keyH w
  inj:=fun v a b ha hb=>by
    rcases B9 ha with ⟨i,t,rfl,rfl⟩ | ⟨x,t,rfl,rfl⟩
    · rcases B9 hb with ⟨j,u,rfl,e⟩ | ⟨y,u,rfl,e⟩
      · injection e with e1 _; rw [e1]
      · exact nomatch e
    · rcases B9 hb with ⟨j,u,rfl,e⟩ | ⟨y,u,rfl,e⟩
      · exact nomatch e
      · injection e with e1 _; rw [e1]
  byValue:=fun k v h=>by
    rcases B9 h with ⟨i,t,rfl,rfl⟩ | ⟨x,t,rfl,rfl⟩ <;> rfl
  pyHash:=fun hv h=>by
    rcases B9 hv with ⟨i,t,rfl,rfl⟩ | ⟨x,t,rfl,rfl⟩
    · exact wpAny_pyHash_int h
    · exact wpAny_pyHash_str h
  eqBool:=fun hu hv h=>by
    rcases B9 hu with ⟨i,t,rfl,rfl⟩ | ⟨x,t,rfl,rfl⟩
    · rcases B9 hv with ⟨j,u,rfl,rfl⟩ | ⟨y,u,rfl,rfl⟩
      · rw [B8l] at h; exact wpAny_eqBool_int h
      · rw [B8k] at h; exact SeqAt.EqAt.int_str i t y u _ _ _ _ h
    · rcases B9 hv with ⟨j,u,rfl,rfl⟩ | ⟨y,u,rfl,rfl⟩
      · rw [B8j] at h; exact SeqAt.EqAt.str_int x t j u _ _ _ _ h
      · rw [B8i] at h; exact wpAny_eqBool_str h
  «strs»:=fun k x t v h=>by
    rcases B9 h with ⟨i,u,rfl,e⟩ | ⟨y,u,rfl,e⟩
    · exact nomatch e
    · injection e with e1 _
      subst e1;cases v <;> rfl
end L2
namespace L2
open PySem PySem.Spec PyProof.Rows
inductive V where
  | non | bl (b:Bool) | int (i:Int) | str (x:Str) | byt (b:Array UInt8) | flt (b:UInt64) | ref (a:Addr) | ty (n:String)
  deriving DecidableEq
def RelV:V->Value->Prop
  | .non,u=>u=Value.none
  | .bl b,u=>u=Value.bool b
  | .int i,u=>∃ t,u=Value.int i t
  | .str x,u=>∃ t,u=Value.str x t
  | .byt b,u=>∃ t,u=Value.bytes b t
  | .flt b,u=>∃ t,u=Value.float b t
  | .ref a,u=>u=Value.ref a
  | .ty n,u=>u=Value.type n
abbrev Vals:List V->List Value->Prop:=Paired RelV
theorem Vals.length {xs:List V} {us:List Value} (r:Vals xs us):xs.length=us.length:=Paired.length r
theorem Vals.get:∀ {xs:List V} {us:List Value} {i:Nat} {x:V},Vals xs us->xs[i]?=some x->∃ u,us[i]?=some u/\RelV x u
  | _,_,_,_,.nil,e=>by simp at e
  | _,_,0,_,.cons r _,e=>by simp at e; subst e; exact ⟨_,rfl,r⟩
  | _,_,i + 1,x,.cons _ t,e=>by
    obtain ⟨u,h1,h2⟩:=Vals.get (i:=i) (x:=x) t (by simpa using e);exact ⟨u,by simpa using h1,h2⟩
theorem Vals.set {x:V} {u:Value} (r:RelV x u):∀ {xs:List V} {us:List Value} (i:Nat),Vals xs us->Vals (xs.set i x) (us.set i u)
  | _,_,_,.nil=>.nil
  | _,_,0,.cons _ t=>.cons r t
  | _,_,i + 1,.cons q t=>.cons q (Vals.set r i t)
theorem Vals.append:∀ {xs ys:List V} {us ws:List Value},Vals xs us->Vals ys ws->Vals (xs++ys) (us++ws)
  | _,_,_,_,.nil,s=>s
  | _,_,_,_,.cons r t,s=>.cons r (Vals.append t s)
theorem Vals.take:∀ {xs:List V} {us:List Value} (n:Nat),Vals xs us->Vals (xs.take n) (us.take n)
  | _,_,0,_=>.nil
  | _,_,_ + 1,.nil=>.nil
  | _,_,n + 1,.cons r t=>.cons r (Vals.take n t)
theorem Vals.drop:∀ {xs:List V} {us:List Value} (n:Nat),Vals xs us->Vals (xs.drop n) (us.drop n)
  | _,_,0,r=>r
  | _,_,_ + 1,.nil=>.nil
  | _,_,n + 1,.cons _ t=>Vals.drop n t
theorem Vals.none_of:∀ {xs:List V} {us:List Value} {i:Nat},Vals xs us->xs[i]?=none->us[i]?=none:=fun {xs us i} r e=>by
  have h1:=r.length;have h2:xs.length<=i:=List.getElem?_eq_none_iff.mp e;exact List.getElem?_eq_none_iff.mpr (by omega)
def RelO:Option V->Option Value->Prop
  | some v,some u=>RelV v u
  | none,none=>True
  | _,_=>False
def KV {κ:Type}:List (κ × V)->List (κ × Value)->Prop:=Paired fun (p:κ × V) (q:κ × Value)=>p.1=q.1/\RelV p.2 q.2
def kV:Key->V
  | .inl i=>.int i
  | .inr x=>.str x
inductive HO where
    | lst (xs:List V)
    | tup (xs:List V)
    | dK (kvs:List (Key × V)) | dT (kvs:List (List Key × V))
    | set (S:Int->Bool) (n:Nat)
    | ins (C dx:Addr) (fs:List (Str × V))
    | own (x:Addr)
    | xd (fs:List (Str × V))
    | met (f x:Addr)
    | rng (lo hi:Int)
    | frz (o:Obj) (u:HO)
    | tbl (ps:Array Value)
    | ext (φ:Heap->Prop)
abbrev Hp:=Addr->Option HO
def upd (H:Hp) (a:Addr) (o:HO):Hp:=fun b=>if b=a then some o else H b
theorem B4 {H:Hp} {a:Addr} {o:HO}:upd H a o a=some o:=by unfold upd; rw [if_pos rfl]
theorem B2 {H:Hp} {a b:Addr} {o:HO} (h:b≠a):upd H a o b=H b:=by unfold upd; rw [if_neg h]
theorem B6 {H:Hp} {a b:Addr} {o:HO} (h:H a=some o) (h':H b=none):a≠b:=by
  intro e; subst e; rw [h] at h'; cases h'
section
variable (P:Program) (w:World)
def ObjOk (H:Hp) (h:Heap) (a:Addr):HO->Prop
  | .lst xs=>xs.length<=sizeLine/\∃ (its:List Value) (n:Nat),Vals xs its/\h.get? a=some { cls:=.type "list",data:=.seq its.toArray n }
  | .tup xs=>xs.length<=sizeLine/\∃ its:List Value,Vals xs its/\IsTup h a its.toArray
  | .dK kvs=>kvs.length<=sizeLine/\(a == sysModules)=false/\∃ vs,KV kvs vs/\h.DictOf (A6z P w) a vs
  | .dT kvs=>kvs.length<=sizeLine/\(a == sysModules)=false/\∃ xs:List (List Key × Addr × Value),
      Paired (fun (p:List Key × V) (q:List Key × Addr × Value)=>p.1=q.1/\H q.2.1=some (.tup (p.1.map kV))/\RelV p.2 q.2.2) kvs xs /\
      ∃ o es ep,h.get? a=some o/\o.ExactDict/\o.data=.dict es ep/\es.toList=xs.map (entryOfKey (tupleKind (A6z P w)))/\(xs.map (·.1)).Nodup
  | .set S n=>h.SetOf (intKind P w) a S n
  | .ins C dx fs=>H dx=some (.own a)/\fs.length<=1000/\dx≠a/\h.get? a=some (PySem.W.instObj C dx) /\
      ∃ mA,h.Ns1 dx mA/\(∀ f,RelO (fs.lookup f) (mA f))/\PySem.Within mA (fs.map (·.1))
  | .own _=>∃ o,h.get? a=some o
  | .xd fs=>∃ mA,h.Ns1 a mA/\∀ f,RelO (fs.lookup f) (mA f)
  | .rng lo hi=>∃ t u v,h.get? a=some { cls:=.type "range",data:=.fields #[.int lo t,.int hi u,.int 1 v] }
  | .frz o u=>h.get? a=some o/\ObjOk H h a u
  | .tbl ps=>h.get? a=some { cls:=.none,data:=.fields ps }
  | .met f x=>h.get? a=some (PySem.W.methodObj (.ref f) (.ref x))
  | .ext φ=>φ h/\(∃ o,h.get? a=some o)/\∀ h1 h2:Heap,φ h1->(∀ o,h1.get? a=some o->h2.get? a=some o)->φ h2
def HOk (H:Hp) (h:Heap):Prop:=∀ a o,H a=some o->ObjOk P w H h a o
end
section
variable {P:Program} {w:World} {H H':Hp} {h h':Heap} {a:Addr} {o:HO}
theorem ObjOk.lt (x:ObjOk P w H h a o):a < h.objs.size:=by
  cases o with
  | lst xs=>obtain ⟨_,_,_,_,e⟩:=x; exact Heap.lt_size e
  | tup xs=>obtain ⟨_,_,_,p⟩:=x; exact p.lt
  | dK kvs=>obtain ⟨_,_,_,_,o,_,_,e,_⟩:=x; exact Heap.lt_size e
  | dT kvs=>obtain ⟨_,_,_,_,o,_,_,e,_⟩:=x; exact Heap.lt_size e
  | set S n=>obtain ⟨o,_,_,_,e,_⟩:=x; exact Heap.lt_size e
  | ins C dx fs=>obtain ⟨_,_,_,e,_⟩:=x; exact Heap.lt_size e
  | own y=>obtain ⟨_,e⟩:=x; exact Heap.lt_size e
  | xd fs=>obtain ⟨_,⟨_,_,_,e,_⟩,_⟩:=x; exact Heap.lt_size e
  | rng lo hi=>obtain ⟨_,_,_,e⟩:=x; exact Heap.lt_size e
  | frz ob u=>obtain ⟨e,_⟩:=x; exact Heap.lt_size e
  | tbl ps=>exact Heap.lt_size (show h.get? a=some _ from x)
  | met f y=>exact Heap.lt_size (show h.get? a=some _ from x)
  | ext φ=>obtain ⟨_,⟨_,e⟩,_⟩:=x; exact Heap.lt_size e
theorem Paired.mapP {α β:Type} {F G:α->β->Prop}:∀ {l₁:List α} {l₂:List β},Paired F l₁ l₂->(∀ a b,F a b->G a b)->Paired G l₁ l₂
  | _,_,.nil,_=>.nil
  | _,_,.cons r t,f=>.cons (f _ _ r) (Paired.mapP t f)
theorem ObjOk.stay (x:ObjOk P w H h a o) (k:∀ b u,(b=a\/H b=some (.own a))->h.get? b=some u->h'.get? b=some u)
    (ho:∀ b,H b=some (.own a)->H' b=some (.own a)) (ht:∀ b xs,H b=some (.tup xs)->H' b=some (.tup xs)):ObjOk P w H' h' a o:=by
  induction o with
  | lst xs=>obtain ⟨z,its,n,r,e⟩:=x; exact ⟨z,its,n,r,k _ _ (.inl rfl) e⟩
  | tup xs=>obtain ⟨z,its,r,ob,e,c⟩:=x; exact ⟨z,its,r,ob,k _ _ (.inl rfl) e,c⟩
  | dK kvs=>obtain ⟨z,y,vs,r,ob,es,ep,e,c⟩:=x; exact ⟨z,y,vs,r,ob,es,ep,k _ _ (.inl rfl) e,c⟩
  | dT kvs =>
    obtain ⟨z,y,xs,r,ob,es,ep,e,c⟩:=x;exact ⟨z,y,xs,Paired.mapP r fun p q z=>⟨z.1,ht _ _ z.2.1,z.2.2⟩,ob,es,ep,k _ _ (.inl rfl) e,c⟩
  | set S n=>obtain ⟨ob,es,ep,t,e,c⟩:=x; exact ⟨ob,es,ep,t,k _ _ (.inl rfl) e,c⟩
  | ins C dx fs =>
    obtain ⟨d,z,ne,e,mA,⟨od,es,ep,e2,c⟩,r⟩:=x;exact ⟨ho _ d,z,ne,k _ _ (.inl rfl) e,mA,⟨od,es,ep,k _ _ (.inr d) e2,c⟩,r⟩
  | own y=>obtain ⟨ob,e⟩:=x; exact ⟨ob,k _ _ (.inl rfl) e⟩
  | xd fs=>obtain ⟨mA,⟨od,es,ep,e,c⟩,r⟩:=x; exact ⟨mA,⟨od,es,ep,k _ _ (.inl rfl) e,c⟩,r⟩
  | rng lo hi=>obtain ⟨t,u,v,e⟩:=x; exact ⟨t,u,v,k _ _ (.inl rfl) e⟩
  | frz ob u ih=>obtain ⟨e,q⟩:=x; exact ⟨k _ _ (.inl rfl) e,ih q⟩
  | tbl ps =>
    have e:h.get? a=some { cls:=.none,data:=.fields ps }:=x;show h'.get? a=some { cls:=.none,data:=.fields ps };exact k a _ (.inl rfl) e
  | met f y =>
    have e:h.get? a=some (PySem.W.methodObj (.ref f) (.ref y)):=x;show h'.get? a=some (PySem.W.methodObj (.ref f) (.ref y));exact k a _ (.inl rfl) e
  | ext φ=>obtain ⟨p,⟨o,e⟩,st⟩:=x; exact ⟨st _ _ p fun o q=>k _ _ (.inl rfl) q,⟨o,k _ _ (.inl rfl) e⟩,st⟩
theorem HOk.lt (x:HOk P w H h) (e:H a=some o):a < h.objs.size:=(x a o e).lt
theorem HOk.fresh (x:HOk P w H h) (e:h.objs.size<=a):H a=none:=by
  cases q:H a with
  | none=>rfl
  | some u=>exact absurd (Nat.lt_of_lt_of_le (x.lt q) e) (Nat.lt_irrefl _)
theorem HOk.kept (x:HOk P w H h) (k:∀ b u,h.get? b=some u->h'.get? b=some u):HOk P w H h':=fun a o e =>
  (x a o e).stay (fun b u _ q=>k b u q) (fun _ q=>q) fun _ _ q=>q
theorem HOk.laid (x:HOk P w H h) (k:∀ b u,h.get? b=some u->h'.get? b=some u) (hp:h.objs.size<=a) (new:ObjOk P w (upd H a o) h' a o):HOk P w (upd H a o) h':=fun b u e=>by
  have hn:=x.fresh hp;by_cases hb:b=a
  · subst hb; rw [B4] at e; cases e; exact new
  · rw [B2 hb] at e
    exact (x b u e).stay (fun c v _ q=>k c v q) (fun c q=>by rw [B2 (B6 q hn)]; exact q) fun c xs q=>by rw [B2 (B6 q hn)]; exact q
end
def Rd (H:Hp) (a:Addr) (u:HO):Prop:=H a=some u\/∃ o,H a=some (.frz o u)
theorem Rd.ok {P:Program} {w:World} {H:Hp} {h:Heap} {a:Addr} {u:HO} (r:Rd H a u) (x:HOk P w H h):ObjOk P w H h a u:=by
  rcases r with r | ⟨o,r⟩
  · exact x a u r
  · obtain ⟨_,q⟩:=x a _ r
    exact q
def Mut:Option HO->Prop
  | some (.lst _)=>True
  | some (.dK _)=>True
  | some (.dT _)=>True
  | some (.set _ _)=>True
  | some (.ins _ _ _)=>True
  | some (.ext _)=>True
  | _=>False
section
variable {P:Program} {w:World} {H:Hp} {h h':Heap} {x e:Addr} {o':HO}
theorem HOk.write (ok:HOk P w H h) (mu:Mut (H x)) (he:e=x\/H e=some (.own x)) (k:∀ b u,b≠e->h.get? b=some u->h'.get? b=some u) (heo:∃ u,h'.get? e=some u)
    (new:ObjOk P w (upd H x o') h' x o'):HOk P w (upd H x o') h':=fun b u q=>by
  have nown:∀ c y,H c=some (.own y)->c≠x:=fun c y r z=>by subst z; rw [r] at mu; exact mu
  have ntup:∀ c xs,H c=some (.tup xs)->c≠x:=fun c xs r z=>by subst z; rw [r] at mu; exact mu
  by_cases hb:b=x
  · subst hb; rw [B4] at q; cases q; exact new
  · rw [B2 hb] at q
    by_cases hbe:b=e
    · have q':H b=some (.own x):=by
        rcases he with z | z
        · exact absurd (hbe.trans z) hb
        · rw [hbe]; exact z
      rw [q] at q'; cases q';obtain ⟨v,hv⟩:=heo;exact ⟨v,by rw [hbe]; exact hv⟩
    · refine (ok b u q).stay (fun c v hc r=>k c v ?_ r) (fun c r=>by rw [B2 (nown c b r)]; exact r) fun c xs r=>by rw [B2 (ntup c xs r)]; exact r
      rcases hc with rfl | hc
      · exact hbe
      · rintro rfl
        rcases he with z | z
        · exact nown c b hc z
        · rw [hc] at z; cases z; exact hb rfl
end
structure Un (fs ex:List Addr) (H H':Hp) (h h':Heap):Prop where
  keep:∀ b o,h.get? b=some o->H b=none->b ∉ fs->b ∉ ex->h'.get? b=some o
  slot:∀ b o,h.get? b=some o->H b=none->b ∈ fs->b ∉ ex->∃ sl,h'.get? b=some { o with slots:=sl }
  free:∀ b o,h.get? b=some o->H b=none->b ∉ ex->H' b=none
  there:∀ b o,h.get? b=some o->b ∉ ex->∃ o',h'.get? b=some o'
  tups:∀ b xs,H b=some (.tup xs)->H' b=some (.tup xs)
  frzs:∀ b o u,H b=some (.frz o u)->H' b=some (.frz o u)
  tbls:∀ b ps,H b=some (.tbl ps)->∃ more,H' b=some (.tbl (ps++more))
section
variable {fs fs' ex ex':List Addr} {H H1 H2:Hp} {h h1 h2 h':Heap} {a x e:Addr} {o:HO}
theorem Un.any (u:Un fs ex H H1 h h1) {b:Addr} {ob:Obj} (q:h.get? b=some ob) (n:H b=none) (hx:b ∉ ex):∃ sl,h1.get? b=some { ob with slots:=sl }:=by
  by_cases hb:b ∈ fs
  · exact u.slot b ob q n hb hx
  · exact ⟨ob.slots,u.keep b ob q n hb hx⟩
theorem Un.kept (k:∀ b u,h.get? b=some u->h'.get? b=some u):Un fs ex H H h h' :=
  ⟨fun b ob q _ _ _=>k b ob q,fun b ob q _ _ _=>⟨ob.slots,k b ob q⟩,fun _ _ _ n _=>n,fun b ob q _=>⟨ob,k b ob q⟩,fun _ _ q=>q,fun _ _ _ q=>q,fun _ ps q=>⟨#[],by rw [q]; simp⟩⟩
theorem Un.refl:Un fs ex H H h h:=Un.kept fun _ _ q=>q
theorem Un.laid (k:∀ b u,h.get? b=some u->h'.get? b=some u) (hp:h.objs.size<=a) (hn:H a=none):Un fs ex H (upd H a o) h h' where
  keep:=fun b u q _ _ _=>k b u q
  slot:=fun b u q _ _ _=>⟨u.slots,k b u q⟩
  free:=fun b u q n _=>by rw [B2 (Nat.ne_of_lt (Nat.lt_of_lt_of_le (Heap.lt_size q) hp))]; exact n
  there:=fun b u q _=>⟨u,k b u q⟩
  tups:=fun b xs q=>by rw [B2 (B6 q hn)]; exact q
  frzs:=fun b u xs q=>by rw [B2 (B6 q hn)]; exact q
  tbls:=fun b ps q=>⟨#[],by rw [B2 (B6 q hn),q]; simp⟩
theorem Un.write (mu:Mut (H x)) (he:e=x\/H e=some (.own x)) (k:∀ b u,b≠e->h.get? b=some u->h'.get? b=some u) (heo:∃ u,h'.get? e=some u):Un fs ex H (upd H x o) h h':=by
  have hx:∀ b,H b=none->b≠x:=fun b n z=>by subst z; rw [n] at mu; exact mu
  have hb:∀ b,H b=none->b≠e:=fun b n z=>by
    subst z;rcases he with r | r
    · exact hx b n r
    · rw [n] at r; cases r
  have hm:∀ b u,H b=some u->¬ Mut (some u)->b≠x:=fun b u q nm z=>by subst z; rw [q] at mu; exact nm mu
  refine ⟨fun b u q n _ _=>k b u (hb b n) q,fun b u q n _ _=>⟨u.slots,k b u (hb b n) q⟩,fun b u q n _=>by rw [B2 (hx b n)]; exact n,fun b u q _=>?_,
    fun b xs q=>by rw [B2 (hm b _ q fun z=>z)]; exact q,fun b u xs q=>by rw [B2 (hm b _ q fun z=>z)]; exact q,fun b ps q=>⟨#[],by rw [B2 (hm b _ q fun z=>z),q]; simp⟩⟩
  by_cases hbe:b=e
  · subst hbe; exact heo
  · exact ⟨u,k b u hbe q⟩
end
def trk (h:Heap) (H:Hp):List Addr:=(List.range h.objs.size).filter fun a=>(H a).isSome
def hidT (h:Heap) (H:Hp):Heap:=PySem.W.hideAll h (trk h H)
theorem A72 (h:Heap) (H:Hp):(hidT h H).objs.size=h.objs.size:=PySem.W.hideAll_size _ _
theorem A96 {h:Heap} {H:Hp} {b:Addr} {o:Obj} (e:h.get? b=some o) (n:H b=none):(hidT h H).get? b=some o :=
  PySem.W.hideAll_get _ e fun hm=>by
    have q:(H b).isSome=true:=(List.mem_filter.mp hm).2;rw [n] at q; simp at q
theorem B42 {h:Heap} {H:Hp} {b:Addr} {o:Obj} (e:(hidT h H).get? b=some o):h.get? b=some o/\H b=none:=by
  have e':h.get? b=some o:=PySem.W.of_hideAll (trk h H) e;refine ⟨e',?_⟩;cases q:H b with
  | none=>rfl
  | some x =>
    have hm:b ∈ trk h H:=List.mem_filter.mpr ⟨List.mem_range.mpr (Heap.lt_size e'),by simp [q]⟩;have z:(hidT h H).get? b=none:=PySem.W.hideAll_none (trk h H) hm;rw [z] at e; cases e
def B5s (g h:Heap) (L:Addr):List (Addr × Obj):=(List.range h.objs.size).filterMap fun a=>if a=L\/(g.get? a).isSome=true then none else (h.get? a).map fun o=>(a,o)
def rest (g h:Heap) (L d:Addr):List (Addr × Obj):=(B5s g h L).filter fun p=>decide (p.1≠d)
end L2
namespace L2
open PySem PySem.Spec PyProof.Rows
structure Mod (K:PySem.W.Frag) (mg:Str->Option Value) (base:Heap):Prop where
  kin:K.In base
  glob:base.Ns mainGlobals mg
  blt:∃ mb,base.Ns builtinsNs mb/\∀ x:Str,x≠"__name__"->mb x=bootBuiltins x
  nolimit:base.NoLimit
structure Cx where
  prog:Program
  w:World
  K:PySem.W.Frag
  mg:Str->Option Value
  base:Heap
  A:Around
  N:List Str
  s₀:Shared
  H₀:Hp
  env:Env
  outer:List Env
  stack:List Env
  ex:List Addr
  fn:Str->Bool
  calm:Bool
  pn:List (Addr × Obj)
  xe:Value->Shared->Prop
def frs (l:List Env):List Addr:=l.filterMap (·.frame)
abbrev Cx.fs (X:Cx):List Addr:=frs X.outer
def Vis (sc:Scope) (x:Str):Prop:=sc.names.lookup x=some .local\/sc.names.lookup x=some .cell\/sc.names.lookup x=some .free
def Loc (sc:Scope) (x:Str):Prop:=sc.names.lookup x=some .local\/sc.names.lookup x=some .cell
def Look (env:Env) (h:Heap) (m:Str->Option Value) (x:Str) (u:Value):Prop :=
  (env.kindOf x=some .local/\m x=some u)\/((env.kindOf x=some .cell\/env.kindOf x=some .free)/\∃ c,env.cells.lookup x=some c/\h.IsCell c (some u))
structure Cx.Ok (X:Cx):Prop where
  mod:Mod X.K X.mg X.base
  kind:X.env.scope.kind=.function
  glob:X.env.globals=mainGlobals
  blt:X.env.builtins=builtinsNs
  above:X.s₀.heap.objs.size<=X.env.locals
  inj:∀ x y c,X.env.cells.lookup x=some c->X.env.cells.lookup y=some c->x=y
  has:∀ x,(X.env.kindOf x=some .cell\/X.env.kindOf x=some .free)->∃ c,X.env.cells.lookup x=some c
  cab:∀ x c,X.fn x=true->X.env.cells.lookup x=some c->X.s₀.heap.objs.size<=c
  hd:X.calm=true->X.A.handled=none
  frames:X.A.frames=some X.stack
  stk:X.stack=X.outer\/(X.stack=X.env :: X.outer/\X.env.frame=some X.env.locals)
  exf:∀ b ∈ X.ex,b≠X.env.locals/\∀ x c,X.env.cells.lookup x=some c->c≠b
  bs:∀ b o,X.base.get? b=some o->X.s₀.heap.get? b=some o/\X.H₀ b=none
  bsz:X.base.objs.size<=X.s₀.heap.objs.size
  noex:∀ b o,X.base.get? b=some o->b ∉ X.ex
  exfs:∀ b ∈ X.ex,b ∉ X.fs
  funs:X.s₀.heap.FunFrames X.base X.outer
  frf:∀ b ∈ X.fs,X.H₀ b=none
structure Inv (X:Cx) (pins:List (Addr × Obj)) (σ:List (Option V)) (H:Hp) (s:Shared):Prop where
  ok:X.Ok
  os:s.os=X.s₀.os
  bare:AllBare s.gens
  base:Un X.fs X.ex X.H₀ H X.s₀.heap s.heap
  loc:∃ m,s.heap.Ns X.env.locals m/\∀ (i:Nat) (x:Str) (v:V),X.N[i]?=some x->σ[i]?=some (some v)->Vis X.env.scope x->∃ u,RelV v u/\Look X.env s.heap m x u
  cell:∀ x c,X.env.cells.lookup x=some c->∃ v,s.heap.IsCell c v
  free:H X.env.locals=none
  freeC:∀ x c,X.env.cells.lookup x=some c->H c=none
  pin:∀ p ∈ X.pn++pins,s.heap.get? p.1=some p.2/\H p.1=none/\p.1≠X.env.locals/\p.1 ∉ X.fs/\∀ v,p.2.data≠.cell v
  hok:HOk X.prog X.w H s.heap
  len:σ.length=X.N.length
section
variable {X:Cx} {pins:List (Addr × Obj)} {σ:List (Option V)} {H H':Hp} {s:Shared} {h':Heap}
theorem Cx.Ok.nofr (ok:X.Ok) {b:Addr} {o:Obj} (e:X.base.get? b=some o):b ∉ X.fs:=fun hb=>by
  have:=(ok.funs.mem hb).1;rw [e] at this; cases this
theorem Inv.bs (I:Inv X pins σ H s):∀ b o,X.base.get? b=some o->s.heap.get? b=some o/\H b=none:=fun b o e =>
  ⟨I.base.keep b o (I.ok.bs b o e).1 (I.ok.bs b o e).2 (I.ok.nofr e) (I.ok.noex b o e),I.base.free b o (I.ok.bs b o e).1 (I.ok.bs b o e).2 (I.ok.noex b o e)⟩
theorem Inv.bk (I:Inv X pins σ H s):∀ b o,X.base.get? b=some o->s.heap.get? b=some o:=fun b o e=>(I.bs b o e).1
theorem Inv.mod (I:Inv X pins σ H s):Mod X.K X.mg X.base:=I.ok.mod
theorem Inv.kIn (I:Inv X pins σ H s):X.K.In s.heap:=I.ok.mod.kin.keeps I.bk
theorem Inv.lt (I:Inv X pins σ H s):X.env.locals < s.heap.objs.size:=let ⟨_,hn,_⟩:=I.loc; hn.lt
theorem Inv.sz (I:Inv X pins σ H s):X.s₀.heap.objs.size<=s.heap.objs.size:=Zx I.ok.above (Nat.le_of_lt I.lt)
theorem Inv.nofs (I:Inv X pins σ H s) {a:Addr} (h:s.heap.objs.size<=a):a ∉ X.fs:=fun hb=>by
  obtain ⟨_,o,ho,_⟩:=I.ok.funs.mem hb;exact absurd (Nat.lt_of_lt_of_le (Heap.lt_size ho) (Zx I.sz h)) (Nat.lt_irrefl _)
theorem Inv.cne (I:Inv X pins σ H s):∀ x c,X.env.cells.lookup x=some c->c≠X.env.locals:=fun x c e z=>by
  obtain ⟨v,o,ho,hd⟩:=I.cell x c e;obtain ⟨m,⟨o',es,ep,ho',hd',_⟩,_⟩:=I.loc;rw [z,ho'] at ho; cases ho; rw [hd'] at hd; cases hd
theorem Inv.funs (I:Inv X pins σ H s):s.heap.FunFrames X.base X.outer:=by
  have all:∀ (l:List Env),(∀ b ∈ frs l,b ∈ X.fs)->X.s₀.heap.FunFrames X.base l->s.heap.FunFrames X.base l:=by
    intro l;induction l with
    | nil=>intro _ _; trivial
    | cons env r ih =>
      intro hs hl;obtain ⟨hk,⟨L,o,hf,hn,ho,hd⟩,hr⟩:=hl;have hL:L ∈ X.fs:=hs L (by unfold frs; rw [List.filterMap_cons,hf]; exact Zy);obtain ⟨sl,e⟩:=I.base.slot L o ho (I.ok.frf L hL) hL fun z=>I.ok.exfs L z hL;exact ⟨hk,⟨L,_,hf,hn,e,hd⟩,ih (fun b hb=>hs b (by unfold frs; rw [List.filterMap_cons,hf]; exact Zr _ hb)) hr⟩
  exact all X.outer (fun _ hb=>hb) I.ok.funs
theorem Inv.stack (I:Inv X pins σ H s):s.heap.FunFrames X.base X.stack:=by
  rcases I.ok.stk with e | ⟨e,hf⟩
  · rw [e]; exact I.funs
  · rw [e]
    obtain ⟨m,hn,_⟩:=I.loc;refine .cons (by rw [I.ok.kind]; decide) hf hn ?_ I.funs;exact Heap.get?_none_of_le (Zx I.ok.bsz I.ok.above)
theorem Inv.stkSub (I:Inv X pins σ H s):∀ b ∈ frs X.stack,b ∈ X.env.locals :: X.fs:=fun b hb=>by
  rcases I.ok.stk with e | ⟨e,hf⟩
  · rw [e] at hb; exact Zr _ hb
  · rw [e] at hb
    unfold frs at hb;rw [List.filterMap_cons,hf] at hb;exact hb
theorem Inv.stkFree (I:Inv X pins σ H s):∀ b ∈ frs X.stack,H b=none:=fun b hb=>by
  rcases List.mem_cons.mp (I.stkSub b hb) with e | hb
  · rw [e]; exact I.free
  · obtain ⟨_,o,ho,_⟩:=I.ok.funs.mem hb
    exact I.base.free b o ho (I.ok.frf b hb) fun z=>I.ok.exfs b z hb
theorem Inv.step {g':Array GenState} {t':Nat} {d':Drawn} {ch:List Addr} (I:Inv X pins σ H s)
    (hch:∀ b ∈ ch,(b ∈ X.ex\/X.s₀.heap.objs.size<=b)/\b≠X.env.locals/\(∀ x c,X.env.cells.lookup x=some c->c≠b)/\∀ p ∈ X.pn++pins,p.1≠b)
    (keep:∀ b o,b≠X.env.locals->b ∉ X.fs->b ∉ ch->s.heap.get? b=some o->H b=none->h'.get? b=some o)
    (slot:∀ b o,b≠X.env.locals->b ∈ X.fs->b ∉ ch->s.heap.get? b=some o->H b=none->∃ sl,h'.get? b=some { o with slots:=sl }) (free:∀ b o,b ∉ ch->s.heap.get? b=some o->H b=none->H' b=none)
    (there:∀ b o,b ∉ ch->s.heap.get? b=some o->∃ o',h'.get? b=some o')
    (tups:∀ b xs,H b=some (.tup xs)->H' b=some (.tup xs)) (frzs:∀ b o u,H b=some (.frz o u)->H' b=some (.frz o u)) (tbls:∀ b ps,H b=some (.tbl ps)->∃ more,H' b=some (.tbl (ps++more)))
    (ns:∀ m,s.heap.Ns X.env.locals m->h'.Ns X.env.locals m) (hok:HOk X.prog X.w H' h') (hg:AllBare g') :
    Inv X pins σ H' { s with heap:=h',gens:=g',drawn:=d',toks:=t' }:=by
  have neL:∀ b o,X.s₀.heap.get? b=some o->b≠X.env.locals:=fun b o e=>Nat.ne_of_lt (Nat.lt_of_lt_of_le (Heap.lt_size e) I.ok.above);have neC:∀ b o,X.s₀.heap.get? b=some o->b ∉ X.ex->b ∉ ch:=fun b o e hx hb=>by
    rcases (hch b hb).1 with z | z
    · exact hx z
    · exact absurd (Nat.lt_of_lt_of_le (Heap.lt_size e) z) (Nat.lt_irrefl _)
  have cellK:∀ x c,X.env.cells.lookup x=some c->∀ v,s.heap.IsCell c v->h'.IsCell c v:=fun x c e v ⟨o,ho,hd⟩=>by
    have nch:c ∉ ch:=fun z=>(hch c z).2.2.1 x c e rfl;by_cases hc:c ∈ X.fs
    · obtain ⟨sl,q⟩:=slot c o (I.cne x c e) hc nch ho (I.freeC x c e)
      exact ⟨_,q,hd⟩
    · exact ⟨o,keep c o (I.cne x c e) hc nch ho (I.freeC x c e),hd⟩
  refine ⟨I.ok,I.os,hg,⟨fun b o e n hb hx=>?_,fun b o e n hb hx=>?_,fun b o e n hx=>?_,fun b o e hx=>?_,fun b xs e=>tups b xs (I.base.tups b xs e),fun b o xs e=>frzs b o xs (I.base.frzs b o xs e),fun b ps e=>?_⟩,?_,fun x c e=>?_,?_,fun x c e=>?_,fun p hp=>?_,hok,I.len⟩
  · exact keep b o (neL b o e) hb (neC b o e hx) (I.base.keep b o e n hb hx) (I.base.free b o e n hx)
  · obtain ⟨sl,e1⟩:=I.base.slot b o e n hb hx
    obtain ⟨sl',e2⟩:=slot b _ (neL b o e) hb (neC b o e hx) e1 (I.base.free b o e n hx);exact ⟨sl',e2⟩
  · obtain ⟨o',e1⟩:=I.base.there b o e hx
    exact free b o' (neC b o e hx) e1 (I.base.free b o e n hx)
  · obtain ⟨o',e1⟩:=I.base.there b o e hx
    exact there b o' (neC b o e hx) e1
  · obtain ⟨m1,e1⟩:=I.base.tbls b ps e
    obtain ⟨m2,e2⟩:=tbls b _ e1;exact ⟨m1++m2,by rw [e2,Array.append_assoc]⟩
  · obtain ⟨m,hn,hl⟩:=I.loc
    refine ⟨m,ns m hn,fun i x v e1 e2 e3=>?_⟩;obtain ⟨u,r,l⟩:=hl i x v e1 e2 e3;refine ⟨u,r,?_⟩;rcases l with l | ⟨k,c,e,z⟩
    · exact .inl l
    · exact .inr ⟨k,c,e,cellK x c e _ z⟩
  · obtain ⟨v,z⟩:=I.cell x c e
    exact ⟨v,cellK x c e v z⟩
  · obtain ⟨m,⟨o,_,_,ho,_⟩,_⟩:=I.loc
    exact free _ o (fun z=>(hch _ z).2.1 rfl) ho I.free
  · obtain ⟨v,o,ho,hd⟩:=I.cell x c e
    exact free c o (fun z=>(hch c z).2.2.1 x c e rfl) ho (I.freeC x c e)
  · obtain ⟨e,n,ne,nf,d⟩:=I.pin p hp
    have nch:p.1 ∉ ch:=fun z=>(hch p.1 z).2.2.2 p hp rfl;exact ⟨keep p.1 p.2 ne nf nch e n,free p.1 p.2 nch e n,ne,nf,d⟩
theorem Inv.un {t':Nat} (I:Inv X pins σ H s) (u:Un X.fs [] H H' s.heap h') (hok:HOk X.prog X.w H' h'):Inv X pins σ H' { s with heap:=h',toks:=t' }:=by
  obtain ⟨m,⟨o,es,ep,ho,r⟩,_⟩:=id I.loc;obtain ⟨sl,hL⟩:=u.any ho I.free (by simp);exact I.step (g':=s.gens) (d':=s.drawn) (ch:=[]) (fun _ z=>nomatch z) (fun b o _ hb _ e n=>u.keep b o e n hb (by simp)) (fun b o _ hb _ e n=>u.slot b o e n hb (by simp)) (fun b o _ e n=>u.free b o e n (by simp)) (fun b o _ e=>u.there b o e (by simp)) u.tups u.frzs u.tbls (fun m' hm=>by
    obtain ⟨o',es',ep',ho',r'⟩:=hm;rw [ho] at ho'; cases ho';exact ⟨_,es',ep',hL,r'⟩) hok I.bare
theorem Inv.call {g':Array GenState} {t':Nat} {d':Drawn} {ch:List Addr} (I:Inv X pins σ H s) (u:Un (frs X.stack) ch H H' s.heap h') (hok:HOk X.prog X.w H' h') (hg:AllBare g')
    (hch:∀ b ∈ ch,(b ∈ X.ex\/X.s₀.heap.objs.size<=b)/\b≠X.env.locals/\(∀ x c,X.env.cells.lookup x=some c->c≠b)/\∀ p ∈ X.pn++pins,p.1≠b) :
    Inv X pins σ H' { s with heap:=h',gens:=g',drawn:=d',toks:=t' }:=by
  obtain ⟨m,⟨o,es,ep,ho,r⟩,_⟩:=id I.loc;obtain ⟨sl,hL⟩:=u.any ho I.free fun z=>(hch _ z).2.1 rfl;exact I.step (ch:=ch) hch (fun b o hL hb hc e n=>u.keep b o e n (fun z=>(List.mem_cons.mp (I.stkSub b z)).elim hL hb) hc) (fun b o _ _ hc e n=>u.any e n hc) (fun b o hc e n=>u.free b o e n hc) (fun b o hc e=>u.there b o e hc) u.tups u.frzs u.tbls (fun m' hm=>by
    obtain ⟨o',es',ep',ho',r'⟩:=hm;rw [ho] at ho'; cases ho';exact ⟨_,es',ep',hL,r'⟩) hok hg
theorem Inv.turned {t':Nat} {it:Addr} (I:Inv X pins σ H s) (k:∀ b o,b≠it->s.heap.get? b=some o->h'.get? b=some o) (hn:H it=none) (hL:it≠X.env.locals)
    (h1:it ∈ X.ex\/X.s₀.heap.objs.size<=it) (h2:∀ x c,X.env.cells.lookup x=some c->c≠it) (h3:∀ p ∈ X.pn++pins,p.1≠it):Inv X pins σ H { s with heap:=h',toks:=t' }:=by
  have nit:∀ b u,H b=some u->b≠it:=fun b u e z=>by rw [z,hn] at e; cases e
  refine I.step (g':=s.gens) (d':=s.drawn) (ch:=[it]) (fun b hb=>?_) (fun b o _ _ hc e _=>k b o (fun z=>hc (by simp [z])) e) (fun b o _ _ hc e _=>⟨o.slots,k b o (fun z=>hc (by simp [z])) e⟩) (fun _ _ _ _ n=>n)
    (fun b o hc e=>⟨o,k b o (fun z=>hc (by simp [z])) e⟩) (fun _ _ e=>e) (fun _ _ _ e=>e) (fun b ps e=>⟨#[],by rw [e]; simp⟩) (fun m hm=>?_) (fun b u e=>?_) I.bare
  · have e:b=it:=by simpa using hb
    subst e;exact ⟨h1,hL,h2,h3⟩
  · obtain ⟨o,es,ep,ho,r⟩:=hm
    exact ⟨o,es,ep,k _ o (Ne.symm hL) ho,r⟩
  · refine (I.hok b u e).stay (fun c v hc q=>k c v ?_ q) (fun _ q=>q) fun _ _ q=>q
    rcases hc with z | z
    · rw [z]; exact nit b u e
    · exact nit c _ z
theorem Inv.tok (I:Inv X pins σ H s) (t:Nat):Inv X pins σ H { s with toks:=t }:=I.un (h':=s.heap) (t':=t) Un.refl I.hok
theorem Inv.kept {t':Nat} (I:Inv X pins σ H s) (k:∀ b u,s.heap.get? b=some u->h'.get? b=some u):Inv X pins σ H { s with heap:=h',toks:=t' }:=I.un (Un.kept k) (I.hok.kept k)
theorem Inv.laid {a:Addr} {o:HO} {t':Nat} (I:Inv X pins σ H s) (k:∀ b u,s.heap.get? b=some u->h'.get? b=some u) (hp:s.heap.objs.size<=a) (new:ObjOk X.prog X.w (upd H a o) h' a o) :
    Inv X pins σ (upd H a o) { s with heap:=h',toks:=t' }:=I.un (Un.laid k hp (I.hok.fresh hp)) (I.hok.laid k hp new)
theorem Inv.write {x e:Addr} {o:HO} {t':Nat} (I:Inv X pins σ H s) (mu:Mut (H x)) (he:e=x\/H e=some (.own x)) (k:∀ b u,b≠e->s.heap.get? b=some u->h'.get? b=some u) (heo:∃ u,h'.get? e=some u)
    (new:ObjOk X.prog X.w (upd H x o) h' x o):Inv X pins σ (upd H x o) { s with heap:=h',toks:=t' }:=I.un (Un.write mu he k heo) (I.hok.write mu he k heo new)
theorem Inv.pins_of {pins':List (Addr × Obj)} (I:Inv X pins σ H s) (h:∀ p ∈ pins',s.heap.get? p.1=some p.2/\H p.1=none/\p.1≠X.env.locals/\p.1 ∉ X.fs/\∀ v,p.2.data≠.cell v):Inv X pins' σ H s :=
  ⟨I.ok,I.os,I.bare,I.base,I.loc,I.cell,I.free,I.freeC,fun p hp=>(Za hp).elim (fun z=>I.pin p (Zt _ z)) (h p),I.hok,I.len⟩
theorem T3 {N:List Str} (hN:N.Nodup) {i j:Nat} {x:Str} (a:N[i]?=some x) (b:N[j]?=some x):i=j:=by
  obtain ⟨h1,e1⟩:=Zs a;obtain ⟨h2,e2⟩:=Zs b;exact (List.getElem_inj hN).mp (e1.trans e2.symm)
theorem A37 {M:Model} {A:Around} {E:Value->Shared->Prop} {i:Nat} {x:Str} {v:V} {u:Value} {Q:Unit->Shared->Prop} (I:Inv X pins σ H s) (hN:X.N.Nodup) (hi:X.N[i]?=some x) (hx:Loc X.env.scope x) (r:RelV v u)
    (h:∀ s',Inv X pins (σ.set i (some v)) H s'->(∃ a,Heap.SameBut a s.heap s'.heap/\(a=X.env.locals\/X.env.cells.lookup x=some a))->Q () s') (hf:X.fn x=true\/X.env.scope.names.lookup x=some .local:=by first | exact .inl rfl | exact .inr rfl | assumption):wpAny M A (storeName X.env x u) Q E s:=by
  obtain ⟨m,hn,hl⟩:=id I.loc;have hcls:(X.env.scope.kind == .class || (X.env.scope.kind == .module && X.env.locals != X.env.globals))=false:=by rw [I.ok.kind]; rfl
  have hiσ:i < σ.length:=by rw [I.len]; exact (Zs hi).1
  have cne:=I.cne;have tracked:∀ {a:Addr} {h':Heap},(∃ o,s.heap.get? a=some o/\H a=none)->Heap.SameBut a s.heap h'->HOk X.prog X.w H h':=fun {a h'} ha hs b ob e=>by
    obtain ⟨_,_,hfree⟩:=ha;refine (I.hok b ob e).stay (fun c w' hc q=>(hs.2 c ?_).trans q) (fun _ q=>q) fun _ _ q=>q;rintro rfl;rcases hc with rfl | hc
    · rw [hfree] at e; cases e
    · rw [hfree] at hc; cases hc
  rcases hx with hk | hk
  · refine wpAny_storeName_local hk hn (fun h' hn' hs=>?_) hcls
    obtain ⟨oL,_,_,hoL,_⟩:=id hn;refine h _ ⟨I.ok,I.os,I.bare,⟨fun b o e n hb hx=>?_,fun b o e n hb hx=>?_,I.base.free,fun b o e hx=>?_,I.base.tups,I.base.frzs,I.base.tbls⟩,⟨_,hn',fun j y v' e1 e2 e3=>?_⟩,fun y c e=>?_,I.free,I.freeC,fun p hp=>?_,tracked ⟨oL,hoL,I.free⟩ hs,by simpa using I.len⟩ ⟨_,hs,.inl rfl⟩
    · exact (hs.2 b (Nat.ne_of_lt (Nat.lt_of_lt_of_le (Heap.lt_size e) I.ok.above))).trans (I.base.keep b o e n hb hx)
    · obtain ⟨sl,e1⟩:=I.base.slot b o e n hb hx
      exact ⟨sl,(hs.2 b (Nat.ne_of_lt (Nat.lt_of_lt_of_le (Heap.lt_size e) I.ok.above))).trans e1⟩
    · obtain ⟨o',e1⟩:=I.base.there b o e hx
      exact ⟨o',(hs.2 b (Nat.ne_of_lt (Nat.lt_of_lt_of_le (Heap.lt_size e) I.ok.above))).trans e1⟩
    · by_cases hj:j=i
      · subst hj
        rw [hi] at e1; cases e1;rw [List.getElem?_set_self hiσ] at e2;cases e2;exact ⟨u,r,.inl ⟨hk,by simp⟩⟩
      · rw [List.getElem?_set_ne (Ne.symm hj)] at e2
        obtain ⟨u',r',q⟩:=hl j y v' e1 e2 e3;refine ⟨u',r',?_⟩;rcases q with ⟨k,e⟩ | ⟨k,c,e,z⟩
        · refine .inl ⟨k,?_⟩
          have:y≠x:=fun e=>hj (T3 hN e1 (e ▸ hi));simp [this,e]
        · exact .inr ⟨k,c,e,z.sameBut hs (cne y c e)⟩
    · obtain ⟨w',z⟩:=I.cell y c e
      exact ⟨w',z.sameBut hs (cne y c e)⟩
    · obtain ⟨e,n,ne,nf,d⟩:=I.pin p hp
      exact ⟨(hs.2 p.1 ne).trans e,n,ne,nf,d⟩
  · have hfn:X.fn x=true:=by
      rcases hf with z | z
      · exact z
      · rw [z] at hk; cases hk
    obtain ⟨c,hc⟩:=I.ok.has x (.inl hk);obtain ⟨w',z⟩:=I.cell x c hc;refine wpAny_storeName_cell I.ok.kind hk hc z (fun h' hc' hs=>?_);obtain ⟨oc,hoc,hocd⟩:=id z;refine h { s with heap:=h' } ⟨I.ok,I.os,I.bare,⟨fun b o e n hb hx=>?_,fun b o e n hb hx=>?_,I.base.free,fun b o e hx=>?_,I.base.tups,I.base.frzs,I.base.tbls⟩,⟨m,hn.sameBut hs (Ne.symm (cne x c hc)),fun j y v' e1 e2 e3=>?_⟩,fun y c' e=>?_,I.free,I.freeC,fun p hp=>?_,tracked ⟨oc,hoc,I.freeC x c hc⟩ hs,by simpa using I.len⟩ ⟨c,hs,.inr hc⟩
    · exact (hs.2 b (Nat.ne_of_lt (Nat.lt_of_lt_of_le (Heap.lt_size e) (I.ok.cab x c hfn hc)))).trans (I.base.keep b o e n hb hx)
    · obtain ⟨sl,e1⟩:=I.base.slot b o e n hb hx
      exact ⟨sl,(hs.2 b (Nat.ne_of_lt (Nat.lt_of_lt_of_le (Heap.lt_size e) (I.ok.cab x c hfn hc)))).trans e1⟩
    · obtain ⟨o',e1⟩:=I.base.there b o e hx
      exact ⟨o',(hs.2 b (Nat.ne_of_lt (Nat.lt_of_lt_of_le (Heap.lt_size e) (I.ok.cab x c hfn hc)))).trans e1⟩
    · by_cases hj:j=i
      · subst hj
        rw [hi] at e1; cases e1;rw [List.getElem?_set_self hiσ] at e2;cases e2;exact ⟨u,r,.inr ⟨.inl hk,c,hc,hc'⟩⟩
      · rw [List.getElem?_set_ne (Ne.symm hj)] at e2
        obtain ⟨u',r',q⟩:=hl j y v' e1 e2 e3;refine ⟨u',r',?_⟩;rcases q with q | ⟨k,c',e,z'⟩
        · exact .inl q
        · refine .inr ⟨k,c',e,z'.sameBut hs ?_⟩
          rintro rfl;exact hj (T3 hN e1 (I.ok.inj _ _ _ e hc ▸ hi))
    · by_cases hcc:c'=c
      · subst hcc; exact ⟨_,hc'⟩
      · obtain ⟨w2,z2⟩:=I.cell y c' e
        exact ⟨w2,z2.sameBut hs hcc⟩
    · obtain ⟨e,n,ne,nf,d⟩:=I.pin p hp
      refine ⟨(hs.2 p.1 ?_).trans e,n,ne,nf,d⟩;intro q;rw [q,hoc] at e;have q':oc=p.2:=Zj e;exact d w' (by rw [<- q']; exact hocd)
theorem K6 {M:Model} {A:Around} {E:Value->Shared->Prop} {i:Nat} {x:Str} {v:V} {u:Value} {Q:Unit->Shared->Prop} (I:Inv X pins σ H s) (hN:X.N.Nodup) (hi:X.N[i]?=some x) (hx:Loc X.env.scope x) (r:RelV v u)
    (h:∀ s',Inv X pins (σ.set i (some v)) H s'->Q () s') (hf:X.fn x=true\/X.env.scope.names.lookup x=some .local:=by first | exact .inl rfl | exact .inr rfl | assumption):wpAny M A (storeName X.env x u) Q E s :=
  A37 I hN hi hx r (fun s' I' _=>h s' I') hf
theorem Inv.call' {s':Shared} {ch:List Addr} (I:Inv X pins σ H s) (ho:s'.os=s.os) (u:Un (frs X.stack) ch H H' s.heap s'.heap) (hok:HOk X.prog X.w H' s'.heap) (hg:AllBare s'.gens)
    (hch:∀ b ∈ ch,(b ∈ X.ex\/X.s₀.heap.objs.size<=b)/\b≠X.env.locals/\(∀ x c,X.env.cells.lookup x=some c->c≠b)/\∀ p ∈ X.pn++pins,p.1≠b):Inv X pins σ H' s':=by
  obtain ⟨h',g',d',t',o'⟩:=s';have e:o'=s.os:=ho;subst e;exact I.call (g':=g') (t':=t') (d':=d') u hok hg hch
end
abbrev XK:=Value->Option Addr->Hp->Prop
abbrev St:=List (Option V)
abbrev VK:=V->Hp->Prop
abbrev TE:=St->Hp->VK->Prop
abbrev TT:=St->Hp->(Bool->Hp->Prop)->Prop
abbrev TA:=St->Hp->(List V->Hp->Prop)->Prop
structure Ends where
  nx:St->Hp->Prop
  rt:VK
  bk:St->Hp->Prop:=fun _ _=>False
  ct:St->Hp->Prop:=fun _ _=>False
abbrev TS:=Ends->St->Hp->Prop
def EP (X:Cx) (pins:List (Addr × Obj)) (σ:St) (Q:VK) (u:Value) (s':Shared):Prop:=∃ v H',Inv X pins σ H' s'/\RelV v u/\Q v H'
def TP (X:Cx) (pins:List (Addr × Obj)) (σ:St) (Q:Bool->Hp->Prop) (b:Bool) (s':Shared):Prop:=∃ H',Inv X pins σ H' s'/\Q b H'
def AP (X:Cx) (pins:List (Addr × Obj)) (σ:St) (Q:List V->Hp->Prop) (us:List Value) (s':Shared):Prop:=∃ vs H',Inv X pins σ H' s'/\Vals vs us/\Q vs H'
def SP (X:Cx) (pins:List (Addr × Obj)) (D:Ends) (f:Flow) (s':Shared):Prop :=
  match f with
  | .next=>∃ σ' H',Inv X pins σ' H' s'/\D.nx σ' H'
  | .brk=>∃ σ' H',Inv X pins σ' H' s'/\D.bk σ' H'
  | .cont=>∃ σ' H',Inv X pins σ' H' s'/\D.ct σ' H'
  | .ret u=>∃ v σ' H',Inv X pins σ' H' s'/\RelV v u/\D.rt v H'
def PE (X:Cx) (e:Expr) (t:TE):Prop :=
  ∀ (pins:List (Addr × Obj)) (s:Shared) (σ:St) (H:Hp) (Q:VK),Inv X pins σ H s->t σ H Q->wpAny (model X.prog X.w) X.A (eval e X.env) (EP X pins σ Q) X.xe s
def PT (X:Cx) (e:Expr) (t:TT):Prop :=
  ∀ (pins:List (Addr × Obj)) (s:Shared) (σ:St) (H:Hp) (Q:Bool->Hp->Prop),Inv X pins σ H s->t σ H Q->wpAny (model X.prog X.w) X.A (isTrue e X.env (eval e X.env)) (TP X pins σ Q) X.xe s
def PW (X:Cx) (e:Expr) (t:TT):Prop :=
  ∀ (whole:Sem Value) (pins:List (Addr × Obj)) (s:Shared) (σ:St) (H:Hp) (Q:Bool->Hp->Prop),Inv X pins σ H s->t σ H Q->wpAny (model X.prog X.w) X.A (isTrue e X.env whole) (TP X pins σ Q) X.xe s
theorem PW.pt {X:Cx} {e:Expr} {t:TT} (h:PW X e t):PT X e t:=h _
def PA (X:Cx) (es:List Expr) (t:TA):Prop :=
  ∀ (pos:Pos) (pins:List (Addr × Obj)) (s:Shared) (σ:St) (H:Hp) (Q:List V->Hp->Prop),Inv X pins σ H s->t σ H Q->wpAny (model X.prog X.w) X.A (spliced (backTo pos (starEach es X.env))) (AP X pins σ Q) X.xe s
def PS (X:Cx) (st:Stmt) (t:TS):Prop :=
  ∀ (pins:List (Addr × Obj)) (s:Shared) (σ:St) (H:Hp) (D:Ends),Inv X pins σ H s->t D σ H->wpAny (model X.prog X.w) X.A (exec st X.env) (SP X pins D) X.xe s
def PSs (X:Cx) (st:List Stmt) (t:TS):Prop :=
  ∀ (pins:List (Addr × Obj)) (s:Shared) (σ:St) (H:Hp) (D:Ends),Inv X pins σ H s->t D σ H->wpAny (model X.prog X.w) X.A (execs st X.env) (SP X pins D) X.xe s
theorem thn {α:Type} {t:Sem α} {Q Q':α->Shared->Prop} {M:Model} {A:Around} {E:Value->Shared->Prop} {s:Shared} (h:wpAny M A t Q E s) (hQ:∀ a s,Q a s->Q' a s):wpAny M A t Q' E s:=wpAny_mono h hQ fun _ _ x=>x
end L2
namespace L2
open PySem PySem.Spec PyProof.Rows
section
variable {X:Cx}
theorem bin {a b:Expr} {ta tb:TE} (ha:PE X a ta) (hb:PE X b tb) {pins:List (Addr × Obj)} {s:Shared} {σ:St} {H:Hp} {R:V->V->Hp->Prop} (I:Inv X pins σ H s) (h:ta σ H fun x H1=>tb σ H1 fun y H2=>R x y H2)
    {α:Type} {Q:α->Shared->Prop} {f:Value->Value->Sem α}
    (hf:∀ v u s2 x y H2,Inv X pins σ H2 s2->RelV x v->RelV y u->R x y H2->wpAny (model X.prog X.w) X.A (f v u) Q X.xe s2) :
    wpAny (model X.prog X.w) X.A (eval a X.env) (fun v s₁=>wpAny (model X.prog X.w) X.A (eval b X.env) (fun u s₂=>wpAny (model X.prog X.w) X.A (f v u) Q X.xe s₂) X.xe s₁) X.xe s:=by
  refine thn (ha pins s σ H _ I h) fun v s1 ⟨x,H1,I1,r1,q1⟩=>?_;refine thn (hb pins s1 σ H1 _ I1 q1) fun u s2 ⟨y,H2,I2,r2,q2⟩=>?_;exact hf v u s2 x y H2 I2 r1 r2 q2
def tVar (i:Nat):TE:=fun σ H Q=>∃ v,σ[i]?=some (some v)/\Q v H
def tC (v:V):TE:=fun _ H Q=>Q v H
theorem V6 {i:Nat} {x:Str} {pos:Pos} (hN:X.N[i]?=some x) (hv:Vis X.env.scope x) (hd:(x == ("__debug__":Str))=false:=by decide) (hcd:(x == ("__classdict__":Str))=false:=by decide):PE X (.Name x pos) (tVar i):=by
  intro pins s σ H Q I h;obtain ⟨v,e,h⟩:=h;obtain ⟨m,hn,hl⟩:=I.loc;obtain ⟨u,r,l⟩:=hl i x v hN e hv;have fin:EP X pins σ Q u s:=⟨v,H,I,r,h⟩;rcases l with ⟨hk,hm⟩ | ⟨hk,c,hc,hcell⟩
  · exact wpAny_Name (wpAny_loadName_local I.ok.kind hk hn hm fin) hd
  · rcases hk with hk | hk
    · exact wpAny_Name (wpAny_loadName_cell I.ok.kind hk hc hcell fin) hd
    · exact wpAny_Name (wpAny_loadName_free I.ok.kind hk hc hcell fin hcd) hd
theorem B7 {i j pos}:PE X (.Constant (.int i) j pos) (tC (.int i)):=fun _ _ _ H _ I h=>wpAny_Constant_int ⟨.int i,H,I.tok _,⟨_,rfl⟩,h⟩
theorem B9o {b j pos}:PE X (.Constant (.bool b) j pos) (tC (.bl b)):=fun _ _ _ H _ I h=>Constant_bool ⟨.bl b,H,I,rfl,h⟩
theorem B6x {j pos}:PE X (.Constant .none j pos) (tC .non):=fun _ _ _ H _ I h=>Constant_none ⟨.non,H,I,rfl,h⟩
theorem B6v {x j pos}:PE X (.Constant (.str x) j pos) (tC (.str x)):=fun _ _ _ H _ I h=>Calls.Constant_str ⟨.str x,H,I.tok _,⟨_,rfl⟩,h⟩
def Gl (X:Cx) (x:Str):Prop:=X.env.kindOf x=some .globalImplicit
theorem P4 {E:Value->Shared->Prop} {pins:List (Addr × Obj)} {s:Shared} {σ:St} {H:Hp} {x:Str} {u:Value} {pos:Pos} {Q:Value->Shared->Prop} (I:Inv X pins σ H s) (hg:Gl X x) (hm:X.mg x=some u) (h:Q u s)
    (hd:(x == ("__debug__":Str))=false:=by decide):wpAny (model X.prog X.w) X.A (eval (.Name x pos) X.env) Q E s :=
  Calls.Name_function_global I.ok.kind hg (Calls.loadGlobal_global (by rw [I.ok.glob]; exact I.mod.glob.keeps I.bk) hm h) hd
theorem W5 {E:Value->Shared->Prop} {pins:List (Addr × Obj)} {s:Shared} {σ:St} {H:Hp} {x:Str} {u:Value} {pos:Pos} {Q:Value->Shared->Prop} (I:Inv X pins σ H s) (hg:Gl X x) (hm:X.mg x=none) (hv:bootBuiltins x=some u) (h:Q u s)
    (hn:x≠"__name__":=by decide) (hd:(x == ("__debug__":Str))=false:=by decide):wpAny (model X.prog X.w) X.A (eval (.Name x pos) X.env) Q E s:=by
  obtain ⟨mb,h1,h2⟩:=I.mod.blt;exact Calls.Name_function_global I.ok.kind hg (Calls.loadGlobal_builtin (by rw [I.ok.glob]; exact I.mod.glob.keeps I.bk) hm (by rw [I.ok.blt]; exact h1.keeps I.bk) ((h2 x hn).trans hv) h) hd
theorem A4v {x:Str} {v:V} {u:Value} {pos:Pos} (hg:Gl X x) (hm:X.mg x=some u) (r:RelV v u) (hd:(x == ("__debug__":Str))=false:=by decide):PE X (.Name x pos) (tC v) :=
  fun _ _ _ H _ I h=>P4 I hg hm ⟨v,H,I,r,h⟩ hd
theorem A4w {x:Str} {v:V} {u:Value} {pos:Pos} (hg:Gl X x) (hm:X.mg x=none) (hv:bootBuiltins x=some u) (r:RelV v u) (hn:x≠"__name__":=by decide) (hd:(x == ("__debug__":Str))=false:=by decide):PE X (.Name x pos) (tC v) :=
  fun _ _ _ H _ I h=>W5 I hg hm hv ⟨v,H,I,r,h⟩ hn hd
variable {a b:Expr} {ta tb:TE} {pos:Pos}
def PC (X:Cx) (op:CmpOp) (a b:Expr) (t:TE):Prop :=
  ∀ (pins:List (Addr × Obj)) (s:Shared) (σ:St) (H:Hp) (Q:VK),Inv X pins σ H s->t σ H Q ->
    wpAny (model X.prog X.w) X.A (eval a X.env) (fun v s₁=>wpAny (model X.prog X.w) X.A (eval b X.env) (fun u s₂=>wpAny (model X.prog X.w) X.A (compareOp op v u) (EP X pins σ Q) X.xe s₂) X.xe s₁) X.xe s
theorem A9y (b:Expr) {op:CmpOp} (h:op≠.In) (h2:op≠.NotIn):behindInMarks op b=false:=by
  have e1:(op == CmpOp.In)=false:=by cases op <;> first | rfl | exact absurd rfl h
  have e2:(op == CmpOp.NotIn)=false:=by cases op <;> first | rfl | exact absurd rfl h2
  cases b <;> simp [behindInMarks,e1,e2]
def tB (t:TE):TT:=fun σ H Q=>t σ H fun x H1=>∃ c,x=.bl c/\Q c H1
theorem B99 {op:CmpOp} {t:TE} (h:PC X op a b t) (h1:behindInMarks op b=false:=by first | exact A9y _ (by decide) (by decide) | rfl):PT X (.Compare a [op] [b] pos) (tB t):=by
  intro pins s σ H Q I hw;refine wpAny_isTrue_Compare1 (thn (h pins s σ H _ I hw) fun v s1 h1=>thn h1 fun u s2 h2=>thn h2 fun c s3 ⟨x,H1,I1,r1,q1⟩=>?_) h1;obtain ⟨d,rfl,q⟩:=q1;cases r1;exact wpAny_truthy_bool ⟨H1,I1,q⟩
theorem B0y {e:Expr} {t:TE} (h:PE X e t) (he:∀ whole,isTrue e X.env whole=(do let v <- whole; standAt e.pos; holding [v] (truthy v)):=by intro _; rfl):PT X e (tB t):=by
  intro pins s σ H Q I hw;refine isTrue_plain (thn (h pins s σ H _ I hw) fun v s1 ⟨x,H1,I1,r1,q1⟩=>?_) (he _);obtain ⟨d,rfl,q⟩:=q1;cases r1;exact wpAny_truthy_bool ⟨H1,I1,q⟩
variable {tA tB':TT} {rest:List Expr}
def tAnd (t u:TT):TT:=fun σ H Q=>t σ H fun c H1=>if c=true then u σ H1 Q else Q false H1
def tOr (t u:TT):TT:=fun σ H Q=>t σ H fun c H1=>if c=true then Q true H1 else u σ H1 Q
def tNot (t:TT):TT:=fun σ H Q=>t σ H fun c H1=>Q (!c) H1
theorem B31 (ha:PT X a tA):PW X (.BoolOp .And [a] pos) tA:=by
  intro wh pins s σ H Q I h;refine isTrue_and (thn (ha pins s σ H Q I h) fun c s1 e=>?_);cases c with
  | true=>exact isTrue_and_nil e
  | false=>exact e
theorem B6m (ha:PT X a tA):PW X (.BoolOp .Or [a] pos) tA:=by
  intro wh pins s σ H Q I h;refine isTrue_or (thn (ha pins s σ H Q I h) fun c s1 e=>?_);cases c with
  | false=>exact isTrue_or_nil e
  | true=>exact e
theorem B6n (ha:PT X a tA) (hb:PW X (.BoolOp .And (b :: rest) pos) tB'):PW X (.BoolOp .And (a :: b :: rest) pos) (tAnd tA tB'):=by
  intro wh pins s σ H Q I h;refine isTrue_and (thn (ha pins s σ H _ I h) fun c s1 ⟨H1,I1,q1⟩=>?_);cases c with
  | true=>exact hb wh pins s1 σ H1 Q I1 q1
  | false=>exact ⟨H1,I1,q1⟩
theorem B9l (ha:PT X a tA) (hb:PW X (.BoolOp .Or (b :: rest) pos) tB'):PW X (.BoolOp .Or (a :: b :: rest) pos) (tOr tA tB'):=by
  intro wh pins s σ H Q I h;refine isTrue_or (thn (ha pins s σ H _ I h) fun c s1 ⟨H1,I1,q1⟩=>?_);cases c with
  | true=>exact ⟨H1,I1,q1⟩
  | false=>exact hb wh pins s1 σ H1 Q I1 q1
theorem B6o (ha:PT X a tA):PT X (.UnaryOp .Not a pos) (tNot tA):=by
  intro pins s σ H Q I h;exact isTrue_not (ha pins s σ H (fun c H1=>Q (!c) H1) I h)
def B3n (ta tb:TE):TE:=fun σ H Q=>ta σ H fun x H1=>∃ c,x=.bl c/\if c=true then tb σ H1 Q else Q (.bl false) H1
def B3j (ta:TE):TE:=fun σ H Q=>ta σ H fun x H1=>∃ c,x=.bl c/\Q (.bl (!c)) H1
theorem B00 {op} {t:TE} (h:PE X a t):PE X (.BoolOp op [a] pos) t:=fun pins s σ H Q I hw=>BoolOp_one (h pins s σ H Q I hw)
theorem B03 (ha:PE X a ta) (hb:PE X (.BoolOp .And (b :: rest) pos) tb):PE X (.BoolOp .And (a :: b :: rest) pos) (B3n ta tb):=by
  intro pins s σ H Q I h;refine BoolOp_and (thn (ha pins s σ H _ I h) fun v s1 ⟨x,H1,I1,r1,q1⟩=>?_);obtain ⟨c,rfl,q1⟩:=q1;cases r1;refine wpAny_truthy_bool ?_;cases c with
  | true=>exact hb pins s1 σ H1 Q I1 q1
  | false=>exact ⟨.bl false,H1,I1,rfl,q1⟩
theorem B01 (ha:PE X a ta):PE X (.UnaryOp .Not a pos) (B3j ta):=by
  intro pins s σ H Q I h;refine UnaryOp_ (thn (ha pins s σ H _ I h) fun v s1 ⟨x,H1,I1,r1,q1⟩=>?_);obtain ⟨c,rfl,q1⟩:=q1;cases r1;exact not_of (wpAny_truthy_bool ⟨.bl (!c),H1,I1,rfl,q1⟩)
def tIf (t:TT) (ta tb:TE):TE:=fun σ H Q=>t σ H fun c H1=>if c=true then ta σ H1 Q else tb σ H1 Q
theorem A9n {c:Expr} (hc:PT X c tA) (ha:PE X a ta) (hb:PE X b tb):PE X (.IfExp c a b pos) (tIf tA ta tb):=by
  intro pins s σ H Q I h;refine wpAny_IfExp (thn (hc pins s σ H _ I h) fun d s1 ⟨H1,I1,q1⟩=>?_);cases d with
  | true=>exact ha pins s1 σ H1 Q I1 q1
  | false=>exact hb pins s1 σ H1 Q I1 q1
end
end L2
namespace L2
open PySem PySem.Spec PyProof.Rows
def SqL (K:PySem.W.Frag) (H:Hp) (a:Addr) (xs:List V):Prop :=
  Rd H a (.lst xs) \/
    ∃ (o:Obj) (its:Array Value) (n:Nat),K.lookup a=some o/\o.cls=.type "list"/\o.dict=none/\o.data=.seq its n/\its.size<=sizeLine/\Vals xs its.toList
def SqT (K:PySem.W.Frag) (H:Hp) (a:Addr) (xs:List V):Prop :=
  Rd H a (.tup xs) \/
    ∃ (o:Obj) (its:Array Value) (n:Nat),K.lookup a=some o/\o.cls=.type "tuple"/\o.data=.seq its n/\its.size<=sizeLine/\Vals xs its.toList
def absV:Value->Option V
  | .none=>some .non
  | .bool b=>some (.bl b)
  | .int i _=>some (.int i)
  | .str x _=>some (.str x)
  | .bytes b _=>some (.byt b)
  | .float b _=>some (.flt b)
  | .ref a=>some (.ref a)
  | .type n=>some (.ty n)
  | _=>none
theorem RelV.abs {x:V} {u:Value} (r:RelV x u):absV u=some x:=by
  cases x with
  | non=>cases r; rfl
  | bl _=>cases r; rfl
  | int _=>obtain ⟨t,rfl⟩:=r; rfl
  | str _=>obtain ⟨t,rfl⟩:=r; rfl
  | byt _=>obtain ⟨t,rfl⟩:=r; rfl
  | flt _=>obtain ⟨t,rfl⟩:=r; rfl
  | ref _=>cases r; rfl
  | ty _=>cases r; rfl
theorem RelV.inj {x y:V} {u:Value} (r:RelV x u) (q:RelV y u):x=y:=Zj (r.abs.symm.trans q.abs)
theorem Vals.inj:∀ {xs ys:List V} {us:List Value},Vals xs us->Vals ys us->xs=ys
  | _,_,_,.nil,.nil=>rfl
  | _,_,_,.cons r t,.cons r' t'=>by rw [r.inj r',Vals.inj t t']
section
variable {X:Cx} {pins:List (Addr × Obj)} {σ:St} {H:Hp} {s:Shared} {a:Addr} {xs ys:List V}
theorem SqL.of {K:PySem.W.Frag} (h:H a=some (.lst xs)):SqL K H a xs:=.inl (.inl h)
theorem SqT.of {K:PySem.W.Frag} (h:H a=some (.tup xs)):SqT K H a xs:=.inl (.inl h)
theorem Inv.list (I:Inv X pins σ H s) (h:SqL X.K H a xs):∃ its:List Value,Vals xs its/\PlainL s.heap a its.toArray/\xs.length<=sizeLine:=by
  rcases h with h | ⟨o,its,n,hk,hc,hd,hs,hz,r⟩
  · obtain ⟨z,its,n,r,e⟩:=h.ok I.hok
    exact ⟨its,r,⟨_,n,e,rfl,rfl,rfl⟩,z⟩
  · refine ⟨its.toList,r,⟨o,n,I.kIn a o hk,hc,hd,by simpa using hs⟩,?_⟩
    have e:=r.length;simp only [Array.length_toList] at e;omega
theorem Inv.tuple (I:Inv X pins σ H s) (h:SqT X.K H a xs):∃ its:List Value,Vals xs its/\IsTup s.heap a its.toArray/\xs.length<=sizeLine:=by
  rcases h with h | ⟨o,its,n,hk,hc,hs,hz,r⟩
  · obtain ⟨z,its,r,p⟩:=h.ok I.hok
    exact ⟨its,r,p,z⟩
  · refine ⟨its.toList,r,⟨o,I.kIn a o hk,hc,n,by simpa using hs⟩,?_⟩
    have e:=r.length;simp only [Array.length_toList] at e;omega
theorem Inv.list_inj (I:Inv X pins σ H s) (h:SqL X.K H a xs) (h':SqL X.K H a ys):xs=ys:=by
  obtain ⟨its,r,⟨o,n,e,_,_,d⟩,_⟩:=I.list h;obtain ⟨its',r',⟨o',n',e',_,_,d'⟩,_⟩:=I.list h';rw [e] at e'; cases e';rw [d] at d';injection d' with d1 _
  have:its=its':=by simpa using congrArg Array.toList d1
  subst this;exact r.inj r'
theorem Inv.tuple_inj (I:Inv X pins σ H s) (h:SqT X.K H a xs) (h':SqT X.K H a ys):xs=ys:=by
  obtain ⟨its,r,⟨o,e,_,n,d⟩,_⟩:=I.tuple h;obtain ⟨its',r',⟨o',e',_,n',d'⟩,_⟩:=I.tuple h';rw [e] at e'; cases e';rw [d] at d';injection d' with d1 _
  have:its=its':=by simpa using congrArg Array.toList d1
  subst this;exact r.inj r'
end
abbrev Cx.wish (X:Cx) (E:Value->Shared->Prop):Cx:={ X with xe:=E }
abbrev Cx.nox (X:Cx):Cx:=X.wish fun _ _=>False
theorem Cx.Ok.wish {X:Cx} (ok:X.Ok) (E:Value->Shared->Prop):(X.wish E).Ok :=
  ⟨ok.mod,ok.kind,ok.glob,ok.blt,ok.above,ok.inj,ok.has,ok.cab,ok.hd,ok.frames,ok.stk,ok.exf,ok.bs,ok.bsz,ok.noex,ok.exfs,ok.funs,ok.frf⟩
theorem Cx.Ok.unwish {X:Cx} {E:Value->Shared->Prop} (ok:(X.wish E).Ok):X.Ok :=
  ⟨ok.mod,ok.kind,ok.glob,ok.blt,ok.above,ok.inj,ok.has,ok.cab,ok.hd,ok.frames,ok.stk,ok.exf,ok.bs,ok.bsz,ok.noex,ok.exfs,ok.funs,ok.frf⟩
section
variable {X:Cx} {pins:List (Addr × Obj)} {σ:St} {H:Hp} {s:Shared} {E:Value->Shared->Prop}
theorem Inv.wish (I:Inv X pins σ H s) (E:Value->Shared->Prop):Inv (X.wish E) pins σ H s:=⟨I.ok.wish E,I.os,I.bare,I.base,I.loc,I.cell,I.free,I.freeC,I.pin,I.hok,I.len⟩
theorem Inv.unwish (I:Inv (X.wish E) pins σ H s):Inv X pins σ H s:=⟨I.ok.unwish,I.os,I.bare,I.base,I.loc,I.cell,I.free,I.freeC,I.pin,I.hok,I.len⟩
theorem SP.unwish {D:Ends} {f:Flow} {s':Shared} (h:SP (X.wish E) pins D f s'):SP X pins D f s':=by
  cases f with
  | next=>obtain ⟨σ',H',I,q⟩:=h; exact ⟨σ',H',I.unwish,q⟩
  | brk=>obtain ⟨σ',H',I,q⟩:=h; exact ⟨σ',H',I.unwish,q⟩
  | cont=>obtain ⟨σ',H',I,q⟩:=h; exact ⟨σ',H',I.unwish,q⟩
  | ret u=>obtain ⟨v,σ',H',I,r,q⟩:=h; exact ⟨v,σ',H',I.unwish,r,q⟩
theorem PT.nox {e:Expr} {t:TT} (h:PT X.nox e t):PT X e t:=fun pins s σ H Q I hw =>
  wpAny_mono (h pins s σ H Q (I.wish _) hw) (fun _ _ ⟨H',I',q⟩=>⟨H',I'.unwish,q⟩) fun _ _ z=>False.elim z
theorem PSs.nox {st:List Stmt} {t:TS} (h:PSs X.nox st t):PSs X st t:=fun pins s σ H D I hw =>
  wpAny_mono (h pins s σ H D (I.wish _) hw) (fun _ _ q=>q.unwish) fun _ _ z=>False.elim z
end
section
variable {X:Cx} {st:Stmt} {rest:List Stmt} {t u:TS} {e:Expr} {te:TE} {pos:Pos}
def B3k:TS:=fun D σ H=>D.nx σ H
def tSeq (t u:TS):TS:=fun D σ H=>t { D with nx:=u D } σ H
theorem A0d:PSs X [] B3k:=fun _ _ σ H _ I h=>wpAny_execs_nil ⟨σ,H,I,h⟩
theorem D1 (h1:PS X st t) (h2:PSs X rest u):PSs X (st :: rest) (tSeq t u):=by
  intro pins s σ H D I h;refine wpAny_execs_cons (thn (h1 pins s σ H { D with nx:=u D } I h) fun f s1 q=>?_);cases f with
  | next =>
    obtain ⟨σ',H',I',q⟩:=q;exact h2 pins s1 σ' H' D I' q
  | ret v=>exact q
  | brk=>exact q
  | cont=>exact q
theorem M8 (h1:PS X st t):PSs X [st] t:=by
  intro pins s σ H D I h;refine wpAny_execs_cons (thn (h1 pins s σ H D I h) fun f s1 q=>?_);cases f with
  | next=>exact wpAny_execs_nil q
  | ret v=>exact q
  | brk=>exact q
  | cont=>exact q
theorem Inv.quiet {pins:List (Addr × Obj)} {σ:St} {H:Hp} {s:Shared} (I:Inv X pins σ H s):interactive X.env=false:=by simp [interactive,I.ok.kind]
def B3l (te:TE):TS:=fun D σ H=>te σ H fun _ H1=>D.nx σ H1
theorem B36 (he:PE X e te) (hs:swapsWith e none pos.line X.env=pure false:=by rfl):PS X (.Expr e pos) (B3l te):=by
  intro pins s σ H D I h;exact wpAny_Expr_any (thn (he pins s σ H _ I h) fun v s1 ⟨x,H1,I1,r1,q1⟩=>⟨σ,H1,I1,q1⟩) I.quiet hs
def tRet (te:TE):TS:=fun D σ H=>te σ H D.rt
theorem A1m (he:PE X e te):PS X (.Return (some e) pos) (tRet te):=by
  intro pins s σ H D I h;exact wpAny_Return_some (thn (he pins s σ H _ I h) fun v s1 ⟨x,H1,I1,r1,q1⟩=>⟨x,σ,H1,I1,r1,q1⟩)
def tIfS (c:TT) (t u:TS):TS:=fun D σ H=>c σ H fun b H1=>if b=true then t D σ H1 else u D σ H1
theorem B35 {c:Expr} {a b:List Stmt} {tc:TT} (hc:PT X c tc) (ha:PSs X a t) (hb:PSs X b u):PS X (.If c a b pos) (tIfS tc t u):=by
  intro pins s σ H D I h;refine wpAny_If (thn (hc pins s σ H _ I h) fun d s1 ⟨H1,I1,q1⟩=>?_);cases d with
  | true=>exact ha pins s1 σ H1 D I1 q1
  | false=>exact hb pins s1 σ H1 D I1 q1
def A06:TS:=fun _ _ _=>False
theorem A9j:PS X st A06:=fun _ _ _ _ _ _ h=>h.elim
end
abbrev TG:=V->St->Hp->(St->Hp->Prop)->Prop
abbrev TGs:=List V->St->Hp->(St->Hp->Prop)->Prop
def PG (X:Cx) (target:Expr) (t:TG):Prop :=
  ∀ (pins:List (Addr × Obj)) (s:Shared) (σ:St) (H:Hp) (v:V) (u:Value) (Q:St->Hp->Prop),Inv X pins σ H s->RelV v u->t v σ H Q ->
    wpAny (model X.prog X.w) X.A (assign target X.env u) (fun _ s'=>∃ σ' H',Inv X pins σ' H' s'/\Q σ' H') X.xe s
def PGs (X:Cx) (ts:List Expr) (t:TGs):Prop :=
  ∀ (pins:List (Addr × Obj)) (s:Shared) (σ:St) (H:Hp) (vs:List V) (us:List Value) (Q:St->Hp->Prop),Inv X pins σ H s->Vals vs us->t vs σ H Q ->
    wpAny (model X.prog X.w) X.A (assignInOrder ((assignEach ts X.env).map (·.2)) us) (fun _ s'=>∃ σ' H',Inv X pins σ' H' s'/\Q σ' H') X.xe s
abbrev TSet:=V->V->V->Hp->(Hp->Prop)->Prop
def PSet (X:Cx) (t:TSet):Prop :=
  ∀ (pins:List (Addr × Obj)) (s:Shared) (σ:St) (H:Hp) (o i v:V) (ov iv u:Value) (Q:Hp->Prop),Inv X pins σ H s->RelV o ov->RelV i iv->RelV v u->t o i v H Q ->
    wpAny (model X.prog X.w) X.A (setItem ov iv u) (fun _ s'=>∃ H',Inv X pins σ H' s'/\Q H') X.xe s
section
variable {X:Cx} {pos:Pos}
def K2 (i:Nat):TG:=fun v σ H Q=>Q (σ.set i (some v)) H
theorem A4t {i:Nat} {x:Str} (hN:X.N.Nodup) (hi:X.N[i]?=some x) (hx:Loc X.env.scope x) (hf:X.fn x=true\/X.env.scope.names.lookup x=some .local:=by first | exact .inl rfl | exact .inr rfl | assumption):PG X (.Name x pos) (K2 i):=by
  intro pins s σ H v u Q I r h;exact wpAny_assign_Name (K6 I hN hi hx r (fun s' I'=>⟨_,H,I',h⟩) hf)
def gNil:TGs:=fun vs σ H Q=>vs=[]/\Q σ H
def A0p (t:TG) (u:TGs):TGs:=fun vs σ H Q=>∃ v r,vs=v :: r/\t v σ H fun σ' H'=>u r σ' H' Q
theorem B4b:PGs X [] gNil:=by
  intro pins s σ H vs us Q I r h;obtain ⟨e,h⟩:=h;subst e;cases r;exact assignInOrder_nil ⟨σ,H,I,h⟩
theorem A9l {e:Expr} {es:List Expr} {t:TG} {u:TGs} (h1:PG X e t) (h2:PGs X es u)
    (hs:(assignEach (e :: es) X.env).map (·.2)=assign e X.env :: (assignEach es X.env).map (·.2):=by rfl):PGs X (e :: es) (A0p t u):=by
  intro pins s σ H vs us Q I r h;obtain ⟨v,vr,e1,h⟩:=h;subst e1;cases r with
  | cons r rr =>
    rw [hs];refine assignInOrder_cons (thn (h1 pins s σ H _ _ _ I r h) fun _ s1 ⟨σ1,H1,I1,q1⟩=>?_);exact h2 pins s1 σ1 H1 _ _ Q I1 rr q1
def gTup (K:PySem.W.Frag) (n:Nat) (t:TGs):TG:=fun v σ H Q=>∃ a xs,v=.ref a/\SqT K H a xs/\xs.length=n/\t xs σ H Q
theorem B6t {es:List Expr} {k:Nat} {t:TGs} {n:Nat} (hc:X.calm=true) (h:PGs X es t)
    (hn:(assignEach es X.env).length=n:=by rfl) (hst:(assignEach es X.env).findIdx? (·.1)=none:=by rfl):PG X (.Tuple es k pos) (gTup X.K n t):=by
  intro pins s σ H v u Q I r hw;obtain ⟨a,xs,e1,hq,hl,hw⟩:=hw;subst e1;cases r;obtain ⟨its,rv,ht,hz⟩:=I.tuple hq;refine assign_Tuple_tuple (I.ok.hd hc) ht (by simp [hn,<- hl,rv.length]) hst fun h' hx=>?_;have I1:Inv X pins σ H { s with heap:=h' }:=I.kept (t':=s.toks) fun b o e=>hx b o (Nat.ne_of_lt (Heap.lt_size e)) e;exact h pins _ σ H xs _ Q I1 (by simpa using rv) hw
def gSub (to ti:TE) (t:TSet):TG:=fun v σ H Q=>to σ H fun o H1=>ti σ H1 fun i H2=>t o i v H2 fun H3=>Q σ H3
theorem A4s {o i:Expr} {to ti:TE} {t:TSet} (ho:PE X o to) (hi:PE X i ti) (hs:PSet X t)
    (ha:∀ v,assign (.Subscript o i pos) X.env v=(do
      let ov <- holding [v] (eval o X.env)
      let iv <- holding [v,ov] (eval i X.env)
      standAt pos
      holding [v,ov,iv] (setItem ov iv v)
      release [v,ov,iv] []):=by intro _; rfl):PG X (.Subscript o i pos) (gSub to ti t):=by
  intro pins s σ H v u Q I r h;rw [ha];refine wpAny_bind (wpAny_holding (thn (ho pins s σ H _ I h) fun ov s1 ⟨x,H1,I1,r1,q1⟩=>?_));refine wpAny_bind (wpAny_holding (thn (hi pins s1 σ H1 _ I1 q1) fun iv s2 ⟨y,H2,I2,r2,q2⟩=>?_));refine wpAny_bind (wpAny_standAt (wpAny_bind (wpAny_holding (thn (hs pins s2 σ H2 x y v ov iv u _ I2 r1 r2 r q2) fun _ s3 ⟨H3,I3,q3⟩=>?_))));exact wpAny_release ⟨σ,H3,I3,q3⟩
def tAsg (te:TE) (g:TG):TS:=fun D σ H=>te σ H fun x H1=>g x σ H1 D.nx
theorem A1o {tg e:Expr} {te:TE} {g:TG} (he:PE X e te) (hg:PG X tg g) (hs:swapsWithSole [tg] e pos.line X.env=pure false:=by rfl) (hw:swappedStores [tg] e X.env=pure none:=by rfl)
    (h1:(assignEach [tg] X.env).map (·.2)=[assign tg X.env]:=by rfl):PS X (.Assign [tg] e pos) (tAsg te g):=by
  intro pins s σ H D I h;refine wpAny_Assign_stores (thn (he pins s σ H _ I h) fun v s1 ⟨x,H1,I1,r1,q1⟩=>?_) hs hw;rw [h1];exact thn (hg pins s1 σ H1 x v _ I1 r1 q1) fun _ s2 q=>q
theorem Q2 {i:Nat} {x:Str} {e:Expr} {te:TE} {pos':Pos} (hN:X.N.Nodup) (hi:X.N[i]?=some x) (hx:Loc X.env.scope x) (he:PE X e te) (hs:swapsWith e (some (.Name x pos')) pos.line X.env=pure false:=by rfl) (hf:X.fn x=true\/X.env.scope.names.lookup x=some .local:=by first | exact .inl rfl | exact .inr rfl | assumption) :
    PS X (.Assign [.Name x pos'] e pos) (tAsg te (K2 i)):=by
  intro pins s σ H D I h;refine wpAny_Assign_Name (thn (he pins s σ H _ I h) fun v s1 ⟨y,H1,I1,r1,q1⟩=>?_) hs;exact K6 I1 hN hi hx r1 (fun s2 I2=>⟨_,H1,I2,q1⟩) hf
def tPar (i j:Nat) (ta:TA):TS:=fun D σ H=>ta σ H fun vs H1=>∃ v w,vs=[v,w]/\D.nx ((σ.set i (some v)).set j (some w)) H1
theorem B6p {i j:Nat} {x y:Str} {a b:Expr} {ta:TA} {px py pt:Pos} {kt k2 pt2} (hc:X.calm=true) (hN:X.N.Nodup) (hi:X.N[i]?=some x) (hj:X.N[j]?=some y) (hij:i≠j)
    (hx:X.env.scope.names.lookup x=some .local) (hy:X.env.scope.names.lookup y=some .local) (ha:PA X [a,b] ta)
    (hw:swappedStores [.Tuple [.Name x px,.Name y py] kt pt] (.Tuple [a,b] k2 pt2) X.env=pure (some [x,y]))
    (hs:swapsWithSole [.Tuple [.Name x px,.Name y py] kt pt] (.Tuple [a,b] k2 pt2) pos.line X.env=pure false:=by rfl) :
    PS X (.Assign [.Tuple [.Name x px,.Name y py] kt pt] (.Tuple [a,b] k2 pt2) pos) (tPar i j ta):=by
  intro pins s σ H D I h;rw [exec_Assign_arm];refine wpAny_bind (wpAny_standAt ?_);rw [hs];refine wpAny_bind (wpAny_pure ?_);rw [if_neg (by decide)];refine wpAny_bind (Tuple_ (thn (ha _ pins s σ H _ I h) fun us s1 ⟨vs,H1,I1,r1,q1⟩=>?_));obtain ⟨v,w,e1,q1⟩:=q1;subst e1;obtain ⟨u1,u2,rfl,rv,rw'⟩:∃ u1 u2,us=[u1,u2]/\RelV v u1/\RelV w u2:=by
    cases r1 with
    | cons p q =>
      cases q with
      | cons p' q' =>
        cases q';exact ⟨_,_,rfl,p,p'⟩
  refine wpAny_newObj_type ?_ (by show 2<=sizeLine; decide);have I2:Inv X pins σ H1 { s1 with heap:=s1.heap.push { cls:=.type "tuple",data:=.seq [u1,u2].toArray } }:=I1.kept (t':=s1.toks) fun b o e=>Heap.get?_push_of_some _ e;rw [hw];refine wpAny_bind (wpAny_pure ?_);show wpAny (model X.prog X.w) X.A (do rule "assign.swapped-stores"; let items <- unpackItems (.ref s1.heap.objs.size) 2 none; assignInOrder [fun v=>bindName X.env y v,fun v=>bindName X.env x v] items.reverse; pure Flow.next) _ _ _;refine wpAny_bind (wpAny_rule (wpAny_bind (unpackItems_tuple (items:=#[u1,u2]) (I.ok.hd hc) (IsTup.new s1.heap _) fun h' hx'=>?_)));have I3:=I2.kept (h':=h') (t':=s1.toks) fun b o e=>hx' b o (Nat.ne_of_lt (Heap.lt_size e)) e;show wpAny _ _ (assignInOrder [fun v=>bindName X.env y v,fun v=>bindName X.env x v] [u2,u1] >>= fun _=>pure Flow.next) _ _ _;refine wpAny_bind (assignInOrder_cons (wpAny_bindName (K6 I3 hN hj (.inl hy) rw' (fun s2 I4=>?_) (.inr hy))));refine assignInOrder_cons (wpAny_bindName (K6 I4 hN hi (.inl hx) rv (fun s3 I5=>assignInOrder_nil (wpAny_pure ?_)) (.inr hx)));rw [List.set_comm _ _ (Ne.symm hij)] at I5;exact ⟨_,H1,I5,q1⟩
end
section
variable {X:Cx} {pos:Pos}
def A34 (c:TT) (tb:TS):TS:=fun D σ H=>∃ W:Nat->St->Hp->Prop,(∃ m,W m σ H)/\∀ m σ H,W m σ H ->
  c σ H fun b H1=>if b=true then ∃ N:St->Hp->Prop,(∀ σ' H',N σ' H'->∃ m',m' < m/\W m' σ' H')/\tb { D with nx:=N,ct:=N,bk:=D.nx } σ H1 else D.nx σ H1
theorem A9i {c:Expr} {body:List Stmt} {tc:TT} {tb:TS} (hp:PassesOwn (model X.prog X.w) X.A X.env X.xe) (hc:PT X c tc) (hb:PSs X body tb):PS X (.While c body [] pos) (A34 tc tb):=by
  intro pins s σ H D I h;obtain ⟨W,⟨m0,w0⟩,turn⟩:=h;refine wpAny_While (codeAny_whileLoop (fun n s'=>∃ σ' H',Inv X pins σ' H' s'/\W n σ' H') ?_ m0 ⟨σ,H,I,w0⟩);rintro n s1 ⟨σ1,H1,I1,w1⟩;refine wpAny_passesOwn hp (thn (hc pins s1 σ1 H1 _ I1 (turn n σ1 H1 w1)) fun b s2 ⟨H2,I2,q2⟩=>?_);cases b with
  | true =>
    obtain ⟨N,hN,q2⟩:=q2;rw [if_pos rfl];refine wpAny_passesOwn hp (thn (hb pins s2 σ1 H2 _ I2 q2) fun f s3 q3=>?_);cases f with
    | next =>
      obtain ⟨σ3,H3,I3,n3⟩:=q3;obtain ⟨m',hm,w3⟩:=hN σ3 H3 n3;exact ⟨m',hm,σ3,H3,I3,w3⟩
    | cont =>
      obtain ⟨σ3,H3,I3,n3⟩:=q3;obtain ⟨m',hm,w3⟩:=hN σ3 H3 n3;exact ⟨m',hm,σ3,H3,I3,w3⟩
    | brk=>exact q3
    | ret v=>exact q3
  | false =>
    rw [if_neg Bool.false_ne_true];exact wpAny_execs_nil ⟨σ1,H2,I2,q2⟩
end
structure It where
  go:Nat->Hp->Prop
  yld:Nat->Hp->V->Hp->Prop
  stop:Nat->Hp->Prop
def FpOk (X:Cx) (pins:List (Addr × Obj)) (H:Hp) (b:Addr):Prop :=
  H b=none/\b≠X.env.locals/\b ∉ X.fs/\(b ∈ X.ex\/X.s₀.heap.objs.size<=b)/\(∀ x c,X.env.cells.lookup x=some c->c≠b)/\∀ p ∈ X.pn++pins,p.1≠b
theorem Inv.fpOk {X:Cx} {pins:List (Addr × Obj)} {σ:St} {H H':Hp} {s:Shared} {b:Addr} (I:Inv X pins σ H s) (hb:s.heap.objs.size<=b) (hn:H' b=none):FpOk X pins H' b:=by
  refine ⟨hn,Nat.ne_of_gt (Nat.lt_of_lt_of_le I.lt hb),I.nofs hb,.inr (Zx I.sz hb),fun x c e z=>?_,fun p hp z=>?_⟩
  · obtain ⟨v,q⟩:=I.cell x c e
    exact absurd (Nat.lt_of_lt_of_le q.lt (by rw [z]; exact hb)) (Nat.lt_irrefl _)
  · exact absurd (Nat.lt_of_lt_of_le (Heap.lt_size (I.pin p hp).1) (by rw [z]; exact hb)) (Nat.lt_irrefl _)
structure Turn (P:Program) (w:World) (K:PySem.W.Frag) (tg:Expr) (J:It) (fp:List Addr) (it:Addr) (tn:Nat->Heap->Prop):Prop where
  mem:it ∈ fp
  obj:∀ i h,tn i h->∀ b ∈ fp,∃ o,h.get? b=some o/\∀ v,o.data≠.cell v
  keep:∀ i h h',tn i h->(∀ b ∈ fp,∀ o,h.get? b=some o->h'.get? b=some o)->tn i h'
  item:∀ (X:Cx),X.prog=P->X.w=w->X.K=K->X.calm=true->∀ (i:Nat) (pins:List (Addr × Obj)) (s:Shared) (σ:St) (H:Hp) (E:Value->Shared->Prop),Inv X pins σ H s->(∀ b ∈ fp,FpOk X pins H b)->tn i s.heap->J.go i H ->
    wpAny (model P w) X.A (pyNext (.ref it)) (fun r s1=>∃ u,r=some u /\
      wpAny (model P w) X.A (letOwnedTupleGo tg (.ref it) u) (fun _ s2=>∃ x H',Inv X pins σ H' s2/\RelV x u/\J.yld i H x H'/\tn (i + 1) s2.heap/\∀ b ∈ fp,H' b=none) E s1) E s
  done:∀ (X:Cx),X.prog=P->X.w=w->X.K=K->X.calm=true->∀ (i:Nat) (pins:List (Addr × Obj)) (s:Shared) (σ:St) (H:Hp) (E:Value->Shared->Prop),Inv X pins σ H s->(∀ b ∈ fp,FpOk X pins H b)->tn i s.heap->J.stop i H ->
    wpAny (model P w) X.A (pyNext (.ref it)) (fun r s1=>r=none/\Inv X pins σ H s1) E s
  self:∀ (A:Around) (i:Nat) (s:Shared) (Q:Value->Shared->Prop) (E:Value->Shared->Prop),tn i s.heap->Q (.ref it) s->wpAny (model P w) A (pyIter (.ref it)) Q E s
abbrev TI:=St->Hp->(It->Hp->Prop)->Prop
def PIE (X:Cx) (pins:List (Addr × Obj)) (σ:St) (tg:Expr) (R:It->Hp->Prop) (itv:Value) (s2:Shared):Prop :=
  ∃ (it:Addr) (fp:List Addr) (tn:Nat->Heap->Prop) (J:It) (H':Hp),itv=.ref it/\Inv X pins σ H' s2/\Turn X.prog X.w X.K tg J fp it tn/\tn 0 s2.heap/\(∀ b ∈ fp,FpOk X pins H' b)/\R J H'
def PI (X:Cx) (tg iter:Expr) (wi:TI):Prop :=
  ∀ (pins:List (Addr × Obj)) (s:Shared) (σ:St) (H:Hp) (R:It->Hp->Prop),Inv X pins σ H s->wi σ H R ->
    wpAny (model X.prog X.w) X.A (eval iter X.env) (fun v s1=>wpAny (model X.prog X.w) X.A (pyIter v) (PIE X pins σ tg R) X.xe s1) X.xe s
theorem B5e {M:Model} {A:Around} {E:Value->Shared->Prop} {s:Shared} {tg:Expr} {it:Addr} {u:Value} {o:Obj} {n:String} {vs:Array Value} {Q:Unit->Shared->Prop} (ho:s.heap.get? it=some o) (hc:o.cls=.type n) (hd:o.data=.fields vs)
    (hn:["enumerate","zip","dict_itemiterator","dict_reverseitemiterator","odict_iterator","itertools.zip_longest","itertools.pairwise"].contains n=false) (hQ:Q () s):wpAny M A (letOwnedTupleGo tg (.ref it) u) Q E s:=by
  unfold letOwnedTupleGo;cases tg <;> first
    | exact wpAny_pure hQ
    | (cases u <;> first
        | exact wpAny_pure hQ
        | (refine wpAny_bind (wpAny_load ho ?_)
           rw [hc,hd];show wpAny M A (if (["enumerate","zip","dict_itemiterator","dict_reverseitemiterator","odict_iterator","itertools.zip_longest","itertools.pairwise"].contains n && vs[0]? == some (rawInt _))=true then _ else _) Q E s;rw [if_neg (by intro h; rw [hn,Bool.false_and] at h; cases h)];exact wpAny_pure hQ))
def Itr (lo:Int) (n:Nat):It:=⟨fun i _=>i < n,fun i H x H'=>H'=H/\x=.int (lo + i),fun i _=>n<=i⟩
theorem A20 {P:Program} {w:World} {K:PySem.W.Frag} {tg:Expr} (it:Addr) (lo:Int) (n:Nat):Turn P w K tg (Itr lo n) [it] it (fun i h=>IsRangeIter h it (lo + (i:Nat) * 1) ((n:Int) - (i:Nat)) 1) where
  mem:=by simp
  obj:=fun i h st b hb=>by
    have e:b=it:=by simpa using hb
    subst e;exact ⟨_,st,fun v z=>by
      have z':Data.fields _=Data.cell v:=z;cases z'⟩
  keep:=fun i h h' st k=>k it (by simp) _ st
  item:=by
    intro X hP hw hK hc i pins s σ H E I hf st hg;subst hP hw hK;obtain ⟨f0,f1,f2,f3,f4,f5⟩:=hf it (by simp);have W:=Walks.range (prog:=X.prog) (w:=X.w) (I.ok.hd hc) it lo 1 n;refine W.item i s _ _ hg st fun v h' tk hv st' kk=>?_;obtain ⟨t,rfl⟩:=hv;have I1:Inv X pins σ H { s with heap:=h',toks:=tk }:=I.turned (fun b o hb e=>kk b o (by simpa using hb) e) f0 f1 f3 f4 f5;refine ⟨_,rfl,B5e (s:={ s with heap:=h',toks:=tk }) (n:="range_iterator") st' rfl rfl (by decide) ⟨.int (lo + i),H,I1,⟨t,?_⟩,⟨rfl,rfl⟩,st',fun b hb=>(hf b hb).1⟩⟩;rw [Int.mul_one]
  done:=by
    intro X hP hw hK hc i pins s σ H E I hf st hg;subst hP hw hK;obtain ⟨f0,f1,f2,f3,f4,f5⟩:=hf it (by simp);exact wpAny_pyNext_range_end (I.ok.hd hc) st (by have:n<=i:=hg; omega) fun h' eb=>⟨rfl,I.turned (t':=s.toks) (fun b o hb e=>eb b o hb e) f0 f1 f3 f4 f5⟩
  self:=fun _ _ _ _ _ st h=>wpAny_pyIter_rangeiter st h
end L2
namespace L2
open PySem PySem.Spec PyProof.Rows
section
variable {X:Cx} {tg:Expr}
theorem A9a {pins:List (Addr × Obj)} {σ:St} {H:Hp} {s:Shared} {R:It->Hp->Prop} {E:Value->Shared->Prop} {lo hi:Int} {t u v:Tok} {tk:Nat} (I:Inv X pins σ H s) (h1:-(2 ^ 62)<=lo) (h2:lo < 2 ^ 62) (h3:-(2 ^ 62)<=hi) (h4:hi < 2 ^ 62)
    (q:R (Itr lo (hi - lo).toNat) H):wpAny (model X.prog X.w) X.A (pyIter (.ref s.heap.objs.size)) (PIE X pins σ tg R) E { s with heap:=s.heap.push { cls:=.type "range",data:=.fields #[.int lo t,.int hi u,.int 1 v] },toks:=tk }:=by
  refine wpAny_pyIter_range (IsRange.new ..) (small_one h1 h2 h3 h4) ?_;have I1:Inv X pins σ H { s with heap:=s.heap.push { cls:=.type "range",data:=.fields #[.int lo t,.int hi u,.int 1 v] },toks:=tk }:=I.kept fun b o e=>Heap.get?_push_of_some _ e;refine ⟨(s.heap.push { cls:=.type "range",data:=.fields #[.int lo t,.int hi u,.int 1 v] }).objs.size,[(s.heap.push { cls:=.type "range",data:=.fields #[.int lo t,.int hi u,.int 1 v] }).objs.size],_,_,H,rfl,
    I1.kept (t':=tk) fun b o e=>Heap.get?_push_of_some _ e,A20 _ lo (hi - lo).toNat,?_,fun b hb=>?_,q⟩
  · have e1:lo + ((0:Nat):Int) * 1=lo:=by simp
    have e2:(((hi - lo).toNat:Nat):Int) - ((0:Nat):Int)=Builtin.Range.rangeSize lo hi 1:=by rw [rangeSize_one]; split <;> omega
    show IsRangeIter _ _ (lo + ((0:Nat):Int) * 1) ((((hi - lo).toNat:Nat):Int) - ((0:Nat):Int)) 1;rw [e1,e2];exact Heap.get?_push_size _ rfl
  · have e:b=(s.heap.push { cls:=.type "range",data:=.fields #[.int lo t,.int hi u,.int 1 v] }).objs.size:=by simpa using hb
    subst e;exact I1.fpOk (Zv _) (I1.hok.fresh (Zv _))
def B5d (ta:TA):TI:=fun σ H R=>ta σ H fun vs H1=>∃ j:Int,vs=[.int j]/\-(2 ^ 62)<=j/\j < 2 ^ 62/\R (Itr 0 j.toNat) H1
theorem V5 {a:Expr} {ta:TA} {p pos:Pos} (hg:Gl X "range") (hm:X.mg "range"=none) (ha:PA X [a] ta) (hs:starEach [a] X.env=[(false,eval a X.env)]:=by rfl):PI X tg (.Call (.Name "range" p) [a] [] pos) (B5d ta):=by
  intro pins s σ H R I h;refine Call_ (W5 I hg hm boot_range (PyProof.Rows.callWith_type1 (thn (ha pos pins s σ H _ I h) fun us s1 ⟨vs,H1,I1,r1,q1⟩=>?_) hs rfl));obtain ⟨j,e,q1,q2,q⟩:=q1;subst e;cases r1 with
  | cons r rr =>
    cases rr;obtain ⟨t,rfl⟩:=r;exact call_range_1 (A9a I1 (by omega) (by omega) q1 q2 (by simpa using q))
def tFor (wi:TI) (g:TG) (tb:TS):TS:=fun D σ H=>wi σ H fun J H1=>∃ W:Nat->Nat->St->Hp->Prop,(∃ m,W 0 m σ H1)/\∀ i m σ H,W i m σ H ->
  (J.stop i H/\D.nx σ H)\/(J.go i H/\∃ N:St->Hp->Prop,(∀ σ' H',N σ' H'->∃ m',m' < m/\W (i + 1) m' σ' H')/\∀ x H',J.yld i H x H'->g x σ H' fun σ2 H2=>tb { D with nx:=N,ct:=N,bk:=D.nx } σ2 H2)
def V4 (fp:List Addr) (h:Heap):List (Addr × Obj):=fp.filterMap fun b=>(h.get? b).map fun o=>(b,o)
theorem J8 {fp:List Addr} {h:Heap} {b:Addr} {o:Obj} (hb:b ∈ fp) (e:h.get? b=some o):(b,o) ∈ V4 fp h:=List.mem_filterMap.mpr ⟨b,hb,by rw [e]; rfl⟩
theorem A53 {fp:List Addr} {h:Heap} {p:Addr × Obj} (hp:p ∈ V4 fp h):p.1 ∈ fp/\h.get? p.1=some p.2:=by
  obtain ⟨b,hb,e⟩:=List.mem_filterMap.mp hp;cases q:h.get? b with
  | none=>rw [q] at e; cases e
  | some o =>
    rw [q] at e;have e':(b,o)=p:=Zj e;subst e';exact ⟨hb,q⟩
theorem Inv.pinned {pins:List (Addr × Obj)} {σ:St} {H:Hp} {s:Shared} {fp:List Addr} (I:Inv X pins σ H s) (hf:∀ b ∈ fp,FpOk X pins H b) (ho:∀ b ∈ fp,∃ o,s.heap.get? b=some o/\∀ v,o.data≠.cell v):Inv X (pins++V4 fp s.heap) σ H s :=
  I.pins_of fun p hp=>(Za hp).elim (fun z=>I.pin p (Zw _ z)) fun z=>by
    obtain ⟨hb,e⟩:=A53 z;obtain ⟨f0,f1,f2,_⟩:=hf p.1 hb;obtain ⟨o,e',d⟩:=ho p.1 hb;rw [e] at e'; cases e';exact ⟨e,f0,f1,f2,d⟩
theorem Inv.unpinned {pins pl:List (Addr × Obj)} {σ:St} {H:Hp} {s:Shared} (I:Inv X (pins++pl) σ H s):Inv X pins σ H s:=I.pins_of fun p hp=>I.pin p (Zw _ (Zt _ hp))
theorem B0z {iter:Expr} {body:List Stmt} {wi:TI} {g:TG} {tb:TS} {pos:Pos} (hp:PassesOwn (model X.prog X.w) X.A X.env X.xe) (hc:X.calm=true) (hi:PI X tg iter wi) (hg:PG X tg g) (hb:PSs X body tb)
    (hs:∀ x,foldedSetIterable iter X.env x=pure x:=by intro _; rfl):PS X (.For tg iter body [] pos) (tFor wi g tb):=by
  intro pins s σ H D I h;refine wpAny_For (thn (hi pins s σ H _ I h) fun v s1 h1=>thn h1 fun itv s2 h2=>?_) hs;obtain ⟨it,fp,tn,J,H2,e,I2,T,st2,f2,W,⟨m0,w0⟩,turn⟩:=h2;subst e;have stat:∀ {H':Hp},(∀ b ∈ fp,H' b=none)->∀ b ∈ fp,FpOk X pins H' b:=fun hn b hb=>⟨hn b hb,(f2 b hb).2⟩;refine codeAny_forLoop_any (fun n s'=>∃ i σ' H',Inv X pins σ' H' s'/\tn i s'.heap/\(∀ b ∈ fp,H' b=none)/\W i n σ' H') ?_ m0 ⟨0,σ,H2,I2,st2,fun b hb=>(f2 b hb).1,w0⟩;rintro n s3 ⟨i,σ3,H3,I3,st3,fr3,w3⟩;rcases turn i n σ3 H3 w3 with ⟨stop,qn⟩ | ⟨go,N,hN,step⟩
  · refine wpAny_passesOwn hp (thn (T.done X rfl rfl rfl hc i pins s3 σ3 H3 X.xe I3 (stat fr3) st3 stop) fun r s4 ⟨hr,I4⟩=>?_)
    subst hr;exact wpAny_execs_nil ⟨σ3,H3,I4,qn⟩
  · refine wpAny_passesOwn hp (thn (T.item X rfl rfl rfl hc i pins s3 σ3 H3 X.xe I3 (stat fr3) st3 go) fun r s4 ⟨u,hr,h4⟩=>?_)
    subst hr;refine wpAny_passesOwn hp (thn h4 fun _ s5 ⟨x,H5,I5,r5,y5,st5,fr5⟩=>?_);have I5':=I5.pinned (stat fr5) (T.obj _ _ st5);refine wpAny_passesOwn hp (thn (hg _ s5 σ3 H5 x u _ I5' r5 (step x H5 y5)) fun _ s6 ⟨σ6,H6,I6,q6⟩=>?_);refine wpAny_passesOwn hp (thn (hb _ s6 σ6 H6 _ I6 q6) fun f s7 q7=>?_);have again:∀ {σ7:St} {H7:Hp},Inv X (pins++V4 fp s5.heap) σ7 H7 s7->N σ7 H7->∃ m,m < n/\∃ i σ' H',Inv X pins σ' H' s7/\tn i s7.heap/\(∀ b ∈ fp,H' b=none)/\W i m σ' H':=fun {σ7 H7} I7 n7=>by
      obtain ⟨m',hm,w7⟩:=hN σ7 H7 n7;refine ⟨m',hm,i + 1,σ7,H7,I7.unpinned,T.keep _ _ _ st5 fun b hb o e=>(I7.pin (b,o) (Zw _ (Zw _ (J8 hb e)))).1,fun b hb=>?_,w7⟩;obtain ⟨o,e,d⟩:=T.obj _ _ st5 b hb;exact (I7.pin (b,o) (Zw _ (Zw _ (J8 hb e)))).2.1
    cases f with
    | next=>obtain ⟨σ7,H7,I7,n7⟩:=q7; exact again I7 n7
    | cont=>obtain ⟨σ7,H7,I7,n7⟩:=q7; exact again I7 n7
    | brk=>obtain ⟨σ7,H7,I7,q7⟩:=q7; exact ⟨σ7,H7,I7.unpinned,q7⟩
    | ret v=>obtain ⟨x7,σ7,H7,I7,r7,q7⟩:=q7; exact ⟨x7,σ7,H7,I7.unpinned,r7,q7⟩
end
theorem A76 {lo:Int} {n:Nat} {g:TG} {tb:TS} {D:Ends} {σ:St} {H:Hp} (Pv:Nat->St->Hp->Prop) (h0:Pv 0 σ H)
    (hs:∀ i σ H,i < n->Pv i σ H->g (.int (lo + i)) σ H fun σ2 H2=>tb { D with nx:=Pv (i + 1),ct:=Pv (i + 1),bk:=D.nx } σ2 H2) (hd:∀ σ H,Pv n σ H->D.nx σ H) :
    ∃ W:Nat->Nat->St->Hp->Prop,(∃ m,W 0 m σ H)/\∀ i m σ H,W i m σ H ->
      ((Itr lo n).stop i H/\D.nx σ H)\/((Itr lo n).go i H/\∃ N:St->Hp->Prop,(∀ σ' H',N σ' H'->∃ m',m' < m/\W (i + 1) m' σ' H')/\∀ x H',(Itr lo n).yld i H x H'->g x σ H' fun σ2 H2=>tb { D with nx:=N,ct:=N,bk:=D.nx } σ2 H2):=by
  refine ⟨fun i m σ H=>m=n - i/\i<=n/\Pv i σ H,⟨n,by simp,Nat.zero_le _,h0⟩,?_⟩;rintro i m σ H ⟨rfl,hi,p⟩;by_cases hlt:i < n
  · refine .inr ⟨hlt,Pv (i + 1),fun σ' H' p'=>⟨n - (i + 1),by omega,rfl,hlt,p'⟩,fun x H' y=>?_⟩
    obtain ⟨e,y⟩:=y;subst e y;exact hs i σ _ hlt p
  · have e:i=n:=by omega
    subst e;exact .inl ⟨Zv _,hd σ H p⟩
end L2
namespace L2
open PySem PySem.Spec PyProof.Rows
abbrev R2:=V->V->Hp->VK->Prop
def OpR (X:Cx) (f:Value->Value->Sem Value) (r:R2):Prop :=
  ∀ (pins:List (Addr × Obj)) (s:Shared) (σ:St) (H:Hp) (x y:V) (v u:Value) (Q:VK),Inv X pins σ H s->RelV x v->RelV y u->r x y H Q ->
    wpAny (model X.prog X.w) X.A (f v u) (EP X pins σ Q) X.xe s
def UnR (X:Cx) (f:Value->Sem Value) (r:V->Hp->VK->Prop):Prop :=
  ∀ (pins:List (Addr × Obj)) (s:Shared) (σ:St) (H:Hp) (x:V) (v:Value) (Q:VK),Inv X pins σ H s->RelV x v->r x H Q ->
    wpAny (model X.prog X.w) X.A (f v) (EP X pins σ Q) X.xe s
def CallR (X:Cx) (f:Value) (r:List V->Hp->VK->Prop):Prop :=
  ∀ (pins:List (Addr × Obj)) (s:Shared) (σ:St) (H:Hp) (xs:List V) (us:List Value) (Q:VK),Inv X pins σ H s->Vals xs us->r xs H Q ->
    wpAny (model X.prog X.w) X.A (call f us) (EP X pins σ Q) X.xe s
def tOp (r:R2) (ta tb:TE):TE:=fun σ H Q=>ta σ H fun x H1=>tb σ H1 fun y H2=>r x y H2 Q
def tUn (r:V->Hp->VK->Prop) (ta:TE):TE:=fun σ H Q=>ta σ H fun x H1=>r x H1 Q
def rI (C:Int->Int->Prop) (g:Int->Int->V):R2:=fun x y H Q=>∃ i j,x=.int i/\y=.int j/\C i j/\Q (g i j) H
def rI0 (g:Int->Int->V):R2:=fun x y H Q=>∃ i j,x=.int i/\y=.int j/\Q (g i j) H
def rU (g:Int->V):V->Hp->VK->Prop:=fun x H Q=>∃ i,x=.int i/\Q (g i) H
section
variable {X:Cx} {a b c:Expr} {ta tb tc:TE} {pos:Pos}
theorem binT (ha:PE X a ta) (hb:PE X b tb) {pins:List (Addr × Obj)} {s:Shared} {σ:St} {H:Hp} {R:V->V->Hp->Prop} (I:Inv X pins σ H s)
    (h:ta σ H fun x H1=>tb σ H1 fun y H2=>R x y H2) {Q:Value->Shared->Prop} {f:Value->Value->Sem Value}
    (hf:∀ v u s2 x y H2,Inv X pins σ H2 s2->RelV x v->RelV y u->R x y H2->wpAny (model X.prog X.w) X.A (f v u) Q X.xe s2) :
    wpAny (model X.prog X.w) X.A (eval a X.env) (fun v s₁=>wpAny (model X.prog X.w) X.A (eval b X.env) (fun u s₂=>wpAny (model X.prog X.w) X.A (f v u) Q X.xe s₂) X.xe s₁) X.xe s:=by
  refine thn (ha pins s σ H _ I h) fun v s1 ⟨x,H1,I1,r1,q1⟩=>?_;refine thn (hb pins s1 σ H1 _ I1 q1) fun u s2 ⟨y,H2,I2,r2,q2⟩=>?_;exact hf v u s2 x y H2 I2 r1 r2 q2
theorem F1 {op:Operator} {r:R2} (ho:OpR X (binaryOp op) r) (ha:PE X a ta) (hb:PE X b tb):PE X (.BinOp a op b pos) (tOp r ta tb):=by
  intro pins s σ H Q I h;exact wpAny_BinOp (binT ha hb I h fun v u s2 x y H2 I2 rx ry q=>ho pins s2 σ H2 x y v u Q I2 rx ry q)
theorem B9m {op:UnaryOp} {r:V->Hp->VK->Prop} (ho:UnR X (unaryOp op) r) (ha:PE X a ta):PE X (.UnaryOp op a pos) (tUn r ta):=by
  intro pins s σ H Q I h;exact UnaryOp_ (thn (ha pins s σ H _ I h) fun v s1 ⟨x,H1,I1,r1,q1⟩=>ho pins s1 σ H1 x v Q I1 r1 q1)
theorem opI {f:Value->Value->Sem Value} {C:Int->Int->Prop} {g:Int->Int->Int}
    (rule:∀ (i j:Int) (t u:Tok) (s:Shared) (Q:Value->Shared->Prop) (E:Value->Shared->Prop),C i j->Q (.int (g i j) s.toks) { s with toks:=s.toks + 1 }->wpAny (model X.prog X.w) X.A (f (.int i t) (.int j u)) Q E s) :
    OpR X f (rI C fun i j=>.int (g i j)):=by
  intro pins s σ H x y v u Q I rx ry h;obtain ⟨i,j,rfl,rfl,hc,q⟩:=h;obtain ⟨t,rfl⟩:=rx;obtain ⟨t',rfl⟩:=ry;exact rule i j t t' s _ _ hc ⟨.int (g i j),H,I.tok _,⟨_,rfl⟩,q⟩
theorem opI0 {f:Value->Value->Sem Value} {g:Int->Int->Int}
    (rule:∀ (i j:Int) (t u:Tok) (s:Shared) (Q:Value->Shared->Prop) (E:Value->Shared->Prop),Q (.int (g i j) s.toks) { s with toks:=s.toks + 1 }->wpAny (model X.prog X.w) X.A (f (.int i t) (.int j u)) Q E s) :
    OpR X f (rI0 fun i j=>.int (g i j)):=by
  intro pins s σ H x y v u Q I rx ry h;obtain ⟨i,j,rfl,rfl,q⟩:=h;obtain ⟨t,rfl⟩:=rx;obtain ⟨t',rfl⟩:=ry;exact rule i j t t' s _ _ ⟨.int (g i j),H,I.tok _,⟨_,rfl⟩,q⟩
theorem opB0 {f:Value->Value->Sem Value} {g:Int->Int->Bool}
    (rule:∀ (i j:Int) (t u:Tok) (s:Shared) (Q:Value->Shared->Prop) (E:Value->Shared->Prop),Q (.bool (g i j)) s->wpAny (model X.prog X.w) X.A (f (.int i t) (.int j u)) Q E s) :
    OpR X f (rI0 fun i j=>.bl (g i j)):=by
  intro pins s σ H x y v u Q I rx ry h;obtain ⟨i,j,rfl,rfl,q⟩:=h;obtain ⟨t,rfl⟩:=rx;obtain ⟨t',rfl⟩:=ry;exact rule i j t t' s _ _ ⟨.bl (g i j),H,I,rfl,q⟩
def CPow (i j:Int):Prop:=0<=j/\j<=1000000/\i.natAbs < 2 ^ 64
theorem N6:OpR X (binaryOp .Add) (rI0 fun i j=>.int (i + j)):=opI0 fun _ _ _ _ _ _ _ q=>add_int q
theorem B15:OpR X (binaryOp .Sub) (rI0 fun i j=>.int (i - j)):=opI0 fun _ _ _ _ _ _ _ q=>sub_int q
theorem J0:OpR X (binaryOp .Mod) (rI (fun _ j=>0 < j) fun i j=>.int (i % j)):=opI fun i j _ _ _ _ _ hc q=>by
  have h1:(0:Int) < j:=hc;exact mod_int' (by omega) (by rw [Int.fmod_eq_emod_of_nonneg i (by omega)]; exact q)
theorem L6:OpR X (binaryOp .Pow) (rI CPow fun i j=>.int (i ^ j.toNat)):=opI fun _ _ _ _ _ _ _ hc q=>pow_int_small hc.1 hc.2.1 hc.2.2 q
theorem unI {f:Value->Sem Value} {g:Int->Int}
    (rule:∀ (i:Int) (t:Tok) (s:Shared) (Q:Value->Shared->Prop) (E:Value->Shared->Prop),Q (.int (g i) s.toks) { s with toks:=s.toks + 1 }->wpAny (model X.prog X.w) X.A (f (.int i t)) Q E s) :
    UnR X f (rU fun i=>.int (g i)):=by
  intro pins s σ H x v Q I rx h;obtain ⟨i,rfl,q⟩:=h;obtain ⟨t,rfl⟩:=rx;exact rule i t s _ _ ⟨.int (g i),H,I.tok _,⟨_,rfl⟩,q⟩
theorem B5y:UnR X (unaryOp .USub) (rU fun i=>.int (-i)):=unI fun _ _ _ _ _ q=>neg_int q
end
section
variable {X:Cx} {a b c:Expr} {ta tb tc:TE} {pos:Pos}
theorem B25 {pins:List (Addr × Obj)} {σ:St} {H:Hp} {s:Shared} {Q:VK} {k k':Bool} (I:Inv X pins σ H s) (q:Q (.bl k) H) (e:k=k'):EP X pins σ Q (.bool k') s:=by
  subst e;exact ⟨.bl k,H,I,rfl,q⟩
theorem A29:OpR X (compareOp .Lt) (rI0 fun i j=>.bl (decide (i < j))):=opB0 fun _ _ _ _ _ _ _ q=>lt_int q
theorem B7t:OpR X (compareOp .LtE) (rI0 fun i j=>.bl (decide (i<=j))):=opB0 fun _ _ _ _ _ _ _ q=>le_int q
theorem A9t:OpR X (compareOp .Gt) (rI0 fun i j=>.bl (decide (j < i))):=opB0 fun _ _ _ _ _ _ _ q=>gt_int q
theorem B7w:OpR X (compareOp .GtE) (rI0 fun i j=>.bl (decide (j<=i))):=opB0 fun _ _ _ _ _ _ _ q=>ge_int q
theorem A50:OpR X (compareOp .In) (fun x y H Q=>∃ i j,x=.str i/\y=.str j/\Q (.bl (!(Builtin.Str.occurrences j i 0 j.length 1).isEmpty)) H):=by
  intro pins s σ H x y v u Q I rx ry h;obtain ⟨i,j,rfl,rfl,q⟩:=h;obtain ⟨t,rfl⟩:=rx;obtain ⟨t',rfl⟩:=ry;exact in_str (B25 I q rfl)
theorem B7u:OpR X (compareOp .Is) (fun x y H Q=>y=.non/\Q (.bl (decide (x=.non))) H):=by
  intro pins s σ H x y v u Q I rx ry h;obtain ⟨rfl,q⟩:=h;cases ry;refine is_none_gen (B25 I q ?_);cases x <;> first
    | (cases rx; rfl)
    | (obtain ⟨t,rfl⟩:=rx; rfl)
theorem B5 (b:Expr) {op:CmpOp} (h:op≠.In:=by decide) (h2:op≠.NotIn:=by decide):behindInMarks op b=false:=by
  have e1:(op == CmpOp.In)=false:=by cases op <;> first | rfl | exact absurd rfl h
  have e2:(op == CmpOp.NotIn)=false:=by cases op <;> first | rfl | exact absurd rfl h2
  cases b <;> simp [behindInMarks,e1,e2]
theorem S9 {op:CmpOp} {r:R2} (ho:OpR X (compareOp op) r) (ha:PE X a ta) (hb:PE X b tb) (hm:behindInMarks op b=false):PE X (.Compare a [op] [b] pos) (tOp r ta tb):=by
  intro pins s σ H Q I h;exact wpAny_Compare1 (binT ha hb I h fun v u s2 x y H2 I2 rx ry q=>ho pins s2 σ H2 x y v u Q I2 rx ry q) hm
def A35 (t:TE):TT:=fun σ H Q=>t σ H fun x H'=>∃ k,x=.bl k/\Q k H'
theorem A4o {op:CmpOp} {r:R2} (ho:OpR X (compareOp op) r) (ha:PE X a ta) (hb:PE X b tb) (hm:behindInMarks op b=false):PT X (.Compare a [op] [b] pos) (A35 (tOp r ta tb)):=by
  intro pins s σ H Q I h;refine wpAny_isTrue_Compare1 (thn (ha pins s σ H _ I h) fun v s1 ⟨x,H1,I1,r1,q1⟩=>thn (hb pins s1 σ H1 _ I1 q1) fun u s2 ⟨y,H2,I2,r2,q2⟩ =>
    thn (ho pins s2 σ H2 x y v u _ I2 r1 r2 q2) fun c s3 ⟨z,H3,I3,r3,k,e,q3⟩=>?_) hm
  subst e;cases r3;exact wpAny_truthy_bool ⟨H3,I3,q3⟩
def A36 (r r':R2) (ta tb tc:TE):TE:=fun σ H Q=>ta σ H fun x H1=>tb σ H1 fun y H2=>r x y H2 fun z H3=>∃ k,z=.bl k /\
  (if k=true then tc σ H3 fun w' H4=>r' y w' H4 Q else Q (.bl false) H3)
theorem A9h {op op':CmpOp} {r r':R2} (ho:OpR X (compareOp op) r) (ho':OpR X (compareOp op') r') (ha:PE X a ta) (hb:PE X b tb) (hc:PE X c tc)
    (hm:lastMarks [op,op'] [b,c]=false:=by with_unfolding_all rfl):PT X (.Compare a [op,op'] [b,c] pos) (A35 (A36 r r' ta tb tc)):=by
  intro pins s σ H Q I h;refine isTrue_chain (thn (ha pins s σ H _ I h) fun v s1 ⟨x,H1,I1,r1,q1⟩=>test_link (thn (hb pins s1 σ H1 _ I1 q1) fun u s2 ⟨y,H2,I2,r2,q2⟩ =>
    thn (ho pins s2 σ H2 x y v u _ I2 r1 r2 q2) fun d s3 ⟨z,H3,I3,r3,k,e,q3⟩=>?_)) hm
  subst e;cases r3;refine wpAny_truthy_bool ?_;cases k with
  | false =>
    obtain ⟨k',e',q'⟩:=q3;cases e';exact ite_ff ⟨H3,I3,q'⟩
  | true =>
    refine ite_tt (test_last (thn (hc pins s3 σ H3 _ I3 q3) fun w' s4 ⟨z',H4,I4,r4,q4⟩=>thn (ho' pins s4 σ H4 y z' u w' _ I4 r2 r4 q4) fun d' s5 ⟨z2,H5,I5,r5,k2,e2,q5⟩=>?_));subst e2;cases r5;exact wpAny_truthy_bool ⟨H5,I5,q5⟩
theorem Q7:(sizeLine:Nat) < 2 ^ 63:=by rw [sizeLine_eq]; decide
theorem A3a:OpR X (binaryOp .Add) (fun x y H Q=>∃ i j,x=.str i/\y=.str j/\i.length + j.length<=sizeLine/\Q (.str (i++j)) H):=by
  intro pins s σ H x y v u Q I rx ry h;obtain ⟨i,j,rfl,rfl,hz,q⟩:=h;obtain ⟨t,rfl⟩:=rx;obtain ⟨t',rfl⟩:=ry;exact add_str (fun t' tk=>⟨.str (i++j),H,I.tok _,⟨_,rfl⟩,q⟩) hz
theorem U3 {x:V} {us:List Value} (r:Vals [x] us):∃ u,us=[u]/\RelV x u:=by
  cases r with
  | cons r1 r2=>cases r2; exact ⟨_,rfl,r1⟩
theorem B9e {x y:V} {us:List Value} (r:Vals [x,y] us):∃ u w',us=[u,w']/\RelV x u/\RelV y w':=by
  cases r with
  | cons r1 r2 =>
    cases r2 with
    | cons r3 r4=>cases r4; exact ⟨_,_,rfl,r1,r3⟩
theorem B0d:CallR X (.builtin "abs") (fun xs H Q=>∃ i,xs=[.int i]/\Q (.int (if i < 0 then -i else i)) H):=by
  intro pins s σ H xs us Q I r h;obtain ⟨i,rfl,q⟩:=h;obtain ⟨u,rfl,t,rfl⟩:=U3 r;exact call_abs_int fun u tk=>⟨.int (if i < 0 then -i else i),H,I.tok _,⟨_,rfl⟩,q⟩
theorem A8l:CallR X (.type "int") (fun xs H Q=>(∃ i,xs=[.int i]/\Q (.int i) H)\/∃ k,xs=[.bl k]/\Q (.int (if k then 1 else 0)) H):=by
  intro pins s σ H xs us Q I r h;rcases h with ⟨i,rfl,q⟩ | ⟨k,rfl,q⟩
  · obtain ⟨u,rfl,t,rfl⟩:=U3 r
    exact call_int_int ⟨.int i,H,I,⟨_,rfl⟩,q⟩
  · obtain ⟨u,rfl,r1⟩:=U3 r
    cases r1;exact call_int_bool ⟨.int (if k then 1 else 0),H,I.tok _,⟨_,rfl⟩,q⟩
theorem X8:CallR X (.type "str") (fun xs H Q=>∃ i,xs=[.int i]/\i.natAbs.log2 < 1920/\Q (.str (toString i)) H):=by
  intro pins s σ H xs us Q I r h;obtain ⟨i,rfl,hz,q⟩:=h;obtain ⟨u,rfl,t,rfl⟩:=U3 r;exact PySem.P.str_of_int hz ⟨.str _,H,I.tok _,⟨_,rfl⟩,q⟩
end
end L2
namespace L2
open PySem PySem.Spec PyProof.Rows
theorem A62 {h:Heap} {dx:Addr} {mA:Str->Option Value} (n:h.Ns1 dx mA):∃ od,h.get? dx=some od/\∀ name,PySem.W.lookIn name od=some (mA name):=by
  obtain ⟨o,es,ep,ho,hd,hk,_,hm⟩:=n;refine ⟨o,ho,fun name=>?_⟩;have e:=hm name;unfold nsFind findBy at e;rw [<- Array.find?_toList] at e;unfold PySem.W.lookIn;rw [hd];dsimp only;split
  · rename_i y q
    rw [q] at e;exact congrArg some e
  · rename_i q
    rw [q] at e;have a:es.toList.any (·.refKey)=false:=by
      rw [List.any_eq_false];intro y hy;obtain ⟨z,t,hkey⟩:=hk y (Array.mem_toList_iff.mp hy);simp [DictEntry.refKey,hkey]
    have a':¬ es.toList.any (·.refKey)=true:=by rw [a]; exact Bool.false_ne_true
    rw [if_neg a'];exact congrArg some e
section
variable {prog:Program} {w:World} {A:Around} {E:Value->Shared->Prop} {s:Shared} {K:PySem.W.Frag} {x dx C f:Addr} {mA:Str->Option Value} {name:Str} {v:Value}
end
theorem RelO.none_of {o:Option Value} (r:RelO none o):o=none:=by
  cases o with
  | none=>rfl
  | some u=>exact (show False from r).elim
section
variable {P:Program} {w:World} {H H':Hp} {h h':Heap} {a C dx:Addr} {fs fs':List (Str × V)}
end
structure Cls (K:PySem.W.Frag) (C:Addr):Prop where
  pg:PySem.W.plainGet K C Str.empty=true
  hd:PySem.W.hasDictIn K C=true
  po:PySem.W.plainOver K C=true
  sa:PySem.W.findIn K (.ref C) "__setattr__"=some (some (.builtin "object.__setattr__"))
theorem Cls.get {K:PySem.W.Frag} {C:Addr} (c:Cls K C) (f:Str):PySem.W.plainGet K C f=true:=c.pg
section
variable {X:Cx} {pins:List (Addr × Obj)} {σ:St} {H:Hp} {s:Shared} {a C dx:Addr} {fs:List (Str × V)} {f:Str} {v:V} {A:Around} {E:Value->Shared->Prop}
theorem B5q {prog:Program} {w:World} {env:Env} {e:Expr} {f:Str} {pos:Pos} {s:Shared} {Q:Value->Shared->Prop} (hb:attributeBase e f env (eval e env)=eval e env)
    (h:wpAny (model prog w) A (eval e env) (fun o s₁=>wpAny (model prog w) A (getAttr o f true) Q E s₁) E s):wpAny (model prog w) A (eval (.Attribute e f pos) env) Q E s :=
  Attribute_any_ h (by rw [arm_eval_Attribute,hb])
end
section
variable {X:Cx} {o e value:Expr} {f:Str} {pos pos' tpos:Pos} {ta tv:TE}
end
section
variable {X:Cx} {pins:List (Addr × Obj)} {σ:St} {H:Hp} {s:Shared} {A:Around} {E:Value->Shared->Prop} {Q:Value->Shared->Prop} {c:Value} {b:Bool}
end
end L2
namespace L2
open PySem PySem.Spec PyProof.Rows
structure Room (k:Nat) (A:Around):Prop where
  hd:A.handled=none
  gd:A.guards=some []
  dp:A.depth + 3 * k + 5 < recursionLimit
  un:A.units + 16 * k + 200 < cLine
theorem Room.mono {j k:Nat} {A:Around} (r:Room k A) (h:j<=k):Room j A:=⟨r.hd,r.gd,by have:=r.dp; omega,by have:=r.un; omega⟩
theorem Room.mo {j k:Nat} {A:Around} (r:Room k A) (h:j<=k:=by first | decide | omega):Room j A:=r.mono h
theorem Room.deeper {k:Nat} {A:Around} (r:Room (k + 1) A) (env:Env):Room k (A.deeper env) :=
  ⟨r.hd,r.gd,by have:=r.dp; show A.depth + 1 + 3 * k + 5 < _; omega,by have:=r.un; show A.units + 3 + 16 * k + 200 < _; omega⟩
theorem A3j {A:Around} {C:Addr} {us:List Value} {kw:List (Str × Value)}:(A.under (.builtin "type.__call__" ⟨.ref C :: us,kw⟩)).depth=A.depth + 1:=by
  first | rfl | simp [Around.under,Code.weight,Code.isCreation,Code.isGuard,Code.isCaller,Code.frames,Code.isFrame,guardIds]
theorem A3i {A:Around} {C:Addr} {us:List Value} {kw:List (Str × Value)}:(A.under (.builtin "type.__call__" ⟨.ref C :: us,kw⟩)).units=A.units + 1:=by
  first | rfl | simp [Around.under,Code.cUnits,Code.frames,Code.isFrame]
theorem Room.make {k:Nat} {A:Around} (r:Room (k + 1) A) (C:Addr) (us:List Value) (kw:List (Str × Value)):Room k (A.under (.builtin "type.__call__" ⟨.ref C :: us,kw⟩)) :=
  ⟨r.hd,r.gd,by have:=r.dp; rw [A3j]; omega,by have:=r.un; rw [A3i]; omega⟩
theorem Room.depth {k:Nat} {A:Around} (r:Room k A):A.depth < recursionLimit:=by have:=r.dp; omega
theorem Room.units {k:Nat} {A:Around} (r:Room k A):A.units + 64 < cLine:=by have:=r.un; omega
def tNil:TA:=fun _ H Q=>Q [] H
def E6 (ta:TE) (tr:TA):TA:=fun σ H Q=>ta σ H fun x H1=>tr σ H1 fun xs H2=>Q (x :: xs) H2
section
variable {X:Cx} {e:Expr} {es:List Expr} {te:TE} {t:TA} {pos:Pos}
theorem pa_nil:PA X [] tNil:=fun _ _ _ _ H Q I h=>Calls.spliced_nil ⟨[],H,I,.nil,h⟩
theorem pa_cons (ha:PE X e te) (hr:PA X es t) (hs:starEach (e :: es) X.env=(false,eval e X.env) :: starEach es X.env:=by rfl):PA X (e :: es) (E6 te t):=by
  intro pos pins s σ H Q I h;rw [hs];show wpAny _ _ (spliced ((false,eval e X.env) :: backTo pos (starEach es X.env))) _ _ s;refine Calls.spliced_cons (thn (ha pins s σ H _ I h) fun u s1 ⟨x,H1,I1,r1,q1⟩=>?_);exact thn (hr pos pins s1 σ H1 _ I1 q1) fun us s2 ⟨xs,H2,I2,r2,q2⟩=>⟨x :: xs,H2,I2,.cons r1 r2,q2⟩
def tTup (t:TA):TE:=fun σ H Q=>t σ H fun xs H1=>xs.length<=sizeLine/\∀ p,H1 p=none->Q (.ref p) (upd H1 p (.tup xs))
def tLst (t:TA):TE:=fun σ H Q=>t σ H fun xs H1=>xs.length<=sizeLine/\∀ p,H1 p=none->Q (.ref p) (upd H1 p (.lst xs))
theorem B6u {x1} (h:PA X es t):PE X (.Tuple es x1 pos) (tTup t):=by
  intro pins s σ H Q I hq;refine wpAny_Tuple_spliced (thn (h pos pins s σ H _ I hq) fun us s1 ⟨xs,H1,I1,r,z,q⟩=>⟨by rw [<- r.length]; exact z,?_⟩);have hf:H1 s1.heap.objs.size=none:=I1.hok.fresh (Zv _);refine ⟨.ref s1.heap.objs.size,upd H1 s1.heap.objs.size (.tup xs),I1.laid (t':=s1.toks) (fun b u e=>Heap.get?_push_of_some _ e) (Zv _) ?_,rfl,q _ hf⟩;exact ⟨z,us,r,⟨_,Heap.get?_push_size _ rfl,rfl,_,rfl⟩⟩
theorem B02 (h:PA X es t):PE X (.List es pos) (tLst t):=by
  intro pins s σ H Q I hq;refine wpAny_List_spliced (thn (h pos pins s σ H _ I hq) fun us s1 ⟨xs,H1,I1,r,z,q⟩=>⟨by rw [<- r.length]; exact z,?_⟩);have hf:H1 s1.heap.objs.size=none:=I1.hok.fresh (Zv _);refine ⟨.ref s1.heap.objs.size,upd H1 s1.heap.objs.size (.lst xs),I1.laid (t':=s1.toks) (fun b u e=>Heap.get?_push_of_some _ e) (Zv _) ?_,rfl,q _ hf⟩;exact ⟨z,us,0,r,Heap.get?_push_size _ rfl⟩
end
abbrev Sp:=List V->Hp->VK->XK->Prop
abbrev CXT:=List Env->Hp->Shared->XK->Value->Shared->Prop
structure Env0 (P:Program) (w:World) (K:PySem.W.Frag) (mg:Str->Option Value) (base:Heap) (A:Around) (outer:List Env) (s:Shared) (H:Hp):Prop where
  frames:A.frames=some outer
  mod:Mod K mg base
  bs:∀ b o,base.get? b=some o->s.heap.get? b=some o/\H b=none
  bsz:base.objs.size<=s.heap.objs.size
  funs:s.heap.FunFrames base outer
  frf:∀ b ∈ frs outer,H b=none
  hok:HOk P w H s.heap
  bare:AllBare s.gens
def CE (outer:List Env) (P:Program) (w:World) (H:Hp) (s:Shared) (Q:VK) (u:Value) (s':Shared):Prop :=
  ∃ v H',s'.os=s.os/\AllBare s'.gens/\Un (frs outer) [] H H' s.heap s'.heap/\HOk P w H' s'.heap/\RelV v u/\Q v H'
def CR (CX:CXT) (outer:List Env) (P:Program) (w:World) (H:Hp) (s:Shared) (Q:VK) (E:XK) (r:Result) (s':Shared):Prop :=
  match r with
  | .ok (.ret u)=>CE outer P w H s Q u s'
  | .ok _=>False
  | .error e=>CX outer H s E e s'
structure FnOk (P:Program) (w:World) (K:PySem.W.Frag) (mg:Str->Option Value) (base:Heap) (CX:CXT) (k:Nat) (f:Addr) (fd:FuncData) (ps:List Str) (sp:Sp):Prop where
  len:∀ vs H Q E,sp vs H Q E->vs.length=ps.length
  run:∀ (A:Around) (outer:List Env) (s:Shared) (H:Hp) (args:Args) (us:List Value) (vs:List V) (Q:VK) (E:XK),Room k A->Env0 P w K mg base A outer s H->BindsTo s fd args (ps.zip us)->Vals vs us->sp vs H Q E ->
    codeAny (model P w) A (.call (.ref f) args) (CR CX outer P w H s Q E) s
theorem FnOk.imp {P:Program} {w:World} {K:PySem.W.Frag} {mg:Str->Option Value} {base:Heap} {CX:CXT} {k:Nat} {f:Addr} {fd:FuncData} {ps:List Str} {sp sp':Sp} (F:FnOk P w K mg base CX k f fd ps sp)
    (h:∀ vs H Q E,sp' vs H Q E->sp vs H Q E):FnOk P w K mg base CX k f fd ps sp' :=
  ⟨fun vs H Q E q=>F.len vs H Q E (h _ _ _ _ q),fun A outer s H args us vs Q E hr he hb hv hs=>F.run A outer s H args us vs Q E hr he hb hv (h _ _ _ _ hs)⟩
theorem Env0.make {P:Program} {w:World} {K:PySem.W.Frag} {mg:Str->Option Value} {base:Heap} {A:Around} {outer:List Env} {s:Shared} {H:Hp} (e:Env0 P w K mg base A outer s H) (C:Addr) (us:List Value) (kw:List (Str × Value)) :
    Env0 P w K mg base (A.under (.builtin "type.__call__" ⟨.ref C :: us,kw⟩)) outer s H:=⟨by first | exact e.frames | (simpa [Around.under,Code.envs,Code.isFrame,pushEnvs] using e.frames),e.mod,e.bs,e.bsz,e.funs,e.frf,e.hok,e.bare⟩
section
variable {X:Cx} {pins:List (Addr × Obj)} {σ:St} {H:Hp} {s s':Shared}
theorem Inv.env0 (I:Inv X pins σ H s):Env0 X.prog X.w X.K X.mg X.base X.A X.stack s H :=
  ⟨I.ok.frames,I.ok.mod,I.bs,Zx I.ok.bsz I.sz,I.stack,I.stkFree,I.hok,I.bare⟩
theorem Inv.after {Q:VK} {u:Value} (I:Inv X pins σ H s) (h:CE X.stack X.prog X.w H s Q u s'):EP X pins σ Q u s':=by
  obtain ⟨v,H',os,bare,un,hok,r,q⟩:=h;obtain ⟨hh,g,d,t,os'⟩:=s';obtain rfl:os'=s.os:=os;exact ⟨v,H',I.call (h':=hh) (g':=g) (d':=d) (t':=t) (ch:=[]) un hok bare (fun b z=>absurd z (by simp)),r,q⟩
end
def A84 (sp:Sp) (dvs:List V) (E:XK) (t:TA):TE:=fun σ H Q=>t σ H fun vs H1=>sp (vs++dvs) H1 Q E
def Binds (K:PySem.W.Frag) (fd:FuncData) (ps:List Str) (ds:List Value):Prop :=
  ∀ (s:Shared) (us:List Value),K.In s.heap->(us++ds).length=ps.length->BindsTo s fd ⟨us,[]⟩ (ps.zip (us++ds))
theorem Binds.all {K:PySem.W.Frag} {fd:FuncData} {ps:List Str} (h:∀ us:List Value,us.length=ps.length->bindArgs fd ⟨us,[]⟩=pure (ps.zip us)):Binds K fd ps []:=fun s us _ hl=>by
  rw [List.append_nil] at hl ⊢;exact .of_eq (h us hl)
def A2z (CX:CXT) (X:Cx) (E:XK):Prop:=∀ (pins:List (Addr × Obj)) (σ:St) (H:Hp) (s:Shared) (e:Value) (s':Shared),Inv X pins σ H s->CX X.stack H s E e s'->X.xe e s'
section
variable {X:Cx} {CX:CXT} {k:Nat} {f C:Addr} {fd:FuncData} {ps:List Str} {sp:Sp} {dvs:List V} {ds:List Value} {E:XK} {x m:Str} {p pos apos:Pos} {e o:Expr} {es:List Expr} {ta:TE} {t:TA}
theorem B6c {pins:List (Addr × Obj)} {σ:St} {H:Hp} {s:Shared} {Q:VK} {us:List Value} {vs:List V} (F:FnOk X.prog X.w X.K X.mg X.base CX k f fd ps sp) (hr:Room k X.A) (hb:Binds X.K fd ps ds) (hd:Vals dvs ds) (hx:A2z CX X E)
    (I:Inv X pins σ H s) (r:Vals vs us) (h:sp (vs++dvs) H Q E):wpAny (model X.prog X.w) X.A (call (.ref f) us) (EP X pins σ Q) X.xe s:=by
  have r2:Vals (vs++dvs) (us++ds):=r.append hd;have hl:(us++ds).length=ps.length:=by rw [<- r2.length]; exact F.len _ _ _ _ h
  refine wpAny_call (codeAny_mono (F.run X.A X.stack s H ⟨us,[]⟩ (us++ds) (vs++dvs) Q E hr I.env0 (hb s us I.kIn hl) r2 h) fun r s' hq=>?_);cases r with
  | error e=>exact hx pins σ H s e s' I hq
  | ok fl =>
    cases fl with
    | ret u=>exact I.after hq
    | next=>exact False.elim hq
    | brk=>exact False.elim hq
    | cont=>exact False.elim hq
theorem B4f (F:FnOk X.prog X.w X.K X.mg X.base CX k f fd ps sp) (hr:Room k X.A) (hg:Gl X x) (hm:X.mg x=some (.ref f)) (hk:PySem.W.keepIn X.K (.ref f)=true) (hb:Binds X.K fd ps ds) (hd:Vals dvs ds) (hx:A2z CX X E)
    (ha:PA X (e :: es) t) (hdb:(x == ("__debug__":Str))=false:=by decide) (he:starEach (e :: es) X.env=(false,eval e X.env) :: starEach es X.env:=by rfl) (hpl:(backTo pos (starEach es X.env)).any (·.1)=false:=by rfl) :
    PE X (.Call (.Name x p) (e :: es) [] pos) (A84 sp dvs E t):=by
  intro pins s σ H Q I h;refine wpAny_Call_Name_kw (P4 I hg hm ?_ hdb);refine PySem.W.callWith_K (h₀:=X.base) I.ok.mod.kin hk (thn (ha pos pins s σ H _ I h) fun us s1 ⟨vs,H1,I1,r,q⟩=>⟨I1.kIn,?_⟩) he hpl;exact B6c F hr hb hd hx I1 r q
end
section
variable {X:Cx} {CX:CXT} {k:Nat} {f C:Addr} {fd:FuncData} {ps ks:List Str} {sp:Sp} {E:XK} {x m:Str} {p pos apos kpos:Pos} {e o:Expr} {es:List Expr} {kws:List Keyword} {te ta:TE} {t tk:TA} {nm:Option Str}
variable {g:List Value->List Value->List Value} {gV:List V->List V->List V}
end
structure FnScope (N P:List Str) (sc:Scope):Prop where
  kind:sc.kind=.function
  co:sc.isCoroutine=false
  gen:sc.isGenerator=false
  nd:N.Nodup
  pre:N.take P.length=P
  par:∀ x ∈ P,sc.names.lookup x=some .local\/sc.names.lookup x=some .cell
  nofree:∀ y ∈ sc.names,y.2≠.free
theorem Y2 {kindOf:Str->Option NameKind} {x:Str}:∀ {binds:List (Str × Value)} {m:Str->Option Value},(∀ v,(x,v) ∉ binds)->bindL kindOf binds m x=m x
  | [],_,_=>rfl
  | (n,v) :: r,m,h=>by
    unfold bindL;rw [Y2 fun w hw=>h w (Zr _ hw)];split
    · have:x≠n:=by rintro rfl; exact h v Zy
      simp [this]
    · rfl
theorem Y4 {kindOf:Str->Option NameKind} {x:Str}:∀ {binds:List (Str × Value)} {m:Str->Option Value},(∀ v,(x,v) ∉ binds)->bindC kindOf binds m x=m x
  | [],_,_=>rfl
  | (n,v) :: r,m,h=>by
    unfold bindC;rw [Y4 fun w hw=>h w (Zr _ hw)];split
    · rfl
    · have:x≠n:=by rintro rfl; exact h v Zy
      simp [this]
theorem Y3 {kindOf:Str->Option NameKind} {x:Str} {v:Value}:∀ {P:List Str} {vs:List Value} {i:Nat} {m:Str->Option Value},P.Nodup->P[i]?=some x->vs[i]?=some v->kindOf x=some .local ->
    bindL kindOf (P.zip vs) m x=some v
  | [],_,_,_,_,h,_,_=>by simp at h
  | _ :: _,[],_,_,_,_,h,_=>by simp at h
  | p :: P,w :: vs,0,m,nd,h1,h2,hk=>by
    simp at h1 h2; subst h1; subst h2;show bindL kindOf ((p,w) :: P.zip vs) m p=_;unfold bindL;rw [Y2 fun v hv=>(List.nodup_cons.mp nd).1 (List.of_mem_zip hv).1,if_pos hk];simp
  | p :: P,w :: vs,i + 1,m,nd,h1,h2,hk=>by
    show bindL kindOf ((p,w) :: P.zip vs) m x=_;unfold bindL;exact Y3 (i:=i) (List.nodup_cons.mp nd).2 (by simpa using h1) (by simpa using h2) hk
theorem Y5 {kindOf:Str->Option NameKind} {x:Str} {v:Value}:∀ {P:List Str} {vs:List Value} {i:Nat} {m:Str->Option Value},P.Nodup->P[i]?=some x->vs[i]?=some v->kindOf x≠some .local ->
    bindC kindOf (P.zip vs) m x=some v
  | [],_,_,_,_,h,_,_=>by simp at h
  | _ :: _,[],_,_,_,_,h,_=>by simp at h
  | p :: P,w :: vs,0,m,nd,h1,h2,hk=>by
    simp at h1 h2; subst h1; subst h2;show bindC kindOf ((p,w) :: P.zip vs) m p=_;unfold bindC;rw [Y4 fun v hv=>(List.nodup_cons.mp nd).1 (List.of_mem_zip hv).1,if_neg hk];simp
  | p :: P,w :: vs,i + 1,m,nd,h1,h2,hk=>by
    show bindC kindOf ((p,w) :: P.zip vs) m x=_;unfold bindC;exact Y5 (i:=i) (List.nodup_cons.mp nd).2 (by simpa using h1) (by simpa using h2) hk
def G3 (N:List Str) (vs:List V):St:=vs.map some++List.replicate (N.length - vs.length) none
def cxOf (CX:CXT) (P:Program) (w:World) (K:PySem.W.Frag) (mg:Str->Option Value) (base:Heap) (N:List Str) (qual:Str) (scope:Scope) (f:Addr) (cd:Value) (A:Around) (outer:List Env) (s:Shared) (H:Hp) (E:XK):Cx where
  prog:=P
  w:=w
  K:=K
  mg:=mg
  base:=base
  A:=A.deeper (envOfC qual scope s.heap.objs.size f cd)
  N:=N
  s₀:=s
  H₀:=H
  env:=envOfC qual scope s.heap.objs.size f cd
  outer:=outer
  stack:=envOfC qual scope s.heap.objs.size f cd :: outer
  ex:=[]
  calm:=true
  fn:=fun _=>true
  pn:=[]
  xe:=fun e s'=>wpAny (model P w) (A.deeper (envOfC qual scope s.heap.objs.size f cd)) (leaving (envOfC qual scope s.heap.objs.size f cd) e) (fun _ s''=>CX outer H s E e s'') (fun e' s''=>CX outer H s E e' s'') s'
theorem A2v {sc:Scope} {n:Nat} {x:Str} (h:sc.names.lookup x=some .cell):∃ c,(cellsFrom n sc.names []).lookup x=some c:=by
  have q:=PySem.W.cellsFrom_some sc.names n [] (.inl h);exact Option.isSome_iff_exists.mp q
theorem X0 {CX:CXT} {P:Program} {w:World} {K:PySem.W.Frag} {mg:Str->Option Value} {base:Heap} {N ps:List Str} {qual:Str} {scope:Scope} {f:Addr} {cd:Value} {A:Around} {outer:List Env} {s s1:Shared} {H:Hp} {E:XK} {us:List Value} {vs:List V}
    (S:FnScope N ps scope) (hd:A.handled=none) (e0:Env0 P w K mg base A outer s H) (hl:vs.length=ps.length) (r:Vals vs us)
    (x:InCallC s s.heap.objs.size (bindL (envOfC qual scope s.heap.objs.size f cd).kindOf (ps.zip us) fun _=>none) (cellsFrom (s.heap.objs.size + 1) scope.names []) (bindC (envOfC qual scope s.heap.objs.size f cd).kindOf (ps.zip us) fun _=>none) s1) :
    Inv (cxOf CX P w K mg base N qual scope f cd A outer s H E) [] (G3 N vs) H s1:=by
  have hpl:ps.length<=N.length:=by have:=congrArg List.length S.pre; rw [List.length_take] at this; omega
  obtain ⟨h1,tk,rfl,hk⟩:=x.done;have noA:∀ b:Addr,b ∉ (cxOf CX P w K mg base N qual scope f cd A outer s H E).ex:=fun b z=>absurd (show b ∈ ([]:List Addr) from z) (by simp);refine ⟨⟨e0.mod,S.kind,rfl,rfl,Zv _,fun y z c h1 h2=>?_,fun y hy=>?_,fun y c _ h=>?_,fun _=>hd,Around.frames_deeper e0.frames,.inr ⟨rfl,rfl⟩,fun b z=>absurd z (noA b),e0.bs,e0.bsz,fun b _ _=>noA b,fun b z=>absurd z (noA b),e0.funs,e0.frf⟩,
    rfl,e0.bare,Un.kept hk,⟨_,x.toInCall.ns,fun i y v h1 h2 h3=>?_⟩,fun y c h=>⟨_,x.cell y c h⟩,e0.hok.fresh (Zv _),fun y c h=>?_,fun p hp=>absurd (show p ∈ ([]:List (Addr × Obj)) from hp) (by simp),e0.hok.kept hk,?_⟩
  · exact name_of_addr x.apart (PySem.mem_of_lookup h1) (PySem.mem_of_lookup h2)
  · have hy:scope.names.lookup y=some .cell\/scope.names.lookup y=some .free:=hy
    rcases hy with hy | hy
    · exact A2v hy
    · exact absurd rfl (S.nofree _ (PySem.mem_of_lookup hy))
  · exact Nat.le_of_lt (x.above y c (PySem.mem_of_lookup h))
  · have hi:i < vs.length:=by
      unfold G3 at h2;by_cases hi:i < vs.length
      · exact hi
      · rw [List.getElem?_append_right (by simpa using hi)] at h2
        rw [List.getElem?_replicate] at h2;split at h2 <;> cases h2
    have ha:vs[i]?=some v:=by
      unfold G3 at h2;rw [List.getElem?_append_left (by simpa using hi),Zh] at h2;cases e:vs[i]? with
      | none=>rw [e] at h2; cases h2
      | some a=>rw [e] at h2; cases h2; rfl
    obtain ⟨u,hu,rv⟩:=r.get ha;have hp:ps[i]?=some y:=by
      rw [<- S.pre,List.getElem?_take_of_lt (by omega)]; exact h1
    have ndP:ps.Nodup:=by rw [<- S.pre]; exact S.nd.sublist (List.take_sublist _ _)
    refine ⟨u,rv,?_⟩;rcases S.par y (Zm hp) with k | k
    · exact .inl ⟨k,Y3 ndP hp hu k⟩
    · obtain ⟨c,e⟩:=A2v (n:=s.heap.objs.size + 1) k
      refine .inr ⟨.inl k,c,e,?_⟩;have q:=x.cell y c e;rw [Y5 ndP hp hu (by show scope.names.lookup y≠_; rw [k]; decide)] at q;exact q
  · exact e0.hok.fresh (Nat.le_of_lt (x.above y c (PySem.mem_of_lookup h)))
  · unfold G3
    show _=N.length;rw [Ze,Zl,List.length_replicate];omega
theorem B8v {CX:CXT} {P:Program} {w:World} {K:PySem.W.Frag} {mg:Str->Option Value} {base:Heap} {k:Nat} {f:Addr} {name qual:Str} {params:Arguments} {body:List Stmt} {scope:Scope} {dV kV doc pm cdv ct oc:Value} {an od:Option Addr}
    {osl:Array (Option Value)} {N ps:List Str} {sp:Sp} (lk:K.lookup f=some ⟨oc,od,.func (PySem.W.fnOf name qual params body scope dV kV doc pm an cdv ct),osl⟩) (hcd:PySem.W.codeIn K cdv qual=true) (S:FnScope N ps scope)
    (len:∀ vs H Q E,sp vs H Q E->vs.length=ps.length)
    (hbody:∀ (A:Around) (outer:List Env) (s:Shared) (H:Hp) (vs:List V) (Q:VK) (E:XK),Room k (A.deeper (envOfC qual scope s.heap.objs.size f cdv))->sp vs H Q E ->
      ∃ t,PSs (cxOf CX P w K mg base N qual scope f cdv A outer s H E) body t/\t { nx:=fun _ H'=>Q .non H',rt:=Q } (G3 N vs) H) :
    FnOk P w K mg base CX (k + 1) f (PySem.W.fnOf name qual params body scope dV kV doc pm an cdv ct) ps sp:=by
  refine ⟨len,fun A outer s H args us vs Q E hr e0 hb r hsp=>?_⟩;have hl:=len _ _ _ _ hsp;have KX:K.In s.heap:=e0.mod.kin.keeps fun b o e=>(e0.bs b o e).1;have lim:s.heap.NoLimit:=e0.mod.nolimit.keeps fun b o e=>(e0.bs b o e).1;have hkind:∀ y ∈ ps.zip us,scope.names.lookup y.1=some .local\/(scope.names.lookup y.1=some .cell/\((cellsFrom (s.heap.objs.size + 1) scope.names []).lookup y.1).isSome=true):=fun ⟨n,v⟩ hy=>by
    rcases S.par n (List.of_mem_zip hy).1 with q | q
    · exact .inl q
    · exact .inr ⟨q,PySem.W.cellsFrom_some _ _ _ (.inl q)⟩
  refine codeAny_call_function hr.depth (KX _ _ lk) rfl S.co S.gen rfl (PySem.W.codeRec_of KX hcd) (hb _ _ _ _ ?_);refine wpAny_newFunctionEnv_cells S.kind hkind fun env he s1 x=>?_;subst he;refine ⟨lim.keeps x.toInCall.keep,codeAny_func ?_⟩;obtain ⟨t,ht,hq⟩:=hbody A outer s H vs Q E (hr.deeper _) hsp;have I:Inv (cxOf CX P w K mg base N qual scope f cdv A outer s H E) [] (G3 N vs) H s1:=X0 S hr.hd e0 hl r x;refine wpAny_mono (ht [] s1 (G3 N vs) H _ I hq) (fun fl s' hs=>?_) fun e s' hs=>hs;have fin:∀ {σ':St} {H':Hp} {v:V} {u:Value},Inv (cxOf CX P w K mg base N qual scope f cdv A outer s H E) [] σ' H' s'->RelV v u->Q v H'->CE outer P w H s Q u s' :=
    fun {σ' H' v u} J rv q=>⟨v,H',J.os,J.bare,J.base,J.hok,rv,q⟩
  cases fl with
  | ret u =>
    obtain ⟨v,σ',H',J,rv,q⟩:=hs;exact fin J rv q
  | next =>
    obtain ⟨σ',H',J,q⟩:=hs;exact fin (v:=V.non) (u:=Value.none) J rfl q
  | brk =>
    obtain ⟨_,_,_,q⟩:=hs;exact False.elim q
  | cont =>
    obtain ⟨_,_,_,q⟩:=hs;exact False.elim q
end L2
namespace L2
open PySem PySem.Spec PyProof.Rows
section
variable {X:Cx} {x:Str} {p pos:Pos} {e:Expr} {es:List Expr} {t:TA} {id T:String} {r:List V->Hp->VK->Prop}
def tCB (r:List V->Hp->VK->Prop) (t:TA):TE:=fun σ H Q=>t σ H fun vs H1=>r vs H1 Q
theorem T0 (hc:CallR X (.builtin id) r) (hg:Gl X x) (hm:X.mg x=none) (hv:bootBuiltins x=some (.builtin id)) (ha:PA X (e :: es) t) (hn:x≠"__name__":=by decide) (hdb:(x == ("__debug__":Str))=false:=by decide)
    (he:starEach (e :: es) X.env=(false,eval e X.env) :: starEach es X.env:=by rfl) (hpl:(backTo pos (starEach es X.env)).any (·.1)=false:=by rfl):PE X (.Call (.Name x p) (e :: es) [] pos) (tCB r t):=by
  intro pins s σ H Q I h;refine wpAny_Call_Name_kw (W5 I hg hm hv ?_ hn hdb);exact PyProof.Rows.callWith_builtin1 (thn (ha pos pins s σ H _ I h) fun us s1 ⟨vs,H1,I1,r1,q1⟩=>hc pins s1 σ H1 vs us Q I1 r1 q1) he hpl
theorem V7 (hc:CallR X (.type T) r) (hg:Gl X x) (hm:X.mg x=none) (hv:bootBuiltins x=some (.type T)) (ha:PA X (e :: es) t) (hn:x≠"__name__":=by decide) (hdb:(x == ("__debug__":Str))=false:=by decide)
    (he:starEach (e :: es) X.env=(false,eval e X.env) :: starEach es X.env:=by rfl) (hpl:(backTo pos (starEach es X.env)).any (·.1)=false:=by rfl):PE X (.Call (.Name x p) (e :: es) [] pos) (tCB r t):=by
  intro pins s σ H Q I h;refine wpAny_Call_Name_kw (W5 I hg hm hv ?_ hn hdb);exact PyProof.Rows.callWith_type1 (thn (ha pos pins s σ H _ I h) fun us s1 ⟨vs,H1,I1,r1,q1⟩=>hc pins s1 σ H1 vs us Q I1 r1 q1) he hpl
end
end L2
namespace HT
open PySem PyProof.Rows
section
open PySem.SeqAt
open PySem.AutoSeq1 (wpAny_loadPart')
open PySem.MeetsSeq PySem.MeetsSeq2 PySem.MeetsSeq3
end
section
variable {prog:Program} {w:World} {A:Around} {E:Value->Shared->Prop} {s:Shared}
def sIx (n d:Nat):Option Int->Nat
  | none=>d
  | some v=>if v < 0 then (v + (n:Int)).toNat else min v.toNat n
end
end HT
namespace L2
open PySem PySem.Spec PyProof.Rows
abbrev TO:=St->Hp->(Option Int->Hp->Prop)->Prop
def PO (X:Cx) (e:Option Expr) (t:TO):Prop :=
  ∀ (pins:List (Addr × Obj)) (s:Shared) (σ:St) (H:Hp) (Q:Option Int->Hp->Prop),Inv X pins σ H s->t σ H Q ->
    wpAny (model X.prog X.w) X.A (evalPart e X.env) (fun u s'=>∃ o H',Inv X pins σ H' s'/\IsPart u o/\Q o H') X.xe s
def Z4:TO:=fun _ H Q=>Q none H
def B3i (t:TE):TO:=fun σ H Q=>t σ H fun x H1=>∃ i,x=.int i/\Q (some i) H1
section
variable {X:Cx} {e:Expr} {te:TE} {lo hi:Option Expr} {tl th:TO} {pos p2:Pos}
theorem B39:PO X none Z4:=by
  intro pins s σ H Q I h;rw [evalPart_none];exact wpAny_pure ⟨none,H,I,.none,h⟩
theorem B38 (h:PE X e te):PO X (some e) (B3i te):=by
  intro pins s σ H Q I hw;rw [evalPart_some];refine thn (h pins s σ H _ I hw) fun u s1 ⟨x,H1,I1,r1,q1⟩=>?_;obtain ⟨i,rfl,q⟩:=q1;obtain ⟨t,rfl⟩:=r1;exact ⟨some i,H1,I1,.int i t,q⟩
def SlR (X:Cx) (r:V->Option Int->Option Int->Hp->VK->Prop):Prop :=
  ∀ (pins:List (Addr × Obj)) (s:Shared) (σ:St) (H:Hp) (x:V) (v vl vu:Value) (lo hi:Option Int) (sl:Addr) (Q:VK),Inv X pins σ H s->RelV x v->s.heap.IsSliceOf sl vl vu .none->IsPart vl lo->IsPart vu hi->r x lo hi H Q ->
    ∃ T id,typeLookup (.type T) "__getitem__"=pure (some (.builtin id))/\s.TypeIs v T/\wpAny (model X.prog X.w) X.A (getItem v (.ref sl)) (EP X pins σ Q) X.xe s
def tSl (r:V->Option Int->Option Int->Hp->VK->Prop) (te:TE) (tl th:TO):TE:=fun σ H Q=>te σ H fun x H1=>tl σ H1 fun l H2=>th σ H2 fun u H3=>r x l u H3 Q
theorem A9m {r:V->Option Int->Option Int->Hp->VK->Prop} (hr:SlR X r) (he:PE X e te) (hl:PO X lo tl) (hu:PO X hi th):PE X (.Subscript e (.Slice lo hi none p2) pos) (tSl r te tl th):=by
  intro pins s σ H Q I h;refine Subscript_ (thn (he pins s σ H _ I h) fun v s1 ⟨x,H1,I1,r1,q1⟩=>?_);refine wpAny_Slice (thn (hl pins s1 σ H1 _ I1 q1) fun vl s2 ⟨l,H2,I2,pl,q2⟩=>thn (hu pins s2 σ H2 _ I2 q2) fun vu s3 ⟨u,H3,I3,pu,q3⟩=>?_);rw [evalPart_none];refine wpAny_pure ?_;have I4:Inv X pins σ H3 { s3 with heap:=s3.heap.push { cls:=.type "slice",data:=.fields #[vl,vu,.none] } }:=I3.kept (t':=s3.toks) fun b ob q=>Heap.get?_push_of_some _ q;obtain ⟨T,id,hT,ht,hg⟩:=hr pins { s3 with heap:=s3.heap.push { cls:=.type "slice",data:=.fields #[vl,vu,.none] } } σ H3 x v vl vu l u s3.heap.objs.size Q I4 r1 (Heap.IsSliceOf.new ..) pl pu q3;show wpAny (model X.prog X.w) X.A (subscriptTail e (.Slice lo hi none p2) v (.ref s3.heap.objs.size)) (EP X pins σ Q) X.xe { s3 with heap:=s3.heap.push { cls:=.type "slice",data:=.fields #[vl,vu,.none] } };exact tail_any (ops:=[.ref s3.heap.objs.size,v]) ht hT hg (by with_unfolding_all rfl)
def cutV (xs:List V) (lo hi:Option Int):List V:=(xs.drop (HT.sIx xs.length 0 lo)).take (HT.sIx xs.length xs.length hi - HT.sIx xs.length 0 lo)
theorem A0q (xs:List V) (lo hi:Option Int):(cutV xs lo hi).length<=xs.length:=by
  unfold cutV;rw [List.length_take,List.length_drop];omega
theorem Vals.nil_iff {xs:List V} {us:List Value} (r:Vals xs us):us=[] ↔ xs=[]:=by
  cases r with
  | nil=>simp
  | cons _ _=>simp
end
end L2
namespace L2
open PySem PySem.Spec PyProof.Rows
def ixN (n:Nat) (i:Int):Option Nat:=if 0<=i then (if i < n then some i.toNat else none) else if -(n:Int)<=i then some (i + n).toNat else none
def atI {α:Type} (xs:List α) (i:Int):Option α:=(ixN xs.length i).bind fun j=>xs[j]?
theorem A7z {n:Nat} {i:Int} {j:Nat} (h:ixN n i=some j):seqIndex? i n=some j/\j < n/\-(n:Int)<=i/\i < n:=by
  unfold ixN at h;by_cases h0:0<=i
  · rw [if_pos h0] at h
    by_cases h1:i < n
    · rw [if_pos h1] at h
      have e:i.toNat=j:=Zj h;exact ⟨by rw [seqIndex_of h0 h1,e],by omega,by omega,h1⟩
    · rw [if_neg h1] at h; cases h
  · rw [if_neg h0] at h
    by_cases h1:-(n:Int)<=i
    · rw [if_pos h1] at h
      have e:(i + n).toNat=j:=Zj h;exact ⟨by rw [seqIndex_neg (by omega) h1,e],by omega,h1,by omega⟩
    · rw [if_neg h1] at h; cases h
theorem A0v {α:Type} {xs:List α} {i:Int} {v:α} (h:atI xs i=some v):∃ j,seqIndex? i xs.length=some j/\xs[j]?=some v/\j < xs.length/\-(xs.length:Int)<=i/\i < xs.length:=by
  unfold atI at h;cases e:ixN xs.length i with
  | none=>rw [e] at h; cases h
  | some j =>
    rw [e] at h;obtain ⟨h1,h2,h3,h4⟩:=A7z e;exact ⟨j,h1,h,h2,h3,h4⟩
theorem J4 {α:Type} {xs:List α} {j:Nat} {v:α} (h:xs[j]?=some v):atI xs (j:Int)=some v:=by
  have hj:j < xs.length:=(Zs h).1;have e:ixN xs.length (j:Int)=some j:=by
    unfold ixN;rw [if_pos (by omega),if_pos (by omega)]; simp
  unfold atI; rw [e]; exact h
def A0w (b:Expr):Prop:=∀ o i,subscripted b false o i=operate [o,i] (getItem o i)
def IxR (X:Cx) (r:R2):Prop :=
  ∀ (value slice:Expr) (pins:List (Addr × Obj)) (s:Shared) (σ:St) (H:Hp) (x y:V) (v u:Value) (Q:VK),Inv X pins σ H s->RelV x v->RelV y u->r x y H Q ->
    subscripted slice false v u=operate [v,u] (getItem v u)->wpAny (model X.prog X.w) X.A (subscriptTail value slice v u) (EP X pins σ Q) X.xe s
def MtR (X:Cx) (id:String) (r:V->List V->Hp->VK->Prop):Prop :=
  ∀ (pins:List (Addr × Obj)) (s:Shared) (σ:St) (H:Hp) (x:V) (xs:List V) (v:Value) (us:List Value) (Q:VK),Inv X pins σ H s->RelV x v->Vals xs us->r x xs H Q ->
    wpAny (model X.prog X.w) X.A (call (.builtin id) (v :: us)) (EP X pins σ Q) X.xe s
section
variable {X:Cx} {a b:Expr} {ta tb:TE} {pos:Pos}
theorem IxR.or {r r':R2} (h:IxR X r) (h':IxR X r'):IxR X (fun x y H Q=>r x y H Q\/r' x y H Q):=by
  intro value slice pins s σ H x y v u Q I rx ry q hs;rcases q with q | q
  · exact h value slice pins s σ H x y v u Q I rx ry q hs
  · exact h' value slice pins s σ H x y v u Q I rx ry q hs
theorem S8 {r:R2} (hr:IxR X r) (ha:PE X a ta) (hb:PE X b tb) (hs:A0w b):PE X (.Subscript a b pos) (tOp r ta tb):=by
  intro pins s σ H Q I h;exact Subscript_ (binT ha hb I h fun v u s2 x y H2 I2 rx ry q=>hr a b pins s2 σ H2 x y v u Q I2 rx ry q (hs _ _))
def rIxL (K:PySem.W.Frag):R2:=fun x y H Q=>∃ p xs i v,x=.ref p/\y=.int i/\SqL K H p xs/\atI xs i=some v/\Q v H
def rIxT (K:PySem.W.Frag):R2:=fun x y H Q=>∃ p xs i v,x=.ref p/\y=.int i/\SqT K H p xs/\atI xs i=some v/\Q v H
def rIxS:R2:=fun x y H Q=>∃ z i c,x=.str z/\y=.int i/\z.length<=sizeLine/\atI z.cps.toList i=some c/\Q (.str ⟨#[c]⟩) H
theorem ix_list:IxR X (rIxL X.K):=by
  intro value slice pins s σ H x y v u Q I rx ry h hs;obtain ⟨p,xs,i,z,rfl,rfl,hq,he,q⟩:=h;cases rx;obtain ⟨t,rfl⟩:=ry;obtain ⟨its,r,pl,hz⟩:=I.list hq;obtain ⟨j,h1,h2,h3,h4,h5⟩:=A0v he;obtain ⟨w,ew,rw'⟩:=r.get h2;have hl:=r.length;have hn:=Q7;have fin:EP X pins σ Q w s:=⟨z,H,I,rw',q⟩;by_cases h0:0<=i
  · have hj:i.toNat=j:=by
      rw [seqIndex_of h0 h5] at h1;exact Zj h1
    exact item_listR pl.isList h0 (by omega) (by rw [hj]; simpa using ew) fin hs
  · have hj:(i + (its.toArray.size:Int)).toNat=j:=by
      rw [seqIndex_neg (by omega) h4] at h1;rw [List.size_toArray,<- hl];exact Zj h1
    exact subscriptTail_builtinR (x:=w) pl.isList.typeIs slot_list_getitem.lookup
      (wpAny_getItem_list_neg (Q:=fun r s'=>r=w/\EP X pins σ Q r s') pl.isList (by omega) (by rw [List.size_toArray] <;> omega) (by omega) (by rw [hj]; simpa using ew) ⟨rfl,fin⟩) hs
theorem ix_tup:IxR X (rIxT X.K):=by
  intro value slice pins s σ H x y v u Q I rx ry h hs;obtain ⟨p,xs,i,z,rfl,rfl,hq,he,q⟩:=h;cases rx;obtain ⟨t,rfl⟩:=ry;obtain ⟨its,r,pl,hz⟩:=I.tuple hq;obtain ⟨j,h1,h2,h3,h4,h5⟩:=A0v he;obtain ⟨w,ew,rw'⟩:=r.get h2;have hl:=r.length;have hn:=Q7;have fin:EP X pins σ Q w s:=⟨z,H,I,rw',q⟩;exact subscriptTail_builtinR (x:=w) pl.typeIs slot_tuple_getitem.lookup
    (getItem_tuple (j:=j) (Q:=fun r s'=>r=w/\EP X pins σ Q r s') pl (by omega) (by omega) (by rw [List.size_toArray,<- hl]; exact h1) (by simpa using ew) ⟨rfl,fin⟩) hs
theorem B8o:IxR X rIxS:=by
  intro value slice pins s σ H x y v u Q I rx ry h hs;obtain ⟨z,i,c,rfl,rfl,hz,he,q⟩:=h;obtain ⟨t,rfl⟩:=rx;obtain ⟨t',rfl⟩:=ry;obtain ⟨j,h1,h2,h3,h4,h5⟩:=A0v he;have hl:z.cps.toList.length=z.length:=by simp [Str.length]
  rw [hl] at h1 h4 h5;have hn:=Q7;exact tail_any (typeIs_str s z t) slot_str_getitem.lookup (getItem_str (c:=c) (by
    have e1:decide (i < -(2 ^ 63:Int))=false:=Zd (by omega);have e2:decide (i ≥ 2 ^ 63)=false:=Zd (by omega);rw [e1,e2,Bool.or_false]) (by rw [h1]; simpa using h2) ⟨.str ⟨#[c]⟩,H,I.tok _,⟨_,rfl⟩,q⟩) hs
def rIx (K:PySem.W.Frag):R2:=fun x y H Q=>rIxL K x y H Q\/rIxT K x y H Q\/rIxS x y H Q
theorem B8p:IxR X (rIx X.K):=ix_list.or (ix_tup.or B8o)
theorem A3h (its:List Value) (n j:Nat) (u:Value):Obj.mapSeq (·.setIfInBounds j u) { cls:=.type "list",data:=.seq its.toArray n }={ cls:=.type "list",data:=.seq (its.set j u).toArray n }:=by
  simp [Obj.mapSeq]
theorem Inv.lst {pins:List (Addr × Obj)} {σ:St} {H:Hp} {s:Shared} {p:Addr} {xs:List V} (I:Inv X pins σ H s) (h:H p=some (.lst xs)) :
    ∃ (its:List Value) (n:Nat),Vals xs its/\s.heap.get? p=some { cls:=.type "list",data:=.seq its.toArray n }/\xs.length<=sizeLine:=by
  obtain ⟨z,its,n,r,e⟩:=I.hok p _ h;exact ⟨its,n,r,e,z⟩
theorem Inv.lstUpd {pins:List (Addr × Obj)} {σ:St} {H:Hp} {s:Shared} {p:Addr} {xs ys:List V} {its its':List Value} {n n':Nat} {f:Obj->Obj} (I:Inv X pins σ H s) (h:H p=some (.lst xs))
    (ho:s.heap.get? p=some { cls:=.type "list",data:=.seq its.toArray n }) (hf:f { cls:=.type "list",data:=.seq its.toArray n }={ cls:=.type "list",data:=.seq its'.toArray n' }) (r:Vals ys its') (hz:ys.length<=sizeLine) (t:Nat) :
    Inv X pins σ (upd H p (.lst ys)) { s with heap:=s.heap.update p f,toks:=t }:=by
  have e:(s.heap.update p f).get? p=some { cls:=.type "list",data:=.seq its'.toArray n' }:=by
    rw [Heap.get?_update_self f ho (by rw [hf] <;> rfl),hf]
  refine I.write (x:=p) (e:=p) (by rw [h]; trivial) (.inl rfl) (fun b u hb q=>(Heap.get?_update_other _ _ (Ne.symm hb)).trans q) ⟨_,e⟩ ?_;exact ⟨hz,its',n',r,e⟩
def B9i:V->V->V->Hp->(Hp->Prop)->Prop:=fun o i v H Q=>∃ p xs k j,o=.ref p/\i=.int k/\H p=some (.lst xs)/\ixN xs.length k=some j/\Q (upd H p (.lst (xs.set j v)))
theorem S1:PSet X B9i:=by
  intro pins s σ H o i v ov iv u Q I ro ri rv h;obtain ⟨p,xs,k,j,rfl,rfl,hp,hj,q⟩:=h;cases ro;obtain ⟨t,rfl⟩:=ri;obtain ⟨its,n,r,ho,hz⟩:=I.lst hp;obtain ⟨h1,h2,h3,h4⟩:=A7z hj;have hl:=r.length;have hn:=Q7;have I':Inv X pins σ (upd H p (.lst (xs.set j v))) { s with heap:=s.heap.update p (Obj.mapSeq (·.setIfInBounds j u)) } :=
    I.lstUpd hp ho (A3h its n j u) (r.set rv j) (by rw [List.length_set]; exact hz) s.toks
  by_cases h0:0<=k
  · have hk:k.toNat=j:=by
      rw [seqIndex_of h0 h4] at h1;exact Zj h1
    exact PySem.W.ki_setAt ho h0 (by omega) (by rw [List.size_toArray,<- hl]; exact h4) (by rw [hk]; exact ⟨_,I',q⟩)
  · have hk:(k + (its.toArray.size:Int)).toNat=j:=by
      rw [seqIndex_neg (by omega) h3] at h1;rw [List.size_toArray,<- hl];exact Zj h1
    exact PySem.W.ki_setBack ho (by omega) (by rw [List.size_toArray,<- hl]; exact h3) (by omega) (by rw [hk]; exact ⟨_,I',q⟩)
theorem U8 (lo hi:Option Int) (n:Nat):(sliceBounds lo hi none n).1=((HT.sIx n 0 lo:Nat):Int)/\(sliceBounds lo hi none n).2.1=((HT.sIx n n hi:Nat):Int)/\(sliceBounds lo hi none n).2.2=1:=by
  refine ⟨?_,?_,rfl⟩
  · cases lo with
    | none=>simp [sliceBounds,HT.sIx]
    | some i =>
      simp only [sliceBounds,HT.sIx,Option.getD_none,show (1:Int) > 0 by decide,if_true];by_cases h:i < 0
      · simp only [h,if_true] <;> omega
      · simp only [h,if_false] <;> omega
  · cases hi with
    | none=>simp [sliceBounds,HT.sIx]
    | some i =>
      simp only [sliceBounds,HT.sIx,Option.getD_none,show (1:Int) > 0 by decide,if_true];by_cases h:i < 0
      · simp only [h,if_true] <;> omega
      · simp only [h,if_false] <;> omega
theorem R9 (its:List Value) (lo hi:Option Int):slicePick its.toArray lo hi none=((its.drop (HT.sIx its.length 0 lo)).take (HT.sIx its.length its.length hi - HT.sIx its.length 0 lo)).toArray:=by
  obtain ⟨h1,h2,h3⟩:=U8 lo hi its.toArray.size;unfold slicePick;rw [h1,h2,h3];simp only [sliceRange_one,pick_run,List.size_toArray] <;> rfl
def rSlL (K:PySem.W.Frag):V->Option Int->Option Int->Hp->VK->Prop:=fun x lo hi H Q=>∃ a xs,x=.ref a/\SqL K H a xs/\∀ p,H p=none->Q (.ref p) (upd H p (.lst (cutV xs lo hi)))
theorem B3q:SlR X (rSlL X.K):=by
  intro pins s σ H x v vl vu lo hi sl Q I rx hs pl pu h;obtain ⟨a,xs,rfl,hx,q⟩:=h;cases rx;obtain ⟨its,r,ht,hz⟩:=I.list hx;have hlen:=r.length;refine ⟨"list",_,slot_list_getitem.lookup,ht.isList.typeIs,?_⟩;refine wpAny_getItem_list_slice ht.isList hs pl pu .none (by simp) ?_ (by rw [List.size_toArray] <;> omega)
  rw [R9,<- hlen];refine ⟨.ref s.heap.objs.size,_,I.laid (t':=s.toks) (o:=.lst (cutV xs lo hi)) (fun b ob q=>Heap.get?_push_of_some _ q) (Zv _) ?_,rfl,q _ (I.hok.fresh (Zv _))⟩;exact ⟨Zx (A0q xs lo hi) hz,_,0,(r.drop (HT.sIx xs.length 0 lo)).take (HT.sIx xs.length xs.length hi - HT.sIx xs.length 0 lo),Heap.get?_push_size _ rfl⟩
def B8w:V->Bool
  | .non=>true
  | .bl _=>true
  | .int _=>true
  | .str _=>true
  | _=>false
def eqV:V->V->Bool
  | .non,.non=>true
  | .bl a,.bl b=>a == b
  | .bl a,.int b=>(if a then 1 else 0) == b
  | .int a,.bl b=>a == (if b then 1 else 0)
  | .int a,.int b=>a == b
  | .str a,.str b=>a == b
  | _,_=>false
def inV (x:V) (xs:List V):Bool:=xs.any fun y=>eqV y x
def rIn (K:PySem.W.Frag) (neg:Bool):R2:=fun x y H Q=>∃ p xs,y=.ref p/\(SqL K H p xs\/SqT K H p xs)/\B8w x=true/\xs.all B8w=true/\Q (.bl (if neg then !inV x xs else inV x xs)) H
theorem call_len_seq:CallR X (.builtin "len") (fun xs H Q=>∃ p ys,xs=[.ref p]/\(SqL X.K H p ys\/SqT X.K H p ys)/\Q (.int ys.length) H):=by
  intro pins s σ H xs us Q I r h;obtain ⟨p,ys,rfl,hq,q⟩:=h;obtain ⟨u,rfl,rx⟩:=U3 r;cases rx;have hn:=Q7;rcases hq with hq | hq
  · obtain ⟨its,r',pl,hz⟩:=I.list hq
    have hlen:=r'.length;exact Calls.call_len_list pl.isList (by simp only [List.size_toArray] <;> omega) ⟨.int ys.length,H,I.tok _,⟨s.toks + 1,by rw [List.size_toArray,hlen]⟩,q⟩
  · obtain ⟨its,r',pl,hz⟩:=I.tuple hq
    have hlen:=r'.length;exact len_tuple pl (by simp only [List.size_toArray] <;> omega) ⟨.int ys.length,H,I.tok _,⟨s.toks + 1,by rw [List.size_toArray,hlen]⟩,q⟩
theorem Y0:CallR X (.builtin "len") (fun xs H Q=>∃ z,xs=[.str z]/\z.length<=sizeLine/\Q (.int z.length) H):=by
  intro pins s σ H xs us Q I r h;obtain ⟨z,rfl,hz,q⟩:=h;obtain ⟨u,rfl,t,rfl⟩:=U3 r;have hn:=Q7;exact len_str (by omega) ⟨.int z.length,H,I.tok _,⟨_,rfl⟩,q⟩
theorem CallR.or {f:Value} {r r':List V->Hp->VK->Prop} (h:CallR X f r) (h':CallR X f r'):CallR X f (fun xs H Q=>r xs H Q\/r' xs H Q):=by
  intro pins s σ H xs us Q I rs q;rcases q with q | q
  · exact h pins s σ H xs us Q I rs q
  · exact h' pins s σ H xs us Q I rs q
def tyV (K:PySem.W.Frag) (T:String) (x:V) (H:Hp):Prop:=match x with
  | .str _=>T="str"
  | .int _=>T="int"
  | .ref p=>(T="list"/\∃ xs,SqL K H p xs)\/(T="tuple"/\∃ o,K.lookup p=some o/\o.cls=.type "tuple"/\o.dict=none) \/
      (T="dict"/\((∃ kvs,H p=some (.dK kvs))\/∃ kvs,H p=some (.dT kvs)))\/(T="set"/\∃ S n,H p=some (.set S n))
  | _=>False
theorem B5z {pins:List (Addr × Obj)} {σ:St} {H:Hp} {s:Shared} {T:String} {x:V} {v:Value} (I:Inv X pins σ H s) (r:RelV x v) (ty:tyV X.K T x H) :
    s.TypeIs v T/\∀ a,v=.ref a->∃ ob,s.heap.get? a=some ob/\ob.dict=none:=by
  cases x with
  | str z =>
    obtain ⟨t,rfl⟩:=r;cases (show T="str" from ty);exact ⟨typeIs_str s z t,fun _ e=>nomatch e⟩
  | int i =>
    obtain ⟨t,rfl⟩:=r;cases (show T="int" from ty);exact ⟨typeIs_int s i t,fun _ e=>nomatch e⟩
  | ref p =>
    cases r;rcases ty with ⟨rfl,xs,hq⟩ | ⟨rfl,o,hk,hc,hd⟩ | ⟨rfl,hk⟩ | ⟨rfl,S,n,hk⟩
    · obtain ⟨its,_,pl,_⟩:=I.list hq
      refine ⟨pl.isList.typeIs,fun a e=>?_⟩;cases e;obtain ⟨o,n,e,c,hd,_⟩:=pl;exact ⟨o,e,hd⟩
    · refine ⟨⟨o,I.kIn p o hk,hc⟩,fun a e=>?_⟩
      cases e;exact ⟨o,I.kIn _ o hk,hd⟩
    · have z:∃ o,s.heap.get? p=some o/\o.ExactDict:=by
        rcases hk with ⟨kvs,hk⟩ | ⟨kvs,hk⟩
        · obtain ⟨_,_,_,_,o,_,_,e,ex,_⟩:=I.hok p _ hk
          exact ⟨o,e,ex⟩
        · obtain ⟨_,_,_,_,o,_,_,e,ex,_⟩:=I.hok p _ hk
          exact ⟨o,e,ex⟩
      obtain ⟨o,e,ex⟩:=z;refine ⟨⟨o,e,ex.1⟩,fun a e2=>?_⟩;cases e2;exact ⟨o,e,ex.2.1⟩
    · obtain ⟨o,_,_,_,e,ex,_⟩:=I.hok p _ hk
      refine ⟨⟨o,e,ex.1⟩,fun a e2=>?_⟩;cases e2;exact ⟨o,e,ex.2.1⟩
  | _=>exact False.elim ty
def tBM (K:PySem.W.Frag) (T:String) (r:V->List V->Hp->VK->Prop) (to:TE) (t:TA):TE:=fun σ H Q=>to σ H fun x H1=>tyV K T x H1/\t σ H1 fun xs H2=>r x xs H2 Q
variable {o e:Expr} {es:List Expr} {to:TE} {t:TA} {name:Str} {apos cpos:Pos} {T id:String} {r:V->List V->Hp->VK->Prop}
theorem B9n (pa:PlainAttrs T) (slot:Slot T name id) (hty:typeOf (.builtin id)=pure (.type "method_descriptor")) (hm:MtR X id r) (ho:PE X o to) (ha:PA X (e :: es) t)
    (hbase:attributeBase o name X.env (eval o X.env)=eval o X.env:=by rfl)
    (hfew:((backTo cpos (starEach (e :: es) X.env)).all (fun x=>!x.1) && (backToKw cpos (keywordEach [] X.env)).all (fun x=>x.1.isSome)
      && decide ((e :: es).length + ([]:List Keyword).length + (if ([]:List Keyword).isEmpty then 0 else 1) < 30))=true:=by rfl)
    (hline:(apos.endLine == cpos.line)=true:=by rfl) (hs:starEach (e :: es) X.env=(false,eval e X.env) :: starEach es X.env:=by rfl) (hplain:(backTo cpos (starEach es X.env)).any (·.1)=false:=by rfl) :
    PE X (.Call (.Attribute o name apos) (e :: es) [] cpos) (tBM X.K T r to t):=by
  intro pins s σ H Q I h;refine wpAny_Call_method_late hbase hfew hline rfl (thn (ho pins s σ H _ I h) fun v s1 ⟨x,H1,I1,r1,ty,q1⟩=>?_);obtain ⟨h1,h2⟩:=B5z I1 r1 ty;refine ⟨T,id,pa,slot,hty,h1,h2,?_⟩;have hA:=ha cpos pins s1 σ H1 _ I1 q1;rw [hs] at hA ⊢;refine Calls.callWith_builtin (by show (false || (backTo cpos (starEach es X.env)).any (·.1))=false; rw [hplain] <;> rfl) (Calls.evalArgs_plain ?_)
  exact thn hA fun us s2 ⟨vs,H2,I2,r2,q2⟩=>hm pins s2 σ H2 x vs v us Q I2 r1 r2 q2
end
end L2
namespace L2
open PySem PySem.Spec PyProof.Rows
def MtM (X:Cx) (id:String) (r:V->List V->Hp->VK->Prop):Prop :=
  ∀ (pins:List (Addr × Obj)) (s:Shared) (σ:St) (H:Hp) (x:V) (xs:List V) (v:Value) (us:List Value) (Q:VK),Inv X pins σ H s->RelV x v->Vals xs us->r x xs H Q ->
    wpAny (model X.prog X.w) X.A (call (.builtin id) (v :: us)) (EP X pins σ Q) X.xe s
theorem Vals.one:∀ {x:V} {us:List Value},Vals [x] us->∃ u,us=[u]/\RelV x u
  | _,_,.cons r .nil=>⟨_,rfl,r⟩
theorem Vals.two:∀ {x y:V} {us:List Value},Vals [x,y] us->∃ u v,us=[u,v]/\RelV x u/\RelV y v
  | _,_,_,.cons r (.cons q .nil)=>⟨_,_,rfl,r,q⟩
theorem Vals.zero:∀ {us:List Value},Vals [] us->us=[]
  | _,.nil=>rfl
theorem Vals.dropLast {xs:List V} {us:List Value} (h:Vals xs us):Vals xs.dropLast us.dropLast:=by
  induction h with
  | nil=>exact .nil
  | cons r t ih =>
    cases t with
    | nil=>exact .nil
    | cons q t'=>exact .cons r ih
theorem Vals.eraseIdx:∀ {xs:List V} {us:List Value} (i:Nat),Vals xs us->Vals (xs.eraseIdx i) (us.eraseIdx i)
  | _,_,_,.nil=>.nil
  | _,_,0,.cons _ t=>t
  | _,_,i + 1,.cons r t=>.cons r (Vals.eraseIdx i t)
theorem Vals.reverse {xs:List V} {us:List Value} (h:Vals xs us):Vals xs.reverse us.reverse:=by
  induction h with
  | nil=>exact .nil
  | cons r t ih=>rw [List.reverse_cons,List.reverse_cons]; exact Vals.append ih (.cons r .nil)
theorem Vals.rep {xs:List V} {us:List Value} (h:Vals xs us):∀ k:Nat,Vals (List.replicate k xs).flatten (List.replicate k us).flatten
  | 0=>.nil
  | k + 1=>by
    rw [List.replicate_succ,List.replicate_succ,List.flatten_cons,List.flatten_cons];exact Vals.append h (Vals.rep h k)
section
variable {X:Cx} {pins:List (Addr × Obj)} {σ:St} {H:Hp} {s:Shared} {l b:Addr} {xs ys zs:List V}
theorem Inv.lset {its its':List Value} {n:Nat} {f:Array Value->Array Value} {t':Nat} (I:Inv X pins σ H s) (hH:H l=some (.lst xs))
    (e:s.heap.get? l=some { cls:=.type "list",data:=.seq its.toArray n }) (hf:f its.toArray=its'.toArray) (hv:Vals ys its') (hz:ys.length<=sizeLine) :
    Inv X pins σ (upd H l (.lst ys)) { s with heap:=s.heap.update l (Obj.mapSeq f),toks:=t' }:=by
  have q:=PySem.IsL.update e f;rw [hf] at q;refine I.write (x:=l) (e:=l) (by rw [hH]; exact trivial) (.inl rfl) (fun b' u hb hu=>(Heap.get?_update_other s.heap (Obj.mapSeq f) (Ne.symm hb)).trans hu) ⟨_,q⟩ ?_;exact ⟨hz,its',_,hv,q⟩
theorem Inv.lnew {its:List Value} {t':Nat} (I:Inv X pins σ H s) (hv:Vals ys its) (hz:ys.length<=sizeLine) :
    Inv X pins σ (upd H s.heap.objs.size (.lst ys)) { s with heap:=s.heap.push { cls:=.type "list",data:=.seq its.toArray },toks:=t' } :=
  I.laid (fun _ _ q=>Heap.get?_push_of_some _ q) (Zv _) ⟨hz,its,0,hv,Heap.get?_push_size _ rfl⟩
theorem Inv.fresh (I:Inv X pins σ H s):H s.heap.objs.size=none:=I.hok.fresh (Zv _)
theorem Inv.lstM (I:Inv X pins σ H s) (hH:H l=some (.lst xs)):xs.length<=sizeLine/\∃ (its:List Value) (n:Nat),Vals xs its/\xs.length=its.length/\s.heap.get? l=some { cls:=.type "list",data:=.seq its.toArray n }:=by
  obtain ⟨z,its,n,r,e⟩:=I.hok l _ hH;exact ⟨z,its,n,r,r.length,e⟩
end
section
variable {X:Cx}
def A4f:V->List V->Hp->VK->Prop:=fun x vs H Q=>∃ l xs y,x=.ref l/\vs=[y]/\H l=some (.lst xs)/\xs.length < sizeLine/\Q .non (upd H l (.lst (xs++[y])))
theorem P2:MtM X "list.append" A4f:=by
  intro pins s σ H x vs v us Q I rx rv h;obtain ⟨l,xs,y,rfl,rfl,hH,hz,q⟩:=h;cases rx;obtain ⟨u,rfl,ru⟩:=rv.one;obtain ⟨z,its,n,r,hl,e⟩:=I.lstM hH;refine call_meets F.slot_list_append ⟨_,e,rfl⟩ F.entry_list_append (F.args_list_append_2 _ _) (PySem.list_append l its.toArray n u (by rw [List.size_toArray]; omega)) ⟨e,?_⟩;refine ⟨.non,_,I.lset (its':=its++[u]) hH e (by simp) (r.append (.cons ru .nil)) ?_,rfl,q⟩;rw [Ze,List.length_singleton];omega
end
section
variable {prog:Program} {w:World} {A:Around} {E:Value->Shared->Prop} {s:Shared}
end
section
variable {X:Cx}
end
end L2
namespace Att
open PySem PySem.W PySem.Calls PyProof.Rows
theorem P5 {P:Params} {h:Heap}:∀ (ns:List Int) (vs:List Value),WellAll P h vs (ns.map WData.int)->IntsAre vs ns:=by
  intro ns;induction ns with
  | nil =>
    intro vs w;rw [List.map_nil] at w;cases w;exact .nil
  | cons n ns ih =>
    intro vs w;rw [List.map_cons] at w;cases w with
    | cons a b =>
      cases a;exact .cons _ _ (ih _ b)
theorem A4b {l:OpenLaw} {n:Nat} (hn:l.most=some n) {P:Params} {h:Heap} {args:List WData} {vals:List Value}
    (hpre:l.row.toRowW.claim.pre args=true) (hwl:WellAll P h vals args) :
    ∃ a vs ns,vals=[Value.ref a]/\args=[WData.list (ns.map WData.int)]/\h.get? a=some { cls:=.type "list",data:=.seq vs.toArray }/\IntsAre vs ns/\ns.length<=n:=by
  have hsh:WShape.hasAll [] args [.list .int]=true:=(pre_splitW hpre).1;have hc:l.pre.holds [] { args:=args }=true:=(pre_splitW hpre).2;obtain ⟨d,r,rfl,h1,h2⟩:=hasAllW_cons hsh;obtain rfl:=hasAllW_nil h2;obtain ⟨xs,rfl,h3⟩:=hasW_list h1;obtain ⟨ns,rfl⟩:=items_int h3;have hlen:ns.length<=n:=by
    unfold OpenLaw.pre at hc;have h4:(WTm.not (.lt (.lit (.int (n:Int))) (.len (.arg 0)))).holds [] { args:=[.list (ns.map .int)] }=true:=by
      have h4:=(holds_andW hc).1;rw [hn] at h4;exact h4
    have h5:=condW_of h4 (w_not (w_lt w_lit (w_len_list (w_arg rfl))));rw [Zl] at h5;refine Nat.le_of_not_lt fun q=>?_;have q':(n:Int) < ((ns.length:Nat):Int):=by omega
    first
      | (rw [Zk q'] at h5; exact absurd h5 (by decide))
      | (simp at h5; omega)
  cases hwl with
  | cons w1 w2 =>
    cases w2;cases w1 with
    | list ho hall=>exact ⟨_,_,ns,rfl,rfl,ho,P5 ns _ hall,hlen⟩
theorem A4r (l:OpenLaw) (args:List WData):l.row.toRowW.claim.post args (.bool true) args=true :=
  postW_of (r:=l.row.toRowW) (X:=(true == true))
    (show WShape.has [] (.bool true) .bool=true by first | rfl | decide | simp [WShape.has,WShape.arms,WShape.armsAll])
    (show (WTm.eq .res (.lit (.bool true))).value [] { args:=args,res:=some (.bool true),after:=args }=some (.bool (true == true)) from w_eq_bool (w_res rfl) w_lit) rfl
theorem attach_call {l:OpenLaw} {n:Nat} {q:Program} {loose:List Str} {XP:(Str->Option Value)->Heap->Prop} {YP:World->Heap->Prop} {d:DefRec}
    (hn:l.most=some n) (hdf:d.params.defaults=[])
    (call:∀ (w:World) (s₀ s₁:Shared) (mg mb:Str->Option Value) (fa:Addr) (o:Obj) (pm cd doc:Value) (a:Addr) (vs:List Value) (ns:List Int),
      Ground q loose [] XP w s₀ mg mb s₁.heap->YP w s₁.heap ->
      s₁.heap.get? fa=some o->o.data=.func (docDef d.name d.params d.body d.scope pm cd doc)->s₁.heap.CodeRec cd d.name->mg d.name=some (.ref fa) ->
      s₁.heap.get? a=some { cls:=.type "list",data:=.seq vs.toArray }->IntsAre vs ns->ns.length<=n->s₁.gens=#[] ->
      codeAny (model l.prog w) callerA (.call (.ref fa) ⟨[.ref a],[]⟩) (fun r s'=>r=.ok (.ret (.bool true))/\OldK s₁.heap s'.heap/\s'.os=s₁.os/\AllBare s'.gens) s₁) :
    WalkO q loose XP YP l.row.toRowW d [] (fun f vs=>PySem.call f vs):=by
  intro w s₀ s₁ mg mb G Y fa o pm cd doc dV kV ho hd hcd hD hmg hg args vals as hpre hlay hrd hwl hlo;obtain rfl:dV=.none:=Dflts.none hD hdf;obtain rfl:kV=.none:=Dflts.noKw hD;obtain ⟨a,vs,ns,rfl,rfl,hobj,hints,hlen⟩:=A4b hn hpre hwl;refine enter_call (codeAny_mono (call w s₀ s₁ mg mb fa o pm cd doc a vs ns G Y ho (fd_plain hd) hcd hmg hobj hints hlen hg) fun r s' hq=>?_);obtain ⟨rfl,h2,h3,h4⟩:=hq;exact ⟨.inl ⟨.bool true,.bool true,[],rfl,fun _=>rfl,.bool true,A4r l _,fun _=>⟨List.Pairwise.nil,fun _ hm=>(nomatch hm)⟩⟩,h2,h3,h4⟩
section
variable {prog:Program} {w:World} {A:Around} {E:Value->Shared->Prop} {s:Shared} {K:Frag}
end
end Att
namespace L2
open PySem PySem.Spec PyProof.Rows
theorem U2:∀ {vs:List Value} {ns:List Int},IntsAre vs ns->Vals (ns.map V.int) vs
  | _,_,.nil=>.nil
  | _,_,.cons n t h=>.cons ⟨t,rfl⟩ (U2 h)
def Only (H:Hp):Prop:=∀ b,H b=none\/∃ o xs,H b=some (.frz o (.lst xs))
theorem A91 {P:Program} {w:World} {K:PySem.W.Frag} {mg mb:Str->Option Value} {CX:CXT} {k:Nat} {fa a:Addr} {fd:FuncData} {x:Str} {sp:Sp} {s₁:Shared} {vs:List Value} {ns:List Int}
    (KX:K.In s₁.heap) (hns:s₁.heap.Ns mainGlobals mg) (hb:s₁.heap.Ns builtinsNs mb) (hbb:∀ x:Str,x≠"__name__"->mb x=bootBuiltins x) (hlim:s₁.heap.NoLimit) (hg:s₁.gens=#[])
    (ha:s₁.heap.get? a=some { cls:=.type "list",data:=.seq vs.toArray }) (hi:IntsAre vs ns) (hl:ns.length<=sizeLine) (hr:Room k callerA)
    (F:∀ base:Heap,K.In base->base.Ns mainGlobals mg->FnOk P w K mg base CX k fa fd [x] sp) (hbind:∀ (s:Shared) (u:Value),BindsTo s fd ⟨[u],[]⟩ [(x,u)])
    (hsp:∀ H:Hp,Only H->SqL K H a (ns.map V.int)->sp [.ref a] H (fun v _=>v=.bl true) fun _ _ _=>False)
    (hCX:∀ H e s',CX [] H s₁ (fun _ _ _=>False) e s'->False) :
    codeAny (model P w) callerA (.call (.ref fa) ⟨[.ref a],[]⟩) (fun r s'=>r=.ok (.ret (.bool true))/\OldK s₁.heap s'.heap/\s'.os=s₁.os/\AllBare s'.gens) s₁:=by
  have rv:=U2 hi;have lenV:=hi.length;have core:∀ H:Hp,Only H->SqL K H a (ns.map V.int)->HOk P w H s₁.heap->(∀ b,H b≠none->b=a)->(H a≠none->K.lookup a=none) ->
      codeAny (model P w) callerA (.call (.ref fa) ⟨[.ref a],[]⟩) (fun r s'=>r=.ok (.ret (.bool true))/\OldK s₁.heap s'.heap/\s'.os=s₁.os/\AllBare s'.gens) s₁:=by
    intro H hO hS hok hA hK;have base_of:∀ {b:Addr} {o:Obj},s₁.heap.get? b=some o->H b=none->(hidT s₁.heap H).get? b=some o:=fun e n=>A96 e n;have noA:∀ {b:Addr} {o:Obj} {es:Array DictEntry} {ep:Nat},s₁.heap.get? b=some o->o.data=.dict es ep->H b=none:=fun {b o es ep} e d=>by
      cases q:H b with
      | none=>rfl
      | some u =>
        have e':b=a:=hA b (by rw [q]; simp);subst e';rw [ha] at e; cases e;have d':Data.seq vs.toArray _=Data.dict es ep:=d;cases d'
    have nsK:∀ {b:Addr} {m:Str->Option Value},s₁.heap.Ns b m->(hidT s₁.heap H).Ns b m:=fun {b m} ⟨o,es,ep,e,d,r⟩=>⟨o,es,ep,base_of e (noA e d),d,r⟩;have hKb:K.In (hidT s₁.heap H):=fun b o e=>base_of (KX b o e) (by
      cases q:H b with
      | none=>rfl
      | some u =>
        have e':b=a:=hA b (by rw [q]; simp);subst e';rw [hK (by rw [q]; simp)] at e; cases e)
    have hM:Mod K mg (hidT s₁.heap H):=⟨hKb,nsK hns,⟨mb,nsK hb,hbb⟩,let ⟨mc,h1,h2⟩:=hlim; ⟨mc,nsK h1,h2⟩⟩;have e0:Env0 P w K mg (hidT s₁.heap H) callerA [] s₁ H:=⟨rfl,hM,fun b o e=>B42 e,Nat.le_of_eq (A72 _ _),trivial,fun b hb=>absurd (show b ∈ ([]:List Addr) from hb) (by simp),hok,.of_eq hg⟩;refine codeAny_mono ((F _ hKb (nsK hns)).run callerA [] s₁ H ⟨[.ref a],[]⟩ [.ref a] [.ref a] _ _ hr e0 (hbind s₁ (.ref a)) (.cons rfl .nil) (hsp H hO hS)) fun r s' h=>?_;cases r with
    | error e=>exact (hCX H e s' h).elim
    | ok fl =>
      cases fl with
      | next=>exact False.elim h
      | brk=>exact False.elim h
      | cont=>exact False.elim h
      | ret u =>
        obtain ⟨v,H',os,bare,un,hok',r',q⟩:=h;have q':v=.bl true:=q;subst q';obtain rfl:u=Value.bool true:=r';refine ⟨rfl,OldK.of_keep fun b o e=>?_,os,bare⟩;cases q:H b with
        | none=>exact un.keep b o e q (by intro z; exact absurd (show b ∈ ([]:List Addr) from z) (by simp)) (by simp)
        | some u =>
          rcases hO b with z | ⟨ob,xs,z⟩
          · rw [q] at z; cases z
          · have z2:=un.frzs b ob _ z
            obtain ⟨e1,_⟩:=hok b _ z;obtain ⟨e2,_⟩:=hok' b _ z2;rw [e] at e1; cases e1;exact e2
  cases hk:K.lookup a with
  | some o =>
    have e:=KX a o hk;rw [ha] at e;cases e;refine core (fun _=>none) (fun _=>.inl rfl) (.inr ⟨_,vs.toArray,_,hk,rfl,rfl,rfl,by rw [List.size_toArray,lenV]; exact hl,by simpa using rv⟩) (fun b u z=>by have z':(none:Option HO)=some u:=z; cases z') (fun b z=>absurd rfl z) fun z=>absurd rfl z
  | none =>
    refine core (fun b=>if b=a then some (.frz { cls:=.type "list",data:=.seq vs.toArray } (.lst (ns.map V.int))) else none) (fun b=>?_) (.inl (.inr ⟨{ cls:=.type "list",data:=.seq vs.toArray },if_pos rfl⟩)) (fun b u z=>?_) (fun b z=>?_) fun _=>hk
    · by_cases hb:b=a
      · exact .inr ⟨_,_,if_pos hb⟩
      · exact .inl (if_neg hb)
    · by_cases hb:b=a
      · have z':=(if_pos hb).symm.trans z
        cases z';subst hb;exact ⟨ha,by rw [Zl]; exact hl,vs,_,rv,ha⟩
      · have z':=(if_neg hb).symm.trans z
        cases z'
    · by_cases hb:b=a
      · exact hb
      · exact absurd (if_neg hb) z
end L2
namespace L2
open PySem PySem.Spec PyProof.Rows
theorem B3b {l:PySem.W.OpenLaw} {n k:Nat} {q:Program} {loose:List Str} {XP:(Str->Option Value)->Heap->Prop} {YP:World->Heap->Prop} {d:DefRec} {K:Params->PySem.W.Frag} {CX:World->CXT} {sp:World->Sp} {x:Str}
    (hn:l.most=some n) (hn2:n<=sizeLine) (hdf:d.params.defaults=[]) (hr:Room k callerA)
    (hY:∀ (w:World) (h:Heap),YP w h->(K w.params).In h)
    (F:∀ (w:World) (mg:Str->Option Value) (fa:Addr) (h:Heap),(K w.params).In h->h.Ns mainGlobals mg->mg d.name=some (.ref fa) ->
      ∃ fd:FuncData,(∀ (s:Shared) (u:Value),BindsTo s fd ⟨[u],[]⟩ [(x,u)]) /\
        ∀ base:Heap,(K w.params).In base->base.Ns mainGlobals mg->FnOk l.prog w (K w.params) mg base (CX w) k fa fd [x] (sp w))
    (hsp:∀ (w:World) (H:Hp) (a:Addr) (ns:List Int),ns.length<=n->Only H->SqL (K w.params) H a (ns.map V.int)->sp w [.ref a] H (fun v _=>v=.bl true) fun _ _ _=>False)
    (hCX:∀ (w:World) (H:Hp) (s:Shared) (e:Value) (s':Shared),CX w [] H s (fun _ _ _=>False) e s'->False) :
    PySem.W.WalkO q loose XP YP l.row.toRowW d [] (fun f vs=>PySem.call f vs):=by
  refine Att.attach_call hn hdf fun w s₀ s₁ mg mb fa o pm cd doc a vs ns G Y ho hd hcd hmg hobj hints hlen hg=>?_;have KX:=hY w _ Y;obtain ⟨fd,hb,hF⟩:=F w mg fa _ KX G.T.g hmg;exact A91 KX G.T.g G.T.b G.T.builtins G.T.nolimit hg hobj hints (Zx hlen hn2) hr hF hb (fun H hO hS=>hsp w H a ns hlen hO hS) fun H e s'=>hCX w H s₁ e s'
end L2
namespace L2
open PySem PySem.Spec PyProof.Rows
abbrev CX0:CXT:=fun _ _ _ _ _ _=>False
abbrev E0:XK:=fun _ _ _=>False
theorem B9p {X:Cx}:A2z CX0 X E0:=fun _ _ _ _ _ _ _ h=>h.elim
structure Fun (K:PySem.W.Frag) (x qual:Str) (st:Stmt) (f:Addr) (fd:FuncData):Prop where
  ex:∃ (oc:Value) (od:Option Addr) (kV doc pm:Value) (an:Option Addr) (cdv ct:Value) (osl:Array (Option Value)),
    fd=PySem.W.fnOf x qual (D7 st) (C5 st) (A6 st) .none kV doc pm an cdv ct/\K.lookup f=some ⟨oc,od,.func fd,osl⟩/\PySem.W.codeIn K cdv qual=true
  kp:PySem.W.keepIn K (.ref f)=true
section
variable {P:Program} {w:World} {K:PySem.W.Frag} {mg:Str->Option Value} {base:Heap}
theorem Fun.ok {x qual:Str} {st:Stmt} {f:Addr} {fd:FuncData} {N ps:List Str} {k:Nat} {sp:Sp} (F:Fun K x qual st f fd) (S:FnScope N ps (A6 st)) (len:∀ vs H Q E,sp vs H Q E->vs.length=ps.length)
    (hbody:∀ (cdv:Value) (A:Around) (outer:List Env) (s:Shared) (H:Hp) (vs:List V) (Q:VK) (E:XK),Room k (A.deeper (envOfC qual (A6 st) s.heap.objs.size f cdv))->sp vs H Q E ->
      ∃ t,PSs (cxOf CX0 P w K mg base N qual (A6 st) f cdv A outer s H E).nox (C5 st) t/\t { nx:=fun _ H'=>Q .non H',rt:=Q } (G3 N vs) H):FnOk P w K mg base CX0 (k + 1) f fd ps sp:=by
  obtain ⟨oc,od,kV,doc,pm,an,cdv,ct,osl,rfl,lk,hcd⟩:=F.ex;refine B8v lk hcd S len fun A outer s H vs Q E hr hsp=>?_;obtain ⟨t,h,q⟩:=hbody cdv A outer s H vs Q E hr hsp;exact ⟨t,h.nox,q⟩
theorem Fun.binds {x qual:Str} {st:Stmt} {f:Addr} {fd:FuncData} {ps:List Str} (F:Fun K x qual st f fd)
    (h:∀ (kV doc pm:Value) (an:Option Addr) (cdv ct:Value) (us:List Value),us.length=ps.length->bindArgs (PySem.W.fnOf x qual (D7 st) (C5 st) (A6 st) .none kV doc pm an cdv ct) ⟨us,[]⟩=pure (ps.zip us)):Binds K fd ps []:=by
  obtain ⟨oc,od,kV,doc,pm,an,cdv,ct,osl,rfl,lk,hcd⟩:=F.ex;exact .all (h kV doc pm an cdv ct)
theorem C7 {x qual:Str} {st:Stmt} {f:Addr} {oc:Value} {od an:Option Addr} {osl:Array (Option Value)} {kV doc pm cdv ct:Value} (l:K.lookup f=some ⟨oc,od,.func (PySem.W.fnOf x qual (D7 st) (C5 st) (A6 st) .none kV doc pm an cdv ct),osl⟩)
    (c:PySem.W.codeIn K cdv qual=true) (k:PySem.W.keepIn K (.ref f)=true):Fun K x qual st f (PySem.W.fnOf x qual (D7 st) (C5 st) (A6 st) .none kV doc pm an cdv ct):=⟨⟨oc,od,kV,doc,pm,an,cdv,ct,osl,rfl,l,c⟩,k⟩
end
theorem U7 {n:Nat} (h:n<=1000):n < sizeLine:=Nat.lt_of_le_of_lt h (by decide)
section
variable {X:Cx}
theorem pv (i:Nat) {x:Str} {pos:Pos} (hN:X.N[i]?=some x:=by rfl) (hv:Vis X.env.scope x:=by first | exact Or.inl rfl | exact Or.inr (Or.inl rfl) | exact Or.inr (Or.inr rfl)) (hd:(x == ("__debug__":Str))=false:=by decide)
    (hcd:(x == ("__classdict__":Str))=false:=by decide):PE X (.Name x pos) (tVar i):=V6 hN hv hd hcd
end
theorem iteF {A B:Prop} (h:B):if false=true then A else B:=by
  rw [if_neg Bool.false_ne_true];exact h
theorem iteT {A B:Prop} (h:A):if true=true then A else B:=by
  rw [if_pos rfl];exact h
theorem ite2 {c A B:Prop} [Decidable c] (h1:c->A) (h2:¬ c->B):if c then A else B:=by
  by_cases h:c
  · rw [if_pos h]
    exact h1 h
  · rw [if_neg h]
    exact h2 h
def Same (H H':Hp):Prop:=∀ b o,H b=some o->H' b=some o
theorem Same.refl (H:Hp):Same H H:=fun _ _ h=>h
theorem Same.trans {H H1 H2:Hp} (a:Same H H1) (b:Same H1 H2):Same H H2:=fun c o h=>b c o (a c o h)
theorem Same.seq {K:PySem.W.Frag} {H H':Hp} {a:Addr} {xs:List V} (e:Same H H') (h:SqL K H a xs):SqL K H' a xs:=by
  rcases h with (h | ⟨o,h⟩) | h
  · exact .inl (.inl (e _ _ h))
  · exact .inl (.inr ⟨o,e _ _ h⟩)
  · exact .inr h
end L2
namespace My
def Sm (k:Nat) (x:Int):Prop:=x.natAbs < 2 ^ k
theorem Sm.mono {k l:Nat} {x:Int} (h:Sm k x) (e:k<=l):Sm l x:=Nat.lt_of_lt_of_le h (Zp (by decide) e)
theorem Sm.mul {k l:Nat} {x y:Int} (h:Sm k x) (g:Sm l y):Sm (k + l) (x * y):=by
  unfold Sm at *;rw [Int.natAbs_mul,Nat.pow_add];rcases Nat.eq_zero_or_pos y.natAbs with e | e
  · rw [e,Nat.mul_zero]; exact Nat.mul_pos (Nat.two_pow_pos _) (Nat.two_pow_pos _)
  · exact Nat.lt_of_lt_of_le (Nat.mul_lt_mul_of_pos_right h e) (Nat.mul_le_mul_left _ (Nat.le_of_lt g))
theorem Sm.add {k:Nat} {x y:Int} (h:Sm k x) (g:Sm k y):Sm (k + 1) (x + y):=by
  unfold Sm at *;rw [Nat.pow_succ];have:=Int.natAbs_add_le x y;omega
theorem Sm.le {k:Nat} {x y:Int} (h:Sm k x) (g:y.natAbs<=x.natAbs):Sm k y:=Nat.lt_of_le_of_lt g h
theorem Sm.log {k:Nat} {x:Int} (h:Sm k x) (hk:0 < k):x.natAbs.log2 < k:=by
  by_cases h0:x.natAbs=0
  · rw [h0]; exact hk
  · exact (Nat.log2_lt h0).mpr h
theorem A75 (a b:Int):Int.gcd b (a % b)=Int.gcd a b:=by
  have h:a % b=a + b * (-(a / b)):=by
    have:=Int.emod_def a b;rw [this,Int.mul_neg]; omega
  rw [h,Int.gcd_add_mul_left_right,Int.gcd_comm]
theorem B5f (a b:Int):Int.gcd (if a < 0 then -a else a) (if b < 0 then -b else b)=Int.gcd a b:=by
  unfold Int.gcd;congr 1
  · split <;> omega
  · split <;> omega
theorem A2m (a:Int) (h:0<=a):((Int.gcd a 0:Nat):Int)=a:=by
  rw [Int.gcd_zero_right]; omega
def sh (t b:Int):Int:=if b < 0 then -((Int.gcd t b:Nat):Int) else ((Int.gcd t b:Nat):Int)
theorem B58 {t b:Int} (h:b≠0):sh t b≠0:=by
  have:Int.gcd t b≠0:=fun e=>h (Int.gcd_eq_zero_iff.mp e).2;unfold sh; split <;> omega
theorem B59 (t b:Int):(sh t b).natAbs=Int.gcd t b:=by
  unfold sh; split <;> omega
theorem A1d (t b:Int):sh t b ∣ t:=by
  unfold sh; split
  · exact Int.neg_dvd.mpr (Int.gcd_dvd_left ..)
  · exact Int.gcd_dvd_left ..
theorem A86 (t b:Int):sh t b ∣ b:=by
  unfold sh; split
  · exact Int.neg_dvd.mpr (Int.gcd_dvd_right ..)
  · exact Int.gcd_dvd_right ..
theorem A60 {t b:Int} (h:b≠0):t.fdiv (sh t b)=(Rat.divInt t b).num:=by
  rw [Int.fdiv_eq_ediv_of_dvd (A1d t b),Rat.num_divInt,Int.gcd_comm b t];unfold sh;split
  · rename_i h1
    rw [Int.sign_eq_neg_one_of_neg h1,Int.ediv_neg,Int.neg_one_mul,Int.neg_ediv_of_dvd (Int.gcd_dvd_left ..)]
  · rename_i h1
    rw [Int.sign_eq_one_of_pos (by omega),Int.one_mul]
theorem B46 {t b:Int} (h:b≠0):b.fdiv (sh t b)=((Rat.divInt t b).den:Int):=by
  rw [Int.fdiv_eq_ediv_of_dvd (A86 t b),Rat.den_divInt,if_neg h,Int.gcd_comm b t];unfold sh;split
  · rename_i h1
    rw [Int.ediv_neg,Int.natCast_ediv];have e:(b.natAbs:Int)=-b:=by omega
    rw [e,Int.neg_ediv_of_dvd (Int.gcd_dvd_right ..)]
  · rename_i h1
    rw [Int.natCast_ediv];have e:(b.natAbs:Int)=b:=by omega
    rw [e]
theorem B77 (t b:Int):(Rat.divInt t b).num.natAbs<=t.natAbs:=by
  by_cases h:b=0
  · subst h; simp [Rat.divInt_zero]
  · rw [<- A60 h,Int.fdiv_eq_ediv_of_dvd (A1d t b)]
    have:=Int.natAbs_ediv_le_natAbs t (sh t b);exact this
theorem B81 {t b:Int} (h:b≠0):(Rat.divInt t b).den<=b.natAbs:=by
  rw [Rat.den_divInt,if_neg h];exact Nat.div_le_self _ _
def SmQ (k:Nat) (q:Rat):Prop:=Sm k q.num/\Sm k (q.den:Int)
theorem den0 (q:Rat):(q.den:Int)≠0:=by have:=q.den_nz; omega
theorem B9k (p q:Rat):Rat.divInt (p.num * q.den) ((p.den:Int) * q.num)=p / q:=by
  rw [Rat.div_def,Rat.inv_def,<- Rat.divInt_mul_divInt,Rat.num_divInt_den]
def W:List Rat->Nat
  | []=>1
  | q :: r=>q.den * W r
def S:List Rat->Rat
  | []=>0
  | q :: r=>q + S r
end My
namespace My
def SmR (n d:Nat) (q:Rat):Prop:=Sm n q.num/\Sm d (q.den:Int)
theorem SmR.q {n d:Nat} {q:Rat} (h:SmR n d q) (h1:n<=3900) (h2:d<=3900):SmQ 3900 q:=⟨h.1.mono h1,h.2.mono h2⟩
theorem SmR.low {n d:Nat} {t b:Int} (h:Sm n t) (g:Sm d b) (hb:b≠0):SmR n d (Rat.divInt t b) :=
  ⟨h.le (B77 t b),g.le (by simpa using B81 hb)⟩
theorem B76 {q:Rat} (h:q≠0):q.num≠0:=fun e=>h (Rat.num_eq_zero.mp e)
theorem SmR.div {a b c e:Nat} {p q:Rat} (h:SmR a b p) (g:SmR c e q) (hq:q≠0):SmR (a + e) (b + c) (p / q):=by
  rw [<- B9k];exact SmR.low (h.1.mul g.2) (h.2.mul g.1) (Int.mul_ne_zero (den0 p) (B76 hq))
end My
namespace L2
open PySem PySem.Spec PyProof.Rows
section
variable {X:Cx}
theorem R3 {x:Int} (h:My.Sm 8000 x):Builtin.Int.intBits x<=2 ^ 20:=by
  have e:(2:Nat) ^ 20=1048576:=by decide
  have h2:=h.log (by decide);unfold Builtin.Int.intBits;split <;> omega
def B5t (i j:Int):Prop:=My.Sm 8000 i/\My.Sm 8000 j
def B98 (_ j:Int):Prop:=j≠0/\My.Sm 8000 j
theorem I0:OpR X (binaryOp .Mult) (rI B5t fun i j=>.int (i * j)):=opI fun _ _ _ _ _ _ _ hc q=>mul_int q (.of_bits (R3 hc.1) (R3 hc.2))
theorem D5:OpR X (binaryOp .FloorDiv) (rI B98 fun i j=>.int (i.fdiv j)):=opI fun _ _ _ _ _ _ _ hc q =>
  floordiv_int hc.1 q (.inl (PyProof.noPylong_of_log2 (Nat.lt_of_lt_of_le (hc.2.log (by decide)) (by decide))))
def kitB (T c:String):Option Bool:=if (Value.type T == Value.type c)=true then some true else if PySem.W.kitMeta c=true then (fastBuiltinMro T).map (·.contains (Value.type c)) else none
theorem A93 (K:PySem.W.Frag) {T c:String} {b:Bool} (h:kitB T c=some b):PySem.W.kitOne K (.type T) (.type c)=some b:=h
def TyV (K:PySem.W.Frag) (H:Hp) (x:V) (T:String):Prop:=match x with
  | .non=>T="NoneType"
  | .bl _=>T="bool"
  | .int _=>T="int"
  | .str _=>T="str"
  | .ref a=>(T="list"/\∃ xs,SqL K H a xs)\/(T="tuple"/\∃ xs,SqT K H a xs)\/(T="dict"/\∃ kvs,H a=some (.dK kvs))
  | _=>False
theorem A0r:CallR X (.builtin "isinstance") (fun xs H Q=>∃ x c T b,xs=[x,.ty c]/\TyV X.K H x T/\kitB T c=some b/\Q (.bl b) H):=by
  intro pins s σ H xs us Q I r h;obtain ⟨x,c,T,b,rfl,ty,e,q⟩:=h;obtain ⟨u,v,rfl,ru,rv⟩:=Vals.two r;cases (show v=Value.type c from rv);have fin:∀ tk,EP X pins σ Q (.bool b) { s with toks:=tk }:=fun tk=>⟨.bl b,H,I.tok tk,rfl,q⟩;have e':=A93 X.K e;cases x with
  | non=>cases (show T=_ from ty); cases (show u=Value.none from ru); exact PySem.W.kia_one PySem.W.kitx_none I.kIn True.intro e' (fun z=>nomatch z) fin
  | bl y=>cases (show T=_ from ty); cases (show u=Value.bool y from ru); exact PySem.W.kia_one PySem.W.kitx_bool I.kIn True.intro e' (fun z=>nomatch z) fin
  | int i=>cases (show T=_ from ty); obtain ⟨t,q'⟩:=(show ∃ t,u=Value.int i t from ru); cases q'; exact PySem.W.kia_one PySem.W.kitx_int I.kIn True.intro e' (fun z=>nomatch z) fin
  | str y=>cases (show T=_ from ty); obtain ⟨t,q'⟩:=(show ∃ t,u=Value.str y t from ru); cases q'; exact PySem.W.kia_one PySem.W.kitx_str I.kIn True.intro e' (fun z=>nomatch z) fin
  | ref a =>
    cases (show u=Value.ref a from ru);rcases (show _\/_\/_ from ty) with ⟨rfl,xs,h⟩ | ⟨rfl,xs,h⟩ | ⟨rfl,kvs,h⟩
    · obtain ⟨its,_,⟨o,n,h1,h2,_⟩,_⟩:=I.list h
      exact PySem.W.kia_one PySem.W.kitx_list I.kIn ⟨o,h1,h2⟩ e' (fun z=>nomatch z) fin
    · obtain ⟨its,_,⟨o,h1,h2,_⟩,_⟩:=I.tuple h
      exact PySem.W.kia_one PySem.W.kitx_tuple I.kIn ⟨o,h1,h2⟩ e' (fun z=>nomatch z) fin
    · obtain ⟨_,_,vs,_,p⟩:=(show ObjOk X.prog X.w H s.heap a (.dK kvs) from I.hok a _ h)
      obtain ⟨o,es,ep,h1,h2,_⟩:=p;exact PySem.W.kia_one PySem.W.kitx_dict I.kIn ⟨o,h1,h2.1⟩ e' (fun z=>nomatch z) fin
  | byt _=>exact (show False from ty).elim
  | flt _=>exact (show False from ty).elim
  | ty _=>exact (show False from ty).elim
end
def encV:V->PyData
  | .int i=>.int i
  | .str x=>.str x
  | _=>.none
def encK:Key->PyData
  | .inl i=>.int i
  | .inr x=>.str x
def B5i (p:Key × V):PyData × PyData:=(encK p.1,encV p.2)
def NSI (xs:List V):Prop:=∀ c i,xs≠[V.str c,V.int i]
def SqD (K:PySem.W.Frag) (H:Hp) (a:Addr) (xs:List V):Prop:=SqT K H a xs/\(H a=some (.tup xs)\/NSI xs)
theorem SqD.of {K:PySem.W.Frag} {H:Hp} {a:Addr} {xs:List V} (h:H a=some (.tup xs)):SqD K H a xs:=⟨SqT.of h,.inl h⟩
mutual
inductive Den (K:PySem.W.Frag) (H:Hp):V->PyData->Prop
  | non:Den K H .non .none
  | bl (b:Bool):Den K H (.bl b) (.bool b)
  | int (i:Int):Den K H (.int i) (.int i)
  | str (x:Str):Den K H (.str x) (.str x)
  | lst {a:Addr} {xs:List V} {ds:List PyData}:SqL K H a xs->DenAll K H xs ds->Den K H (.ref a) (.list ds)
  | tup {a:Addr} {xs:List V} {ds:List PyData}:SqD K H a xs->DenAll K H xs ds->Den K H (.ref a) (.tuple ds)
  | dct {a:Addr} {kvs:List (Key × V)}:H a=some (.dK kvs)->Den K H (.ref a) (.dict (kvs.map B5i))
inductive DenAll (K:PySem.W.Frag) (H:Hp):List V->List PyData->Prop
  | nil:DenAll K H [] []
  | cons {x:V} {xs:List V} {d:PyData} {ds:List PyData}:Den K H x d->DenAll K H xs ds->DenAll K H (x :: xs) (d :: ds)
end
section
variable {X:Cx} {pins:List (Addr × Obj)} {σ:St} {H:Hp} {s:Shared}
mutual
theorem Den.reads (I:Inv X pins σ H s):∀ {x:V} {d:PyData} {u:Value},Den X.K H x d->RelV x u->d.canLay0=true->∃ as,Reads s.heap u d as
  | _,_,u,.non,r,_=>by cases (show u=Value.none from r); exact ⟨_,.none⟩
  | _,_,u,.bl b,r,_=>by cases (show u=Value.bool b from r); exact ⟨_,.bool b⟩
  | _,_,u,.int i,r,_=>by obtain ⟨t,q⟩:=(show ∃ t,u=Value.int i t from r); cases q; exact ⟨_,.int i t⟩
  | _,_,u,.str x,r,_=>by obtain ⟨t,q⟩:=(show ∃ t,u=Value.str x t from r); cases q; exact ⟨_,.str x t⟩
  | _,_,u,.lst (a:=a) h ds,r,cl=>by
    cases (show u=Value.ref a from r);obtain ⟨its,rv,⟨o,n,h1,h2,_,h3⟩,_⟩:=I.list h;obtain ⟨as,q⟩:=DenAll.reads I ds rv cl;exact ⟨_,.list h1 h2 h3 (by simpa using q)⟩
  | _,_,u,.tup (a:=a) h ds,r,cl=>by
    cases (show u=Value.ref a from r);obtain ⟨its,rv,⟨o,h1,h2,n,h3⟩,_⟩:=I.tuple h.1;obtain ⟨as,q⟩:=DenAll.reads I ds rv cl;exact ⟨_,.tuple h1 h2 h3 (by simpa using q)⟩
  | _,_,_,.dct _,_,cl=>absurd (show false=true from cl) Bool.false_ne_true
theorem DenAll.reads (I:Inv X pins σ H s):∀ {xs:List V} {ds:List PyData} {us:List Value},DenAll X.K H xs ds->Vals xs us->PyData.canLayAll0 ds=true->∃ as,ReadsAll s.heap us ds as
  | _,_,_,.nil,.nil,_=>⟨_,.nil⟩
  | _,d :: ds,_,.cons h t,.cons r rs,cl=>by
    have cl':(d.canLay0 && PyData.canLayAll0 ds)=true:=cl;rw [Bool.and_eq_true] at cl';obtain ⟨as,q⟩:=Den.reads I h r cl'.1;obtain ⟨bs,q'⟩:=DenAll.reads I t rs cl'.2;exact ⟨_,.cons q q'⟩
end
end
section
variable {X:Cx}
def rEqD (K:PySem.W.Frag):R2:=fun x y H Q=>∃ dx dy,Den K H x dx/\Den K H y dy/\dx.canLay0=true/\dy.canLay0=true/\dx.depth<=60/\Q (.bl (PyData.eqv dx dy)) H
def rNeD (K:PySem.W.Frag):R2:=fun x y H Q=>∃ dx dy,Den K H x dx/\Den K H y dy/\dx.canLay0=true/\dy.canLay0=true/\dx.depth<=60/\Q (.bl (!PyData.eqv dx dy)) H
theorem B7x (hu:X.A.units + 64 < cLine):OpR X (compareOp .Eq) (rEqD X.K):=by
  intro pins s σ H x y v u Q I rx ry h;obtain ⟨dx,dy,h1,h2,c1,c2,hd,q⟩:=h;obtain ⟨as,r1⟩:=h1.reads I rx c1;obtain ⟨bs,r2⟩:=h2.reads I ry c2;exact PySem.SeqAt.compareEq_reads r1 r2 c1 c2 (by omega) ⟨.bl _,H,I,rfl,q⟩
theorem B7s (hu:X.A.units + 64 < cLine):OpR X (compareOp .NotEq) (rNeD X.K):=by
  intro pins s σ H x y v u Q I rx ry h;obtain ⟨dx,dy,h1,h2,c1,c2,hd,q⟩:=h;obtain ⟨as,r1⟩:=h1.reads I rx c1;obtain ⟨bs,r2⟩:=h2.reads I ry c2;exact PySem.SeqAt.compareNe_reads r1 r2 c1 c2 (by omega) ⟨.bl _,H,I,rfl,q⟩
def tRev (K:PySem.W.Frag) (te ts:TE):TE:=fun σ H Q=>te σ H fun x H1=>ts σ H1 fun k H2=>k=.int (-1)/\∃ a xs,x=.ref a/\SqL K H2 a xs/\∀ p,H2 p=none->Q (.ref p) (upd H2 p (.lst xs.reverse))
theorem B6w {e st:Expr} {te ts:TE} {pos p2:Pos} (he:PE X e te) (hst:PE X st ts)
    (hsub:∀ (a sz:Addr),∃ ops,subscripted (.Slice none none (some st) p2) false (.ref a) (.ref sz)=operate ops (getItem (.ref a) (.ref sz)):=by intro a sz; exact ⟨_,by with_unfolding_all rfl⟩):PE X (.Subscript e (.Slice none none (some st) p2) pos) (tRev X.K te ts):=by
  intro pins s σ H Q I h;refine Subscript_ (thn (he pins s σ H _ I h) fun v s1 ⟨x,H1,I1,r1,q1⟩=>?_);refine wpAny_Slice ?_;rw [evalPart_none,evalPart_some];refine wpAny_pure (wpAny_pure ?_);refine thn (hst pins s1 σ H1 _ I1 q1) fun vk s3 ⟨k,H3,I3,rk,ek,a,xs,ex,hx,q⟩=>?_;subst ek;subst ex;obtain ⟨t,rfl⟩:=rk;cases r1;have I4:Inv X pins σ H3 { s3 with heap:=s3.heap.push { cls:=.type "slice",data:=.fields #[.none,.none,.int (-1) t] } }:=I3.kept (t':=s3.toks) fun b ob q=>Heap.get?_push_of_some _ q;obtain ⟨its,r,ht,hz⟩:=I4.list hx;have hlen:=r.length;obtain ⟨ops,hops⟩:=hsub a s3.heap.objs.size;refine tail_any (ops:=ops) ht.isList.typeIs slot_list_getitem.lookup ?_ hops;refine wpAny_getItem_list_slice ht.isList (Heap.IsSliceOf.new ..) .none .none (.int (-1) t) (by decide) ?_ (by rw [List.size_toArray] <;> omega)
  rw [PySem.W.krv_pick];refine ⟨.ref _,_,I4.laid (t':=s3.toks) (o:=.lst xs.reverse) (fun b ob q=>Heap.get?_push_of_some _ q) (Zv _) ?_,rfl,q _ (I4.hok.fresh (Zv _))⟩;exact ⟨by rw [List.length_reverse]; exact hz,its.reverse,0,r.reverse,Heap.get?_push_size _ rfl⟩
end
def Kp (p:Addr) (H H':Hp):Prop:=∀ b o,b≠p->H b=some o->H' b=some o
theorem Kp.upd {p:Addr} {H:Hp} {o:HO}:Kp p H (upd H p o):=fun b u n e=>by rw [B2 n]; exact e
theorem Kp.trans {p:Addr} {H H1 H2:Hp} (a:Kp p H H1) (b:Kp p H1 H2):Kp p H H2:=fun c o n e=>b c o n (a c o n e)
theorem Kp.refl {p:Addr} {H:Hp}:Kp p H H:=fun _ _ _ e=>e
theorem Same.kp {p:Addr} {H H':Hp} (a:Same H H'):Kp p H H':=fun b o _ e=>a b o e
theorem Same.upd {p:Addr} {H:Hp} {o:HO} (h:H p=none):Same H (upd H p o):=fun b u e=>by rw [B2 (B6 e h)]; exact e
theorem SqT.same {K:PySem.W.Frag} {H H':Hp} {a:Addr} {xs:List V} (e:Same H H') (h:SqT K H a xs):SqT K H' a xs:=by
  rcases h with (h | ⟨o,h⟩) | h
  · exact .inl (.inl (e _ _ h))
  · exact .inl (.inr ⟨o,e _ _ h⟩)
  · exact .inr h
theorem at0 {α:Type} {x:α} {xs:List α}:atI (x :: xs) 0=some x:=J4 (j:=0) rfl
theorem at1 {α:Type} {x y:α} {xs:List α}:atI (x :: y :: xs) 1=some y:=J4 (j:=1) rfl
theorem at2 {α:Type} {x y z:α} {xs:List α}:atI (x :: y :: z :: xs) 2=some z:=J4 (j:=2) rfl
theorem at3 {α:Type} {x y z w:α} {xs:List α}:atI (x :: y :: z :: w :: xs) 3=some w:=J4 (j:=3) rfl
end L2
namespace L2
open PySem PySem.Spec PyProof.Rows
theorem X5 {prog:Program} {w:World} {A:Around} {R:Result->Shared->Prop} {s:Shared} {elt target iter:Expr} {ifs:List Expr} {scope:Scope} {pos:Pos} {it acc:Value} {env:Env} (I:Nat->Shared->Prop)
    (turn:∀ n s,I n s->wpAny (model prog w) A (pyNext it) (fun r s₁=>match r with
      | none=>R (.ok .next) s₁
      | some v=>wpAny (model prog w) A (letOwnedTupleGo target it v) (fun _ s₁'=>wpAny (model prog w) A (assign target env v) (fun _ s₂ =>
          wpAny (model prog w) A (forIn ifs true fun c r=>if r=true then do let ok <- isTrue c env (eval c env); pure (ForInStep.yield ok) else pure (ForInStep.yield r)) (fun ok s₃ =>
            if ok=true then wpAny (model prog w) A (eval elt env) (fun x s₄ =>
              wpAny (model prog w) A (call (.builtin "list.append") [acc,x]) (fun _ s₅=>∃ m,m < n/\I m s₅) (fun _ _=>False) s₄) (fun _ _=>False) s₃
            else ∃ m,m < n/\I m s₃) (fun _ _=>False) s₂) (fun _ _=>False) s₁') (fun _ _=>False) s₁) (fun _ _=>False) s)
    (n:Nat) (h:I n s):codeAny (model prog w) A (.compLoop (.ListComp elt [⟨target,iter,ifs,0⟩] scope pos) 0 it acc env) R s:=by
  refine codeAny_loop rfl I (fun n s hI=>?_) n h;show wpAny _ A ((compTurn (.ListComp elt [⟨target,iter,ifs,0⟩] scope pos) 0 it acc env).onRaise (fun x=>do noteFrame x env; theTreesLotGoes x)) _ _ s;refine wpAny_noted ?_;rw [compTurn_list];refine wpAny_bind (wpAny_standAt (wpAny_bind (wpAny_mono (turn n s hI) (fun r s₁ h₁=>?_) fun _ _ h'=>h'.elim)));cases r with
  | none=>exact wpAny_pure h₁
  | some v =>
    refine wpAny_bind (wpAny_mono h₁ (fun _ s₁' h₁'=>?_) fun _ _ h'=>h'.elim);refine wpAny_bind (wpAny_mono h₁' (fun _ s₂ h₂=>wpAny_bind (wpAny_mono h₂ (fun ok s₃ h₃=>?_) fun _ _ h'=>h'.elim)) fun _ _ h'=>h'.elim);cases ok with
    | false=>exact wpAny_pure ⟨rfl,h₃⟩
    | true =>
      exact wpAny_bind (wpAny_bind (wpAny_mono h₃ (fun x s₄ h₄=>wpAny_bind (wpAny_mono h₄ (fun _ s₅ h₅=>wpAny_pure (wpAny_pure ⟨rfl,h₅⟩)) fun _ _ h'=>h'.elim)) fun _ _ h'=>h'.elim))
def PTs (X:Cx) (ifs:List Expr) (t:TT):Prop :=
  ∀ (pins:List (Addr × Obj)) (s:Shared) (σ:St) (H:Hp) (Q:Bool->Hp->Prop),Inv X pins σ H s->t σ H Q ->
    wpAny (model X.prog X.w) X.A (forIn ifs true fun c r=>if r=true then do let ok <- isTrue c X.env (eval c X.env); pure (ForInStep.yield ok) else pure (ForInStep.yield r)) (TP X pins σ Q) X.xe s
def tYes:TT:=fun _ H Q=>Q true H
theorem B32 {X:Cx}:PTs X [] tYes:=fun pins s σ H Q I h=>wpAny_tests_nil ⟨H,I,h⟩
def Cx.block (X:Cx) (scope:Scope) (cl:List (Str × Addr)) (N':List Str) (s2:Shared) (H2:Hp) (fp:List Addr):Cx where
  prog:=X.prog
  w:=X.w
  K:=X.K
  mg:=X.mg
  base:=X.base
  A:=X.A
  N:=N'
  s₀:=s2
  H₀:=H2
  env:=compEnvC scope cl s2.heap.objs.size X.env
  outer:=X.stack
  stack:=X.stack
  ex:=fp
  fn:=fun _=>false
  calm:=X.calm
  pn:=[]
  xe:=fun _ _=>False
structure CompSc (X:Cx) (scope:Scope) (cl:List (Str × Addr)) (N':List Str) (cap:List (Option Nat)):Prop where
  clos:closureFor scope X.env=pure cl
  sub:∀ x c,cl.lookup x=some c->X.env.cells.lookup x=some c
  has:∀ x,((relabel scope X.env).names.lookup x=some .cell\/(relabel scope X.env).names.lookup x=some .free)->∃ c,cl.lookup x=some c
  kind:scope.kind=.function
  cell:∀ y ∈ scope.names,y.2≠.cell
  names:∀ y ∈ scope.names,y.2=.local->scope.names.lookup y.1=some .local
  nd:N'.Nodup
  len:cap.length=N'.length
  noloc:∀ x c,cl.lookup x=some c->X.env.kindOf x≠some .local
  capt:∀ (i:Nat) (x:Str) (j:Nat),N'[i]?=some x->cap[i]?=some (some j)->X.N[j]?=some x/\((relabel scope X.env).names.lookup x=some .cell\/(relabel scope X.env).names.lookup x=some .free)/\Vis X.env.scope x/\∃ c,cl.lookup x=some c
def capσ (cap:List (Option Nat)) (σ:St):St:=cap.map fun o=>o.bind fun j=>(σ[j]?).join
section
variable {X:Cx} {pins:List (Addr × Obj)} {σ:St} {H:Hp} {s:Shared} {scope:Scope} {cl:List (Str × Addr)} {N':List Str} {cap:List (Option Nat)} {fp:List Addr}
theorem B0g (I:Inv X pins σ H s) (C:CompSc X scope cl N' cap) (hf:∀ b ∈ fp,FpOk X pins H b) (ho:∀ b ∈ fp,∃ o,s.heap.get? b=some o):(X.block scope cl N' s H fp).Ok where
  mod:=I.ok.mod
  kind:=C.kind
  glob:=I.ok.glob
  blt:=I.ok.blt
  above:=Zv _
  inj:=fun x y c h1 h2=>I.ok.inj x y c (C.sub x c h1) (C.sub y c h2)
  has:=fun x h=>C.has x h
  cab:=fun x c h _=>absurd (show false=true from h) Bool.false_ne_true
  hd:=I.ok.hd
  frames:=I.ok.frames
  stk:=.inl rfl
  exf:=fun b hb=>⟨fun z=>by
    obtain ⟨o,e⟩:=ho b hb;exact absurd (Heap.lt_size e) (by rw [z]; exact Nat.lt_irrefl _),fun x c h=>(hf b hb).2.2.2.2.1 x c (C.sub x c h)⟩
  bs:=I.bs
  bsz:=Zx I.ok.bsz I.sz
  noex:=fun b o e hb=>by
    rcases (hf b hb).2.2.2.1 with z | z
    · exact I.ok.noex b o e z
    · exact absurd (Nat.lt_of_lt_of_le (Heap.lt_size e) (Zx I.ok.bsz z)) (Nat.lt_irrefl _)
  exfs:=fun b hb z=>by
    rcases List.mem_cons.mp (I.stkSub b z) with e | e
    · exact (hf b hb).2.1 e
    · exact (hf b hb).2.2.1 e
  funs:=I.stack
  frf:=I.stkFree
theorem A8p {h1:Heap} {tk:Nat} {m:Str->Option Value} (I:Inv X pins σ H s) (C:CompSc X scope cl N' cap) (hf:∀ b ∈ fp,FpOk X pins H b) (ho:∀ b ∈ fp,∃ o,s.heap.get? b=some o)
    (hn:h1.Ns s.heap.objs.size m) (hk:∀ b o,s.heap.get? b=some o->h1.get? b=some o):Inv (X.block scope cl N' s H fp) [] (capσ cap σ) H { s with heap:=h1,toks:=tk } where
  ok:=B0g I C hf ho
  os:=rfl
  bare:=I.bare
  base:=Un.kept hk
  loc:=⟨m,hn,fun i x v h1' h2 h3=>by
    unfold capσ at h2;rw [Zh] at h2;cases e:cap[i]? with
    | none=>rw [e] at h2; cases h2
    | some o =>
      rw [e] at h2;cases o with
      | none=>cases h2
      | some j =>
        obtain ⟨q1,q2,q3,c,q4⟩:=C.capt i x j h1' e;have hv:(σ[j]?).join=some v:=Zj h2;have hσ:σ[j]?=some (some v):=by
          cases z:σ[j]? with
          | none=>rw [z] at hv; cases hv
          | some y=>rw [z] at hv; cases (show y=some v from hv); rfl
        obtain ⟨m0,hn0,hl0⟩:=I.loc;obtain ⟨u,r,l⟩:=hl0 j x v q1 hσ q3;refine ⟨u,r,.inr ⟨q2,c,q4,?_⟩⟩;rcases l with ⟨l1,_⟩ | ⟨_,c',l2,l3⟩
        · exact absurd l1 (C.noloc x c q4)
        · have:=C.sub x c q4
          rw [l2] at this;cases this;exact l3.keeps hk⟩
  cell:=fun x c h=>by
    obtain ⟨v,z⟩:=I.cell x c (C.sub x c h);exact ⟨v,z.keeps hk⟩
  free:=I.hok.fresh (Zv _)
  freeC:=fun x c h=>I.freeC x c (C.sub x c h)
  pin:=fun p hp=>absurd (show p ∈ ([]:List (Addr × Obj)) from hp) (by simp)
  hok:=I.hok.kept hk
  len:=by unfold capσ; rw [Zl]; exact C.len
theorem A8o {H':Hp} {s':Shared} {h':Heap} {σ':St} {pl:List (Addr × Obj)} (I:Inv X pins σ H s) (J:Inv (X.block scope cl N' s H fp) pl σ' H' s') (hf:∀ b ∈ fp,FpOk X pins H b) (hs:Heap.SameBut s.heap.objs.size s'.heap h') :
    Inv X pins σ H' { s' with heap:=h' }:=by
  have ne:∀ b o,s.heap.get? b=some o->b≠s.heap.objs.size:=fun b o e=>Nat.ne_of_lt (Heap.lt_size e);have B:Un (frs X.stack) fp H H' s.heap s'.heap:=J.base;refine I.call' (s':={ s' with heap:=h' }) (ch:=fp) J.os ⟨fun b o e n h1 h2=>?_,fun b o e n h1 h2=>?_,B.free,fun b o e h2=>?_,B.tups,B.frzs,B.tbls⟩ ?_ J.bare (fun b hb=>?_)
  · show h'.get? b=some o
    rw [hs.2 b (ne b o e)]; exact B.keep b o e n h1 h2
  · show ∃ sl,h'.get? b=_
    rw [hs.2 b (ne b o e)]; exact B.slot b o e n h1 h2
  · show ∃ o',h'.get? b=_
    rw [hs.2 b (ne b o e)]; exact B.there b o e h2
  · intro b u e
    have hfree:H' s.heap.objs.size=none:=J.free;have nC:∀ c v,H' c=some v->c≠s.heap.objs.size:=fun c v q z=>by rw [z,hfree] at q; cases q
    refine (J.hok b u e).stay (fun c v hc q=>?_) (fun _ q=>q) fun _ _ q=>q;show h'.get? c=some v;have:c≠s.heap.objs.size:=by
      rcases hc with z | z
      · rw [z]; exact nC b u e
      · exact nC c _ z
    rw [hs.2 c this]; exact q
  · obtain ⟨f0,f1,f2,f3,f4,f5⟩:=hf b hb
    exact ⟨f3,f1,f4,f5⟩
end
def A8i (J:It) (g:TG) (tt:TT) (te:TE) (D:Addr) (Fin:Hp->Prop) (σ0:St) (H1:Hp):Prop :=
  ∃ W:Nat->Nat->St->Hp->List V->Prop,(∃ m,W 0 m σ0 (upd H1 D (.lst [])) [])/\∀ i m σ' H' ys,W i m σ' H' ys->H' D=some (.lst ys)/\ys.length < sizeLine /\
    ((J.stop i H'/\Fin H')\/(J.go i H'/\∀ x H2,J.yld i H' x H2->g x σ' H2 fun σ2 H3=>tt σ2 H3 fun b H4=>if b=true then
      te σ2 H4 fun y H5=>∃ zs,H5 D=some (.lst zs)/\zs.length < sizeLine/\∃ m',m' < m/\W (i + 1) m' σ2 (upd H5 D (.lst (zs++[y]))) (zs++[y])
      else ∃ m',m' < m/\W (i + 1) m' σ2 H4 ys))
def B3m (wi:TI) (g:TG) (tt:TT) (te:TE) (cap:List (Option Nat)):TE:=fun σ H Q=>wi σ H fun J H1=>∀ D,H1 D=none->A8i J g tt te D (fun H'=>Q (.ref D) H') (capσ cap σ) H1
section
variable {X:Cx} {scope:Scope} {cl:List (Str × Addr)} {N':List Str} {cap:List (Option Nat)} {elt tg iter:Expr} {ifs:List Expr} {wi:TI} {g:TG} {tt:TT} {te:TE} {pos:Pos}
theorem A8n {pins:List (Addr × Obj)} {σ:St} {H2:Hp} {s2:Shared} {it:Addr} {fp:List Addr} {tn:Nat->Heap->Prop} {J:It} {E:Value->Shared->Prop} {RR:Value->Addr->Result->Shared->Prop} {Fin:Addr->Hp->Prop}
    (hc:X.calm=true) (C:CompSc X scope cl N' cap) (I2:Inv X pins σ H2 s2) (T:Turn X.prog X.w X.K tg J fp it tn) (st2:tn 0 s2.heap) (f2:∀ b ∈ fp,FpOk X pins H2 b)
    (hg:∀ s3 H3 fp,PG (X.block scope cl N' s3 H3 fp) tg g) (ht:∀ s3 H3 fp,PTs (X.block scope cl N' s3 H3 fp) ifs tt) (he:∀ s3 H3 fp,PE (X.block scope cl N' s3 H3 fp) elt te)
    (go:∀ D,H2 D=none->A8i J g tt te D (Fin D) (capσ cap σ) H2)
    (out:∀ (D C:Addr) (s':Shared) (m:Str->Option Value) (H':Hp),s'.heap.Ns C m->C≠X.env.locals->H' C=none->X.s₀.heap.objs.size<=C->(∀ x c,X.env.cells.lookup x=some c->c≠C)->(∀ p ∈ X.pn++pins,p.1≠C)->Fin D H'->Inv X pins σ H' s'->RR (.ref D) C (.ok .next) s') :
    wpAny (model X.prog X.w) X.A (newList []) (fun acc s₃=>wpAny (model X.prog X.w) X.A (newFunctionEnv scope X.env.globals cl [] X.env.qual none .none (some X.env)) (fun cenv s₄ =>
      codeAny (model X.prog X.w) X.A (.compStart (.ListComp elt [⟨tg,iter,ifs,0⟩] scope pos) 0 (.ref it) acc { cenv with scope:=relabel scope X.env }) (RR acc cenv.locals) s₄) E s₃) E s2:=by
  refine wpAny_newObj_type (wpAny_newFunctionEnv C.cell (by intro y hy; simp at hy) (fun h₁ hns₁ hsb₁=>?_) C.kind);have hD:H2 s2.heap.objs.size=none:=I2.hok.fresh (Zv _);obtain ⟨W,⟨m0,w0⟩,turn⟩:=go _ hD;have I3:Inv X pins σ (upd H2 s2.heap.objs.size (.lst [])) { s2 with heap:=s2.heap.push { cls:=.type "list",dict:=none,data:=.seq ([]:List Value).toArray } } :=
    I2.laid (t':=s2.toks) (o:=.lst []) (fun b u e=>Heap.get?_push_of_some _ e) (Zv _) ⟨Nat.zero_le _,[],0,.nil,Heap.get?_push_size _ rfl⟩
  have f3:∀ b ∈ fp,FpOk X pins (upd H2 s2.heap.objs.size (.lst [])) b:=fun b hb=>by
    obtain ⟨f0,fr⟩:=f2 b hb;obtain ⟨o,e,_⟩:=T.obj _ _ st2 b hb;exact ⟨by rw [B2 (Nat.ne_of_lt (Heap.lt_size e))]; exact f0,fr⟩
  generalize hs3:({ s2 with heap:=s2.heap.push { cls:=.type "list",dict:=none,data:=.seq ([]:List Value).toArray } }:Shared)=s3 at hns₁ hsb₁ I3 ⊢;have o3:∀ b o,s2.heap.get? b=some o->s3.heap.get? b=some o:=fun b o e=>by rw [<- hs3]; exact Heap.get?_push_of_some _ e
  have hk:∀ b o,s3.heap.get? b=some o->h₁.get? b=some o:=fun b o e=>by
    rw [hsb₁.2 b (Nat.ne_of_lt (Heap.lt_size e))]; exact Heap.get?_push_of_some _ e
  have st3:tn 0 s3.heap:=T.keep _ _ _ st2 fun b _ o e=>o3 b o e;have ho:∀ b ∈ fp,∃ o,s3.heap.get? b=some o:=fun b hb=>let ⟨o,e,_⟩:=T.obj _ _ st3 b hb; ⟨o,e⟩;have I4:=A8p (tk:=s3.toks + ([]:List (Str × Value)).length) I3 C f3 ho hns₁ hk;have st4:tn 0 h₁:=T.keep _ _ _ st3 fun b _ o e=>hk b o e;have hX:∀ {H':Hp} {pl:List (Addr × Obj)},(∀ b ∈ fp,H' b=none)->(∀ p ∈ pl,p.1 ∉ fp)->∀ b ∈ fp,FpOk (X.block scope cl N' s3 (upd H2 s2.heap.objs.size (.lst [])) fp) pl H' b:=fun {H' pl} hn hp b hb=>by
    refine ⟨hn b hb,I4.ok.exf b hb |>.1,I4.ok.exfs b hb,.inl hb,(I4.ok.exf b hb).2,fun p hp' z=>?_⟩;have hp'':p ∈ pl:=by simpa [Cx.block] using hp'
    exact hp p hp'' (by rw [z]; exact hb)
  have fr3:∀ b ∈ fp,(upd H2 s2.heap.objs.size (.lst [])) b=none:=fun b hb=>(f3 b hb).1;have loop:∀ s₅:Shared,s₅={ s3 with heap:=h₁,toks:=s3.toks + ([]:List (Str × Value)).length } ->
      codeAny (model X.prog X.w) X.A (.compLoop (.ListComp elt [⟨tg,iter,ifs,0⟩] scope pos) 0 (.ref it) (.ref s2.heap.objs.size) (compEnvC scope cl s3.heap.objs.size X.env)) (RR (.ref s2.heap.objs.size) s3.heap.objs.size) s₅:=by
    rintro s₅ rfl;refine X5 (fun n s'=>∃ i σ' H' ys,Inv (X.block scope cl N' s3 (upd H2 s2.heap.objs.size (.lst [])) fp) [] σ' H' s'/\tn i s'.heap/\(∀ b ∈ fp,H' b=none)/\W i n σ' H' ys) ?_ m0 ⟨0,_,_,[],I4,st4,fr3,w0⟩;rintro n s6 ⟨i,σ6,H6,ys,I6,st6,fr6,w6⟩;obtain ⟨hl6,hz6,hgo⟩:=turn i n σ6 H6 ys w6;rcases hgo with ⟨stop,fin⟩ | ⟨go',step⟩
    · refine wpAny_mono (T.done (X.block scope cl N' s3 (upd H2 s2.heap.objs.size (.lst [])) fp) rfl rfl rfl hc i [] s6 σ6 H6 (fun _ _=>False) I6 (hX fr6 (fun _ z=>nomatch z)) st6 stop) (fun r s7 ⟨hr,I7⟩=>?_) fun _ _ z=>z.elim
      subst hr;obtain ⟨m7,hn7,_⟩:=id I7.loc;refine out _ _ s7 m7 H6 hn7 (Nat.ne_of_gt I3.lt) I7.free I3.sz (fun x c e z=>?_) (fun p hp z=>?_) fin (A8o I3 I7 f3 (.refl ..))
      · obtain ⟨v,q⟩:=I3.cell x c e
        exact absurd q.lt (by rw [z]; exact Nat.lt_irrefl _)
      · exact absurd (Heap.lt_size (I3.pin p hp).1) (by rw [z]; exact Nat.lt_irrefl _)
    · refine wpAny_mono (T.item (X.block scope cl N' s3 (upd H2 s2.heap.objs.size (.lst [])) fp) rfl rfl rfl hc i [] s6 σ6 H6 (fun _ _=>False) I6 (hX fr6 (fun _ z=>nomatch z)) st6 go') (fun r s7 ⟨u,hr,h7⟩=>?_) fun _ _ z=>z.elim
      subst hr;refine wpAny_mono h7 (fun _ s8 ⟨x,H8,I8,r8,y8,st8,fr8⟩=>?_) fun _ _ z=>z.elim;have I8':=I8.pinned (hX fr8 (fun _ z=>nomatch z)) (T.obj _ _ st8);have again:∀ {s9:Shared} {σ9:St} {H9:Hp},Inv (X.block scope cl N' s3 (upd H2 s2.heap.objs.size (.lst [])) fp) ([]++V4 fp s8.heap) σ9 H9 s9->∀ {zs:List V},(∃ m',m' < n/\W (i + 1) m' σ9 H9 zs) ->
          ∃ m,m < n/\∃ i σ' H' ys,Inv (X.block scope cl N' s3 (upd H2 s2.heap.objs.size (.lst [])) fp) [] σ' H' s9/\tn i s9.heap/\(∀ b ∈ fp,H' b=none)/\W i m σ' H' ys:=fun {s9 σ9 H9} I9 {zs} ⟨m',hm,w9⟩=>by
        refine ⟨m',hm,i + 1,σ9,H9,zs,I9.unpinned,T.keep _ _ _ st8 fun b hb o e=>(I9.pin (b,o) (Zw _ (Zw _ (J8 hb e)))).1,fun b hb=>?_,w9⟩;obtain ⟨o,e,d⟩:=T.obj _ _ st8 b hb;exact (I9.pin (b,o) (Zw _ (Zw _ (J8 hb e)))).2.1
      refine wpAny_mono (hg _ _ _ _ s8 σ6 H8 x u _ I8' r8 (step x H8 y8)) (fun _ s9 ⟨σ9,H9,I9,q9⟩=>?_) fun _ _ z=>z.elim;refine wpAny_mono (ht _ _ _ _ s9 σ9 H9 _ I9 q9) (fun ok s10 ⟨H10,I10,q10⟩=>?_) fun _ _ z=>z.elim;cases ok with
      | false=>exact again I10 q10
      | true =>
        rw [if_pos rfl];refine wpAny_mono (he _ _ _ _ s10 σ9 H10 _ I10 q10) (fun yv s11 ⟨y,H11,I11,r11,zs,hz,hlen,q11⟩=>?_) fun _ _ z=>z.elim;refine wpAny_mono (P2 (X:=X.block scope cl N' s3 (upd H2 s2.heap.objs.size (.lst [])) fp) _ s11 σ9 H11 (.ref s2.heap.objs.size) [y] (.ref s2.heap.objs.size) [yv] (fun _ H'=>∃ m',m' < n/\W (i + 1) m' σ9 H' (zs++[y])) I11 rfl (.cons r11 .nil) ⟨_,zs,y,rfl,rfl,hz,hlen,q11⟩) (fun _ s12 ⟨_,H12,I12,_,q12⟩=>?_) fun _ _ z=>z.elim;exact again I12 q12
  exact codeAny_compStart_list (loop _ rfl) (T.self _ 0 _ _ _ st4 (loop _ rfl))
theorem B4e (hc:X.calm=true) (C:CompSc X scope cl N' cap) (hi:PI X tg iter wi) (hg:∀ s3 H3 fp,PG (X.block scope cl N' s3 H3 fp) tg g) (ht:∀ s3 H3 fp,PTs (X.block scope cl N' s3 H3 fp) ifs tt)
    (he:∀ s3 H3 fp,PE (X.block scope cl N' s3 H3 fp) elt te) (hs:∀ x,foldedSetIterable iter X.env x=pure x:=by intro _; rfl):PE X (.ListComp elt [⟨tg,iter,ifs,0⟩] scope pos) (B3m wi g tt te cap):=by
  intro pins s σ H Q I h;rw [eval_ListComp];refine wpAny_comprehension_free (use:=none) rfl hs C.clos C.kind C.names (thn (hi pins s σ H _ I h) fun v s1 h1=>thn h1 fun itv s2 h2=>?_);obtain ⟨it,fp,tn,J,H2,e,I2,T,st2,f2,go⟩:=h2;subst e;refine A8n (RR:=fun acc C=>compPost (model X.prog X.w) X.A X.xe none (EP X pins σ Q) acc C) (Fin:=fun D H'=>Q (.ref D) H') hc C I2 T st2 f2 hg ht he go ?_;intro D C' s' m H' hn n1 n2 n3 n4 n5 fin inv;exact ⟨m,hn,fun h' hs'=>⟨.ref D,H',inv.turned (t':=s'.toks) (fun b o hb e=>(hs'.2 b hb).trans e) n2 n1 (.inr n3) n4 n5,rfl,fin⟩⟩
end
end L2
namespace L2
open PySem PySem.Spec PyProof.Rows
def X7 (env:Env):List (Str × NameKind)->List (Str × Addr)->List (Str × Addr)
  | [],acc=>acc
  | (n,k) :: r,acc=>X7 env r (if (k == .free)=true then (n,(env.cells.lookup n).getD 0) :: acc else acc)
theorem T9 {env:Env}:∀ (l:List (Str × NameKind)) (acc:List (Str × Addr)),(∀ p ∈ l,p.2=.free->(env.cells.lookup p.1).isSome=true) ->
    (forIn l acc (fun x s=>match x with
      | (name,kind)=>if (kind == NameKind.free)=true then do
          let a <- cellOf env name
          pure (ForInStep.yield ((name,a) :: s))
        else pure (ForInStep.yield s)):Sem (List (Str × Addr)))=pure (X7 env l acc)
  | [],acc,_=>rfl
  | (n,k) :: r,acc,h=>by
    rw [List.forIn_cons];have hr:=fun p hp=>h p (Zr _ hp);by_cases hk:(k == NameKind.free)=true
    · have h1:=h (n,k) Zy (by simpa using hk)
      obtain ⟨c,hc⟩:=Option.isSome_iff_exists.mp h1;have hc:env.cells.lookup n=some c:=hc;have e1:cellOf env n=pure c:=by unfold cellOf; rw [hc]
      simp only [hk,if_true,e1,pure_bind];rw [T9 r _ hr];show _=pure (X7 env r (if (k == .free)=true then (n,(env.cells.lookup n).getD 0) :: acc else acc));rw [if_pos hk,hc];rfl
    · simp only [hk,Bool.false_eq_true,if_false,pure_bind]
      rw [T9 r _ hr];show _=pure (X7 env r (if (k == .free)=true then (n,(env.cells.lookup n).getD 0) :: acc else acc));rw [if_neg hk]
theorem X6 {env:Env}:∀ (l:List (Str × NameKind)) (acc:List (Str × Addr)) (p:Str × Addr),p ∈ X7 env l acc->p ∈ acc\/((p.1,NameKind.free) ∈ l/\p.2=(env.cells.lookup p.1).getD 0)
  | [],acc,p,h=>.inl h
  | (n,k) :: r,acc,p,h=>by
    rcases X6 r _ p h with z | ⟨z,e⟩
    · by_cases hk:(k == NameKind.free)=true
      · rw [if_pos hk] at z
        rcases List.mem_cons.mp z with rfl | z
        · right
          have:k=.free:=by simpa using hk
          subst this;exact ⟨Zy,rfl⟩
        · exact .inl z
      · rw [if_neg hk] at z
        exact .inl z
    · exact .inr ⟨Zr _ z,e⟩
theorem P8 {env:Env}:∀ (l:List (Str × NameKind)) (acc:List (Str × Addr)) (x:Str),((∃ c,(x,c) ∈ acc)\/(x,NameKind.free) ∈ l)->∃ c,(x,c) ∈ X7 env l acc
  | [],acc,x,h=>by
    rcases h with h | h
    · exact h
    · exact absurd h (by simp)
  | (n,k) :: r,acc,x,h=>by
    refine P8 r _ x ?_;rcases h with ⟨c,h⟩ | h
    · left
      by_cases hk:(k == NameKind.free)=true
      · rw [if_pos hk]; exact ⟨c,Zr _ h⟩
      · rw [if_neg hk]; exact ⟨c,h⟩
    · rcases List.mem_cons.mp h with e | h
      · left
        cases e;rw [if_pos (by rfl)];exact ⟨_,Zy⟩
      · exact .inr h
theorem G5 {β:Type} {x:Str}:∀ {l:List (Str × β)} {c:β},(x,c) ∈ l->∃ c',l.lookup x=some c'
  | (n,d) :: r,c,h=>by
    by_cases e:x=n
    · subst e; exact ⟨d,by simp [List.lookup_cons]⟩
    · rcases List.mem_cons.mp h with z | z
      · cases z; exact absurd rfl e
      · obtain ⟨c',q⟩:=G5 z
        refine ⟨c',?_⟩;rw [List.lookup_cons];have:(x == n)=false:=by simpa using e
        rw [this]; exact q
theorem J9 {scope:Scope} {env:Env} {x:Str} {k:NameKind} (hcell:∀ y ∈ scope.names,y.2≠.cell) (h:(relabel scope env).names.lookup x=some k) (hk:k=.cell\/k=.free):(x,NameKind.free) ∈ scope.names:=by
  have h1:=PySem.mem_of_lookup h;obtain ⟨⟨n,k'⟩,hm,e⟩:=List.mem_map.mp (show (x,k) ∈ scope.names.map _ from h1);dsimp only at e;split at e
  · rename_i q
    cases e;simp only [Bool.and_eq_true] at q;have:k'=.free:=by simpa using q.1.1
    subst this;exact hm
  · cases e
    rcases hk with rfl | rfl
    · exact absurd rfl (hcell _ hm)
    · exact hm
theorem G8 {env:Env} {x:Str}:∀ {l:List (Str × NameKind)},l.lookup x=some .free ->
    (l.map fun (n,k)=>if (k == NameKind.free && env.scope.kind == .function && env.kindOf n == some .cell) then (n,NameKind.cell) else (n,k)).lookup x=some .cell \/
    (l.map fun (n,k)=>if (k == NameKind.free && env.scope.kind == .function && env.kindOf n == some .cell) then (n,NameKind.cell) else (n,k)).lookup x=some .free
  | [],h=>by simp at h
  | (n,k) :: r,h=>by
    rw [List.lookup_cons] at h;rw [List.map_cons];dsimp only;by_cases e:(x == n)=true
    · rw [e] at h
      have hk:k=.free:=by simpa using h
      subst hk;by_cases q:(NameKind.free == NameKind.free && env.scope.kind == .function && env.kindOf n == some .cell)=true
      · left; rw [if_pos q,List.lookup_cons,e]
      · right; rw [if_neg q,List.lookup_cons,e]
    · have e':(x == n)=false:=by simpa using e
      rw [e'] at h;have:=G8 (env:=env) h;by_cases q:(k == NameKind.free && env.scope.kind == .function && env.kindOf n == some .cell)=true
      · rw [if_pos q,List.lookup_cons,e']; exact this
      · rw [if_neg q,List.lookup_cons,e']; exact this
theorem V0 {scope:Scope} {env:Env} {x:Str} (h:scope.names.lookup x=some .free):(relabel scope env).names.lookup x=some .cell\/(relabel scope env).names.lookup x=some .free:=G8 h
theorem A8h {X:Cx} {scope:Scope} (N':List Str) (cap:List (Option Nat))
    (h1:scope.names.all (fun p=>!(p.2 == .free) || ((X.env.cells.lookup p.1).isSome && !(X.env.kindOf p.1 == some .local)))=true:=by exact rfl)
    (hk:scope.kind=.function:=by exact rfl) (h2:scope.names.all (fun p=>!(p.2 == .cell))=true:=by exact rfl) (h3:scope.names.all (fun p=>!(p.2 == .local) || scope.names.lookup p.1 == some .local)=true:=by exact rfl)
    (nd:N'.Nodup:=by decide +kernel) (len:cap.length=N'.length:=by exact rfl)
    (h4:(N'.zip cap).all (fun q=>match q.2 with | none=>true | some j=>(X.N[j]? == some q.1) && (scope.names.lookup q.1 == some .free) && (X.env.scope.names.lookup q.1 == some .cell || X.env.scope.names.lookup q.1 == some .free))=true:=by exact rfl) :
    CompSc X scope (X7 X.env scope.names []) N' cap:=by
  have hfree:∀ p ∈ scope.names,p.2=.free->(X.env.cells.lookup p.1).isSome=true/\X.env.kindOf p.1≠some .local:=fun p hp e=>by
    have:=List.all_eq_true.mp h1 p hp;rw [e] at this;have this:((X.env.cells.lookup p.1).isSome && !(X.env.kindOf p.1 == some .local))=true:=this;rw [Bool.and_eq_true] at this;refine ⟨this.1,fun z=>?_⟩;rw [z] at this;exact absurd this.2 (by decide)
  have hcell:∀ y ∈ scope.names,y.2≠.cell:=fun y hy e=>by
    have:=List.all_eq_true.mp h2 y hy;rw [e] at this;exact absurd this (by decide)
  have memsub:∀ x c,(X7 X.env scope.names []).lookup x=some c->(x,NameKind.free) ∈ scope.names/\X.env.cells.lookup x=some c:=fun x c h=>by
    rcases X6 _ _ _ (PySem.mem_of_lookup h) with z | ⟨z,e⟩
    · exact absurd z (by simp)
    · refine ⟨z,?_⟩
      obtain ⟨c',hc'⟩:=Option.isSome_iff_exists.mp (hfree _ z rfl).1;have hc':X.env.cells.lookup x=some c':=hc';have e:c=(X.env.cells.lookup x).getD 0:=e;rw [hc'] at e ⊢;exact congrArg some e.symm
  refine ⟨?_,fun x c h=>(memsub x c h).2,fun x h=>?_,hk,hcell,fun y hy e=>?_,nd,len,fun x c h=>(hfree _ (memsub x c h).1 rfl).2,fun i x j hi hc=>?_⟩
  · unfold closureFor
    show (forIn scope.names [] _ >>= fun r=>pure r)=_;rw [T9 scope.names [] fun p hp e=>(hfree p hp e).1];rfl
  · have hm:(x,NameKind.free) ∈ scope.names:=by
      rcases h with h | h
      · exact J9 hcell h (.inl rfl)
      · exact J9 hcell h (.inr rfl)
    obtain ⟨c,hc⟩:=P8 (env:=X.env) scope.names [] x (.inr hm);exact G5 hc
  · have:=List.all_eq_true.mp h3 y hy
    rw [e] at this;simpa using this
  · have hz:(x,some j) ∈ N'.zip cap:=by
      refine List.mem_iff_getElem?.mpr ⟨i,?_⟩;rw [List.getElem?_zip_eq_some];exact ⟨hi,hc⟩
    have:=List.all_eq_true.mp h4 _ hz;simp only [Bool.and_eq_true,Bool.or_eq_true,beq_iff_eq] at this;obtain ⟨⟨q1,q2⟩,q3⟩:=this;refine ⟨q1,V0 q2,?_,?_⟩
    · rcases q3 with q | q
      · exact .inr (.inl q)
      · exact .inr (.inr q)
    · obtain ⟨c,hc⟩:=P8 (env:=X.env) scope.names [] x (.inr (PySem.mem_of_lookup q2))
      exact G5 hc
section
variable {X:Cx} {scope:Scope} {cl:List (Str × Addr)} {N':List Str} {cap:List (Option Nat)} {elt tg iter:Expr} {ifs:List Expr} {wi:TI} {g:TG} {tt:TT} {te:TE} {pos spos py:Pos} {y:Str} {i:Nat}
end
section
variable {X:Cx} {K:PySem.W.Frag}
theorem B4c {pos:Pos} {es:List Expr} {k:Nat} {t:TGs} {n:Nat} (h:X.K=K) (hc:X.calm=true) (hg:PGs X es t)
    (hn:(assignEach es X.env).length=n:=by rfl) (hst:(assignEach es X.env).findIdx? (·.1)=none:=by rfl):PG X (.Tuple es k pos) (gTup K n t):=by subst h; exact B6t hc hg hn hst
end
end L2
namespace Prf
open PySem L2 My
abbrev Hpp:=L2.Hp
theorem ifD {p:Prop} [Decidable p] {A B:Prop} (h1:p->A) (h2:¬ p->B):if decide p=true then A else B:=by
  by_cases h:p
  · rw [Zk h]; exact h1 h
  · rw [Zd h]; exact h2 h
structure StAt (H:Hpp) (p:Addr):Prop where
  ex:∃ (c m:Int) (f:Bool),H p=some (.lst [.int c,.int m,.bl f])/\0<=m/\m < 2147483648
theorem StAt.same {H H':Hpp} {p:Addr} (h:StAt H p) (e:Same H H'):StAt H' p:=by
  obtain ⟨c,m,f,h,r⟩:=h.ex; exact ⟨c,m,f,e _ _ h,r⟩
theorem StAt.kp {H H':Hpp} {p l:Addr} (h:StAt H p) (n:p≠l) (e:Kp l H H'):StAt H' p:=by
  obtain ⟨c,m,f,h,r⟩:=h.ex; exact ⟨c,m,f,e _ _ n h,r⟩
def A08 (K:PySem.W.Frag):Sp:=fun vs H Q _=>∃ (a:Addr) (ns:List Int) (k:Int),vs=[.ref a,.int k]/\SqL K H a (ns.map V.int)/\0<=k/\k<=63/\∀ p H',H p=none->StAt H' p->Kp p H H'->Q (.ref p) H'
def A38:Sp:=fun vs H Q _=>∃ (p:Addr) (n:Int),vs=[.ref p,.int n]/\StAt H p/\0 < n/\Sm 4000 n/\∀ d H',0<=d->d < n->StAt H' p->Kp p H H'->Q (.int d) H'
def B3p (K:PySem.W.Frag):Sp:=fun vs H Q _=>∃ (a:Addr) (ns:List Int),vs=[.ref a]/\SqL K H a (ns.map V.int)/\ns.length<=63/\∀ H',Q (.bl true) H'
theorem sm32 {m:Int} (h0:0<=m) (h1:m < 2147483648):Sm 8000 m:=Sm.mono (k:=32) (by unfold Sm; omega) (by decide)
theorem Q1 {m:Int} (n:Nat) (h:m.natAbs < 2 ^ 64:=by decide):Sm 8000 m:=Sm.mono (k:=64) h (by decide)
theorem B0r {k:Nat} {t b:Int} (h:Sm k b) (hb:b≠0):Sm k ((Int.gcd t b:Nat):Int):=by
  have h1:Int.gcd t b ∣ b.natAbs:=Nat.gcd_dvd_right _ _;have h2:=Nat.le_of_dvd (by omega) h1;exact h.le (by simpa using h2)
theorem B54 {k:Nat} {t b:Int} (h:Sm k b) (hb:b≠0):Sm k (sh t b):=by
  have h1:Int.gcd t b ∣ b.natAbs:=Nat.gcd_dvd_right _ _;have h2:=Nat.le_of_dvd (by omega) h1;exact h.le (by rw [B59]; exact h2)
end Prf
namespace Prf
open PySem L2 My
theorem N8 (n:Nat) (h:(n:Int)<=1000000:=by decide):CPow 10 (n:Int):=⟨by omega,h,by decide⟩
theorem sm4 (n:Int) (h:n.natAbs < 2 ^ 64:=by decide):Sm 4000 n:=Sm.mono (k:=64) h (by decide)
theorem A09 {k:Int} (h0:0<=k) (h1:k<=63):Sm 8000 k:=sm32 h0 (by omega)
theorem B55 {k:Int} (h0:0<=k) (h1:k<=63):Sm 20 k:=by unfold Sm; omega
theorem B56 (b:Bool):Sm 8000 (if b=true then (1:Int) else 0):=by cases b <;> exact Q1 0
theorem B2m:kitB "tuple" "tuple"=some true:=by decide +kernel
theorem B2w:kitB "int" "bool"=some false:=by decide +kernel
end Prf
namespace Prf
open PySem L2 My
inductive R2L {α:Type} (P:Addr->α->Prop):List V->List α->Prop
  | nil:R2L P [] []
  | cons {a:Addr} {q:α} {rs:List V} {qs:List α}:P a q->R2L P rs qs->R2L P (.ref a :: rs) (q :: qs)
section
variable {α:Type} {P P':Addr->α->Prop}
theorem R2L.get:∀ {rs qs} {i:Nat} {x:V},R2L P rs qs->rs[i]?=some x->∃ a q,x=.ref a/\qs[i]?=some q/\P a q
  | _,_,_,_,.nil,e=>by simp at e
  | _,_,0,_,.cons h _,e=>by simp at e; subst e; exact ⟨_,_,rfl,rfl,h⟩
  | _,_,i + 1,x,.cons _ t,e=>by
    obtain ⟨a,q,h1,h2,h3⟩:=R2L.get (i:=i) (x:=x) t (by simpa using e);exact ⟨a,q,h1,by simpa using h2,h3⟩
end
def dq (q:Rat):PyData:=.tuple [.int q.num,.int q.den]
def dcn (c:Rat × Rat):PyData:=.tuple [dq c.1,dq c.2]
end Prf
set_option maxHeartbeats 4000000
namespace L2
open PySem
theorem SqD.same {K:PySem.W.Frag} {F F':Hp} {a:Addr} {xs:List V} (e:Same F F') (h:SqD K F a xs):SqD K F' a xs:=⟨SqT.same e h.1,h.2.imp (e _ _) id⟩
mutual
theorem Den.same {K:PySem.W.Frag} {F F':Hp} (e:Same F F'):∀ {v:V} {x:PyData},Den K F v x->Den K F' v x
  | _,_,.non=>.non
  | _,_,.bl b=>.bl b
  | _,_,.int i=>.int i
  | _,_,.str x=>.str x
  | _,_,.lst h t=>.lst (e.seq h) (DenAll.same e t)
  | _,_,.tup h t=>.tup (SqD.same e h) (DenAll.same e t)
  | _,_,.dct h=>.dct (e _ _ h)
theorem DenAll.same {K:PySem.W.Frag} {F F':Hp} (e:Same F F'):∀ {vs:List V} {xs:List PyData},DenAll K F vs xs->DenAll K F' vs xs
  | _,_,.nil=>.nil
  | _,_,.cons h t=>.cons (Den.same e h) (DenAll.same e t)
end
section
variable {K:PySem.W.Frag} {F:Hp}
theorem Den.intE {v:V} {i:Int} (h:Den K F v (.int i)):v=.int i:=by cases h; rfl
theorem Den.blE {v:V} {b:Bool} (h:Den K F v (.bool b)):v=.bl b:=by cases h; rfl
theorem Den.nonE {v:V} (h:Den K F v .none):v=.non:=by cases h; rfl
theorem Den.tupE {v:V} {xs:List PyData} (h:Den K F v (.tuple xs)):∃ a vs,v=.ref a/\SqT K F a vs/\DenAll K F vs xs:=by cases h with | tup h t=>exact ⟨_,_,rfl,h.1,t⟩
theorem Den.lstE {v:V} {xs:List PyData} (h:Den K F v (.list xs)):∃ a vs,v=.ref a/\SqL K F a vs/\DenAll K F vs xs:=by cases h; exact ⟨_,_,rfl,‹_›,‹_›⟩
theorem DenAll.len:∀ {vs:List V} {xs:List PyData},DenAll K F vs xs->vs.length=xs.length
  | _,_,.nil=>rfl
  | _,_,.cons _ t=>congrArg (· + 1) (DenAll.len t)
theorem DenAll.get:∀ {vs:List V} {xs:List PyData} {i:Nat} {v:V},DenAll K F vs xs->vs[i]?=some v->∃ x,xs[i]?=some x/\Den K F v x
  | _,_,_,_,.nil,e=>by simp at e
  | _,_,0,_,.cons h _,e=>by simp at e; subst e; exact ⟨_,rfl,h⟩
  | _,_,i + 1,v,.cons _ t,e=>by
    obtain ⟨x,h1,h2⟩:=DenAll.get (i:=i) (v:=v) t (by simpa using e);exact ⟨x,by simpa using h1,h2⟩
theorem DenAll.at:∀ {vs:List V} {xs:List PyData} {i:Nat} {x:PyData},DenAll K F vs xs->xs[i]?=some x->∃ v,vs[i]?=some v/\Den K F v x
  | _,_,_,_,.nil,e=>by simp at e
  | _,_,0,_,.cons h _,e=>by simp at e; subst e; exact ⟨_,rfl,h⟩
  | _,_,i + 1,x,.cons _ t,e=>by
    obtain ⟨v,h1,h2⟩:=DenAll.at (i:=i) (x:=x) t (by simpa using e);exact ⟨v,by simpa using h1,h2⟩
theorem DenAll.app:∀ {vs us:List V} {xs ys:List PyData},DenAll K F vs xs->DenAll K F us ys->DenAll K F (vs++us) (xs++ys)
  | _,_,_,_,.nil,h=>h
  | _,_,_,_,.cons h t,h'=>.cons h (DenAll.app t h')
theorem DenAll.drop:∀ {vs:List V} {xs:List PyData} (n:Nat),DenAll K F vs xs->DenAll K F (vs.drop n) (xs.drop n)
  | _,_,0,h=>by simpa using h
  | _,_,_ + 1,.nil=>by simpa using DenAll.nil
  | _,_,n + 1,.cons _ t=>by simpa using DenAll.drop n t
theorem DenAll.take:∀ {vs:List V} {xs:List PyData} (n:Nat),DenAll K F vs xs->DenAll K F (vs.take n) (xs.take n)
  | _,_,0,_=>by simpa using DenAll.nil
  | _,_,_ + 1,.nil=>by simpa using DenAll.nil
  | _,_,n + 1,.cons h t=>by simpa using DenAll.cons h (DenAll.take n t)
theorem DenAll.rev:∀ {vs:List V} {xs:List PyData},DenAll K F vs xs->DenAll K F vs.reverse xs.reverse
  | _,_,.nil=>.nil
  | _,_,.cons h t=>by rw [List.reverse_cons,List.reverse_cons]; exact (DenAll.rev t).app (.cons h .nil)
theorem DenAll.dropLast {vs:List V} {xs:List PyData} (h:DenAll K F vs xs):DenAll K F vs.dropLast xs.dropLast:=by
  rw [List.dropLast_eq_take,List.dropLast_eq_take,h.len]; exact h.take _
theorem DenAll.atIE {vs:List V} {xs:List PyData} {i:Int} {x:PyData} (h:DenAll K F vs xs) (e:L2.atI xs i=some x):∃ v,L2.atI vs i=some v/\Den K F v x:=by
  unfold L2.atI at *;rw [h.len];cases q:ixN xs.length i with
  | none=>rw [q] at e; cases e
  | some j=>rw [q] at e; exact DenAll.at h e
end
end L2
namespace Pu
open PySem L2 My Prf
abbrev Frag:=PySem.W.Frag
inductive OT where
  | leaf (x:PyData) | nd (b:Bool) (a:Addr) (k:OT) | nil | cons (h t:OT)
def OT.fp:OT->List Addr
  | .leaf _=>[]
  | .nd _ a k=>a :: k.fp
  | .nil=>[]
  | .cons h t=>h.fp++t.fp
def OT.dat:OT->List PyData
  | .leaf x=>[x]
  | .nd true _ k=>[.list k.dat]
  | .nd false _ k=>[.tuple k.dat]
  | .nil=>[]
  | .cons h t=>h.dat++t.dat
def OT.put (a:Addr) (n:OT):OT->OT
  | .leaf x=>.leaf x
  | .nd b a' k=>.nd b a' (if a'=a then n else OT.put a n k)
  | .nil=>.nil
  | .cons h t=>.cons (OT.put a n h) (OT.put a n t)
inductive SV where
  | d (x:PyData) | own (xs:List PyData) | bor (xs:List PyData) | st | tr (t:OT) | bt (t:OT) | al (a:Addr) | dk (ks:List (Str × Int))
def SV.foot (v:V):SV->Addr->Prop
  | .own _,a=>v=.ref a
  | .dk _,a=>v=.ref a
  | .tr t,a=>a ∈ t.fp
  | _,_=>False
def SV.isRes:SV->Bool
  | .bor _=>false
  | .bt _=>false
  | .al _=>false
  | _=>true
abbrev PEnv:=List (Option SV)
structure Wd where
  M:Addr->Prop
  H:Hpp
  F:Hpp
structure Wd.Ok (w:Wd):Prop where
  sub:Same w.F w.H
  st:∀ p,w.M p->StAt w.H p
  nf:∀ p,w.M p->w.F p=none
structure Lw (w w':Wd):Prop where
  f:Same w.F w'.F
  h:∀ b o,w.H b=some o->¬ w.M b->w'.H b=some o
  m:∀ b,w.M b->w'.M b
  mn:∀ b,w'.M b->w.M b\/w.H b=none
  dom:∀ b,w'.H b=none->w.H b=none
structure Le (w w':Wd):Prop extends Lw w w' where
  n:∀ a o,w'.F a=some o->w.F a=some o\/w.H a=none
theorem Lw.refl (w:Wd):Lw w w:=⟨Same.refl _,fun _ _ h _=>h,fun _ h=>h,fun _ h=>.inl h,fun _ h=>h⟩
theorem Le.refl (w:Wd):Le w w:=⟨Lw.refl w,fun _ _ h=>.inl h⟩
theorem Lw.nm {w w':Wd} (a:Lw w w') {b:Addr} (h:w.H b≠none) (n:¬ w.M b):¬ w'.M b:=fun z=>(a.mn b z).elim n h
theorem Lw.trans {w w1 w2:Wd} (a:Lw w w1) (b:Lw w1 w2):Lw w w2 :=
  ⟨a.f.trans b.f,fun c o h n=>b.h c o (a.h c o h n) (a.nm (by rw [h]; simp) n),fun c h=>b.m c (a.m c h),
   fun c h=>(b.mn c h).elim (a.mn c) fun z=>.inr (a.dom c z),fun c h=>a.dom c (b.dom c h)⟩
theorem Le.trans {w w1 w2:Wd} (a:Le w w1) (b:Le w1 w2):Le w w2 :=
  ⟨a.toLw.trans b.toLw,fun c o h=>(b.n c o h).elim (a.n c o) fun z=>.inr (a.dom c z)⟩
theorem Le.fnone {w w':Wd} (a:Le w w') {l:Addr} (h:w.F l=none) (h':w.H l≠none):w'.F l=none:=by
  cases q:w'.F l with
  | none=>rfl
  | some o =>
    rcases a.n l o q with z | z
    · rw [h] at z; cases z
    · exact absurd z h'
structure Ct where
  K:Frag
  w0:Wd
  Z:Addr->Prop
def VV (K:Frag) (w:Wd) (v:V) (x:PyData):Prop:=Den K w.F v x\/∃ l vs xs,v=.ref l/\x=.list xs/\w.H l=some (.lst vs)/\¬ w.M l/\DenAll K w.F vs xs
def ho:Bool->List V->HO
  | true,vs=>.lst vs
  | false,vs=>.tup vs
def Tre (K:Frag) (w:Wd):OT->List V->Prop
  | .leaf x,vs=>∃ v,vs=[v]/\Den K w.F v x
  | .nd b a k,vs=>vs=[.ref a]/\∃ us,w.H a=some (ho b us)/\Tre K w k us
  | .nil,vs=>vs=[]
  | .cons h t,vs=>∃ v r,vs=v :: r/\Tre K w h [v]/\Tre K w t r
theorem Tre.mono {K:Frag} {w w':Wd} (a:Lw w w'):∀ {t:OT} {vs:List V},Tre K w t vs->(∀ a ∈ t.fp,¬ w.M a)->Tre K w' t vs
  | .leaf _,_,⟨v,e,h⟩,_=>⟨v,e,Den.same a.f h⟩
  | .nd _ p _,_,⟨e,us,h,k⟩,n=>⟨e,us,a.h _ _ h (n p (by simp [OT.fp])),Tre.mono a k fun q hq=>n q (by simp [OT.fp,hq])⟩
  | .nil,_,e,_=>e
  | .cons _ _,_,⟨v,r,e,h,t⟩,n=>⟨v,r,e,Tre.mono a h fun q hq=>n q (by simp [OT.fp,hq]),Tre.mono a t fun q hq=>n q (by simp [OT.fp,hq])⟩
theorem Tre.sameF {K:Frag} {M:Addr->Prop} {H F F':Hpp} (e:Same F F'):∀ {t:OT} {vs:List V},Tre K ⟨M,H,F⟩ t vs->Tre K ⟨M,H,F'⟩ t vs
  | .leaf _,_,⟨v,q,h⟩=>⟨v,q,Den.same e h⟩
  | .nd _ _ _,_,⟨q,us,h,k⟩=>⟨q,us,h,Tre.sameF e k⟩
  | .nil,_,q=>q
  | .cons _ _,_,⟨v,r,q,h,t⟩=>⟨v,r,q,Tre.sameF e h,Tre.sameF e t⟩
def VR (c:Ct) (w:Wd) (v:V):SV->Prop
  | .d x=>Den c.K w.F v x
  | .own xs=>∃ l vs,v=.ref l/\w.H l=some (.lst vs)/\w.F l=none/\¬ w.M l/\c.w0.H l=none/\DenAll c.K w.F vs xs
  | .bor xs=>Den c.K w.F v (.list xs)\/∃ l vs,v=.ref l/\c.w0.H l=some (.lst vs)/\¬ c.w0.M l/\DenAll c.K w.F vs xs
  | .st=>∃ p,v=.ref p/\w.M p
  | .tr t=>Tre c.K w t [v]/\(∀ a ∈ t.fp,w.H a≠none/\w.F a=none/\¬ w.M a/\c.w0.H a=none)/\t.fp.Nodup
  | .bt t=>Tre c.K ⟨c.w0.M,c.w0.H,w.F⟩ t [v]/\∀ a ∈ t.fp,¬ c.w0.M a
  | .al a=>v=.ref a
  | .dk ks=>∃ l,v=.ref l/\w.H l=some (.dT (ks.map fun k=>([Sum.inr k.1,Sum.inl k.2],V.bl true)))/\w.F l=none/\¬ w.M l/\c.w0.H l=none
theorem A82 {H:Hpp} {p b:Addr} {o:HO} (h:upd H p o b=none):H b=none:=by
  unfold upd at h; split at h
  · cases h
  · exact h
theorem VR.foot {c:Ct} {w:Wd} {v:V} {a:Addr}:∀ {s:SV},VR c w v s->s.foot v a->w.H a≠none/\w.F a=none/\¬ w.M a/\c.w0.H a=none
  | .own _,⟨l,vs,e,h1,h2,h3,h4,_⟩,f=>by
    have:V.ref l=.ref a:=e.symm.trans f;cases this;exact ⟨by rw [h1]; simp,h2,h3,h4⟩
  | .dk _,⟨l,e,h1,h2,h3,h4⟩,f=>by
    have:V.ref l=.ref a:=e.symm.trans f;cases this;exact ⟨by rw [h1]; simp,h2,h3,h4⟩
  | .tr _,h,f=>h.2.1 a f
theorem VV.mono {K:Frag} {w w':Wd} {v:V} {x:PyData} (a:Lw w w') (h:VV K w v x):VV K w' v x:=by
  rcases h with h | ⟨l,vs,xs,e,e',h1,h2,h3⟩
  · exact .inl (Den.same a.f h)
  · exact .inr ⟨l,vs,xs,e,e',a.h _ _ h1 h2,a.nm (by rw [h1]; simp) h2,DenAll.same a.f h3⟩
theorem VV.den {K:Frag} {w:Wd} {v:V} {x:PyData} (o:w.Ok) (h:VV K w v x):Den K w.H v x:=by
  rcases h with h | ⟨l,vs,xs,e,e',h1,h2,h3⟩
  · exact Den.same o.sub h
  · rw [e,e']; exact .lst (SqL.of h1) (DenAll.same o.sub h3)
theorem VR.mono {c:Ct} {w w':Wd} {v:V} (a:Le w w'):∀ {s:SV},VR c w v s->VR c w' v s
  | .d _,h=>Den.same a.f h
  | .own xs,⟨l,vs,e,h1,h2,h3,h4,h5⟩=>⟨l,vs,e,a.h _ _ h1 h3,a.fnone h2 (by rw [h1]; simp),a.nm (by rw [h1]; simp) h3,h4,DenAll.same a.f h5⟩
  | .bor xs,.inl h=>.inl (Den.same a.f h)
  | .bor xs,.inr ⟨l,vs,e,h1,h2,h3⟩=>.inr ⟨l,vs,e,h1,h2,DenAll.same a.f h3⟩
  | .st,⟨p,e,h⟩=>⟨p,e,a.m p h⟩
  | .bt t,⟨h,o⟩=>⟨h.sameF a.f,o⟩
  | .al _,h=>h
  | .dk _,⟨l,e,h1,h2,h3,h4⟩=>⟨l,e,a.h _ _ h1 h3,a.fnone h2 (by rw [h1]; simp),a.nm (by rw [h1]; simp) h3,h4⟩
  | .tr t,⟨h,o,d⟩=>⟨h.mono a.toLw fun q hq=>(o q hq).2.2.1,fun q hq=>let ⟨h1,h2,h3,h4⟩:=o q hq; ⟨fun z=>h1 (a.dom q z),a.fnone h2 h1,a.nm h1 h3,h4⟩,d⟩
theorem Tre.writ {K:Frag} {w:Wd} {l:Addr} {wo:HO}:∀ {t:OT} {vs:List V},Tre K w t vs->l ∉ t.fp->Tre K ⟨w.M,upd w.H l wo,w.F⟩ t vs
  | .leaf _,_,h,_=>h
  | .nd _ p _,_,⟨e,ys,h,k⟩,n=>⟨e,ys,by show upd w.H l _ p=_; rw [B2 (fun z=>n (by simp [OT.fp,z]))]; exact h,Tre.writ k fun q=>n (by simp [OT.fp,q])⟩
  | .nil,_,e,_=>e
  | .cons _ _,_,⟨v,r,e,h,t⟩,n=>⟨v,r,e,Tre.writ h fun q=>n (by simp [OT.fp,q]),Tre.writ t fun q=>n (by simp [OT.fp,q])⟩
theorem VR.writ {c:Ct} {w:Wd} {v:V} {l:Addr} {wo:HO} (hl:w.H l≠none):∀ {s:SV},VR c w v s->¬ s.foot v l->VR c ⟨w.M,upd w.H l wo,w.F⟩ v s
  | .d _,h,_=>h
  | .own _,⟨l',vs,e,k1,k2,k3,k4,k5⟩,n=>⟨l',vs,e,by show upd w.H l _ l'=_; rw [B2 (fun z=>n (by rw [<- z]; exact e))]; exact k1,k2,k3,k4,k5⟩
  | .bor _,h,_=>h
  | .st,h,_=>h
  | .bt _,h,_=>h
  | .al _,h,_=>h
  | .dk _,⟨l',e,k1,k2,k3,k4⟩,n=>⟨l',e,by show upd w.H l _ l'=_; rw [B2 (fun z=>n (by rw [<- z]; exact e))]; exact k1,k2,k3,k4⟩
  | .tr _,⟨h,o,d⟩,n=>⟨h.writ n,fun a ha=>⟨fun z=>(o a ha).1 (A82 z),(o a ha).2⟩,d⟩
structure EnvOk (c:Ct) (w:Wd) (env:PEnv) (σ:St):Prop where
  wok:w.Ok
  le0:Le c.w0 w
  len:env.length=σ.length
  at':∀ (i:Nat) s,env[i]?=some (some s)->∃ v,σ[i]?=some (some v)/\VR c w v s
  own:∀ (i j:Nat) s t v u a,env[i]?=some (some s)->env[j]?=some (some t)->σ[i]?=some (some v)->σ[j]?=some (some u)->s.foot v a->t.foot u a->i=j
  zf:∀ a,c.Z a->w.F a=none/\w.H a≠none/\¬ w.M a
  zo:∀ a (j:Nat) t u,c.Z a->env[j]?=some (some t)->σ[j]?=some (some u)->¬ t.foot u a
def New (c:Ct) (env:PEnv) (σ:St) (v:V) (s:SV):Prop:=∀ a,s.foot v a->(∀ (j:Nat) t u,env[j]?=some (some t)->σ[j]?=some (some u)->¬ t.foot u a)/\¬ c.Z a
theorem EnvOk.look {c:Ct} {w:Wd} {env:PEnv} {σ:St} (E:EnvOk c w env σ) {j:Nat} {t:SV} {u:V} (h:env[j]?=some (some t)) (hu:σ[j]?=some (some u)):VR c w u t:=by
  obtain ⟨v,h1,h2⟩:=E.at' j t h;rw [hu] at h1; cases h1; exact h2
theorem EnvOk.fresh {c:Ct} {w:Wd} {env:PEnv} {σ:St} (E:EnvOk c w env σ) {p:Addr} (hp:w.H p=none):(∀ (j:Nat) t u,env[j]?=some (some t)->σ[j]?=some (some u)->¬ t.foot u p)/\¬ c.Z p :=
  ⟨fun _ _ _ h hu f=>((E.look h hu).foot f).1 hp,fun z=>(E.zf p z).2.1 hp⟩
theorem Lw.hsome {w w':Wd} (a:Lw w w') {l:Addr} (h:w.H l≠none):w'.H l≠none:=fun z=>h (a.dom l z)
theorem EnvOk.mono {c:Ct} {w w':Wd} {env:PEnv} {σ:St} (E:EnvOk c w env σ) (ok:w'.Ok) (a:Le w w'):EnvOk c w' env σ :=
  ⟨ok,E.le0.trans a,E.len,fun i s e=>let ⟨v,h1,h2⟩:=E.at' i s e; ⟨v,h1,h2.mono a⟩,E.own,fun b z=>let ⟨h1,h2,h3⟩:=E.zf b z; ⟨a.fnone h1 h2,a.hsome h2,a.nm h2 h3⟩,E.zo⟩
structure Res (c:Ct) (w:Wd) (env:PEnv) (σ:St) (w':Wd) (v:V) (s:SV):Prop where
  ev:EnvOk c w' env σ
  lw:Lw w w'
  val:VR c w' v s
  new:New c env σ v s
  res:s.isRes=true
theorem Res.data {c:Ct} {w:Wd} {env:PEnv} {σ:St} {v:V} {x:PyData} (E:EnvOk c w env σ) (h:Den c.K w.F v x):Res c w env σ w v (.d x) :=
  ⟨E,Lw.refl w,h,fun _ e=>(nomatch e),rfl⟩
def Wd.tup (w:Wd) (p:Addr) (o:HO):Wd:=⟨w.M,upd w.H p o,upd w.F p o⟩
def Wd.lay (w:Wd) (p:Addr) (o:HO):Wd:=⟨w.M,upd w.H p o,w.F⟩
theorem Wd.Ok.fnone {w:Wd} (o:w.Ok) {p:Addr} (h:w.H p=none):w.F p=none:=by
  cases q:w.F p with
  | none=>rfl
  | some u=>have:=o.sub p u q; rw [h] at this; cases this
theorem Wd.Ok.mne {w:Wd} (o:w.Ok) {p q:Addr} (h:w.H p=none) (hq:w.M q):q≠p:=by
  obtain ⟨c,m,f,e,_⟩:=(o.st q hq).ex;exact B6 e h
theorem M2 {H:Hpp} {p b:Addr} {o:HO} (h:upd H p o b=none):H b=none:=by
  unfold upd at h; split at h
  · cases h
  · exact h
theorem Wd.tup_ok {w:Wd} {p:Addr} {o:HO} (ok:w.Ok) (h:w.H p=none):(w.tup p o).Ok :=
  ⟨fun b u e=>by
    show upd w.H p o b=some u;have e':upd w.F p o b=some u:=e;unfold upd at e' ⊢;split at e'
    · rename_i z; rw [if_pos z]; exact e'
    · rename_i z; rw [if_neg z]; exact ok.sub b u e',
   fun q hq=>(ok.st q hq).same (Same.upd h),fun q hq=>by
    show upd w.F p o q=none;rw [B2 (ok.mne h hq)]; exact ok.nf q hq⟩
theorem Wd.lay_ok {w:Wd} {p:Addr} {o:HO} (ok:w.Ok) (h:w.H p=none):(w.lay p o).Ok :=
  ⟨ok.sub.trans (Same.upd h),fun q hq=>(ok.st q hq).same (Same.upd h),ok.nf⟩
theorem Wd.tup_le {w:Wd} {p:Addr} {o:HO} (ok:w.Ok) (h:w.H p=none):Le w (w.tup p o) :=
  ⟨⟨Same.upd (ok.fnone h),fun b u e _=>Same.upd h b u e,fun _ z=>z,fun _ z=>.inl z,fun b z=>M2 z⟩,fun a u e=>by
    have e':upd w.F p o a=some u:=e;unfold upd at e';split at e'
    · rename_i z; rw [z]; exact .inr h
    · exact .inl e'⟩
theorem Wd.lay_le {w:Wd} {p:Addr} {o:HO} (h:w.H p=none):Le w (w.lay p o) :=
  ⟨⟨Same.refl _,fun b u e _=>Same.upd h b u e,fun _ z=>z,fun _ z=>.inl z,fun b z=>M2 z⟩,fun a u e=>.inl e⟩
theorem Res.tup {c:Ct} {w:Wd} {env:PEnv} {σ:St} {p:Addr} {vs:List V} {xs:List PyData} (E:EnvOk c w env σ) (h:w.H p=none) (hd:DenAll c.K w.F vs xs):Res c w env σ (w.tup p (.tup vs)) (.ref p) (.d (.tuple xs)) :=
  ⟨E.mono (Wd.tup_ok E.wok h) (Wd.tup_le E.wok h),(Wd.tup_le E.wok h).toLw,.tup (SqD.of B4) (DenAll.same (Wd.tup_le E.wok h).f hd),fun _ e=>(nomatch e),rfl⟩
theorem Res.lst {c:Ct} {w:Wd} {env:PEnv} {σ:St} {p:Addr} {vs:List V} {xs:List PyData} (E:EnvOk c w env σ) (h:w.H p=none) (hd:DenAll c.K w.F vs xs):Res c w env σ (w.lay p (.lst vs)) (.ref p) (.own xs) :=
  ⟨E.mono (Wd.lay_ok E.wok h) (Wd.lay_le h),(Wd.lay_le h).toLw,⟨p,vs,rfl,B4,E.wok.fnone h,fun z=>E.wok.mne h z rfl,E.le0.dom p h,hd⟩,
   fun a f=>(by
    have:V.ref p=.ref a:=f;cases this;exact E.fresh h),rfl⟩
theorem Res.frz {c:Ct} {w w1:Wd} {env:PEnv} {σ:St} {v:V} {xs:List PyData} (R:Res c w env σ w1 v (.own xs)):∃ w',w'.H=w1.H/\EnvOk c w' env σ/\Lw w w'/\Den c.K w'.F v (.list xs):=by
  obtain ⟨E,lw,⟨l,vs,e,h1,h2,h3,h4,h5⟩,new,_⟩:=R;subst e;obtain ⟨n1,n2⟩:=new l rfl;have up:Same w1.F (upd w1.F l (.lst vs)):=Same.upd h2;have lw':Lw w1 ⟨w1.M,w1.H,upd w1.F l (.lst vs)⟩:=⟨up,fun _ _ h _=>h,fun _ h=>h,fun _ h=>.inl h,fun _ h=>h⟩;refine ⟨⟨w1.M,w1.H,upd w1.F l (.lst vs)⟩,rfl,⟨⟨fun b u q=>?_,E.wok.st,fun p hp=>?_⟩,⟨E.le0.toLw.trans lw',fun a u q=>?_⟩,E.len,fun i s q=>?_,E.own,fun a za=>?_,E.zo⟩,lw.trans lw',.lst (SqL.of B4) (DenAll.same up h5)⟩
  · have q':upd w1.F l (.lst vs) b=some u:=q
    unfold upd at q';split at q'
    · rename_i z; rw [z]; exact h1.trans q'
    · exact E.wok.sub b u q'
  · show upd w1.F l (.lst vs) p=none
    rw [B2 (fun z=>h3 (by rw [<- z]; exact hp))]; exact E.wok.nf p hp
  · have q':upd w1.F l (.lst vs) a=some u:=q
    unfold upd at q';split at q'
    · rename_i z; rw [z]; exact .inr h4
    · exact E.le0.n a u q'
  · obtain ⟨v,g1,g2⟩:=E.at' i s q
    refine ⟨v,g1,?_⟩;cases s with
    | d x=>exact Den.same up g2
    | own ys =>
      obtain ⟨l',us,e',k1,k2,k3,k4,k5⟩:=g2;subst e';refine ⟨l',us,rfl,k1,?_,k3,k4,DenAll.same up k5⟩;show upd w1.F l (.lst vs) l'=none;rw [B2 (fun z=>n1 i _ _ q g1 (by subst z; rfl))]; exact k2
    | bor ys =>
      rcases g2 with g | ⟨l',us,e',k1,k2,k3⟩
      · exact .inl (Den.same up g)
      · exact .inr ⟨l',us,e',k1,k2,DenAll.same up k3⟩
    | st=>exact g2
    | bt t=>exact ⟨g2.1.sameF up,g2.2⟩
    | al a=>exact g2
    | dk ks =>
      obtain ⟨l',e',k1,k2,k3,k4⟩:=g2;subst e';refine ⟨l',rfl,k1,?_,k3,k4⟩;show upd w1.F l (.lst vs) l'=none;rw [B2 (fun z=>n1 i _ _ q g1 (by subst z; rfl))]; exact k2
    | tr t =>
      obtain ⟨k1,k2,k3⟩:=g2;refine ⟨k1.mono lw' fun p hp=>(k2 p hp).2.2.1,fun p hp=>⟨(k2 p hp).1,?_,(k2 p hp).2.2⟩,k3⟩;show upd w1.F l (.lst vs) p=none;rw [B2 (fun z=>n1 i _ _ q g1 (by subst z; exact hp))]; exact (k2 p hp).2.1
  · obtain ⟨z1,z2,z3⟩:=E.zf a za
    refine ⟨?_,z2,z3⟩;show upd w1.F l (.lst vs) a=none;rw [B2 (fun z=>n2 (by subst z; exact za))]; exact z1
theorem EnvOk.set {c:Ct} {w:Wd} {env:PEnv} {σ:St} {v:V} {s:SV} {i:Nat} (E:EnvOk c w env σ) (h:VR c w v s) (new:New c env σ v s) :
    EnvOk c w (env.set i (some s)) (σ.set i (some v)):=by
  have hl:=E.len;have hd:∀ {j:Nat} {t:SV} {u:V},(env.set i (some s))[j]?=some (some t)->(σ.set i (some v))[j]?=some (some u)->(i=j/\t=s/\u=v)\/(i≠j/\env[j]?=some (some t)/\σ[j]?=some (some u)):=by
    intro j t u q q';rw [List.getElem?_set] at q q';by_cases e:i=j
    · subst e
      rw [if_pos rfl] at q q';split at q
      · rename_i z
        rw [if_pos (by omega)] at q';cases q; cases q'; exact .inl ⟨rfl,rfl,rfl⟩
      · cases q
    · rw [if_neg e] at q q'
      exact .inr ⟨e,q,q'⟩
  refine ⟨E.wok,E.le0,by simpa using hl,fun j t q=>?_,fun j k s1 t1 v1 u1 a q1 q2 q3 q4 f1 f2=>?_,E.zf,fun a j t u za q q'=>?_⟩
  · rw [List.getElem?_set] at q ⊢
    by_cases e:i=j
    · subst e
      rw [if_pos rfl] at q ⊢;split at q
      · rename_i z
        rw [if_pos (by omega)];cases q;exact ⟨v,rfl,h⟩
      · cases q
    · rw [if_neg e] at q ⊢
      exact E.at' j t q
  · rcases hd q1 q3 with ⟨e1,rfl,rfl⟩ | ⟨e1,p1,p3⟩
    · rcases hd q2 q4 with ⟨e2,rfl,rfl⟩ | ⟨e2,q2,q4⟩
      · exact e1.symm.trans e2
      · exact absurd f2 ((new a f1).1 k _ _ q2 q4)
    · rcases hd q2 q4 with ⟨e2,rfl,rfl⟩ | ⟨e2,p2,p4⟩
      · exact absurd f1 ((new a f2).1 j _ _ p1 p3)
      · exact E.own j k _ _ _ _ a p1 p2 p3 p4 f1 f2
  · rcases hd q q' with ⟨_,rfl,rfl⟩ | ⟨_,q,q'⟩
    · exact fun f=>(new a f).2 za
    · exact E.zo a j t u za q q'
end Pu
namespace Pu
open PySem L2 My Prf
abbrev PX:=PEnv->(SV->PEnv->Prop)->Prop
abbrev PDt:=PEnv->(PyData->PEnv->Prop)->Prop
abbrev PTt:=PEnv->(Bool->PEnv->Prop)->Prop
abbrev PAr:=PEnv->(List PyData->PEnv->Prop)->Prop
abbrev PAs:=PEnv->(List SV->PEnv->Prop)->Prop
theorem Res.pre {c:Ct} {w w1 w2:Wd} {env:PEnv} {σ:St} {v:V} {s:SV} (a:Lw w w1) (R:Res c w1 env σ w2 v s):Res c w env σ w2 v s:=⟨R.ev,a.trans R.lw,R.val,R.new,R.res⟩
class RE (K:Frag) (te:TE) (pe:outParam PX):Prop where
  ok:∀ (c:Ct) (w:Wd) (env:PEnv) (σ:St) (Qp:SV->PEnv->Prop) (Q:VK),c.K=K->EnvOk c w env σ->pe env Qp->(∀ v s env' w',Res c w env' σ w' v s->Qp s env'->Q v w'.H)->te σ w.H Q
class RD (K:Frag) (te:TE) (pd:outParam PDt):Prop where
  ok:∀ (c:Ct) (w:Wd) (env:PEnv) (σ:St) (Qp:PyData->PEnv->Prop) (Q:VK),c.K=K->EnvOk c w env σ->pd env Qp->(∀ v x env' w',EnvOk c w' env' σ->Lw w w'->Den K w'.F v x->Qp x env'->Q v w'.H)->te σ w.H Q
class RW (K:Frag) (te:TE) (pd:outParam PDt):Prop where
  ok:∀ (c:Ct) (w:Wd) (env:PEnv) (σ:St) (Qp:PyData->PEnv->Prop) (Q:VK),c.K=K->EnvOk c w env σ->pd env Qp->(∀ v x env' w',EnvOk c w' env' σ->Lw w w'->VV K w' v x->Qp x env'->Q v w'.H)->te σ w.H Q
def SV.asD (s:SV) (k:PyData->Prop):Prop:=match s with
  | .d x=>k x
  | .own xs=>k (.list xs)
  | _=>False
def pdat (pe:PX) (env:PEnv) (Q:PyData->PEnv->Prop):Prop:=pe env fun s e=>s.asD fun x=>Q x e
instance B9h {K:Frag} {te:TE} {pe:PX} [h:RE K te pe]:RD K te (pdat pe) where
  ok:=by
    rintro c w env σ Qp Q rfl E p k;refine h.ok c w env σ _ Q rfl E p fun v s env' w' R q=>?_;cases s with
    | d x=>exact k v x env' w' R.ev R.lw R.val q
    | own xs =>
      obtain ⟨w2,e,E2,l2,d2⟩:=R.frz;rw [<- e];exact k v _ env' w2 E2 l2 d2 q
    | bor xs=>exact (show False from q).elim
    | st=>exact (show False from q).elim
    | tr t=>exact (show False from q).elim
    | bt t=>exact (show False from q).elim
    | al t=>exact (show False from q).elim
    | dk t=>exact (show False from q).elim
instance (priority:=low) rw_of {K:Frag} {te:TE} {pd:PDt} [h:RD K te pd]:RW K te pd where
  ok:=fun c w env σ Qp Q e E p k=>h.ok c w env σ Qp Q e E p fun v x env' w' E' l d q=>k v x env' w' E' l (.inl d) q
def pVar (i:Nat) (env:PEnv) (Q:SV->PEnv->Prop):Prop:=match env[i]? with
  | some (some (.d x))=>Q (.d x) env
  | some (some (.own xs))=>Q (.d (.list xs)) (env.set i (some (.d (.list xs))))
  | some (some .st)=>Q .st env
  | _=>False
def B4j (i:Nat) (env:PEnv) (Q:PyData->PEnv->Prop):Prop:=match env[i]? with
  | some (some (.d x))=>Q x env
  | some (some (.own xs))=>Q (.list xs) env
  | some (some (.bor xs))=>Q (.list xs) env
  | _=>False
theorem EnvOk.frz {c:Ct} {w:Wd} {env:PEnv} {σ:St} {i:Nat} {xs:List PyData} (E:EnvOk c w env σ) (h:env[i]?=some (some (.own xs))) :
    ∃ w' v,w'.H=w.H/\σ[i]?=some (some v)/\EnvOk c w' (env.set i (some (.d (.list xs)))) σ/\Lw w w'/\Den c.K w'.F v (.list xs):=by
  obtain ⟨v,hv,hV⟩:=E.at' i _ h;have hV':=hV;obtain ⟨l,vs,e,h1,h2,h3,h4,h5⟩:=hV';have up:∀ {j:Nat} {t:SV},(env.set i none)[j]?=some (some t)->i≠j/\env[j]?=some (some t):=by
    intro j t q;rw [List.getElem?_set] at q;split at q
    · split at q <;> cases q
    · rename_i z; exact ⟨z,q⟩
  have E':EnvOk c w (env.set i none) σ:=⟨E.wok,E.le0,by simpa using E.len,fun j s q=>E.at' j s (up q).2,fun j k s t v u a q1 q2=>E.own j k s t v u a (up q1).2 (up q2).2,E.zf,fun a j t u za q=>E.zo a j t u za (up q).2⟩;have R:Res c w (env.set i none) σ w v (.own xs):=⟨E',Lw.refl w,hV,fun a f=>⟨fun j t u q z g=>(up q).1 (E.own i j _ _ _ _ a h (up q).2 hv z f g),fun za=>E.zo a i _ _ za h hv f⟩,rfl⟩;obtain ⟨w',e',E2,l2,d2⟩:=R.frz;refine ⟨w',v,e',hv,?_,l2,d2⟩;have E3:=E2.set (i:=i) (v:=v) (s:=.d (.list xs)) d2 (fun _ z=>nomatch z);rw [List.set_set] at E3;have hi:i < σ.length:=(Zs hv).1
  rwa [show σ.set i (some v)=σ by
    refine List.ext_getElem? fun j=>?_;rw [List.getElem?_set];split
    · rename_i z; subst z; simp [hv]
    · rfl] at E3
instance re_var {K:Frag} {i:Nat}:RE K (tVar i) (pVar i) where
  ok:=by
    rintro c w env σ Qp Q rfl E p k;unfold pVar at p;split at p
    · rename_i x e
      obtain ⟨v,h1,h2⟩:=E.at' i _ e;exact ⟨v,h1,k v _ env w (Res.data E h2) p⟩
    · rename_i xs e
      obtain ⟨w',v,e',hv,E',l,d⟩:=E.frz e;refine ⟨v,hv,?_⟩;rw [<- e'];exact k v (.d (.list xs)) _ w' ⟨E',l,d,fun _ z=>(nomatch z),rfl⟩ p
    · rename_i e
      obtain ⟨v,h1,h2⟩:=E.at' i _ e;exact ⟨v,h1,k v _ env w ⟨E,Lw.refl w,h2,fun _ z=>(nomatch z),rfl⟩ p⟩
    · exact p.elim
theorem VR.vv {c:Ct} {w:Wd} {v:V} {xs:List PyData} (l:Le c.w0 w) (h:VR c w v (.bor xs)):VV c.K w v (.list xs):=by
  rcases h with h | ⟨l',vs,e,h1,h2,h3⟩
  · exact .inl h
  · exact .inr ⟨l',vs,xs,e,rfl,l.h _ _ h1 h2,l.nm (by rw [h1]; simp) h2,h3⟩
instance rw_var {K:Frag} {i:Nat}:RW K (tVar i) (B4j i) where
  ok:=by
    rintro c w env σ Qp Q rfl E p k;unfold B4j at p;split at p
    · rename_i x e
      obtain ⟨v,h1,h2⟩:=E.at' i _ e;exact ⟨v,h1,k v _ env w E (Lw.refl w) (.inl h2) p⟩
    · rename_i xs e
      obtain ⟨v,h1,l,vs,e',g1,g2,g3,g4,g5⟩:=E.at' i _ e;exact ⟨v,h1,k v _ env w E (Lw.refl w) (.inr ⟨l,vs,xs,e',rfl,g1,g3,g5⟩) p⟩
    · rename_i xs e
      obtain ⟨v,h1,h2⟩:=E.at' i _ e;exact ⟨v,h1,k v _ env w E (Lw.refl w) (h2.vv E.le0) p⟩
    · exact p.elim
def pC (x:PyData) (env:PEnv) (Q:SV->PEnv->Prop):Prop:=Q (.d x) env
theorem O1 {K:Frag} {v:V} {x:PyData} (h:∀ F,Den K F v x):RE K (tC v) (pC x) where
  ok:=by
    rintro c w env σ Qp Q rfl E p k;exact k _ _ env w (Res.data E (h _)) p
instance re_int {K:Frag} {i:Int}:RE K (tC (.int i)) (pC (.int i)):=O1 fun _=>.int i
instance re_bl {K:Frag} {b:Bool}:RE K (tC (.bl b)) (pC (.bool b)):=O1 fun _=>.bl b
instance re_non {K:Frag}:RE K (tC .non) (pC .none):=O1 fun _=>.non
instance re_str {K:Frag} {x:Str}:RE K (tC (.str x)) (pC (.str x)):=O1 fun _=>.str x
class RO (K:Frag) (r:R2) (pr:outParam (PyData->PyData->(SV->Prop)->Prop)):Prop where
  ok:∀ (c:Ct) (w:Wd) (env:PEnv) (σ:St) (x y:V) (dx dy:PyData) (Qp:SV->Prop) (Q:VK),c.K=K->EnvOk c w env σ->VV K w x dx->VV K w y dy->pr dx dy Qp->(∀ v s w',Res c w env σ w' v s->Qp s->Q v w'.H)->r x y w.H Q
def pOp (pr:PyData->PyData->(SV->Prop)->Prop) (pa pb:PDt) (env:PEnv) (Q:SV->PEnv->Prop):Prop:=pa env fun x e1=>pb e1 fun y e2=>pr x y fun s=>Q s e2
instance re_op {K:Frag} {r:R2} {ta tb:TE} {pr:PyData->PyData->(SV->Prop)->Prop} {pa pb:PDt} [h:RO K r pr] [ha:RW K ta pa] [hb:RW K tb pb]:RE K (tOp r ta tb) (pOp pr pa pb) where
  ok:=by
    rintro c w env σ Qp Q rfl E p k;refine ha.ok c w env σ _ _ rfl E p fun x dx e1 w1 E1 l1 v1 q1=>?_;refine hb.ok c w1 e1 σ _ _ rfl E1 q1 fun y dy e2 w2 E2 l2 v2 q2=>?_;exact h.ok c w2 e2 σ x y dx dy _ _ rfl E2 (v1.mono l2) v2 q2 fun v s w' R q=>k v s e2 w' (R.pre (l1.trans l2)) q
class SG (g:Int->Int->V) (gd:outParam (Int->Int->PyData)):Prop where
  ok:∀ i j K F,Den K F (g i j) (gd i j)
instance sg_int {f:Int->Int->Int}:SG (fun i j=>.int (f i j)) (fun i j=>.int (f i j)):=⟨fun _ _ _ _=>.int _⟩
instance sg_bl {f:Int->Int->Bool}:SG (fun i j=>.bl (f i j)) (fun i j=>.bool (f i j)):=⟨fun _ _ _ _=>.bl _⟩
def pI (C:Int->Int->Prop) (gd:Int->Int->PyData) (x y:PyData) (Q:SV->Prop):Prop:=match x,y with
  | .int i,.int j=>C i j/\Q (.d (gd i j))
  | _,_=>False
def pI0 (gd:Int->Int->PyData) (x y:PyData) (Q:SV->Prop):Prop:=match x,y with
  | .int i,.int j=>Q (.d (gd i j))
  | _,_=>False
theorem VV.intE {K:Frag} {w:Wd} {v:V} {i:Int} (h:VV K w v (.int i)):v=.int i:=by
  rcases h with h | ⟨l,vs,xs,e,e',_⟩
  · exact h.intE
  · cases e'
theorem VV.blE {K:Frag} {w:Wd} {v:V} {b:Bool} (h:VV K w v (.bool b)):v=.bl b:=by
  rcases h with h | ⟨l,vs,xs,e,e',_⟩
  · exact h.blE
  · cases e'
instance ro_I {K:Frag} {C:Int->Int->Prop} {g:Int->Int->V} {gd:Int->Int->PyData} [s:SG g gd]:RO K (rI C g) (pI C gd) where
  ok:=by
    rintro c w env σ x y dx dy Qp Q rfl E vx vy p k;unfold pI at p;split at p
    · rename_i i j
      exact ⟨i,j,vx.intE,vy.intE,p.1,k _ _ w (Res.data E (s.ok i j _ _)) p.2⟩
    · exact p.elim
instance ro_I0 {K:Frag} {g:Int->Int->V} {gd:Int->Int->PyData} [s:SG g gd]:RO K (rI0 g) (pI0 gd) where
  ok:=by
    rintro c w env σ x y dx dy Qp Q rfl E vx vy p k;unfold pI0 at p;split at p
    · rename_i i j
      exact ⟨i,j,vx.intE,vy.intE,k _ _ w (Res.data E (s.ok i j _ _)) p⟩
    · exact p.elim
def pEqD (x y:PyData) (Q:SV->Prop):Prop:=x.canLay0=true/\y.canLay0=true/\x.depth<=60/\Q (.d (.bool (PyData.eqv x y)))
def pNeD (x y:PyData) (Q:SV->Prop):Prop:=x.canLay0=true/\y.canLay0=true/\x.depth<=60/\Q (.d (.bool (!PyData.eqv x y)))
def isNo:PyData->Bool
  | .none=>true
  | _=>false
def rIsN:R2:=fun x y H Q=>y=.non/\Q (.bl (decide (x=.non))) H
theorem N1 {X:Cx}:OpR X (compareOp .Is) rIsN:=B7u
theorem Den.no {K:Frag} {F:Hpp} {v:V} {x:PyData} (h:Den K F v x):decide (v=.non)=isNo x:=by cases h <;> rfl
theorem VV.no {K:Frag} {w:Wd} {v:V} {x:PyData} (h:VV K w v x):decide (v=.non)=isNo x:=by
  rcases h with h | ⟨l,vs,xs,e,e',_⟩
  · exact Den.no h
  · subst e; subst e'; rfl
def pIsN (x y:PyData) (Q:SV->Prop):Prop:=y=.none/\Q (.d (.bool (isNo x)))
def B7a (x y:PyData) (Q:SV->Prop):Prop:=y=.none/\Q (.d (.bool (!isNo x)))
theorem VV.nonE {K:Frag} {w:Wd} {v:V} (h:VV K w v .none):v=.non:=by
  rcases h with h | ⟨l,vs,xs,e,e',_⟩
  · exact h.nonE
  · cases e'
instance ro_isN {K:Frag}:RO K rIsN pIsN where
  ok:=by
    rintro c w env σ x y dx dy Qp Q rfl E vx vy ⟨rfl,p⟩ k;refine ⟨vy.nonE,k _ _ w (Res.data E ?_) p⟩;rw [vx.no]; exact .bl _
def pGet (xs:List PyData) (i:Int) (Q:SV->Prop):Prop:=match atI xs i with
  | some z=>Q (.d z)
  | none=>False
def pIx (x y:PyData) (Q:SV->Prop):Prop:=match x,y with
  | .list xs,.int i=>pGet xs i Q
  | .tuple xs,.int i=>pGet xs i Q
  | _,_=>False
theorem VV.lst {K:Frag} {w:Wd} {v:V} {xs:List PyData} (o:w.Ok) (h:VV K w v (.list xs)):∃ a vs,v=.ref a/\SqL K w.H a vs/\DenAll K w.F vs xs:=by
  rcases h with h | ⟨l,vs,ys,e,e',h1,h2,h3⟩
  · obtain ⟨a,vs,e,h1,h2⟩:=h.lstE
    exact ⟨a,vs,e,o.sub.seq h1,h2⟩
  · cases e'; exact ⟨l,vs,e,SqL.of h1,h3⟩
theorem VV.tup {K:Frag} {w:Wd} {v:V} {xs:List PyData} (o:w.Ok) (h:VV K w v (.tuple xs)):∃ a vs,v=.ref a/\SqT K w.H a vs/\DenAll K w.F vs xs:=by
  rcases h with h | ⟨l,vs,ys,e,e',h1,h2,h3⟩
  · obtain ⟨a,vs,e,h1,h2⟩:=h.tupE
    exact ⟨a,vs,e,SqT.same o.sub h1,h2⟩
  · cases e'
instance ro_ix {K:Frag}:RO K (rIx K) pIx where
  ok:=by
    rintro c w env σ x y dx dy Qp Q rfl E vx vy p k;unfold pIx at p;split at p
    · rename_i xs i
      unfold pGet at p;split at p
      · rename_i z hz
        obtain ⟨a,vs,e,h1,h2⟩:=vx.lst E.wok;obtain ⟨v,g1,g2⟩:=h2.atIE hz;exact .inl ⟨a,vs,i,v,e,vy.intE,h1,g1,k _ _ w (Res.data E g2) p⟩
      · exact p.elim
    · rename_i xs i
      unfold pGet at p;split at p
      · rename_i z hz
        obtain ⟨a,vs,e,h1,h2⟩:=vx.tup E.wok;obtain ⟨v,g1,g2⟩:=h2.atIE hz;exact .inr (.inl ⟨a,vs,i,v,e,vy.intE,h1,g1,k _ _ w (Res.data E g2) p⟩)
      · exact p.elim
    · exact p.elim
theorem B5c {X:Cx} {K:Frag} (h:X.K=K):IxR X (rIx K):=by subst h; exact B8p
def pU (gd:Int->PyData) (x:PyData) (Q:SV->Prop):Prop:=match x with
  | .int i=>Q (.d (gd i))
  | _=>False
def pUn (f:PyData->(SV->Prop)->Prop) (pa:PDt) (env:PEnv) (Q:SV->PEnv->Prop):Prop:=pa env fun x e=>f x fun s=>Q s e
instance re_neg {K:Frag} {ta:TE} {pa:PDt} {f:Int->Int} [ha:RW K ta pa]:RE K (tUn (rU fun i=>.int (f i)) ta) (pUn (pU fun i=>.int (f i)) pa) where
  ok:=by
    rintro c w env σ Qp Q rfl E p k;refine ha.ok c w env σ _ _ rfl E p fun x dx e1 w1 E1 l1 v1 q1=>?_;unfold pU at q1;split at q1
    · rename_i i
      exact ⟨i,v1.intE,k _ _ e1 w1 ((Res.data E1 (.int _)).pre l1) q1⟩
    · exact q1.elim
inductive VVs (K:Frag) (w:Wd):List V->List PyData->Prop
  | nil:VVs K w [] []
  | cons {v:V} {x:PyData} {vs:List V} {xs:List PyData}:VV K w v x->VVs K w vs xs->VVs K w (v :: vs) (x :: xs)
class RAv (K:Frag) (ta:TA) (pa:outParam PAr):Prop where
  ok:∀ (c:Ct) (w:Wd) (env:PEnv) (σ:St) (Qp:List PyData->PEnv->Prop) (Q:List V->Hpp->Prop),c.K=K->EnvOk c w env σ->pa env Qp->(∀ vs xs env' w',EnvOk c w' env' σ->Lw w w'->VVs K w' vs xs->Qp xs env'->Q vs w'.H)->ta σ w.H Q
class RAd (K:Frag) (ta:TA) (pa:outParam PAr):Prop where
  ok:∀ (c:Ct) (w:Wd) (env:PEnv) (σ:St) (Qp:List PyData->PEnv->Prop) (Q:List V->Hpp->Prop),c.K=K->EnvOk c w env σ->pa env Qp->(∀ vs xs env' w',EnvOk c w' env' σ->Lw w w'->DenAll K w'.F vs xs->Qp xs env'->Q vs w'.H)->ta σ w.H Q
def pNil (env:PEnv) (Q:List PyData->PEnv->Prop):Prop:=Q [] env
def A9q (pa:PDt) (pr:PAr) (env:PEnv) (Q:List PyData->PEnv->Prop):Prop:=pa env fun x e1=>pr e1 fun xs e2=>Q (x :: xs) e2
instance rav_nil {K:Frag}:RAv K tNil pNil:=⟨fun c w env σ Qp Q _ E p k=>k [] [] env w E (Lw.refl w) .nil p⟩
instance rad_nil {K:Frag}:RAd K tNil pNil:=⟨fun c w env σ Qp Q _ E p k=>k [] [] env w E (Lw.refl w) .nil p⟩
instance rav_cons {K:Frag} {ta:TE} {tr:TA} {pa:PDt} {pr:PAr} [ha:RW K ta pa] [hr:RAv K tr pr]:RAv K (E6 ta tr) (A9q pa pr) where
  ok:=by
    rintro c w env σ Qp Q rfl E p k;refine ha.ok c w env σ _ _ rfl E p fun x dx e1 w1 E1 l1 v1 q1=>?_;refine hr.ok c w1 e1 σ _ _ rfl E1 q1 fun vs xs e2 w2 E2 l2 v2 q2=>?_;exact k _ _ e2 w2 E2 (l1.trans l2) (.cons (v1.mono l2) v2) q2
instance rad_cons {K:Frag} {ta:TE} {tr:TA} {pa:PDt} {pr:PAr} [ha:RD K ta pa] [hr:RAd K tr pr]:RAd K (E6 ta tr) (A9q pa pr) where
  ok:=by
    rintro c w env σ Qp Q rfl E p k;refine ha.ok c w env σ _ _ rfl E p fun x dx e1 w1 E1 l1 v1 q1=>?_;refine hr.ok c w1 e1 σ _ _ rfl E1 q1 fun vs xs e2 w2 E2 l2 v2 q2=>?_;exact k _ _ e2 w2 E2 (l1.trans l2) (.cons (Den.same l2.f v1) v2) q2
def pTup (pa:PAr) (env:PEnv) (Q:SV->PEnv->Prop):Prop:=pa env fun xs e=>xs.length<=1000/\Q (.d (.tuple xs)) e
def pLst (pa:PAr) (env:PEnv) (Q:SV->PEnv->Prop):Prop:=pa env fun xs e=>xs.length<=1000/\Q (.own xs) e
instance re_tup {K:Frag} {ta:TA} {pa:PAr} [ha:RAd K ta pa]:RE K (tTup ta) (pTup pa) where
  ok:=by
    rintro c w env σ Qp Q rfl E p k;refine ha.ok c w env σ _ _ rfl E p fun vs xs e1 w1 E1 l1 v1 q1=>⟨?_,fun p hp=>?_⟩
    · rw [v1.len]; exact Nat.le_of_lt (U7 q1.1)
    · exact k _ _ e1 _ ((Res.tup E1 hp v1).pre l1) q1.2
instance re_lst {K:Frag} {ta:TA} {pa:PAr} [ha:RAd K ta pa]:RE K (tLst ta) (pLst pa) where
  ok:=by
    rintro c w env σ Qp Q rfl E p k;refine ha.ok c w env σ _ _ rfl E p fun vs xs e1 w1 E1 l1 v1 q1=>⟨?_,fun p hp=>?_⟩
    · rw [v1.len]; exact Nat.le_of_lt (U7 q1.1)
    · exact k _ _ e1 _ ((Res.lst E1 hp v1).pre l1) q1.2
class RB (K:Frag) (r:List V->Hpp->VK->Prop) (pr:outParam (List PyData->(SV->Prop)->Prop)):Prop where
  ok:∀ (c:Ct) (w:Wd) (env:PEnv) (σ:St) (vs:List V) (xs:List PyData) (Qp:SV->Prop) (Q:VK),c.K=K->EnvOk c w env σ->VVs K w vs xs->pr xs Qp->(∀ v s w',Res c w env σ w' v s->Qp s->Q v w'.H)->r vs w.H Q
def pCB (pr:List PyData->(SV->Prop)->Prop) (pa:PAr) (env:PEnv) (Q:SV->PEnv->Prop):Prop:=pa env fun xs e=>pr xs fun s=>Q s e
instance re_cb {K:Frag} {r:List V->Hpp->VK->Prop} {ta:TA} {pr:List PyData->(SV->Prop)->Prop} {pa:PAr} [h:RB K r pr] [ha:RAv K ta pa]:RE K (tCB r ta) (pCB pr pa) where
  ok:=by
    rintro c w env σ Qp Q rfl E p k;refine ha.ok c w env σ _ _ rfl E p fun vs xs e1 w1 E1 l1 v1 q1=>?_;exact h.ok c w1 e1 σ vs xs _ _ rfl E1 v1 q1 fun v s w' R q=>k v s e1 w' (R.pre l1) q
def rAbs:List V->Hpp->VK->Prop:=fun xs H Q=>∃ i,xs=[.int i]/\Q (.int (if i < 0 then -i else i)) H
def rIsi (K:Frag):List V->Hpp->VK->Prop:=fun xs H Q=>∃ x c T b,xs=[x,.ty c]/\TyV K H x T/\kitB T c=some b/\Q (.bl b) H
section
variable {X:Cx}
theorem J2:CallR X (.builtin "abs") rAbs:=B0d
theorem B8 {K:Frag} (h:X.K=K):CallR X (.builtin "isinstance") (rIsi K):=by subst h; exact A0r
end
def pLen (xs:List PyData) (Q:SV->Prop):Prop:=match xs with
  | [.list ys]=>Q (.d (.int ys.length))
  | [.tuple ys]=>Q (.d (.int ys.length))
  | _=>False
def pAbs (xs:List PyData) (Q:SV->Prop):Prop:=match xs with
  | [.int i]=>Q (.d (.int (if i < 0 then -i else i)))
  | _=>False
def pMax (xs:List PyData) (Q:SV->Prop):Prop:=match xs with
  | [.int i,.int j]=>Q (.d (.int (if j > i then j else i)))
  | _=>False
def pMin (xs:List PyData) (Q:SV->Prop):Prop:=match xs with
  | [.int i,.int j]=>Q (.d (.int (if j < i then j else i)))
  | _=>False
def pInt (xs:List PyData) (Q:SV->Prop):Prop:=match xs with
  | [.int i]=>Q (.d (.int i))
  | [.bool k]=>Q (.d (.int (if k then 1 else 0)))
  | _=>False
def B1f (xs:List PyData) (Q:SV->Prop):Prop:=match xs with
  | [.list ys]=>Q (.own ys)
  | [.tuple ys]=>Q (.own ys)
  | _=>False
instance rb_abs {K:Frag}:RB K rAbs pAbs where
  ok:=by
    rintro c w env σ vs xs Qp Q rfl E vv p k;unfold pAbs at p;split at p
    · cases vv with | cons h t=>cases t; exact ⟨_,by rw [h.intE],k _ _ w (Res.data E (.int _)) p⟩
    · exact p.elim
def tyD:PyData->String
  | .none=>"NoneType"
  | .bool _=>"bool"
  | .int _=>"int"
  | .str _=>"str"
  | .list _=>"list"
  | .tuple _=>"tuple"
  | .dict _=>"dict"
theorem Den.ty {K:Frag} {H:Hpp} {v:V} {x:PyData} (h:Den K H v x):TyV K H v (tyD x):=by
  cases h with
  | non=>rfl
  | bl=>rfl
  | int=>rfl
  | str=>rfl
  | lst h _=>exact .inl ⟨rfl,_,h⟩
  | tup h _=>exact .inr (.inl ⟨rfl,_,h.1⟩)
  | dct h=>exact .inr (.inr ⟨rfl,_,h⟩)
def pIsi (c:String) (pa:PDt) (env:PEnv) (Q:SV->PEnv->Prop):Prop:=pa env fun x e=>match kitB (tyD x) c with
  | some b=>Q (.d (.bool b)) e
  | none=>False
instance (priority:=high) re_isi {K:Frag} {ta:TE} {pa:PDt} {c:String} [ha:RW K ta pa]:RE K (tCB (rIsi K) (E6 ta (E6 (tC (.ty c)) tNil))) (pIsi c pa) where
  ok:=by
    rintro ct w env σ Qp Q rfl E p k;refine ha.ok ct w env σ _ _ rfl E p fun x dx e1 w1 E1 l1 v1 q1=>?_;split at q1
    · rename_i b hb
      exact ⟨x,c,_,b,rfl,Den.ty (v1.den E1.wok),hb,k _ _ e1 w1 ((Res.data E1 (.bl _)).pre l1) q1⟩
    · exact q1.elim
end Pu
namespace Pu
open PySem L2 My Prf
class RT (K:Frag) (tt:TT) (pt:outParam PTt):Prop where
  ok:∀ (c:Ct) (w:Wd) (env:PEnv) (σ:St) (Qp:Bool->PEnv->Prop) (Q:Bool->Hpp->Prop),c.K=K->EnvOk c w env σ->pt env Qp->(∀ b env' w',EnvOk c w' env' σ->Lw w w'->Qp b env'->Q b w'.H)->tt σ w.H Q
def asB (x:PyData) (k:Bool->Prop):Prop:=match x with
  | .bool b=>k b
  | _=>False
def A9o (pa:PDt) (env:PEnv) (Q:Bool->PEnv->Prop):Prop:=pa env fun x e=>asB x fun b=>Q b e
instance rt_test {K:Frag} {ta:TE} {pa:PDt} [ha:RW K ta pa]:RT K (A35 ta) (A9o pa) where
  ok:=by
    rintro c w env σ Qp Q rfl E p k;refine ha.ok c w env σ _ _ rfl E p fun x dx e1 w1 E1 l1 v1 q1=>?_;unfold asB at q1;split at q1
    · exact ⟨_,v1.blE,k _ e1 w1 E1 l1 q1⟩
    · exact q1.elim
instance rt_B {K:Frag} {ta:TE} {pa:PDt} [ha:RW K ta pa]:RT K (tB ta) (A9o pa) where
  ok:=by
    rintro c w env σ Qp Q rfl E p k;refine ha.ok c w env σ _ _ rfl E p fun x dx e1 w1 E1 l1 v1 q1=>?_;unfold asB at q1;split at q1
    · exact ⟨_,v1.blE,k _ e1 w1 E1 l1 q1⟩
    · exact q1.elim
def pYes (env:PEnv) (Q:Bool->PEnv->Prop):Prop:=Q true env
instance rt_yes {K:Frag}:RT K tYes pYes:=⟨fun c w env σ Qp Q _ E p k=>k true env w E (Lw.refl w) p⟩
def pNot (pa:PTt) (env:PEnv) (Q:Bool->PEnv->Prop):Prop:=pa env fun b e=>Q (!b) e
def pAnd (pa pb:PTt) (env:PEnv) (Q:Bool->PEnv->Prop):Prop:=pa env fun b e=>if b=true then pb e Q else Q false e
def pOr (pa pb:PTt) (env:PEnv) (Q:Bool->PEnv->Prop):Prop:=pa env fun b e=>if b=true then Q true e else pb e Q
instance rt_not {K:Frag} {ta:TT} {pa:PTt} [ha:RT K ta pa]:RT K (tNot ta) (pNot pa) where
  ok:=by
    rintro c w env σ Qp Q rfl E p k;exact ha.ok c w env σ _ _ rfl E p fun b e1 w1 E1 l1 q1=>k _ e1 w1 E1 l1 q1
instance rt_and {K:Frag} {ta tb:TT} {pa pb:PTt} [ha:RT K ta pa] [hb:RT K tb pb]:RT K (tAnd ta tb) (pAnd pa pb) where
  ok:=by
    rintro c w env σ Qp Q rfl E p k;refine ha.ok c w env σ _ _ rfl E p fun b e1 w1 E1 l1 q1=>?_;cases b with
    | true=>exact hb.ok c w1 e1 σ _ _ rfl E1 q1 fun b e2 w2 E2 l2 q2=>k _ e2 w2 E2 (l1.trans l2) q2
    | false=>exact k _ e1 w1 E1 l1 q1
instance rt_or {K:Frag} {ta tb:TT} {pa pb:PTt} [ha:RT K ta pa] [hb:RT K tb pb]:RT K (tOr ta tb) (pOr pa pb) where
  ok:=by
    rintro c w env σ Qp Q rfl E p k;refine ha.ok c w env σ _ _ rfl E p fun b e1 w1 E1 l1 q1=>?_;cases b with
    | false=>exact hb.ok c w1 e1 σ _ _ rfl E1 q1 fun b e2 w2 E2 l2 q2=>k _ e2 w2 E2 (l1.trans l2) q2
    | true=>exact k _ e1 w1 E1 l1 q1
def B4p (pa:PDt) (env:PEnv) (Q:SV->PEnv->Prop):Prop:=pa env fun x e=>asB x fun b=>Q (.d (.bool (!b))) e
def B4z (pa:PDt) (pb:PX) (env:PEnv) (Q:SV->PEnv->Prop):Prop:=pa env fun x e=>asB x fun b=>if b=true then pb e Q else Q (.d (.bool false)) e
def pOrV (pa:PDt) (pb:PX) (env:PEnv) (Q:SV->PEnv->Prop):Prop:=pa env fun x e=>asB x fun b=>if b=true then Q (.d (.bool true)) e else pb e Q
instance re_notV {K:Frag} {ta:TE} {pa:PDt} [ha:RW K ta pa]:RE K (B3j ta) (B4p pa) where
  ok:=by
    rintro c w env σ Qp Q rfl E p k;refine ha.ok c w env σ _ _ rfl E p fun x dx e1 w1 E1 l1 v1 q1=>?_;unfold asB at q1;split at q1
    · exact ⟨_,v1.blE,k _ _ e1 w1 ((Res.data E1 (.bl _)).pre l1) q1⟩
    · exact q1.elim
instance re_andV {K:Frag} {ta tb:TE} {pa:PDt} {pb:PX} [ha:RW K ta pa] [hb:RE K tb pb]:RE K (B3n ta tb) (B4z pa pb) where
  ok:=by
    rintro c w env σ Qp Q rfl E p k;refine ha.ok c w env σ _ _ rfl E p fun x dx e1 w1 E1 l1 v1 q1=>?_;unfold asB at q1;split at q1
    · rename_i b
      refine ⟨_,v1.blE,?_⟩;cases b with
      | true=>exact hb.ok c w1 e1 σ _ _ rfl E1 q1 fun v s e2 w2 R q2=>k _ _ e2 w2 (R.pre l1) q2
      | false=>exact k _ _ e1 w1 ((Res.data E1 (.bl _)).pre l1) q1
    · exact q1.elim
def pIfE (pt:PTt) (pa pb:PX) (env:PEnv) (Q:SV->PEnv->Prop):Prop:=pt env fun b e=>if b=true then pa e Q else pb e Q
instance re_if {K:Frag} {tt:TT} {ta tb:TE} {pt:PTt} {pa pb:PX} [ht:RT K tt pt] [ha:RE K ta pa] [hb:RE K tb pb]:RE K (tIf tt ta tb) (pIfE pt pa pb) where
  ok:=by
    rintro c w env σ Qp Q rfl E p k;refine ht.ok c w env σ _ _ rfl E p fun b e1 w1 E1 l1 q1=>?_;cases b with
    | true=>exact ha.ok c w1 e1 σ _ _ rfl E1 q1 fun v s e2 w2 R q2=>k _ _ e2 w2 (R.pre l1) q2
    | false=>exact hb.ok c w1 e1 σ _ _ rfl E1 q1 fun v s e2 w2 R q2=>k _ _ e2 w2 (R.pre l1) q2
inductive Md where
  | dat | vw | st | bt
def TV (K:Frag) (w:Wd) (v:V) (t:OT):Prop:=Tre K w t [v]/\∀ a ∈ t.fp,¬ w.M a
theorem Tre.has {K:Frag} {w:Wd}:∀ {t:OT} {vs:List V},Tre K w t vs->∀ a ∈ t.fp,w.H a≠none
  | .leaf _,_,_,_,z=>nomatch z
  | .nd _ p _,_,⟨_,_,h,k⟩,a,z=>(List.mem_cons.mp z).elim (fun e=>by rw [e,h]; simp) (Tre.has k a)
  | .nil,_,_,_,z=>nomatch z
  | .cons _ _,_,⟨_,_,_,h,t⟩,a,z=>(Za z).elim (Tre.has h a) (Tre.has t a)
inductive Args (K:Frag) (w:Wd):List Md->List V->List SV->Prop
  | nil:Args K w [] [] []
  | dat {v:V} {x:PyData} {md:List Md} {vs:List V} {as:List SV}:Den K w.F v x->Args K w md vs as->Args K w (.dat :: md) (v :: vs) (.d x :: as)
  | vw {v:V} {xs:List PyData} {md:List Md} {vs:List V} {as:List SV}:VV K w v (.list xs)->Args K w md vs as->Args K w (.vw :: md) (v :: vs) (.bor xs :: as)
  | bt {v:V} {t:OT} {md:List Md} {vs:List V} {as:List SV}:TV K w v t->Args K w md vs as->Args K w (.bt :: md) (v :: vs) (.bt t :: as)
  | st {v:V} {md:List Md} {vs:List V} {as:List SV}:(∃ p,v=.ref p/\w.M p)->Args K w md vs as->Args K w (.st :: md) (v :: vs) (.st :: as)
theorem Args.len {K:Frag} {w:Wd}:∀ {md vs as},Args K w md vs as->vs.length=md.length
  | _,_,_,.nil=>rfl
  | _,_,_,.dat _ t=>congrArg (· + 1) (Args.len t)
  | _,_,_,.vw _ t=>congrArg (· + 1) (Args.len t)
  | _,_,_,.st _ t=>congrArg (· + 1) (Args.len t)
  | _,_,_,.bt _ t=>congrArg (· + 1) (Args.len t)
abbrev PSp:=List SV->(SV->Prop)->Prop
def noZ:Addr->Prop:=fun _=>False
def spOf (K:Frag) (md:List Md) (psp:PSp):Sp:=fun vs H Q _=>∃ (w:Wd) (as:List SV) (Qp:SV->Prop),w.H=H/\w.Ok/\Args K w md vs as/\psp as Qp /\
  ∀ v s w',w'.Ok->Le w w'->VR ⟨K,w,noZ⟩ w' v s->s.isRes=true->Qp s->Q v w'.H
theorem spOf.len {K:Frag} {md:List Md} {psp:PSp} {n:Nat} (h:md.length=n):∀ vs H Q E,spOf K md psp vs H Q E->vs.length=n:=by
  rintro vs H Q E ⟨w,as,Qp,_,_,a,_⟩;exact a.len.trans h
class RAm (K:Frag) (md:List Md) (ta:TA) (pa:outParam PAs):Prop where
  ok:∀ (c:Ct) (w:Wd) (env:PEnv) (σ:St) (Qp:List SV->PEnv->Prop) (Q:List V->Hpp->Prop),c.K=K->EnvOk c w env σ->pa env Qp->(∀ vs as env' w',EnvOk c w' env' σ->Lw w w'->Args K w' md vs as->Qp as env'->Q vs w'.H)->ta σ w.H Q
def B4q (env:PEnv) (Q:List SV->PEnv->Prop):Prop:=Q [] env
def A5s (pa:PDt) (pr:PAs) (env:PEnv) (Q:List SV->PEnv->Prop):Prop:=pa env fun x e1=>pr e1 fun as e2=>Q (.d x :: as) e2
def asL (x:PyData) (k:List PyData->Prop):Prop:=match x with
  | .list xs=>k xs
  | _=>False
def A5q (pa:PDt) (pr:PAs) (env:PEnv) (Q:List SV->PEnv->Prop):Prop:=pa env fun x e1=>asL x fun xs=>pr e1 fun as e2=>Q (.bor xs :: as) e2
def isSt (o:Option (Option SV)) (k:Prop):Prop:=match o with
  | some (some .st)=>k
  | _=>False
def A1y (i:Nat) (pr:PAs) (env:PEnv) (Q:List SV->PEnv->Prop):Prop:=isSt env[i]? (pr env fun as e2=>Q (.st :: as) e2)
instance ram_nil {K:Frag}:RAm K [] tNil B4q:=⟨fun c w env σ Qp Q _ E p k=>k [] [] env w E (Lw.refl w) .nil p⟩
instance ram_dat {K:Frag} {md:List Md} {ta:TE} {tr:TA} {pa:PDt} {pr:PAs} [ha:RD K ta pa] [hr:RAm K md tr pr]:RAm K (.dat :: md) (E6 ta tr) (A5s pa pr) where
  ok:=by
    rintro c w env σ Qp Q rfl E p k;refine ha.ok c w env σ _ _ rfl E p fun x dx e1 w1 E1 l1 v1 q1=>?_;refine hr.ok c w1 e1 σ _ _ rfl E1 q1 fun vs xs e2 w2 E2 l2 v2 q2=>?_;exact k _ _ e2 w2 E2 (l1.trans l2) (.dat (Den.same l2.f v1) v2) q2
instance ram_vw {K:Frag} {md:List Md} {ta:TE} {tr:TA} {pa:PDt} {pr:PAs} [ha:RW K ta pa] [hr:RAm K md tr pr]:RAm K (.vw :: md) (E6 ta tr) (A5q pa pr) where
  ok:=by
    rintro c w env σ Qp Q rfl E p k;refine ha.ok c w env σ _ _ rfl E p fun x dx e1 w1 E1 l1 v1 q1=>?_;unfold asL at q1;split at q1
    · refine hr.ok c w1 e1 σ _ _ rfl E1 q1 fun vs xs e2 w2 E2 l2 v2 q2=>?_
      exact k _ _ e2 w2 E2 (l1.trans l2) (.vw (v1.mono l2) v2) q2
    · exact q1.elim
instance ram_st {K:Frag} {md:List Md} {i:Nat} {tr:TA} {pr:PAs} [hr:RAm K md tr pr]:RAm K (.st :: md) (E6 (tVar i) tr) (A1y i pr) where
  ok:=by
    rintro c w env σ Qp Q rfl E p k;unfold A1y isSt at p;split at p
    · rename_i e
      obtain ⟨v,h1,h2⟩:=E.at' i _ e;refine ⟨v,h1,?_⟩;refine hr.ok c w env σ _ _ rfl E p fun vs xs e2 w2 E2 l2 v2 q2=>?_;obtain ⟨q,e',hm⟩:=h2;exact k _ _ e2 w2 E2 l2 (.st ⟨q,e',l2.m _ hm⟩ v2) q2
    · exact p.elim
def B7q (psp:PSp) (pa:PAs) (env:PEnv) (Q:SV->PEnv->Prop):Prop:=pa env fun as e=>psp as fun s=>Q s e
theorem Res.called {c:Ct} {w w':Wd} {env:PEnv} {σ:St} {v:V} {s:SV} (E:EnvOk c w env σ) (ok:w'.Ok) (l:Le w w') (h:VR ⟨c.K,w,noZ⟩ w' v s) (r:s.isRes=true):Res c w env σ w' v s:=by
  refine ⟨E.mono ok l,l.toLw,?_,fun a f=>E.fresh (h.foot f).2.2.2,r⟩;cases s with
  | d x=>exact h
  | own xs=>obtain ⟨a,vs,e,h1,h2,h3,h4,h5⟩:=h; exact ⟨a,vs,e,h1,h2,h3,E.le0.dom _ h4,h5⟩
  | bor xs=>cases r
  | bt t=>cases r
  | al t=>cases r
  | dk ks=>obtain ⟨l',e,h1,h2,h3,h4⟩:=h; exact ⟨l',e,h1,h2,h3,E.le0.dom _ h4⟩
  | st=>exact h
  | tr t=>exact ⟨h.1,fun a f=>⟨(h.2.1 a f).1,(h.2.1 a f).2.1,(h.2.1 a f).2.2.1,E.le0.dom _ (h.2.1 a f).2.2.2⟩,h.2.2⟩
instance re_call {K:Frag} {md:List Md} {psp:PSp} {E0':XK} {ta:TA} {pa:PAs} [ha:RAm K md ta pa]:RE K (A84 (spOf K md psp) [] E0' ta) (B7q psp pa) where
  ok:=by
    rintro c w env σ Qp Q rfl E p k;refine ha.ok c w env σ _ _ rfl E p fun vs as e1 w1 E1 l1 a1 q1=>?_;rw [List.append_nil];exact ⟨w1,as,_,rfl,E1.wok,a1,q1,fun v s w' ok l h r q=>k v s e1 w' ((Res.called E1 ok l h r).pre l1) q⟩
structure PEnds where
  nx:PEnv->Prop
  rt:SV->PEnv->Prop
  bk:PEnv->Prop
  ct:PEnv->Prop
abbrev PSt:=PEnds->PEnv->Prop
structure EndsOk (c:Ct) (w:Wd) (Dp:PEnds) (D:Ends):Prop where
  nx:∀ env σ w',EnvOk c w' env σ->Same w.F w'.F->Dp.nx env->D.nx σ w'.H
  rt:∀ v s env σ w',EnvOk c w' env σ->VR c w' v s->s.isRes=true->Dp.rt s env->D.rt v w'.H
  bk:∀ env σ w',EnvOk c w' env σ->Same w.F w'.F->Dp.bk env->D.bk σ w'.H
  ct:∀ env σ w',EnvOk c w' env σ->Same w.F w'.F->Dp.ct env->D.ct σ w'.H
theorem EndsOk.on {c:Ct} {w w1:Wd} {Dp:PEnds} {D:Ends} (h:EndsOk c w Dp D) (s:Same w.F w1.F):EndsOk c w1 Dp D :=
  ⟨fun e σ w' E s'=>h.nx e σ w' E (s.trans s'),h.rt,fun e σ w' E s'=>h.bk e σ w' E (s.trans s'),fun e σ w' E s'=>h.ct e σ w' E (s.trans s')⟩
class RS (K:Frag) (ts:TS) (ps:outParam PSt):Prop where
  ok:∀ (c:Ct) (w:Wd) (env:PEnv) (σ:St) (Dp:PEnds) (D:Ends),c.K=K->EnvOk c w env σ->EndsOk c w Dp D->ps Dp env->ts D σ w.H
def B4r (D:PEnds) (env:PEnv):Prop:=D.nx env
def B1z (D:PEnds) (env:PEnv):Prop:=D.bk env
def B7n (D:PEnds) (env:PEnv):Prop:=D.ct env
def A49 (_:PEnds) (_:PEnv):Prop:=False
def pSeq (p q:PSt) (D:PEnds) (env:PEnv):Prop:=p { D with nx:=q D } env
instance rs_next {K:Frag}:RS K B3k B4r:=⟨fun c w env σ Dp D _ E h p=>h.nx env σ w E (Same.refl _) p⟩
instance rs_never {K:Frag}:RS K A06 A49:=⟨fun c w env σ Dp D _ E h p=>p.elim⟩
instance rs_seq {K:Frag} {t u:TS} {p q:PSt} [ht:RS K t p] [hu:RS K u q]:RS K (tSeq t u) (pSeq p q) where
  ok:=by
    rintro c w env σ Dp D rfl E h pr;refine ht.ok c w env σ { Dp with nx:=q Dp } _ rfl E ⟨fun e1 σ1 w1 E1 s1 n1=>?_,h.rt,h.bk,h.ct⟩ pr;exact hu.ok c w1 e1 σ1 Dp D rfl E1 (h.on s1) n1
def B7l (pe:PX) (D:PEnds) (env:PEnv):Prop:=pe env fun _ e=>D.nx e
def pRet (pe:PX) (D:PEnds) (env:PEnv):Prop:=pe env fun s e=>D.rt s e
instance (priority:=low) rs_ret {K:Frag} {te:TE} {pe:PX} [he:RE K te pe]:RS K (tRet te) (pRet pe) where
  ok:=by
    rintro c w env σ Dp D rfl E h p;exact he.ok c w env σ _ _ rfl E p fun v s e1 w1 R q=>h.rt v s e1 σ w1 R.ev R.val R.res q
def B4n (i:Nat) (D:PEnds) (env:PEnv):Prop:=match env[i]? with
  | some (some (.bor _))=>False
  | some (some (.bt _))=>False
  | some (some (.al _))=>False
  | some (some s)=>D.rt s env
  | _=>False
instance rs_retV {K:Frag} {i:Nat}:RS K (tRet (tVar i)) (B4n i) where
  ok:=by
    rintro c w env σ Dp D rfl E h p;unfold B4n at p;split at p
    · exact p.elim
    · exact p.elim
    · exact p.elim
    · rename_i s hn hn2 hn3 e
      obtain ⟨v,h1,h2⟩:=E.at' i _ e;refine ⟨v,h1,h.rt v s env σ w E h2 ?_ p⟩;cases s with
      | bor xs=>exact absurd rfl (hn xs)
      | bt t=>exact absurd rfl (hn2 t)
      | al t=>exact absurd rfl (hn3 t)
      | _=>rfl
    · exact p.elim
def B65 (D:PEnds) (env:PEnv):Prop:=D.rt (.d .none) env
def pIf (pt:PTt) (p q:PSt) (D:PEnds) (env:PEnv):Prop:=pt env fun b e=>if b=true then p D e else q D e
instance rs_if {K:Frag} {tt:TT} {t u:TS} {pt:PTt} {p q:PSt} [hc:RT K tt pt] [ht:RS K t p] [hu:RS K u q]:RS K (tIfS tt t u) (pIf pt p q) where
  ok:=by
    rintro c w env σ Dp D rfl E h pr;refine hc.ok c w env σ _ _ rfl E pr fun b e1 w1 E1 l1 q1=>?_;cases b with
    | true=>exact ht.ok c w1 e1 σ Dp D rfl E1 (h.on l1.f) q1
    | false=>exact hu.ok c w1 e1 σ Dp D rfl E1 (h.on l1.f) q1
def pAsg (pe:PX) (i:Nat) (D:PEnds) (env:PEnv):Prop:=pe env fun s e=>D.nx (e.set i (some s))
instance rs_asg {K:Frag} {te:TE} {pe:PX} {i:Nat} [he:RE K te pe]:RS K (tAsg te (K2 i)) (pAsg pe i) where
  ok:=by
    rintro c w env σ Dp D rfl E h p;exact he.ok c w env σ _ _ rfl E p fun v s e1 w1 R q=>h.nx _ _ w1 (R.ev.set R.val R.new) R.lw.f q
class RG (K:Frag) (g:TG) (pg:outParam (PyData->PEnv->(PEnv->Prop)->Prop)):Prop where
  ok:∀ (c:Ct) (w:Wd) (env:PEnv) (σ:St) (v:V) (x:PyData) (Qp:PEnv->Prop) (Q:St->Hpp->Prop),c.K=K->EnvOk c w env σ->Den K w.F v x->pg x env Qp->(∀ env' σ',EnvOk c w env' σ'->Qp env'->Q σ' w.H)->g v σ w.H Q
class RGs (K:Frag) (g:TGs) (pg:outParam (List PyData->PEnv->(PEnv->Prop)->Prop)):Prop where
  ok:∀ (c:Ct) (w:Wd) (env:PEnv) (σ:St) (vs:List V) (xs:List PyData) (Qp:PEnv->Prop) (Q:St->Hpp->Prop),c.K=K->EnvOk c w env σ->DenAll K w.F vs xs->pg xs env Qp->(∀ env' σ',EnvOk c w env' σ'->Qp env'->Q σ' w.H)->g vs σ w.H Q
def B3z (i:Nat) (x:PyData) (env:PEnv) (Q:PEnv->Prop):Prop:=Q (env.set i (some (.d x)))
instance rg_name {K:Frag} {i:Nat}:RG K (K2 i) (B3z i) where
  ok:=by
    rintro c w env σ v x Qp Q rfl E d p k;exact k _ _ (E.set (s:=.d x) d (fun _ z=>nomatch z)) p
def qNil (xs:List PyData) (env:PEnv) (Q:PEnv->Prop):Prop:=match xs with
  | []=>Q env
  | _=>False
def B30 (pg:PyData->PEnv->(PEnv->Prop)->Prop) (pr:List PyData->PEnv->(PEnv->Prop)->Prop) (xs:List PyData) (env:PEnv) (Q:PEnv->Prop):Prop:=match xs with
  | x :: r=>pg x env fun e=>pr r e Q
  | []=>False
def qTup (n:Nat) (pr:List PyData->PEnv->(PEnv->Prop)->Prop) (x:PyData) (env:PEnv) (Q:PEnv->Prop):Prop:=match x with
  | .tuple xs=>xs.length=n/\pr xs env Q
  | _=>False
instance rgs_nil {K:Frag}:RGs K gNil qNil where
  ok:=by
    rintro c w env σ vs xs Qp Q rfl E d p k;unfold qNil at p;split at p
    · cases d; exact ⟨rfl,k env σ E p⟩
    · exact p.elim
instance rgs_cons {K:Frag} {g:TG} {gs:TGs} {pg:PyData->PEnv->(PEnv->Prop)->Prop} {pr:List PyData->PEnv->(PEnv->Prop)->Prop} [hg:RG K g pg] [hr:RGs K gs pr]:RGs K (A0p g gs) (B30 pg pr) where
  ok:=by
    rintro c w env σ vs xs Qp Q rfl E d p k;unfold B30 at p;split at p
    · cases d with
      | cons h t =>
        refine ⟨_,_,rfl,hg.ok c w env σ _ _ _ _ rfl E h p fun e1 σ1 E1 q1=>?_⟩;exact hr.ok c w e1 σ1 _ _ _ _ rfl E1 t q1 k
    · exact p.elim
instance rg_tup {K:Frag} {n:Nat} {gs:TGs} {pr:List PyData->PEnv->(PEnv->Prop)->Prop} [hr:RGs K gs pr]:RG K (gTup K n gs) (qTup n pr) where
  ok:=by
    rintro c w env σ v x Qp Q rfl E d p k;unfold qTup at p;split at p
    · obtain ⟨a,vs,e,h1,h2⟩:=d.tupE
      exact ⟨a,vs,e,SqT.same E.wok.sub h1,h2.len.trans p.1,hr.ok c w env σ _ _ _ _ rfl E h2 p.2 k⟩
    · exact p.elim
def B4y (pd:PDt) (n:Nat) (pr:List PyData->PEnv->(PEnv->Prop)->Prop) (D:PEnds) (env:PEnv):Prop:=pd env fun x e=>qTup n pr x e D.nx
instance rs_asgT {K:Frag} {te:TE} {pd:PDt} {n:Nat} {gs:TGs} {pr:List PyData->PEnv->(PEnv->Prop)->Prop} [he:RD K te pd] [hr:RGs K gs pr]:RS K (tAsg te (gTup K n gs)) (B4y pd n pr) where
  ok:=by
    rintro c w env σ Dp D rfl E h p;refine he.ok c w env σ _ _ rfl E p fun v x e1 w1 E1 l1 d1 q1=>?_;exact rg_tup.ok c w1 e1 σ v x _ _ rfl E1 d1 q1 fun e2 σ2 E2 q2=>h.nx e2 σ2 w1 E2 l1.f q2
def pPar (i j:Nat) (pa:PAr) (D:PEnds) (env:PEnv):Prop:=pa env fun xs e=>match xs with
  | [x,y]=>D.nx ((e.set i (some (.d x))).set j (some (.d y)))
  | _=>False
instance rs_par {K:Frag} {ta:TA} {pa:PAr} {i j:Nat} [ha:RAd K ta pa]:RS K (tPar i j ta) (pPar i j pa) where
  ok:=by
    rintro c w env σ Dp D rfl E h p;refine ha.ok c w env σ _ _ rfl E p fun vs xs e1 w1 E1 l1 d1 q1=>?_;split at q1
    · cases d1 with
      | cons a t=>cases t with
        | cons b t =>
          cases t;exact ⟨_,_,rfl,h.nx _ _ w1 ((E1.set (s:=.d _) a (fun _ z=>nomatch z)).set (s:=.d _) b (fun _ z=>nomatch z)) l1.f q1⟩
    · exact q1.elim
def J5 (o:Option (Option SV)) (k:List PyData->Prop):Prop:=match o with
  | some (some (.own xs))=>k xs
  | _=>False
theorem EnvOk.writeAt {c:Ct} {w:Wd} {env:PEnv} {σ:St} {i:Nat} {s s':SV} {l:Addr} {wo:HO} {v:V} (E:EnvOk c w env σ) (e:env[i]?=some (some s)) (hσ:σ[i]?=some (some v)) (hf:s.foot v l) (hf':∀ a,s'.foot v a->s.foot v a)
    (hd:VR c ⟨w.M,upd w.H l wo,w.F⟩ v s'):EnvOk c ⟨w.M,upd w.H l wo,w.F⟩ (env.set i (some s')) σ:=by
  obtain ⟨h1,h2,h3,h4⟩:=(E.look e hσ).foot hf;have ne:∀ b,w.M b->b≠l:=fun b hb z=>h3 (z ▸ hb);have hd':∀ {j:Nat} {t:SV},(env.set i (some s'))[j]?=some (some t)->(i=j/\t=s')\/(i≠j/\env[j]?=some (some t)):=by
    intro j t q;rw [List.getElem?_set] at q;split at q
    · rename_i z
      split at q
      · cases q; exact .inl ⟨z,rfl⟩
      · cases q
    · rename_i z; exact .inr ⟨z,q⟩
  have ft:∀ {j:Nat} {t:SV} {u:V} {a:Addr},(env.set i (some s'))[j]?=some (some t)->σ[j]?=some (some u)->t.foot u a->∃ t',env[j]?=some (some t')/\t'.foot u a:=by
    intro j t u a q qu f;rcases hd' q with ⟨rfl,rfl⟩ | ⟨_,q⟩
    · rw [hσ] at qu; cases qu; exact ⟨s,e,hf' a f⟩
    · exact ⟨t,q,f⟩
  refine ⟨⟨fun b o q=>?_,fun p hp=>(E.wok.st p hp).kp (ne p hp) Kp.upd,E.wok.nf⟩,⟨⟨E.le0.f,fun b o q n=>?_,E.le0.m,E.le0.mn,fun b q=>E.le0.dom b (M2 q)⟩,E.le0.n⟩,by simpa using E.len,fun j t q=>?_,fun j k s1 t1 v1 u1 a q1 q2 q3 q4 f1 f2=>?_,fun a za=>?_,fun a j t u za q q' f=>?_⟩
  · show upd w.H l wo b=some o
    rw [B2 (fun z=>by rw [z,h2] at q; cases q)]; exact E.wok.sub b o q
  · show upd w.H l wo b=some o
    rw [B2 (fun z=>by rw [z,h4] at q; cases q)]; exact E.le0.h b o q n
  · rcases hd' q with ⟨rfl,rfl⟩ | ⟨z,q⟩
    · exact ⟨v,hσ,hd⟩
    · obtain ⟨u,g1,g2⟩:=E.at' j t q
      exact ⟨u,g1,g2.writ h1 fun f=>z (E.own i j _ _ _ _ l e q hσ g1 hf f)⟩
  · obtain ⟨_,p1,g1⟩:=ft q1 q3 f1
    obtain ⟨_,p2,g2⟩:=ft q2 q4 f2;exact E.own j k _ _ _ _ a p1 p2 q3 q4 g1 g2
  · obtain ⟨z1,z2,z3⟩:=E.zf a za
    exact ⟨z1,fun q=>z2 (M2 q),z3⟩
  · obtain ⟨_,p,g⟩:=ft q q' f
    exact E.zo a j _ _ za p q' g
theorem EnvOk.write {c:Ct} {w:Wd} {env:PEnv} {σ:St} {i:Nat} {xs ys:List PyData} {l:Addr} {vs us:List V} (E:EnvOk c w env σ) (e:env[i]?=some (some (.own xs))) (hσ:σ[i]?=some (some (.ref l))) (h1:w.H l=some (.lst vs)) (h2:w.F l=none) (h3:¬ w.M l) (h4:c.w0.H l=none)
    (hd:DenAll c.K w.F us ys):EnvOk c ⟨w.M,upd w.H l (.lst us),w.F⟩ (env.set i (some (.own ys))) σ :=
  E.writeAt e hσ rfl (fun _ f=>f) ⟨l,us,rfl,B4,h2,h3,h4,hd⟩
def pApp (i:Nat) (pd:PDt) (D:PEnds) (env:PEnv):Prop:=J5 env[i]? fun _=>pd env fun x e=>J5 e[i]? fun xs=>xs.length < 1000000/\D.nx (e.set i (some (.own (xs++[x]))))
theorem A39 {n:Nat} (h:n < 1000000):n < sizeLine:=Nat.lt_of_lt_of_le h (by decide)
instance rs_app {K:Frag} {i:Nat} {te:TE} {pd:PDt} [he:RD K te pd]:RS K (B3l (tBM K "list" A4f (tVar i) (E6 te tNil))) (pApp i pd) where
  ok:=by
    rintro c w env σ Dp D rfl E h p;unfold pApp J5 at p;split at p
    · rename_i xs0 e0
      obtain ⟨v,g0,l,vs,ev,h1,h2,h3,h4,h5⟩:=E.at' i _ e0;subst ev;refine ⟨_,g0,.inl ⟨rfl,_,SqL.of h1⟩,?_⟩;refine he.ok c w env σ _ _ rfl E p fun y x e1 w1 E1 l1 d1 q1=>?_;split at q1
      · rename_i xs e
        obtain ⟨v',g0',l',vs',ev',k1,k2,k3,k4,k5⟩:=E1.at' i _ e;rw [g0] at g0'; cases g0'; cases ev';refine ⟨l,vs',y,rfl,rfl,k1,by rw [k5.len]; exact A39 q1.1,?_⟩;exact h.nx _ σ ⟨w1.M,upd w1.H l (.lst (vs'++[y])),w1.F⟩ (E1.write e g0 k1 k2 k3 k4 (k5.app (.cons d1 .nil))) l1.f q1.2
      · exact q1.elim
    · exact p.elim
def B1x (i:Nat) (D:PEnds) (env:PEnv):Prop:=J5 env[i]? fun _=>D.nx (env.set i (some (.own [])))
def B67 (i:Nat) (D:PEnds) (env:PEnv):Prop:=J5 env[i]? fun xs=>0 < xs.length/\D.nx (env.set i (some (.own xs.dropLast)))
end Pu
namespace L2
open PySem PySem.Spec PyProof.Rows
section
variable {X:Cx} {tg:Expr}
theorem F7 {K:PySem.W.Frag} (h:X.K=K) (hu:X.A.units + 64 < cLine):OpR X (compareOp .Eq) (rEqD K):=by subst h; exact B7x hu
theorem N0 {K:PySem.W.Frag} (h:X.K=K) (hu:X.A.units + 64 < cLine):OpR X (compareOp .NotEq) (rNeD K):=by subst h; exact B7s hu
theorem A85 {K:PySem.W.Frag} (h:X.K=K):SlR X (rSlL K):=by subst h; exact B3q
end
end L2
namespace Pu
open PySem L2 My Prf
def A1r (pt:PTt) (pb:PSt) (D:PEnds) (env:PEnv):Prop:=∃ Inv:Nat->PEnv->Prop,(∃ m,Inv m env)/\∀ m e,Inv m e->pt e fun b e2=>if b=true then pb ⟨fun e3=>∃ m',m' < m/\Inv m' e3,D.rt,D.nx,fun e3=>∃ m',m' < m/\Inv m' e3⟩ e2 else D.nx e2
instance rs_while {K:Frag} {tt:TT} {tb:TS} {pt:PTt} {pb:PSt} [ht:RT K tt pt] [hb:RS K tb pb]:RS K (A34 tt tb) (A1r pt pb) where
  ok:=by
    rintro c w env σ Dp D rfl E h ⟨Inv,⟨m0,i0⟩,step⟩;refine ⟨fun m σ' H'=>∃ e w',w'.H=H'/\EnvOk c w' e σ'/\Same w.F w'.F/\Inv m e,⟨m0,env,w,rfl,E,Same.refl _,i0⟩,?_⟩;rintro m σ1 _ ⟨e1,w1,rfl,E1,s1,i1⟩;refine ht.ok c w1 e1 σ1 _ _ rfl E1 (step m e1 i1) fun b e2 w2 E2 l2 q2=>?_;cases b with
    | true =>
      refine ⟨fun σ' H'=>∃ e w',w'.H=H'/\EnvOk c w' e σ'/\Same w.F w'.F/\∃ m',m' < m/\Inv m' e,fun σ' H' ⟨e,w',e1,E',s',m',hm,i'⟩=>⟨m',hm,e,w',e1,E',s',i'⟩,?_⟩;refine hb.ok c w2 e2 σ1 ⟨fun e3=>∃ m',m' < m/\Inv m' e3,Dp.rt,Dp.nx,fun e3=>∃ m',m' < m/\Inv m' e3⟩ _ rfl E2 ⟨fun e3 σ3 w3 E3 s3 n3=>⟨e3,w3,rfl,E3,s1.trans (l2.f.trans s3),n3⟩,h.rt,fun e3 σ3 w3 E3 s3 n3=>h.nx e3 σ3 w3 E3 (s1.trans (l2.f.trans s3)) n3,fun e3 σ3 w3 E3 s3 n3=>⟨e3,w3,rfl,E3,s1.trans (l2.f.trans s3),n3⟩⟩ q2
    | false=>exact h.nx e2 σ1 w2 E2 (s1.trans l2.f) q2
def Walk (c:Ct) (w1:Wd) (J:It) (xs:List PyData):Prop :=
  ∀ w',w'.Ok->Le c.w0 w'->Same w1.F w'.F->(∀ i,i < xs.length->J.go i w'.H)/\J.stop xs.length w'.H/\∀ i v H',J.yld i w'.H v H'->i < xs.length->∃ w2 x,w2.H=H'/\w2.Ok/\Le w' w2/\xs[i]?=some x/\Den c.K w2.F v x
class RI (K:Frag) (wi:TI) (pi:outParam PAr):Prop where
  ok:∀ (c:Ct) (w:Wd) (env:PEnv) (σ:St) (Qp:List PyData->PEnv->Prop) (R:It->Hpp->Prop),c.K=K->EnvOk c w env σ->pi env Qp->(∀ J xs env' w',EnvOk c w' env' σ->Lw w w'->Walk c w' J xs->Qp xs env'->R J w'.H)->wi σ w.H R
def U0 (x:PyData) (k:List PyData->Prop):Prop:=match x with
  | .list xs=>k xs
  | .tuple xs=>k xs
  | _=>False
def B7g (pd:PDt) (env:PEnv) (Q:List PyData->PEnv->Prop):Prop:=pd env fun x e=>U0 x fun xs=>Q xs e
def B7f (i:Nat) (env:PEnv) (Q:List PyData->PEnv->Prop):Prop:=match env[i]? with
  | some (some (.d x))=>U0 x fun xs=>Q xs env
  | some (some (.own xs))=>Q xs (env.set i (some (.d (.list xs))))
  | some (some (.bor xs))=>Q xs env
  | _=>False
def rngD (lo:Int) (n:Nat):List PyData:=(List.range n).map fun k:Nat=>PyData.int (lo + (k:Int))
theorem O0 (lo:Int) (n:Nat):(rngD lo n).length=n:=by simp [rngD]
theorem A88 {lo:Int} {n i:Nat} {x:PyData} (h:(rngD lo n)[i]?=some x):i < n/\x=.int (lo + (i:Int)):=by
  unfold rngD at h;rw [Zh] at h;by_cases hi:i < n
  · rw [List.getElem?_range hi] at h; cases h; exact ⟨hi,rfl⟩
  · rw [List.getElem?_eq_none (by simpa using hi)] at h; cases h
theorem A81 {c:Ct} {w1:Wd} {lo:Int} {n:Nat}:Walk c w1 (Itr lo n) (rngD lo n):=by
  intro w' ok l s;refine ⟨fun i hi=>by rw [O0] at hi; exact hi,by rw [O0]; exact Zv _,fun i v H' y hi=>?_⟩;obtain ⟨e,y⟩:=y;subst y;rw [O0] at hi;refine ⟨w',.int (lo + i),e.symm,ok,Le.refl w',?_,.int _⟩;unfold rngD;rw [Zh,List.getElem?_range hi]; rfl
def B64 (pa:PAr) (env:PEnv) (Q:List PyData->PEnv->Prop):Prop:=pa env fun xs e=>match xs with
  | [.int j]=>(-(2 ^ 62)<=j/\j < 2 ^ 62)/\Q (rngD 0 j.toNat) e
  | _=>False
def B9r (pa:PAr) (env:PEnv) (Q:List PyData->PEnv->Prop):Prop:=pa env fun xs e=>match xs with
  | [.int i,.int j]=>(-(2 ^ 62)<=i/\i < 2 ^ 62/\-(2 ^ 62)<=j/\j < 2 ^ 62)/\Q (rngD i (j - i).toNat) e
  | _=>False
instance ri_rng1 {K:Frag} {ta:TA} {pa:PAr} [ha:RAv K ta pa]:RI K (B5d ta) (B64 pa) where
  ok:=by
    rintro c w env σ Qp R rfl E p k;refine ha.ok c w env σ _ _ rfl E p fun vs xs e1 w1 E1 l1 v1 q1=>?_;split at q1
    · cases v1 with | cons h t=>cases t; exact ⟨_,by rw [h.intE],q1.1.1,q1.1.2,k _ _ e1 w1 E1 l1 A81 q1.2⟩
    · exact q1.elim
def B1r (xs:List PyData) (pg:PyData->PEnv->(PEnv->Prop)->Prop) (pb:PSt) (D:PEnds) (env:PEnv):Prop :=
  ∃ Inv:Nat->PEnv->Prop,Inv 0 env/\(∀ i x e,xs[i]?=some x->Inv i e->pg x e fun e2=>pb ⟨Inv (i + 1),D.rt,D.nx,Inv (i + 1)⟩ e2)/\∀ e,Inv xs.length e->D.nx e
def pFor (pi:PAr) (pg:PyData->PEnv->(PEnv->Prop)->Prop) (pb:PSt) (D:PEnds) (env:PEnv):Prop:=pi env fun xs e=>B1r xs pg pb D e
instance rs_for {K:Frag} {wi:TI} {g:TG} {tb:TS} {pi:PAr} {pg:PyData->PEnv->(PEnv->Prop)->Prop} {pb:PSt} [hi:RI K wi pi] [hg:RG K g pg] [hb:RS K tb pb]:RS K (tFor wi g tb) (pFor pi pg pb) where
  ok:=by
    rintro c w env σ Dp D rfl E h p;refine hi.ok c w env σ _ _ rfl E p fun J xs e1 w1 E1 l1 wk ⟨Iv,i0,step,fin⟩=>?_;refine ⟨fun i m σ' H'=>m=xs.length - i/\i<=xs.length/\∃ e w',w'.H=H'/\EnvOk c w' e σ'/\Same w1.F w'.F/\Iv i e,⟨xs.length,rfl,Nat.zero_le _,e1,w1,rfl,E1,Same.refl _,i0⟩,?_⟩;rintro i m σ2 _ ⟨rfl,hle,e2,w2,rfl,E2,s2,i2⟩;obtain ⟨go,stop,yld⟩:=wk w2 E2.wok E2.le0 s2;by_cases hlt:i < xs.length
    · refine .inr ⟨go i hlt,fun σ' H'=>i + 1<=xs.length/\∃ e w',w'.H=H'/\EnvOk c w' e σ'/\Same w1.F w'.F/\Iv (i + 1) e,fun σ' H' ⟨q0,q⟩=>⟨xs.length - (i + 1),by omega,rfl,q0,q⟩,fun v H' y=>?_⟩
      obtain ⟨w2',x,rfl,ok2,le2,hx,dx⟩:=yld i v H' y hlt;replace E2:=E2.mono ok2 le2;replace s2:=s2.trans le2.f;clear yld go stop y le2 ok2;generalize w2'=w2 at E2 s2 dx;refine hg.ok c w2 e2 σ2 v x _ _ rfl E2 dx (step i x e2 hx i2) fun e3 σ3 E3 q3=>?_;refine hb.ok c w2 e3 σ3 ⟨Iv (i + 1),Dp.rt,Dp.nx,Iv (i + 1)⟩ _ rfl E3 ⟨fun e4 σ4 w4 E4 s4 n4=>⟨hlt,e4,w4,rfl,E4,s2.trans s4,n4⟩,h.rt,fun e4 σ4 w4 E4 s4 n4=>h.nx e4 σ4 w4 E4 (l1.f.trans (s2.trans s4)) n4,fun e4 σ4 w4 E4 s4 n4=>⟨hlt,e4,w4,rfl,E4,s2.trans s4,n4⟩⟩ q3
    · have e:i=xs.length:=by omega
      subst e;exact .inl ⟨stop,h.nx e2 σ2 w2 E2 (l1.f.trans s2) (fin e2 i2)⟩
theorem B5g {lo:Int} {n:Nat} {pg:PyData->PEnv->(PEnv->Prop)->Prop} {pb:PSt} {D:PEnds} {env:PEnv} (Inv:Nat->PEnv->Prop) (h0:Inv 0 env)
    (hs:∀ (i:Nat) e,i < n->Inv i e->pg (.int (lo + (i:Int))) e fun e2=>pb ⟨Inv (i + 1),D.rt,D.nx,Inv (i + 1)⟩ e2) (hd:∀ e,Inv n e->D.nx e):B1r (rngD lo n) pg pb D env :=
  ⟨Inv,h0,fun i x e hx hi=>by obtain ⟨h1,rfl⟩:=A88 hx; exact hs i e h1 hi,fun e h=>hd e (by rwa [O0] at h)⟩
def SV.lent:SV->Option SV
  | .own xs=>some (.bor xs)
  | .tr _=>none
  | .bt _=>none
  | .dk _=>none
  | s=>some s
def E9 (cap:List (Option Nat)) (env:PEnv):PEnv:=cap.map fun o=>o.bind fun j=>(env[j]?).join.bind SV.lent
theorem EnvOk.writeZ {c:Ct} {w:Wd} {env:PEnv} {σ:St} {l:Addr} {us:List V} (E:EnvOk c w env σ) (z:c.Z l) (h4:c.w0.H l=none):EnvOk c ⟨w.M,upd w.H l (.lst us),w.F⟩ env σ:=by
  obtain ⟨h2,h1,h3⟩:=E.zf l z;have ne:∀ b,w.M b->b≠l:=fun b hb z=>h3 (z ▸ hb);refine ⟨⟨fun b o q=>?_,fun p hp=>(E.wok.st p hp).kp (ne p hp) Kp.upd,E.wok.nf⟩,⟨⟨E.le0.f,fun b o q n=>?_,E.le0.m,E.le0.mn,fun b q=>E.le0.dom b (M2 q)⟩,E.le0.n⟩,E.len,fun j s q=>?_,E.own,fun a za=>?_,E.zo⟩
  · show upd w.H l (.lst us) b=some o
    rw [B2 (fun z=>by rw [z,h2] at q; cases q)]; exact E.wok.sub b o q
  · show upd w.H l (.lst us) b=some o
    rw [B2 (fun z=>by rw [z,h4] at q; cases q)]; exact E.le0.h b o q n
  · obtain ⟨v,g1,g2⟩:=E.at' j s q
    exact ⟨v,g1,g2.writ h1 (E.zo l j s v z q g1)⟩
  · obtain ⟨z1,z2,z3⟩:=E.zf a za
    exact ⟨z1,fun q=>z2 (M2 q),z3⟩
theorem EnvOk.cap {c:Ct} {w:Wd} {env:PEnv} {σ:St} {D:Addr} (cap:List (Option Nat)) (E:EnvOk c w env σ) (hD:w.H D=none):EnvOk ⟨c.K,w,fun a=>a=D⟩ (w.lay D (.lst [])) (E9 cap env) (capσ cap σ):=by
  have nown:∀ (i:Nat) s v a,(E9 cap env)[i]?=some (some s)->¬ s.foot v a:=fun i s0 v a q f=>by
    unfold E9 at q;rw [Zh] at q;cases hc:cap[i]? with
    | none=>rw [hc] at q; cases q
    | some o =>
      rw [hc] at q;cases o with
      | none=>cases q
      | some j =>
        have q':((env[j]?).join.bind SV.lent)=some s0:=Zj q;cases hj:(env[j]?).join with
        | none=>rw [hj] at q'; cases q'
        | some s=>rw [hj] at q'; cases s <;> cases q' <;> exact f
  refine ⟨Wd.lay_ok E.wok hD,Wd.lay_le hD,by simp [E9,capσ],fun i s q=>?_,fun i j s t v u a q _ _ _ f=>absurd f (nown i s v a q),fun a za=>?_,fun a j t u _ q _=>nown j t u a q⟩
  · unfold E9 at q
    unfold capσ;rw [Zh] at q ⊢;cases hc:cap[i]? with
    | none=>rw [hc] at q; cases q
    | some o =>
      rw [hc] at q;cases o with
      | none=>cases q
      | some j =>
        have q':((env[j]?).join.bind SV.lent)=some s:=Zj q;cases hj:env[j]? with
        | none=>rw [hj] at q'; cases q'
        | some t =>
          rw [hj] at q';cases t with
          | none=>cases q'
          | some s0 =>
            have q2:s0.lent=some s:=q';obtain ⟨v,h1,h2⟩:=E.at' j s0 hj;refine ⟨v,by simp [h1],?_⟩;cases s0 with
            | d x=>cases q2; exact h2
            | own xs=>cases q2; obtain ⟨l,vs,e,g1,g2,g3,g4,g5⟩:=h2; exact .inr ⟨l,vs,e,g1,g3,g5⟩
            | bor xs =>
              cases q2;rcases h2.vv E.le0 with g | ⟨l,vs,ys,e,e',g1,g2,g3⟩
              · exact .inl g
              · cases e'; exact .inr ⟨l,vs,e,g1,g2,g3⟩
            | st=>cases q2; exact h2
            | tr t=>cases q2
            | bt t=>cases q2
            | al t=>cases q2; exact h2
            | dk t=>cases q2
  · have e:a=D:=za
    subst e;exact ⟨E.wok.fnone hD,by show upd w.H a (.lst []) a≠none; rw [B4]; simp,fun z=>E.wok.mne hD z rfl⟩
theorem Walk.up {c:Ct} {w:Wd} {J:It} {xs:List PyData} (h:Walk c w J xs) (l:Le c.w0 w):Walk ⟨c.K,w,c.Z⟩ w J xs:=fun w' ok l' s=>h w' ok (l.trans l') s
def G9 (xs:List PyData) (pg:PyData->PEnv->(PEnv->Prop)->Prop) (pt:PTt) (pd:PDt) (e0:PEnv) (Fin:List PyData->Prop):Prop :=
  ∃ Pv:Nat->PEnv->List PyData->Prop,Pv 0 e0 []/\(∀ i x e ys,xs[i]?=some x->Pv i e ys->pg x e fun e2=>pt e2 fun b e3=>if b=true then pd e3 fun y e4=>Pv (i + 1) e4 (ys++[y]) else Pv (i + 1) e3 ys)/\∀ e ys,Pv xs.length e ys->Fin ys
theorem B5m {K:Frag} {g:TG} {tt:TT} {te:TE} {pg:PyData->PEnv->(PEnv->Prop)->Prop} {pt:PTt} {pd:PDt} [hg:RG K g pg] [ht:RT K tt pt] [he:RD K te pd] {c:Ct} {w:Wd} {env:PEnv} {σ:St} {J:It} {xs:List PyData} {cap:List (Option Nat)} {D:Addr} {Fp:List PyData->Prop} {Fin:Hpp->Prop}
    (hK:c.K=K) (E:EnvOk c w env σ) (wk:Walk ⟨c.K,w,c.Z⟩ w J xs) (hn:xs.length < 1000000) (p:G9 xs pg pt pd (E9 cap env) Fp) (hD:w.H D=none) (k:∀ w' ys,Res c w env σ w' (.ref D) (.own ys)->Fp ys->Fin w'.H):A8i J g tt te D Fin (capσ cap σ) w.H:=by
  subst hK;obtain ⟨Pv,p0,step,fin⟩:=p;have hw0:c.w0.H D=none:=E.le0.dom D hD;refine ⟨fun i m σ' H' vs=>m=xs.length - i/\i<=xs.length/\∃ e w' ys,w'.H=H'/\EnvOk ⟨c.K,w,fun a=>a=D⟩ w' e σ'/\w'.H D=some (.lst vs)/\vs.length<=i/\DenAll c.K w'.F vs ys/\Pv i e ys,
    ⟨xs.length,rfl,Nat.zero_le _,E9 cap env,w.lay D (.lst []),[],rfl,E.cap cap hD,B4,Zv _,.nil,p0⟩,?_⟩
  rintro i m σ1 _ vs ⟨rfl,hle,e1,w1,ys,rfl,E1,h1,hvl,d1,q1⟩;refine ⟨h1,A39 (by omega),?_⟩;obtain ⟨go,stop,yld⟩:=wk w1 E1.wok E1.le0 E1.le0.f;by_cases hlt:i < xs.length
  · refine .inr ⟨go i hlt,fun v H' y=>?_⟩
    obtain ⟨w1',x,rfl,ok1',le1,hx,dx⟩:=yld i v H' y hlt;replace h1:=le1.h _ _ h1 (E1.zf D rfl).2.2;replace E1:=E1.mono ok1' le1;replace d1:=DenAll.same le1.f d1;clear yld go stop y le1 ok1';generalize w1'=w1 at E1 h1 d1 dx;refine hg.ok ⟨c.K,w,fun a=>a=D⟩ w1 e1 σ1 v x _ _ rfl E1 dx (step i x e1 ys hx q1) fun e2 σ2 E2 q2=>?_;refine ht.ok ⟨c.K,w,fun a=>a=D⟩ w1 e2 σ2 _ _ rfl E2 q2 fun b e3 w3 E3 l3 q3=>?_;have nm:=(E2.zf D rfl).2.2;have h3:=l3.h _ _ h1 nm;cases b with
    | true =>
      refine he.ok ⟨c.K,w,fun a=>a=D⟩ w3 e3 σ2 _ _ rfl E3 q3 fun y' y e4 w4 E4 l4 d4 q4=>?_;have h4:=l4.h _ _ h3 (E3.zf D rfl).2.2;refine ⟨vs,h4,A39 (by omega),xs.length - (i + 1),by omega,rfl,hlt,e4,⟨w4.M,upd w4.H D (.lst (vs++[y'])),w4.F⟩,ys++[y],rfl,E4.writeZ rfl hD,B4,by rw [Ze]; simp; exact hvl,(DenAll.same (l3.f.trans l4.f) d1).app (.cons d4 .nil),q4⟩
    | false =>
      exact ⟨xs.length - (i + 1),by omega,rfl,hlt,e3,w3,ys,rfl,E3,h3,by omega,DenAll.same l3.f d1,q3⟩
  · have e:i=xs.length:=by omega
    subst e;obtain ⟨z1,z2,z3⟩:=E1.zf D rfl;refine .inl ⟨stop,k w1 ys ⟨E.mono E1.wok E1.le0,E1.le0.toLw,⟨D,vs,rfl,h1,z1,z3,hw0,d1⟩,fun a f=>?_,rfl⟩ (fin e1 ys q1)⟩;have:V.ref D=.ref a:=f;cases this;exact E.fresh hD
def B7o (pi:PAr) (pg:PyData->PEnv->(PEnv->Prop)->Prop) (pt:PTt) (pd:PDt) (cap:List (Option Nat)) (env:PEnv) (Q:SV->PEnv->Prop):Prop:=pi env fun xs e=>xs.length < 1000000/\G9 xs pg pt pd (E9 cap e) fun ys=>Q (.own ys) e
instance re_comp {K:Frag} {wi:TI} {g:TG} {tt:TT} {te:TE} {cap:List (Option Nat)} {pi:PAr} {pg:PyData->PEnv->(PEnv->Prop)->Prop} {pt:PTt} {pd:PDt} [hi:RI K wi pi] [hg:RG K g pg] [ht:RT K tt pt] [he:RD K te pd]:RE K (B3m wi g tt te cap) (B7o pi pg pt pd cap) where
  ok:=by
    rintro c w env σ Qp Q rfl E p k;refine hi.ok c w env σ _ _ rfl E p fun J xs e1 w1 E1 l1 wk ⟨hn,q⟩ D hD=>?_;exact B5m (pg:=pg) (pt:=pt) (pd:=pd) rfl E1 (wk.up E1.le0) hn q hD fun w' ys R q'=>k _ _ e1 w' (R.pre l1) q'
def A9p (pi:PAr) (pg:PyData->PEnv->(PEnv->Prop)->Prop) (pt:PTt) (pd:PDt) (cap:List (Option Nat)) (i:Nat) (D:PEnds) (env:PEnv):Prop:=pi env fun xs e=>xs.length < 1000000/\G9 xs pg pt pd (E9 cap e) fun ys=>D.nx (e.set i (some (.own ys)))
class RP (K:Frag) (to:TO) (po:outParam (PEnv->(Option Int->PEnv->Prop)->Prop)):Prop where
  ok:∀ (c:Ct) (w:Wd) (env:PEnv) (σ:St) (Qp:Option Int->PEnv->Prop) (Q:Option Int->Hpp->Prop),c.K=K->EnvOk c w env σ->po env Qp->(∀ o env' w',EnvOk c w' env' σ->Lw w w'->Qp o env'->Q o w'.H)->to σ w.H Q
def A0h (env:PEnv) (Q:Option Int->PEnv->Prop):Prop:=Q none env
def asI (x:PyData) (k:Int->Prop):Prop:=match x with
  | .int i=>k i
  | _=>False
def B4o (pa:PDt) (env:PEnv) (Q:Option Int->PEnv->Prop):Prop:=pa env fun x e=>asI x fun i=>Q (some i) e
instance rp_no {K:Frag}:RP K Z4 A0h:=⟨fun c w env σ Qp Q _ E p k=>k none env w E (Lw.refl w) p⟩
instance rp_part {K:Frag} {te:TE} {pa:PDt} [ha:RW K te pa]:RP K (B3i te) (B4o pa) where
  ok:=by
    rintro c w env σ Qp Q rfl E p k;refine ha.ok c w env σ _ _ rfl E p fun x dx e1 w1 E1 l1 v1 q1=>?_;unfold asI at q1;split at q1
    · exact ⟨_,v1.intE,k _ e1 w1 E1 l1 q1⟩
    · exact q1.elim
def cutD (xs:List PyData) (lo hi:Option Int):List PyData:=(xs.drop (HT.sIx xs.length 0 lo)).take (HT.sIx xs.length xs.length hi - HT.sIx xs.length 0 lo)
def pSlL (pa:PDt) (pl ph:PEnv->(Option Int->PEnv->Prop)->Prop) (env:PEnv) (Q:SV->PEnv->Prop):Prop:=pa env fun x e=>asL x fun xs=>pl e fun lo e1=>ph e1 fun hi e2=>Q (.own (cutD xs lo hi)) e2
instance re_sl {K:Frag} {te:TE} {tl th:TO} {pa:PDt} {pl ph:PEnv->(Option Int->PEnv->Prop)->Prop} [ha:RW K te pa] [hl:RP K tl pl] [hh:RP K th ph]:RE K (tSl (rSlL K) te tl th) (pSlL pa pl ph) where
  ok:=by
    rintro c w env σ Qp Q rfl E p k;refine ha.ok c w env σ _ _ rfl E p fun x dx e1 w1 E1 l1 v1 q1=>?_;unfold asL at q1;split at q1
    · rename_i xs
      refine hl.ok c w1 e1 σ _ _ rfl E1 q1 fun lo e2 w2 E2 l2 q2=>?_;refine hh.ok c w2 e2 σ _ _ rfl E2 q2 fun hi e3 w3 E3 l3 q3=>?_;obtain ⟨a,vs,e,g1,g2⟩:=((v1.mono l2).mono l3).lst E3.wok;refine ⟨a,vs,e,g1,fun p hp=>k _ _ e3 _ ((Res.lst E3 hp (xs:=cutD xs lo hi) ?_).pre (l1.trans (l2.trans l3))) q3⟩;unfold cutV cutD;rw [g2.len];exact (g2.drop _).take _
    · exact q1.elim
def pRev (pa pb:PDt) (env:PEnv) (Q:SV->PEnv->Prop):Prop:=pa env fun x e=>asL x fun xs=>pb e fun k e2=>k=.int (-1)/\Q (.own xs.reverse) e2
instance re_rev {K:Frag} {te ts:TE} {pa pb:PDt} [ha:RW K te pa] [hb:RW K ts pb]:RE K (tRev K te ts) (pRev pa pb) where
  ok:=by
    rintro c w env σ Qp Q rfl E p k;refine ha.ok c w env σ _ _ rfl E p fun x dx e1 w1 E1 l1 v1 q1=>?_;unfold asL at q1;split at q1
    · refine hb.ok c w1 e1 σ _ _ rfl E1 q1 fun y dy e2 w2 E2 l2 v2 ⟨ey,q2⟩=>?_
      subst ey;obtain ⟨a,vs,e,g1,g2⟩:=(v1.mono l2).lst E2.wok;exact ⟨v2.intE,a,vs,e,g1,fun p hp=>k _ _ e2 _ ((Res.lst E2 hp g2.rev).pre (l1.trans l2)) q2⟩
    · exact q1.elim
theorem F8 {K:Frag} {w:Wd}:∀ {md:List Md} {vs:List V} {as:List SV},Args K w md vs as->as.length=vs.length/\∀ (i:Nat) s,as[i]?=some s->(∃ v,vs[i]?=some v/\VR ⟨K,w,noZ⟩ w v s)/\∀ u a,¬ s.foot u a
  | _,_,_,.nil=>⟨rfl,fun i s h=>by simp at h⟩
  | _,_,_,.dat h t=>⟨by simp [(F8 t).1],fun i s e=>match i,e with
    | 0,e=>by simp at e; subst e; exact ⟨⟨_,rfl,h⟩,fun _ _ z=>z⟩
    | i + 1,e=>by simpa using (F8 t).2 i s (by simpa using e)⟩
  | _,_,_,.vw h t=>⟨by simp [(F8 t).1],fun i s e=>match i,e with
    | 0,e=>by
      simp at e; subst e;refine ⟨⟨_,rfl,?_⟩,fun _ _ z=>z⟩;rcases h with h | ⟨l,vs,ys,e1,e2,h1,h2,h3⟩
      · exact .inl h
      · cases e2; exact .inr ⟨l,vs,e1,h1,h2,h3⟩
    | i + 1,e=>by simpa using (F8 t).2 i s (by simpa using e)⟩
  | _,_,_,.bt h t=>⟨by simp [(F8 t).1],fun i s e=>match i,e with
    | 0,e=>by simp at e; subst e; exact ⟨⟨_,rfl,h⟩,fun _ _ z=>z⟩
    | i + 1,e=>by simpa using (F8 t).2 i s (by simpa using e)⟩
  | _,_,_,.st h t=>⟨by simp [(F8 t).1],fun i s e=>match i,e with
    | 0,e=>by simp at e; subst e; exact ⟨⟨_,rfl,h⟩,fun _ _ z=>z⟩
    | i + 1,e=>by simpa using (F8 t).2 i s (by simpa using e)⟩
theorem J1 {K:Frag} {ts:TS} {ps:PSt} [hs:RS K ts ps] {md:List Md} {psp:PSp} {vs:List V} {H:Hpp} {Q:VK} {E:XK} {N:List Str} (h:spOf K md psp vs H Q E)
    (hb:∀ as Qp,psp as Qp->ps ⟨fun _=>Qp (.d .none),fun s _=>Qp s,fun _=>False,fun _=>False⟩ (as.map some++List.replicate (N.length - md.length) none)):ts { nx:=fun _ H'=>Q .non H',rt:=Q } (L2.G3 N vs) H:=by
  obtain ⟨w,as,Qp,rfl,ok,a,p,k⟩:=h;obtain ⟨hl,hat⟩:=F8 a;have look:∀ (i:Nat) s,(as.map some++List.replicate (N.length - md.length) none)[i]?=some (some s)->as[i]?=some s:=fun i s e=>by
    rw [List.getElem?_append] at e;split at e
    · rw [Zh] at e
      cases q:as[i]? with
      | none=>rw [q] at e; cases e
      | some t=>rw [q] at e; cases e; rfl
    · rw [List.getElem?_replicate] at e
      split at e <;> cases e
  refine hs.ok ⟨K,w,noZ⟩ w (as.map some++List.replicate (N.length - md.length) none) (L2.G3 N vs) _ _ rfl ⟨ok,Le.refl w,by simp [L2.G3,hl,a.len],fun i s e=>?_,fun i j s t v u a e _ _ _ f=>absurd f ((hat i _ (look i _ e)).2 v a),fun a z=>z.elim,fun a j t u z=>z.elim⟩ ⟨fun env σ w' E' _ q=>?_,fun v s _ _ w' E' h r q=>k v s w' E'.wok E'.le0 h r q,fun _ _ _ _ _ z=>z,fun _ _ _ _ _ z=>z⟩ (hb as Qp p)
  · obtain ⟨⟨v,h1,h2⟩,_⟩:=hat i s (look i s e)
    refine ⟨v,?_,h2⟩;unfold L2.G3;rw [List.getElem?_append_left (by rw [Zl]; exact (Zs h1).1),Zh,h1]; rfl
  · exact k .non (.d .none) w' E'.wok E'.le0 (show Den _ _ _ _ from .non) rfl q
def pLaw:PSp:=fun as Q=>∃ ns:List Int,as=[.bor (ns.map .int)]/\ns.length<=63/\Q (.d (.bool true))
theorem A8g {K:Frag} {F:Hpp}:∀ ns:List Int,DenAll K F (ns.map V.int) (ns.map .int)
  | []=>.nil
  | n :: r=>.cons (.int n) (A8g r)
theorem B8g {K:Frag}:∀ vs H Q E,B3p K vs H Q E->spOf K [.vw] pLaw vs H Q E:=by
  rintro vs H Q E ⟨a,ns,rfl,hS,hl,k⟩;refine ⟨⟨fun _=>False,H,fun b=>if b=a then H a else none⟩,[.bor (ns.map .int)],fun s=>s=.d (.bool true),rfl,⟨fun b o e=>?_,fun _ z=>z.elim,fun _ z=>z.elim⟩,.vw (.inl (.lst ?_ (A8g ns))) .nil,⟨ns,rfl,hl,rfl⟩,fun v s w' ok l h r e=>?_⟩
  · dsimp only at e
    split at e
    · rename_i z; rw [z]; exact e
    · cases e
  · rcases hS with (h | ⟨o,h⟩) | h
    · exact .inl (.inl (by dsimp only; rw [if_pos rfl]; exact h))
    · exact .inl (.inr ⟨o,by dsimp only; rw [if_pos rfl]; exact h⟩)
    · exact .inr h
  · subst e
    have:v=.bl true:=Den.blE h;subst this;exact k _
end Pu
namespace L2
open PySem PySem.Spec PyProof.Rows
theorem B4d {X:Cx} {K:PySem.W.Frag} {e st:Expr} {te ts:TE} {pos p2:Pos} (h:X.K=K) (he:PE X e te) (hst:PE X st ts)
    (hsub:∀ (a sz:Addr),∃ ops,subscripted (.Slice none none (some st) p2) false (.ref a) (.ref sz)=operate ops (getItem (.ref a) (.ref sz)):=by intro a sz; exact ⟨_,by with_unfolding_all rfl⟩):PE X (.Subscript e (.Slice none none (some st) p2) pos) (tRev K te ts):=by subst h; exact B6w he hst hsub
end L2
namespace Pu
open PySem L2 My Prf
theorem A5k {q:Rat} {Q:SV->Prop}:pIx (dq q) (.int 0) Q=Q (.d (.int q.num)):=rfl
theorem A5j {q:Rat} {Q:SV->Prop}:pIx (dq q) (.int 1) Q=Q (.d (.int (q.den:Int))):=rfl
theorem A65 {i:Int}:(PyData.int i).canLay0=true:=rfl
theorem A19 {b:Bool}:(PyData.bool b).canLay0=true:=rfl
theorem A17:PyData.none.canLay0=true:=rfl
theorem A8e {i:Int}:(PyData.int i).depth=0:=rfl
theorem A2u {b:Bool}:(PyData.bool b).depth=0:=rfl
theorem A8c {s:Str}:(PyData.str s).depth=0:=rfl
theorem A2t:PyData.none.depth=0:=rfl
theorem B2l {q:Rat}:(dq q).canLay0=true:=rfl
theorem B28 {q:Rat}:(dq q).depth=1:=rfl
theorem T6 {i j:Int}:PyData.eqv (.int i) (.int j)=decide (i=j):=by
  show (i == j)=_;by_cases h:i=j <;> simp [h]
theorem B3s {p q:Rat} (h1:p.num=q.num) (h2:(p.den:Int)=q.den):p=q:=Rat.ext h1 (by omega)
theorem B27 {p q:Rat}:PyData.eqv (dq p) (dq q)=decide (p=q):=by
  show (PyData.eqv (.int p.num) (.int q.num) && (PyData.eqv (.int (p.den:Int)) (.int (q.den:Int)) && true))=_;rw [T6,T6,Bool.and_true];by_cases h:p=q
  · subst h; simp
  · rw [Zd h]
    by_cases h1:p.num=q.num
    · have h2:¬ (p.den:Int)=(q.den:Int):=fun z=>h (B3s h1 z)
      rw [Zd h2,Bool.and_false]
    · rw [Zd h1,Bool.false_and]
theorem X3 {q:Rat}:PyData.eqv .none (dq q)=false:=rfl
theorem X2 {q:Rat}:PyData.eqv (dq q) .none=false:=rfl
theorem A70 {q:Rat}:isNo (dq q)=false:=rfl
theorem A3p:PyData.tuple [.int 0,.int 1]=dq 0:=rfl
theorem B16:PyData.tuple [.int 1,.int 1]=dq 1:=rfl
theorem B0o {q:Rat}:tyD (dq q)="tuple":=rfl
theorem B2z:kitB "bool" "bool"=some true:=by decide +kernel
theorem B2v:kitB "int" "int"=some true:=by decide +kernel
theorem B2y:kitB "bool" "int"=some true:=by decide +kernel
theorem B2p:kitB "str" "str"=some true:=by decide +kernel
theorem B2t:kitB "list" "list"=some true:=by decide +kernel
theorem B2s:kitB "list" "tuple"=some false:=by decide +kernel
theorem B2n:kitB "tuple" "list"=some false:=by decide +kernel
theorem B2o:kitB "tuple" "bool"=some false:=by decide +kernel
theorem B2q:kitB "NoneType" "tuple"=some false:=by decide +kernel
theorem A71 {K:Frag} {F:Hpp}:∀ {vs:List V} {ns:List Int},DenAll K F vs (ns.map .int)->vs=ns.map V.int
  | _,[],.nil=>rfl
  | _,n :: r,.cons h t=>by rw [h.intE,A71 t]; rfl
def A4p:PSp:=fun as Q=>∃ n:Int,as=[.st,.d (.int n)]/\0 < n/\Sm 4000 n/\∀ d:Int,0<=d->d < n->Q (.d (.int d))
def A1n:PSp:=fun as Q=>∃ (ns:List Int) (k:Int),as=[.bor (ns.map .int),.d (.int k)]/\0<=k/\k<=63/\Q .st
theorem B3f {K:Frag}:∀ vs H Q E,spOf K [.st,.dat] A4p vs H Q E->A38 vs H Q E:=by
  rintro vs H Q E ⟨w,as,Qp,rfl,ok,a,⟨n,rfl,n0,sn,q⟩,k⟩;cases a with
  | st h t=>cases t with
    | dat h' t =>
      cases t;obtain ⟨p,e,hm⟩:=h;subst e;rw [Den.intE h'];refine ⟨p,n,rfl,ok.st p hm,n0,sn,fun d H' d0 d1 S' kp=>?_⟩;have out:∀ b o,w.H b=some o->b≠p->H' b=some o:=fun b o e ne=>kp b o ne e;have pn:=ok.nf p hm;refine k (.int d) (.d (.int d)) ⟨w.M,H',w.F⟩ ⟨fun b o e=>out b o (ok.sub b o e) (fun z=>by rw [z,pn] at e; cases e),fun r hr=>?_,ok.nf⟩ ⟨⟨Same.refl _,fun b o e nb=>out b o e (fun z=>nb (z ▸ hm)),fun _ z=>z,fun _ z=>.inl z,fun b e=>?_⟩,fun _ _ z=>.inl z⟩ (Den.int d) rfl (q d d0 d1)
      · by_cases z:r=p
        · subst z; exact S'
        · exact (ok.st r hr).kp z kp
      · cases hb:w.H b with
        | none=>rfl
        | some o =>
          by_cases z:b=p
          · subst z; obtain ⟨_,_,_,hp,_⟩:=S'.ex; rw [show H' b=none from e] at hp; cases hp
          · have:=out b o hb z; rw [show H' b=none from e] at this; cases this
theorem B0i {K:Frag}:∀ vs H Q E,spOf K [.vw,.dat] A1n vs H Q E->A08 K vs H Q E:=by
  rintro vs H Q E ⟨w,as,Qp,rfl,ok,a,⟨ns,kk,rfl,k0,k1,q⟩,k⟩;cases a with
  | vw h t=>cases t with
    | dat h' t =>
      cases t;obtain ⟨a,us,e,hS,hd⟩:=h.lst ok;subst e;rw [Den.intE h'];refine ⟨a,ns,kk,rfl,by rw [<- A71 hd]; exact hS,k0,k1,fun p H' hp S' kp=>?_⟩;have out:∀ b o,w.H b=some o->H' b=some o:=fun b o e=>kp b o (B6 e hp) e;refine k (.ref p) .st ⟨fun b=>w.M b\/b=p,H',w.F⟩ ⟨fun b o e=>out b o (ok.sub b o e),fun r hr=>?_,fun r hr=>?_⟩ ⟨⟨Same.refl _,fun b o e _=>out b o e,fun _ z=>.inl z,fun b z=>?_,fun b e=>?_⟩,fun _ _ z=>.inl z⟩ ⟨p,rfl,.inr rfl⟩ rfl q
      · rcases hr with hr | rfl
        · exact (ok.st r hr).kp (ok.mne hp hr) kp
        · exact S'
      · rcases hr with hr | rfl
        · exact ok.nf r hr
        · exact ok.fnone hp
      · rcases z with z | rfl
        · exact .inl z
        · exact .inr hp
      · cases hb:w.H b with
        | none=>rfl
        | some o=>have:=out b o hb; rw [show H' b=none from e] at this; cases this
def B6q:PSp:=fun as Q=>∃ a b:Int,as=[.d (.int a),.d (.int b)]/\Q (.d (.int ((Int.gcd a b:Nat):Int)))
def B34:PSp:=fun as Q=>∃ t b:Int,as=[.d (.int t),.d (.int b)]/\0 < b/\Sm 8000 t/\Sm 8000 b/\Q (.d (dq (Rat.divInt t b)))
def B6r (f:Rat->Rat->Rat):PSp:=fun as Q=>∃ p q:Rat,as=[.d (dq p),.d (dq q)]/\SmQ 3900 p/\SmQ 3900 q/\Q (.d (dq (f p q)))
end Pu
namespace L2
open PySem PySem.Spec PyProof.Rows
section
variable {X:Cx} {tg:Expr}
def B6h (K:PySem.W.Frag):R2:=fun x y H Q=>∃ l b xs zs,x=.ref l/\y=.ref b/\SqL K H l xs/\SqL K H b zs/\xs.length + zs.length<=sizeLine/\∀ p,H p=none->Q (.ref p) (upd H p (.lst (xs++zs)))
theorem A0k {K:PySem.W.Frag} (hK:X.K=K):OpR X (binaryOp .Add) (B6h K):=by
  subst hK;intro pins s σ H x y v u Q I rx ry h;obtain ⟨l,b,xs,zs,rfl,rfl,hH,hB,hz,q⟩:=h;cases rx;cases ry;obtain ⟨its,r,hl,z⟩:=I.list hH;obtain ⟨its2,r2,hl2,z2⟩:=I.list hB;have n1:=r.length;have n2:=r2.length;obtain ⟨⟨k1,dd,da,sl⟩,m1,ho,e1,e2,e3⟩:=hl;obtain ⟨⟨k2,dd2,da2,sl2⟩,m2,ho2,e4,e5,e6⟩:=hl2;dsimp only at e1 e2 e3 e4 e5 e6;subst e1 e2 e3 e4 e5 e6;refine concat_meets ⟨_,ho,rfl⟩ ⟨_,ho2,rfl⟩ noFill_list_add seq_list_add F.slot_list_add F.entry_list_add (F.args_list_add_2 _ _) (list_addW l b its.toArray its2.toArray m1 m2 none none sl sl2 (by rw [List.size_toArray,List.size_toArray]; omega)) ⟨ho,ho2,?_⟩;rw [show its.toArray++its2.toArray=(its++its2).toArray by simp];exact ⟨.ref _,_,I.lnew (t':=s.toks) (r.append r2) (by rw [Ze]; omega),rfl,q _ I.fresh⟩
def rAll (K:PySem.W.Frag):List V->Hp->VK->Prop:=fun xs H Q=>∃ (p:Addr) (bs:List Bool),xs=[.ref p]/\SqL K H p (bs.map V.bl)/\Q (.bl (bs.all id)) H
theorem B5p {bs:List Bool}:∀ {us:List Value},Vals (bs.map V.bl) us->us=bs.map Value.bool:=by
  induction bs with
  | nil=>intro us h; cases h; rfl
  | cons b r ih =>
    intro us h;cases h with
    | cons h t=>rw [ih t,show _=Value.bool b from h]; rfl
theorem A4c (bs:List Bool):(List.range bs.length).all (fun i=>bs.getD i false)=bs.all id:=by
  rw [Bool.eq_iff_iff,List.all_eq_true,List.all_eq_true];constructor
  · intro h b hb
    obtain ⟨i,hi,e⟩:=List.mem_iff_getElem.mp hb;have:=h i (List.mem_range.mpr hi);rw [List.getD_eq_getElem?_getD,Zg hi,e] at this;exact this
  · intro h i hi
    have hi:=List.mem_range.mp hi;rw [List.getD_eq_getElem?_getD,Zg hi];exact h _ (List.getElem_mem hi)
theorem B3c {pins:List (Addr × Obj)} {σ:St} {H:Hp} {s:Shared} {p:Addr} {bs:List Bool} (hc:X.calm=true) (I:Inv X pins σ H s) (hS:SqL X.K H p (bs.map V.bl)) {A:Around} (hA:A.handled=none) {Qf:Bool->Value->Shared->Prop} {E:Value->Shared->Prop} {g:(Nat->Bool)->Nat->Bool}
    (hQ:∀ h' tk,Inv X pins σ H { s with heap:=h',toks:=tk }->Qf (g (fun i=>bs.getD i false) bs.length) (.bool (g (fun i=>bs.getD i false) bs.length)) { s with heap:=h',toks:=tk }) :
    wpAny (model X.prog X.w) A (pyIter (.ref p)) (fun it s₂=>∃ J fp wr n P St tr,it=.ref J/\Walks X.prog X.w A J fp wr n P St/\St 0 s₂.heap/\TruthOf X.prog X.w A P tr /\
      ∀ h' tk,(∀ b o,b ∉ wr->s₂.heap.get? b=some o->h'.get? b=some o)->Qf (g tr n) (.bool (g tr n)) { s₂ with heap:=h',toks:=tk }) E s:=by
  obtain ⟨its,r,hl,z⟩:=I.list hS;have e:=B5p r;refine wpAny_pyIter_list hl.isList ?_;have hne:p≠s.heap.objs.size:=by
    obtain ⟨o,_,ho,_⟩:=hl;exact Nat.ne_of_lt (Heap.lt_size ho)
  have W:=Walks.list (prog:=X.prog) (w:=X.w) (A:=A) hA s.heap.objs.size p hne its.toArray;have hn:its.toArray.size=bs.length:=by rw [List.size_toArray,e,Zl]
  rw [hn] at W;refine ⟨s.heap.objs.size,_,_,_,_,_,fun i=>bs.getD i false,rfl,W,⟨⟨_,Heap.get?_push_size _ rfl,rfl,rfl⟩,hl.isList.push _⟩,fun i v s' Q' E' hP q=>?_,fun h' tk hk=>hQ h' tk ?_⟩
  · dsimp only at hP
    rw [List.getElem?_toArray,e,Zh] at hP;cases hb:bs[i]? with
    | none=>rw [hb] at hP; cases hP
    | some b =>
      rw [hb] at hP; cases hP;refine wpAny_truthy_bool ?_;dsimp only at q;rw [List.getD_eq_getElem?_getD,hb] at q;exact q
  · have I1:Inv X pins σ H { s with heap:=s.heap.push { cls:=.type "list_iterator",data:=.fields #[.ref p,.int 0 0] } }:=I.kept (t':=s.toks) fun b o e=>Heap.get?_push_of_some _ e
    have f:=I.fpOk (H':=H) (Zv s.heap.objs.size) I.fresh;exact I1.turned (t':=tk) (fun b o hb e=>hk b o (fun z=>hb (Zn z)) e) f.1 f.2.1 f.2.2.2.1 f.2.2.2.2.1 f.2.2.2.2.2
theorem A8m {K:PySem.W.Frag} (hK:X.K=K) (hc:X.calm=true:=by rfl):CallR X (.builtin "all") (rAll K):=by
  subst hK;intro pins s σ H xs us Q I r h;obtain ⟨p,bs,rfl,hS,q⟩:=h;cases r with
  | cons r rr =>
    cases rr;cases r;refine call_all_walk (B3c hc I hS (A:=X.A.in1) (I.ok.hd hc) (g:=fun tr n=>(List.range n).all tr) (Qf:=fun _=>EP X pins σ Q) fun h' tk I'=>⟨.bl _,H,I',rfl,?_⟩);rw [A4c]; exact q
end
end L2
namespace L2
open PySem PySem.Spec PyProof.Rows
section
variable {X:Cx}
def T5 (T:String):List String->Option Bool
  | []=>some false
  | c :: r=>match kitB T c with
    | some true=>some true
    | some false=>T5 T r
    | none=>none
end
end L2
namespace Pu
open PySem L2 My Prf
def dwnD (lo:Int) (n:Nat):List PyData:=(List.range n).map fun k:Nat=>PyData.int (lo - (k:Int))
def B9q (pa:PAr) (env:PEnv) (Q:List PyData->PEnv->Prop):Prop:=pa env fun xs e=>match xs with
  | [.int i,.int j,.int k]=>k=-1/\((-(2 ^ 61)<=i/\i < 2 ^ 61)/\-(2 ^ 61)<=j/\j < 2 ^ 61)/\Q (dwnD i (i - j).toNat) e
  | _=>False
def pCat (x y:PyData) (Q:SV->Prop):Prop:=match x,y with
  | .list xs,.list ys=>xs.length + ys.length<=1000000/\Q (.own (xs++ys))
  | _,_=>False
instance ro_cat {K:Frag}:RO K (B6h K) pCat where
  ok:=by
    rintro c w env σ x y dx dy Qp Q rfl E vx vy p k;unfold pCat at p;split at p
    · obtain ⟨a,vs,e,h1,h2⟩:=vx.lst E.wok
      obtain ⟨b,us,e',g1,g2⟩:=vy.lst E.wok;exact ⟨a,b,vs,us,e,e',h1,g1,by rw [h2.len,g2.len]; exact Zx p.1 (by decide),fun q hq=>k _ _ _ (Res.lst E hq (h2.app g2)) p.2⟩
    · exact p.elim
def blsD:List PyData->Option (List Bool)
  | []=>some []
  | .bool b :: r=>(blsD r).map (b :: ·)
  | _=>none
theorem A2w:∀ bs:List Bool,blsD (bs.map .bool)=some bs
  | []=>rfl
  | b :: r=>by show (blsD (r.map .bool)).map (b :: ·)=_; rw [A2w r]; rfl
theorem A2x {K:Frag} {F:Hpp}:∀ {vs:List V} {xs:List PyData} {bs:List Bool},DenAll K F vs xs->blsD xs=some bs->vs=bs.map V.bl
  | _,_,bs,.nil,h=>by cases h; rfl
  | _,_,bs,.cons (x:=x) (xs:=vs) (d:=d) (ds:=ds) h t,e=>by
    cases d with
    | bool b =>
      have e':(blsD ds).map (b :: ·)=some bs:=e;cases q:blsD ds with
      | none=>rw [q] at e'; cases e'
      | some r =>
        rw [q] at e'; cases e';rw [h.blE,A2x t q]; rfl
    | _=>cases e
def pAll (xs:List PyData) (Q:SV->Prop):Prop:=match xs with
  | [.list ys]=>∃ bs,blsD ys=some bs/\Q (.d (.bool (bs.all id)))
  | _=>False
def pAny (xs:List PyData) (Q:SV->Prop):Prop:=match xs with
  | [.list ys]=>∃ bs,blsD ys=some bs/\Q (.d (.bool (bs.any id)))
  | _=>False
instance rb_all {K:Frag}:RB K (rAll K) pAll where
  ok:=by
    rintro c w env σ vs xs Qp Q rfl E vv p k;unfold pAll at p;split at p
    · obtain ⟨bs,e,q⟩:=p
      cases vv with | cons h t=>cases t; obtain ⟨a,us,e',h1,h2⟩:=h.lst E.wok; exact ⟨a,bs,by rw [e'],by rw [<- A2x h2 e]; exact h1,k _ _ w (Res.data E (.bl _)) q⟩
    · exact p.elim
def B9t (cs:List String) (pa:PDt) (env:PEnv) (Q:SV->PEnv->Prop):Prop:=pa env fun x e=>cs.length<=1000/\match T5 (tyD x) cs with
  | some b=>Q (.d (.bool b)) e
  | none=>False
theorem A2f:T5 "bool" ["list","tuple"]=some false:=by decide +kernel
theorem A2c:T5 "NoneType" ["list","tuple"]=some false:=by decide +kernel
theorem A2e:T5 "int" ["list","tuple"]=some false:=by decide +kernel
theorem A2b:T5 "str" ["list","tuple"]=some false:=by decide +kernel
theorem A2d:T5 "list" ["list","tuple"]=some true:=by decide +kernel
theorem A2a:T5 "tuple" ["list","tuple"]=some true:=by decide +kernel
theorem B4x {x:PyData} {xs:List PyData} {Q:SV->Prop}:pGet (x :: xs) 0 Q=Q (.d x):=by unfold pGet; rw [at0]
theorem B4w {x y:PyData} {xs:List PyData} {Q:SV->Prop}:pGet (x :: y :: xs) 1 Q=Q (.d y):=by unfold pGet; rw [at1]
theorem B7k {x y z:PyData} {xs:List PyData} {Q:SV->Prop}:pGet (x :: y :: z :: xs) 2 Q=Q (.d z):=by unfold pGet; rw [at2]
theorem B7j {x y z u:PyData} {xs:List PyData} {Q:SV->Prop}:pGet (x :: y :: z :: u :: xs) 3 Q=Q (.d u):=by unfold pGet; rw [at3]
theorem A0i {xs:List PyData} {i:Int} {z:PyData} {Q:SV->Prop} (h:atI xs i=some z) (q:Q (.d z)):pGet xs i Q:=by unfold pGet; rw [h]; exact q
theorem pIxT {xs:List PyData} {i:Int} {Q:SV->Prop}:pIx (.tuple xs) (.int i) Q=pGet xs i Q:=rfl
end Pu
namespace L2
open PySem PySem.Spec PyProof.Rows
structure QE (X:Cx) (e:Expr) (t:TE):Prop where
  out:PE X e  t
structure QT (X:Cx) (e:Expr) (t:TT):Prop where
  out:PT X e  t
structure QW (X:Cx) (e:Expr) (t:TT):Prop where
  out:PW X e  t
structure QA (X:Cx) (e:List Expr) (t:TA):Prop where
  out:PA X e  t
structure QSs (X:Cx) (e:List Stmt) (t:TS):Prop where
  out:PSs X e  t
structure QS (X:Cx) (e:Stmt) (t:TS):Prop where
  out:PS X e  t
structure QGs (X:Cx) (e:List Expr) (t:TGs):Prop where
  out:PGs X e  t
structure QG (X:Cx) (e:Expr) (t:TG):Prop where
  out:PG X e  t
structure QI (X:Cx) (e e2:Expr) (t:TI):Prop where
  out:PI X e e2  t
structure QTs (X:Cx) (e:List Expr) (t:TT):Prop where
  out:PTs X e  t
structure QO (X:Cx) (e:Option Expr) (t:TO):Prop where
  out:PO X e  t
section
variable {X:Cx}
theorem qpv (i: Nat) {x:Str} {pos:Pos} (hN: X.N[i]?=some x:=by rfl) (hv: Vis X.env.scope x:=by first | exact Or.inl rfl | exact Or.inr (Or.inl rfl) | exact Or.inr (Or.inr rfl)) (hd: (x == ("__debug__":Str))=false:=by decide) (hcd: (x == ("__classdict__":Str))=false:=by decide):QE X (.Name x pos) (tVar i):=⟨pv i hN hv hd hcd⟩
theorem A3 {i j pos}:QE X (.Constant (.int i) j pos) (tC (.int i)):=⟨B7 ⟩
theorem G1 {b j pos}:QE X (.Constant (.bool b) j pos) (tC (.bl b)):=⟨B9o ⟩
theorem D0 {j pos}:QE X (.Constant .none j pos) (tC .non):=⟨B6x ⟩
theorem A5 {x j pos}:QE X (.Constant (.str x) j pos) (tC (.str x)):=⟨B6v ⟩
theorem K8 {x:Str} {v:V} {u:Value} {pos:Pos} (hg: Gl X x) (hm: X.mg x=some u) (r: RelV v u) (hd: (x == ("__debug__":Str))=false:=by decide):QE X (.Name x pos) (tC v):=⟨A4v hg hm r hd⟩
theorem C3 {x:Str} {v:V} {u:Value} {pos:Pos} (hg: Gl X x) (hm: X.mg x=none) (hv: bootBuiltins x=some u) (r: RelV v u) (hn: x≠"__name__":=by decide) (hd: (x == ("__debug__":Str))=false:=by decide):QE X (.Name x pos) (tC v):=⟨A4w hg hm hv r hn hd⟩
theorem A8 {op:Operator} {r:R2} (ho: OpR X (binaryOp op) r) (ha: QE X a ta) (hb: QE X b tb):QE X (.BinOp a op b pos) (tOp r ta tb):=⟨F1 ho ha.out hb.out⟩
theorem B6k {op:UnaryOp} {r:V->Hp->VK->Prop} (ho: UnR X (unaryOp op) r) (ha: QE X a ta):QE X (.UnaryOp op a pos) (tUn r ta):=⟨B9m ho ha.out⟩
theorem B3y (ha: QE X a ta):QE X (.UnaryOp .Not a pos) (B3j ta):=⟨B01 ha.out⟩
theorem K9 {op:CmpOp} {r:R2} (ho: OpR X (compareOp op) r) (ha: QE X a ta) (hb: QE X b tb) (hm: behindInMarks op b=false):QE X (.Compare a [op] [b] pos) (tOp r ta tb):=⟨S9 ho ha.out hb.out hm⟩
theorem A9 {op:CmpOp} {r:R2} (ho: OpR X (compareOp op) r) (ha: QE X a ta) (hb: QE X b tb) (hm: behindInMarks op b=false):QT X (.Compare a [op] [b] pos) (A35 (tOp r ta tb)):=⟨A4o ho ha.out hb.out hm⟩
theorem A4i {op op':CmpOp} {r r':R2} (ho: OpR X (compareOp op) r) (ho': OpR X (compareOp op') r') (ha: QE X a ta) (hb: QE X b tb) (hc: QE X c tc) (hm: lastMarks [op,op'] [b,c]=false:=by with_unfolding_all rfl):QT X (.Compare a [op,op'] [b,c] pos) (A35 (A36 r r' ta tb tc)):=⟨A9h ho ho' ha.out hb.out hc.out hm⟩
theorem S3 {rest:List Expr} (ha: QE X a ta) (hb: QE X (.BoolOp .And (b :: rest) pos) tb):QE X (.BoolOp .And (a :: b :: rest) pos) (B3n ta tb):=⟨B03 ha.out hb.out⟩
theorem A0b {op} {t:TE} (h: QE X a t):QE X (.BoolOp op [a] pos) t:=⟨B00 h.out⟩
theorem A4h {rest:List Expr} (ha: QT X a tA) (hb: QW X (.BoolOp .And (b :: rest) pos) tB'):QW X (.BoolOp .And (a :: b :: rest) pos) (tAnd tA tB'):=⟨B6n ha.out hb.out⟩
theorem O8 {rest:List Expr} (ha: QT X a tA) (hb: QW X (.BoolOp .Or (b :: rest) pos) tB'):QW X (.BoolOp .Or (a :: b :: rest) pos) (tOr tA tB'):=⟨B9l ha.out hb.out⟩
theorem A1g (ha: QT X a tA):QW X (.BoolOp .And [a] pos) tA:=⟨B31 ha.out⟩
theorem K1 (ha: QT X a tA):QW X (.BoolOp .Or [a] pos) tA:=⟨B6m ha.out⟩
theorem E7 (ha: QT X a tA):QT X (.UnaryOp .Not a pos) (tNot tA):=⟨B6o ha.out⟩
theorem C4 {e:Expr} {t:TE} (h: QE X e t) (he: ∀ whole,isTrue e X.env whole=(do let v <- whole; standAt e.pos; holding [v] (truthy v)):=by intro _; rfl):QT X e (tB t):=⟨B0y h.out he⟩
theorem E8 {c:Expr} (hc: QT X c tA) (ha: QE X a ta) (hb: QE X b tb):QE X (.IfExp c a b pos) (tIf tA ta tb):=⟨A9n hc.out ha.out hb.out⟩
theorem A9f (hc: X.calm=true) (C: CompSc X scope cl N' cap) (hi: QI X tg iter wi) (hg: ∀ s3 H3 fp,QG (X.block scope cl N' s3 H3 fp) tg g) (ht: ∀ s3 H3 fp,QTs (X.block scope cl N' s3 H3 fp) ifs tt) (he: ∀ s3 H3 fp,QE (X.block scope cl N' s3 H3 fp) elt te) (hs: ∀ x,foldedSetIterable iter X.env x=pure x:=by intro _; rfl):QE X (.ListComp elt [⟨tg,iter,ifs,0⟩] scope pos) (B3m wi g tt te cap):=⟨B4e hc C hi.out (fun a b c=>(hg a b c).out) (fun a b c=>(ht a b c).out) (fun a b c=>(he a b c).out) hs⟩
theorem M5 {x1} (h: QA X es t):QE X (.Tuple es x1 pos) (tTup t):=⟨B6u h.out⟩
theorem F6 (h: QA X es t):QE X (.List es pos) (tLst t):=⟨B02 h.out⟩
theorem G0 {lo hi:Option Expr} {r:V->Option Int->Option Int->Hp->VK->Prop} (hr: SlR X r) (he: QE X e te) (hl: QO X lo tl) (hu: QO X hi th):QE X (.Subscript e (.Slice lo hi none p2) pos) (tSl r te tl th):=⟨A9m hr he.out hl.out hu.out⟩
theorem J7 :QO X none Z4:=⟨B39 ⟩
theorem J6 (h: QE X e te):QO X (some e) (B3i te):=⟨B38 h.out⟩
theorem A9e {X:Cx} {K:PySem.W.Frag} {e st:Expr} {te ts:TE} {pos p2:Pos} (h: X.K=K) (he: QE X e te) (hst: QE X st ts) (hsub: ∀ (a sz:Addr),∃ ops,subscripted (.Slice none none (some st) p2) false (.ref a) (.ref sz)=operate ops (getItem (.ref a) (.ref sz)):=by intro a sz; exact ⟨_,by with_unfolding_all rfl⟩):QE X (.Subscript e (.Slice none none (some st) p2) pos) (tRev K te ts):=⟨B4d h he.out hst.out hsub⟩
theorem B6l {r:R2} (hr: IxR X r) (ha: QE X a ta) (hb: QE X b tb) (hs: A0w b):QE X (.Subscript a b pos) (tOp r ta tb):=⟨S8 hr ha.out hb.out hs⟩
theorem A9g (F: FnOk X.prog X.w X.K X.mg X.base CX k f fd ps sp) (hr: Room k X.A) (hg: Gl X x) (hm: X.mg x=some (.ref f)) (hk: PySem.W.keepIn X.K (.ref f)=true) (hb: Binds X.K fd ps ds) (hd: Vals dvs ds) (hx: A2z CX X E) (ha: QA X (e :: es) t) (hdb: (x == ("__debug__":Str))=false:=by decide) (he: starEach (e :: es) X.env=(false,eval e X.env) :: starEach es X.env:=by rfl) (hpl: (backTo pos (starEach es X.env)).any (·.1)=false:=by rfl):QE X (.Call (.Name x p) (e :: es) [] pos) (A84 sp dvs E t):=⟨B4f F hr hg hm hk hb hd hx ha.out hdb he hpl⟩
theorem B1 {id:String} (hc: CallR X (.builtin id) r) (hg: Gl X x) (hm: X.mg x=none) (hv: bootBuiltins x=some (.builtin id)) (ha: QA X (e :: es) t) (hn: x≠"__name__":=by decide) (hdb: (x == ("__debug__":Str))=false:=by decide) (he: starEach (e :: es) X.env=(false,eval e X.env) :: starEach es X.env:=by rfl) (hpl: (backTo pos (starEach es X.env)).any (·.1)=false:=by rfl):QE X (.Call (.Name x p) (e :: es) [] pos) (tCB r t):=⟨T0 hc hg hm hv ha.out hn hdb he hpl⟩
theorem M6 (hc: CallR X (.type T) r) (hg: Gl X x) (hm: X.mg x=none) (hv: bootBuiltins x=some (.type T)) (ha: QA X (e :: es) t) (hn: x≠"__name__":=by decide) (hdb: (x == ("__debug__":Str))=false:=by decide) (he: starEach (e :: es) X.env=(false,eval e X.env) :: starEach es X.env:=by rfl) (hpl: (backTo pos (starEach es X.env)).any (·.1)=false:=by rfl):QE X (.Call (.Name x p) (e :: es) [] pos) (tCB r t):=⟨V7 hc hg hm hv ha.out hn hdb he hpl⟩
theorem M7 {K : PySem.W.Frag} (hK : X.K = K) {id : String} (pa: PlainAttrs T) (slot: Slot T name id) (hty: typeOf (.builtin id) = pure (.type "method_descriptor")) (hm: MtR X id r) (ho: QE X o to) (ha: QA X (e :: es) t) (hbase: attributeBase o name X.env (eval o X.env) = eval o X.env := by rfl) (hfew: ((backTo cpos (starEach (e :: es) X.env)).all (fun x => !x.1) && (backToKw cpos (keywordEach [] X.env)).all (fun x => x.1.isSome)
      && decide ((e :: es).length + ([]:List Keyword).length + (if ([]:List Keyword).isEmpty then 0 else 1) < 30))=true:=by rfl) (hline: (apos.endLine == cpos.line)=true:=by rfl) (hs: starEach (e :: es) X.env=(false,eval e X.env) :: starEach es X.env:=by rfl) (hplain: (backTo cpos (starEach es X.env)).any (·.1)=false:=by rfl):QE X (.Call (.Attribute o name apos) (e :: es) [] cpos) (tBM K T r to t):=by subst hK; exact ⟨B9n pa slot hty hm ho.out ha.out hbase hfew hline hs hplain⟩
theorem A2 :QA X [] tNil:=⟨pa_nil ⟩
theorem A0 (ha: QE X e te) (hr: QA X es t) (hs: starEach (e :: es) X.env=(false,eval e X.env) :: starEach es X.env:=by rfl):QA X (e :: es) (E6 te t):=⟨pa_cons ha.out hr.out hs⟩
theorem B3 :QSs X [] B3k:=⟨A0d ⟩
theorem A4 {st:Stmt} (h1: QS X st t):QSs X [st] t:=⟨M8 h1.out⟩
theorem A1 {st:Stmt} {rest:List Stmt} (h1: QS X st t) (h2: QSs X rest u):QSs X (st :: rest) (tSeq t u):=⟨D1 h1.out h2.out⟩
theorem A4j {st:Stmt}:QS X st A06:=⟨A9j ⟩
theorem A7 (he: QE X e te):QS X (.Return (some e) pos) (tRet te):=⟨A1m he.out⟩
theorem A1i (he: QE X e te) (hs: swapsWith e none pos.line X.env=pure false:=by rfl):QS X (.Expr e pos) (B3l te):=⟨B36 he.out hs⟩
theorem C2 {c:Expr} {a b:List Stmt} {tc:TT} (hc: QT X c tc) (ha: QSs X a t) (hb: QSs X b u):QS X (.If c a b pos) (tIfS tc t u):=⟨B35 hc.out ha.out hb.out⟩
theorem K7 {c:Expr} {body:List Stmt} {tc:TT} {tb:TS} (hp: PassesOwn (model X.prog X.w) X.A X.env X.xe) (hc: QT X c tc) (hb: QSs X body tb):QS X (.While c body [] pos) (A34 tc tb):=⟨A9i hp hc.out hb.out⟩
theorem A4k {iter:Expr} {body:List Stmt} {wi:TI} {g:TG} {tb:TS} {pos:Pos} (hp: PassesOwn (model X.prog X.w) X.A X.env X.xe) (hc: X.calm=true) (hi: QI X tg iter wi) (hg: QG X tg g) (hb: QSs X body tb) (hs: ∀ x,foldedSetIterable iter X.env x=pure x:=by intro _; rfl):QS X (.For tg iter body [] pos) (tFor wi g tb):=⟨B0z hp hc hi.out hg.out hb.out hs⟩
theorem Z9 {i:Nat} {x:Str} {e:Expr} {te:TE} {pos':Pos} (hN: X.N.Nodup) (hi: X.N[i]?=some x) (hx: Loc X.env.scope x) (he: QE X e te) (hs: swapsWith e (some (.Name x pos')) pos.line X.env=pure false:=by rfl) (hf: X.fn x=true\/X.env.scope.names.lookup x=some .local:=by first | exact .inl rfl | exact .inr rfl | assumption):QS X (.Assign [.Name x pos'] e pos) (tAsg te (K2 i)):=⟨Q2 hN hi hx he.out hs hf⟩
theorem S2 {i j:Nat} {x y:Str} {a b:Expr} {ta:TA} {px py pt:Pos} {kt k2 pt2} (hc: X.calm=true) (hN: X.N.Nodup) (hi: X.N[i]?=some x) (hj: X.N[j]?=some y) (hij: i≠j) (hx: X.env.scope.names.lookup x=some .local) (hy: X.env.scope.names.lookup y=some .local) (ha: QA X [a,b] ta) (hw: swappedStores [.Tuple [.Name x px,.Name y py] kt pt] (.Tuple [a,b] k2 pt2) X.env=pure (some [x,y])) (hs: swapsWithSole [.Tuple [.Name x px,.Name y py] kt pt] (.Tuple [a,b] k2 pt2) pos.line X.env=pure false:=by rfl):QS X (.Assign [.Tuple [.Name x px,.Name y py] kt pt] (.Tuple [a,b] k2 pt2) pos) (tPar i j ta):=⟨B6p hc hN hi hj hij hx hy ha.out hw hs⟩
theorem A0a {tg e:Expr} {te:TE} {g:TG} (he: QE X e te) (hg: QG X tg g) (hs: swapsWithSole [tg] e pos.line X.env=pure false:=by rfl) (hw: swappedStores [tg] e X.env=pure none:=by rfl) (h1: (assignEach [tg] X.env).map (·.2)=[assign tg X.env]:=by rfl):QS X (.Assign [tg] e pos) (tAsg te g):=⟨A1o he.out hg.out hs hw h1⟩
theorem A1j {i:Nat} {x:Str} (hN: X.N.Nodup) (hi: X.N[i]?=some x) (hx: Loc X.env.scope x) (hf: X.fn x=true\/X.env.scope.names.lookup x=some .local:=by first | exact .inl rfl | exact .inr rfl | assumption):QG X (.Name x pos) (K2 i):=⟨A4t hN hi hx hf⟩
theorem O2 :QGs X [] gNil:=⟨B4b ⟩
theorem C9 {e:Expr} {es:List Expr} {t:TG} {u:TGs} (h1: QG X e t) (h2: QGs X es u) (hs: (assignEach (e :: es) X.env).map (·.2)=assign e X.env :: (assignEach es X.env).map (·.2):=by rfl):QGs X (e :: es) (A0p t u):=⟨A9l h1.out h2.out hs⟩
theorem O3 {K:PySem.W.Frag} {pos:Pos} {es:List Expr} {k:Nat} {t:TGs} {n:Nat} (h: X.K=K) (hc: X.calm=true) (hg: QGs X es t) (hn: (assignEach es X.env).length=n:=by rfl) (hst: (assignEach es X.env).findIdx? (·.1)=none:=by rfl):QG X (.Tuple es k pos) (gTup K n t):=⟨B4c h hc hg.out hn hst⟩
theorem A25 {a:Expr} {ta:TA} {p pos:Pos} (hg: Gl X "range") (hm: X.mg "range"=none) (ha: QA X [a] ta) (hs: starEach [a] X.env=[(false,eval a X.env)]:=by rfl):QI X tg (.Call (.Name "range" p) [a] [] pos) (B5d ta):=⟨V5 hg hm ha.out hs⟩
theorem A9d {X:Cx}:QTs X [] tYes:=⟨B32 ⟩
theorem QW.pt {X:Cx} {e:Expr} {t:TT} (h:QW X e t):QT X e t:=⟨h.out.pt⟩
end
end L2
namespace Pu
open PySem L2 My Prf
theorem A1w {c:Rat × Rat} {Q:SV->Prop}:pIx (dcn c) (.int 0) Q=Q (.d (dq c.1)):=by unfold dcn; rw [pIxT,B4x]
theorem A1v {c:Rat × Rat} {Q:SV->Prop}:pIx (dcn c) (.int 1) Q=Q (.d (dq c.2)):=by unfold dcn; rw [pIxT,B4w]
theorem B0b {α:Type} {f:α->PyData} {xs:List α} {pg:PyData->PEnv->(PEnv->Prop)->Prop} {pt:PTt} {pd:PDt} {e0:PEnv} {Fin:List PyData->Prop} (Pv:Nat->PEnv->List PyData->Prop) (h0:Pv 0 e0 [])
    (hs:∀ (i:Nat) a e ys,xs[i]?=some a->Pv i e ys->pg (f a) e fun e2=>pt e2 fun b e3=>if b=true then pd e3 fun y e4=>Pv (i + 1) e4 (ys++[y]) else Pv (i + 1) e3 ys) (hd:∀ e ys,Pv xs.length e ys->Fin ys):G9 (xs.map f) pg pt pd e0 Fin:=by
  refine ⟨Pv,h0,fun i x e ys hx hi=>?_,fun e ys h=>hd e ys (by rwa [List.length_map] at h)⟩;rw [Zh] at hx;cases ha:xs[i]? with
  | none=>rw [ha] at hx; cases hx
  | some a=>rw [ha] at hx; cases hx; exact hs i a e ys ha hi
theorem A3z:PyData.tuple [.int 2,.int 3]=dq (Rat.divInt 2 3):=by
  unfold dq;rw [show (Rat.divInt 2 3).num=2 by decide +kernel,show (Rat.divInt 2 3).den=3 by decide +kernel]; rfl
theorem A73:PyData.tuple [.int 1,.int 2]=dq (Rat.divInt 1 2):=by
  unfold dq;rw [show (Rat.divInt 1 2).num=1 by decide +kernel,show (Rat.divInt 1 2).den=2 by decide +kernel]; rfl
end Pu
namespace Pu
open PySem L2 My Prf
theorem A2y {q:Rat} {k:List PyData->Prop}:U0 (dq q) k=k [.int q.num,.int (q.den:Int)]:=rfl
theorem A5d {q:Rat} {Q:SV->Prop}:pLen [dq q] Q=Q (.d (.int 2)):=rfl
theorem W0 {xs:List PyData} {Q:SV->Prop}:pLen [.list xs] Q=Q (.d (.int xs.length)):=rfl
theorem A1u {xs:List PyData} {Q:SV->Prop}:pLen [.tuple xs] Q=Q (.d (.int xs.length)):=rfl
theorem A78:PyData.eqv (.list []) (.list [])=true:=rfl
theorem A64:(PyData.list []).canLay0=true:=rfl
theorem A8d:(PyData.list []).depth=1:=rfl
theorem A3x {i:Int}:tyD (.int i)="int":=rfl
theorem A04 {b:Bool}:tyD (.bool b)="bool":=rfl
theorem A3w {s:Str}:tyD (.str s)="str":=rfl
theorem A01:tyD .none="NoneType":=rfl
theorem A02 {xs:List PyData}:tyD (.list xs)="list":=rfl
theorem A3v {xs:List PyData}:tyD (.tuple xs)="tuple":=rfl
theorem A3y {c:Rat × Rat}:tyD (dcn c)="tuple":=rfl
theorem R6 {xs:List PyData} {k:List PyData->Prop}:U0 (.list xs) k=k xs:=rfl
theorem Y9 {xs:List PyData} {k:List PyData->Prop}:U0 (.tuple xs) k=k xs:=rfl
theorem Z0 {c:Rat × Rat} {k:List PyData->Prop}:U0 (dcn c) k=k [dq c.1,dq c.2]:=rfl
theorem W7:isNo .none=true:=rfl
theorem A2j {i:Int}:isNo (.int i)=false:=rfl
theorem W9 {b:Bool}:isNo (.bool b)=false:=rfl
theorem A2i {s:Str}:isNo (.str s)=false:=rfl
theorem W8 {xs:List PyData}:isNo (.list xs)=false:=rfl
theorem A2h {xs:List PyData}:isNo (.tuple xs)=false:=rfl
end Pu
namespace L2
open PySem PySem.Spec PyProof.Rows
section
variable {X:Cx} {pins:List (Addr × Obj)} {σ:St} {H:Hp} {s:Shared} {h':Heap}
theorem Inv.turnL {t':Nat} {wr:List Addr} (I:Inv X pins σ H s) (k:∀ b o,b ∉ wr->s.heap.get? b=some o->h'.get? b=some o) (hf:∀ b ∈ wr,FpOk X pins H b):Inv X pins σ H { s with heap:=h',toks:=t' }:=by
  have nw:∀ b u,H b=some u->b ∉ wr:=fun b u e z=>by have:=(hf b z).1; rw [e] at this; cases this
  refine I.call (g':=s.gens) (d':=s.drawn) (ch:=wr) ⟨fun b o e _ _ hb=>k b o hb e,fun b o e _ _ hb=>⟨o.slots,k b o hb e⟩,fun _ _ _ n _=>n,fun b o e hb=>⟨o,k b o hb e⟩,fun _ _ e=>e,fun _ _ _ e=>e,fun b ps e=>⟨#[],by rw [e]; simp⟩⟩ (fun b u e=>?_) I.bare fun b hb=>?_
  · refine (I.hok b u e).stay (fun c v hc q=>k c v ?_ q) (fun _ q=>q) fun _ _ q=>q
    rcases hc with z | z
    · rw [z]; exact nw b u e
    · exact nw c _ z
  · have f:=hf b hb
    exact ⟨f.2.2.2.1,f.2.1,f.2.2.2.2.1,f.2.2.2.2.2⟩
theorem Inv.laidL {t':Nat} {wr:List Addr} {T:Addr} {o:HO} (I:Inv X pins σ H s) (k:∀ b u,b ∉ wr->s.heap.get? b=some u->h'.get? b=some u) (hf:∀ b ∈ wr,FpOk X pins H b) (hp:s.heap.objs.size<=T) (new:ObjOk X.prog X.w (upd H T o) h' T o) :
    Inv X pins σ (upd H T o) { s with heap:=h',toks:=t' }:=by
  have hn:=I.hok.fresh hp;have nw:∀ b u,H b=some u->b ∉ wr:=fun b u e z=>by have:=(hf b z).1; rw [e] at this; cases this
  refine I.call (g':=s.gens) (d':=s.drawn) (ch:=wr) ⟨fun b u e _ _ hb=>k b u hb e,fun b u e _ _ hb=>⟨u.slots,k b u hb e⟩,fun b u e n _=>by rw [B2 (Nat.ne_of_lt (Nat.lt_of_lt_of_le (Heap.lt_size e) hp))]; exact n,fun b u e hb=>⟨u,k b u hb e⟩,
    fun b xs e=>by rw [B2 (B6 e hn)]; exact e,fun b u xs e=>by rw [B2 (B6 e hn)]; exact e,fun b ps e=>⟨#[],by rw [B2 (B6 e hn),e]; simp⟩⟩ (fun b u e=>?_) I.bare fun b hb=>?_
  · by_cases hb:b=T
    · subst hb; rw [B4] at e; cases e; exact new
    · rw [B2 hb] at e
      refine (I.hok b u e).stay (fun c v hc q=>k c v ?_ q) (fun c q=>by rw [B2 (B6 q hn)]; exact q) fun c xs q=>by rw [B2 (B6 q hn)]; exact q
      rcases hc with z | z
      · rw [z]; exact nw b u e
      · exact nw c _ z
  · have f:=hf b hb
    exact ⟨f.2.2.2.1,f.2.1,f.2.2.2.2.1,f.2.2.2.2.2⟩
end
def Itz (K:PySem.W.Frag) (l1 l2:Addr):It :=
  ⟨fun i H=>∃ xs ys x y,SqL K H l1 xs/\SqL K H l2 ys/\xs[i]?=some x/\ys[i]?=some y,
   fun i H v H'=>∃ T x y,v=.ref T/\H T=none/\H'=upd H T (.tup [x,y])/\(∀ xs,SqL K H l1 xs->xs[i]?=some x)/\∀ ys,SqL K H l2 ys->ys[i]?=some y,
   fun i H=>∃ xs ys,SqL K H l1 xs/\SqL K H l2 ys/\(xs.length<=i\/ys.length<=i)⟩
theorem K5:∀ {xs:List V} {us:List Value} {i:Nat} {x:V},Vals xs us->xs[i]?=some x->∃ u,us[i]?=some u/\RelV x u
  | _,_,_,_,.nil,e=>by simp at e
  | _,_,0,_,.cons h _,e=>by simp at e; subst e; exact ⟨_,rfl,h⟩
  | _,_,i + 1,x,.cons _ t,e=>by
    obtain ⟨u,h1,h2⟩:=K5 (i:=i) (x:=x) t (by simpa using e);exact ⟨u,by simpa using h1,h2⟩
theorem A83 {P:Program} {w:World} {K:PySem.W.Frag} {es:List Expr} {kk:Nat} {tp:Pos} {z TI TO i1 i2 l1 l2:Addr} (D:ZipApart z TI TO i1 i2 l1 l2) :
    Turn P w K (.Tuple es kk tp) (Itz K l1 l2) [z,TI,TO,i1,i2] z (fun i h=>IsZip h z TI TO .none/\IsPair h TI (.ref i1) (.ref i2)/\(∃ a b,IsPair h TO a b)/\h.IsListIter i1 l1 i/\h.IsListIter i2 l2 i) where
  mem:=Zy
  obj:=fun i h st b hb=>by
    obtain ⟨hz,hTI,⟨a,c,hTO⟩,⟨o1,g1,k1,d1⟩,⟨o2,g2,k2,d2⟩⟩:=st;simp only [List.mem_cons,List.mem_nil_iff,or_false] at hb;rcases hb with rfl | rfl | rfl | rfl | rfl
    · exact ⟨_,hz,fun v q=>Data.noConfusion (show Data.fields _=Data.cell v from q)⟩
    · exact ⟨_,hTI,fun v q=>Data.noConfusion (show Data.seq _ _=Data.cell v from q)⟩
    · exact ⟨_,hTO,fun v q=>Data.noConfusion (show Data.seq _ _=Data.cell v from q)⟩
    · exact ⟨_,g1,fun v q=>by rw [d1] at q; cases q⟩
    · exact ⟨_,g2,fun v q=>by rw [d2] at q; cases q⟩
  keep:=fun i h h' st k=>by
    obtain ⟨hz,hTI,⟨a,c,hTO⟩,h1,h2⟩:=st;exact ⟨k z (by simp) _ hz,k TI (by simp) _ hTI,⟨a,c,k TO (by simp) _ hTO⟩,h1.at fun o e=>k i1 (by simp) o e,h2.at fun o e=>k i2 (by simp) o e⟩
  item:=by
    intro X hP hw hK hc i pins s σ H E I hf st hg;subst hP hw hK;obtain ⟨hz,hTI,⟨a,c,hTO⟩,h1,h2⟩:=st;obtain ⟨xs,ys,x,y,q1,q2,ex,ey⟩:=hg;obtain ⟨its1,r1,p1,_⟩:=I.list q1;obtain ⟨its2,r2,p2,_⟩:=I.list q2;obtain ⟨u1,e1,ru1⟩:=K5 r1 ex;obtain ⟨u2,e2,ru2⟩:=K5 r2 ey;refine wpAny_pyNext_zip_item D hz hTI hTO h1 h2 p1.isList p2.isList (by simpa using e1) (by simpa using e2) fun h' a1 a2 a3 a4 a5 a6 hk=>⟨_,rfl,?_⟩;refine wpAny_letOwnedTupleGo_zip a1 fun h'' b1 sb=>?_;have lt:∀ {b o},s.heap.get? b=some o->s.heap.objs.size≠b:=fun e=>Nat.ne_of_gt (Heap.lt_size e);have k2:∀ b o,b ∉ [z,TO,i1,i2]->s.heap.get? b=some o->h''.get? b=some o:=fun b o hb e=>by
      simp only [List.mem_cons,List.mem_nil_iff,or_false,not_or] at hb;exact (sb.2 b hb.1).trans (hk b o hb.1 hb.2.1 hb.2.2.1 hb.2.2.2 e)
    have I2:Inv X pins σ (upd H s.heap.objs.size (.tup [x,y])) { s with heap:=h'',toks:=s.toks }:=by
      refine I.laidL (wr:=[z,TO,i1,i2]) k2 (fun b hb=>hf b ?_) (Zv _) ⟨by show 2<=sizeLine; decide,[u1,u2],.cons ru1 (.cons ru2 .nil),?_⟩
      · simp only [List.mem_cons,List.mem_nil_iff,or_false] at hb ⊢
        rcases hb with q | q | q | q <;> simp [q]
      · exact ⟨_,(sb.2 _ (lt hz)).trans a5,rfl,_,rfl⟩
    refine ⟨.ref s.heap.objs.size,_,I2,rfl,⟨_,x,y,rfl,I.fresh,rfl,fun zs hzs=>by rw [I.list_inj hzs q1]; exact ex,fun zs hzs=>by rw [I.list_inj hzs q2]; exact ey⟩,⟨b1,(sb.2 _ D.TIz).trans (hk _ _ D.TIz D.TITO D.TIi1 D.TIi2 hTI),⟨_,_,(sb.2 _ D.TOz).trans a2⟩,a3.at fun o e=>(sb.2 _ D.i1z).trans e,a4.at fun o e=>(sb.2 _ D.i2z).trans e⟩,fun b hb=>?_⟩;have:b≠s.heap.objs.size:=by
      simp only [List.mem_cons,List.mem_nil_iff,or_false] at hb;obtain ⟨_,g1,_⟩:=h1;obtain ⟨_,g2,_⟩:=h2;rcases hb with rfl | rfl | rfl | rfl | rfl
      · exact (lt hz).symm
      · exact (lt hTI).symm
      · exact (lt hTO).symm
      · exact (lt g1).symm
      · exact (lt g2).symm
    rw [B2 this]; exact (hf b hb).1
  done:=by
    intro X hP hw hK hc i pins s σ H E I hf st hg;subst hP hw hK;obtain ⟨hz,hTI,⟨a,c,hTO⟩,h1,h2⟩:=st;obtain ⟨xs,ys,q1,q2,hl⟩:=hg;obtain ⟨its1,r1,p1,_⟩:=I.list q1;obtain ⟨its2,r2,p2,_⟩:=I.list q2;have n1:=r1.length;have n2:=r2.length;refine wpAny_pyNext_zip_end (I.ok.hd hc) D hz hTI hTO h1 h2 p1.isList p2.isList (hl.imp (fun q=>by simp; omega) fun q=>by simp; omega) fun h' hk=>⟨rfl,?_⟩;refine I.turnL (t':=s.toks) (wr:=[z,TO,i1,i2]) (fun b o hb e=>?_) (fun b hb=>hf b ?_)
    · simp only [List.mem_cons,List.mem_nil_iff,or_false,not_or] at hb
      exact hk b o hb.1 hb.2.1 hb.2.2.1 hb.2.2.2 e
    · simp only [List.mem_cons,List.mem_nil_iff,or_false] at hb ⊢
      rcases hb with q | q | q | q <;> simp [q]
  self:=fun _ _ _ _ _ st h=>wpAny_pyIter_zip st.1 h
section
variable {X:Cx}
end
end L2
namespace Pu
open PySem L2 My Prf
def B7c (pd:PDt) (env:PEnv) (Q:List PyData->PEnv->Prop):Prop:=pd env fun x e=>asL x fun xs=>Q xs e
def B9s (i:Nat) (env:PEnv) (Q:List PyData->PEnv->Prop):Prop:=match env[i]? with
  | some (some (.d x))=>asL x fun xs=>Q xs env
  | some (some (.own xs))=>Q xs (env.set i (some (.d (.list xs))))
  | some (some (.bor xs))=>Q xs env
  | _=>False
def pLsN (env:PEnv) (Q:List (List PyData)->PEnv->Prop):Prop:=Q [] env
def pLsC (pl:PAr) (pr:PEnv->(List (List PyData)->PEnv->Prop)->Prop) (env:PEnv) (Q:List (List PyData)->PEnv->Prop):Prop:=pl env fun xs e1=>pr e1 fun xss e2=>Q (xs :: xss) e2
def zipD (xs ys:List PyData):List PyData:=List.zipWith (fun x y=>.tuple [x,y]) xs ys
def B5h (xs:List PyData):List PyData:=xs.zipIdx.map fun p=>.tuple [.int (p.2:Int),p.1]
theorem A8x {xs ys:List PyData} {i:Nat} {x:PyData} (h:(zipD xs ys)[i]?=some x):∃ a b,xs[i]?=some a/\ys[i]?=some b/\x=.tuple [a,b]:=by
  unfold zipD at h;rw [List.getElem?_zipWith] at h;cases h1:xs[i]? with
  | none=>rw [h1] at h; cases h
  | some a=>cases h2:ys[i]? with
    | none=>rw [h1,h2] at h; cases h
    | some b=>rw [h1,h2] at h; cases h; exact ⟨a,b,rfl,rfl,rfl⟩
theorem A8w {xs ys:List PyData}:(zipD xs ys).length=min xs.length ys.length:=List.length_zipWith
def pZip (pa:PEnv->(List (List PyData)->PEnv->Prop)->Prop) (env:PEnv) (Q:List PyData->PEnv->Prop):Prop:=pa env fun xss e=>match xss with
  | [xs,ys]=>Q (zipD xs ys) e
  | _=>False
def B9u (pa:PEnv->(List (List PyData)->PEnv->Prop)->Prop) (env:PEnv) (Q:List PyData->PEnv->Prop):Prop:=pa env fun xss e=>match xss with
  | [xs]=>Q (B5h xs) e
  | _=>False
end Pu
namespace Pu
open PySem L2 My Prf
theorem S4 {n:Nat} {pr:List PyData->PEnv->(PEnv->Prop)->Prop} {xs:List PyData} {env:PEnv} {Q:PEnv->Prop}:qTup n pr (.tuple xs) env Q=(xs.length=n/\pr xs env Q):=rfl
theorem A1l {pr:List PyData->PEnv->(PEnv->Prop)->Prop} {c:Rat × Rat} {env:PEnv} {Q:PEnv->Prop}:qTup 2 pr (dcn c) env Q=pr [dq c.1,dq c.2] env Q:=by
  show (2=2/\_)=_; simp
theorem A0o {c:Rat × Rat}:(dcn c).canLay0=true:=rfl
theorem A8f {c:Rat × Rat}:(dcn c).depth=2:=rfl
theorem A79 {c:Rat × Rat}:PyData.eqv (dcn c) (dcn c)=true:=PySem.SeqAt.eqv_refl _ A0o
theorem A2k {c:Rat × Rat}:isNo (dcn c)=false:=rfl
end Pu
namespace L2
open PySem PySem.Spec PyProof.Rows
section
variable {prog:Program} {w:World} {A:Around} {E:Value->Shared->Prop} {s:Shared}
theorem N2 {it t:Addr} {i:Nat} {items:Array Value} {x:Value} {Q:Value->Shared->Prop} (hit:s.heap.IsTupleIter it t i) (ht:s.heap.IsTuple t items) (hx:items[i]?=some x)
    (hQ:∀ h',h'.IsTupleIter it t (i + 1)->Heap.SameBut it s.heap h'->Q x { s with heap:=h' }):wpAny (model prog w) A (Builtin.SmallTypes.nextOf (.ref it)) Q E s:=by
  have hit':=hit;obtain ⟨ob,go,gc,gd⟩:=hit';obtain ⟨ot,tg,_,tn,td⟩:=ht;have key:wpAny (model prog w) A (callSpecial? (.ref it) (Str.ofString "__next__")) (fun r s'=>r=some x/\Q x s') E s:=by
    refine wpAny_callSpecial?_slot (name:=Str.ofString "__next__") hit.typeIs F.slot_tuple_iterator_next (wpAny_call_entry F.slot_tuple_iterator_next hit.typeIs F.entry_tuple_iterator_next ?_ (F.args_tuple_iterator_next_1 _));refine wpAny_bind (m:=field (.ref it) 0) (wpAny_field go gd (x:=.ref t) rfl ?_);show wpAny _ _ (if (Value.ref t == .none)=true then _ else _) _ _ s;rw [if_neg (fun q=>by cases q)];refine wpAny_bind (m:=field (.ref it) 1) (wpAny_field go gd (x:=.int i 0) rfl (wpAny_bind (m:=seqItems? (.ref t)) (wpAny_seqItems tg td ?_)));simp only [Int.toNat_natCast,hx];refine wpAny_bind (wpAny_setField go gd (by simp) (wpAny_pure ⟨x,rfl,rfl,hQ _ ?_ (Heap.SameBut.update ..)⟩));refine ⟨_,Heap.get?_update_self _ go (Obj.isFreed_of_fields (Obj.data_mapFields gd _)),(Obj.cls_mapFields ..).trans gc,?_⟩;rw [Obj.data_mapFields gd]; simp [rawInt]
  unfold Builtin.SmallTypes.nextOf;refine wpAny_bind (wpAny_mono key (fun r s' h=>?_) fun _ _ e=>e);obtain ⟨rfl,q⟩:=h;exact wpAny_pure q
theorem W4 {it t:Addr} {i:Nat} {items:Array Value} {Q:Value->Shared->Prop} (hh:A.handled=none) (hit:s.heap.IsTupleIter it t i) (ht:s.heap.IsTuple t items) (hx:items[i]?=none)
    (hE:∀ h' e,Heap.ExtBut it s.heap h'->(∃ o,h'.get? e=some o/\o.cls=.type "StopIteration")->E (.ref e) { s with heap:=h' }):wpAny (model prog w) A (Builtin.SmallTypes.nextOf (.ref it)) Q E s:=by
  have hit':=hit;obtain ⟨ob,go,gc,gd⟩:=hit';obtain ⟨ot,tg,_,tn,td⟩:=ht;unfold Builtin.SmallTypes.nextOf;refine wpAny_bind (wpAny_callSpecial?_slot (name:=Str.ofString "__next__") hit.typeIs F.slot_tuple_iterator_next (wpAny_call_entry F.slot_tuple_iterator_next hit.typeIs F.entry_tuple_iterator_next ?_ (F.args_tuple_iterator_next_1 _)));refine wpAny_bind (m:=field (.ref it) 0) (wpAny_field go gd (x:=.ref t) rfl ?_);show wpAny _ _ (if (Value.ref t == .none)=true then _ else _) _ _ s;rw [if_neg (fun q=>by cases q)];refine wpAny_bind (m:=field (.ref it) 1) (wpAny_field go gd (x:=.int i 0) rfl (wpAny_bind (m:=seqItems? (.ref t)) (wpAny_seqItems tg td ?_)));simp only [Int.toNat_natCast,hx];refine wpAny_bind (wpAny_rule (wpAny_bind (wpAny_setField go gd (by simp) (wpAny_bind ?_))));simp only [newExc,newTuple];refine wpAny_bind (wpAny_newObj_type (wpAny_bind (m:=firstArgMember _ _) (wpAny_of_eq (a:=Value.none) (by first | rfl | (simp only [firstArgMember]; rfl)) (wpAny_newObj_type ?_ (by size_fits)))) (by size_fits));simp only [raiseNew];refine wpAny_bind (wpAny_handled ?_);rw [show A.in1.handled=none from hh];refine wpAny_bind (wpAny_pure (wpAny_throw (hE _ _ (((Heap.SameBut.update ..).extBut.push _).push _) ⟨_,Heap.get?_push_size _ rfl,rfl⟩)))
theorem A3o {z TI TO i1 i2 l1 l2:Addr} {k1 k2:Nat} {xs ys:Array Value} {x y a b:Value} {Q:Value->Shared->Prop} (D:ZipApart z TI TO i1 i2 l1 l2) (hz:IsZip s.heap z TI TO .none) (hTI:IsPair s.heap TI (.ref i1) (.ref i2)) (hTO:IsPair s.heap TO a b)
    (h1:s.heap.IsTupleIter i1 l1 k1) (h2:s.heap.IsTupleIter i2 l2 k2) (hl1:s.heap.IsTuple l1 xs) (hl2:s.heap.IsTuple l2 ys) (hx:xs[k1]?=some x) (hy:ys[k2]?=some y)
    (hQ:∀ h',IsZip h' z TI TO (rawInt s.heap.objs.size)->IsPair h' TO x y->h'.IsTupleIter i1 l1 (k1 + 1)->h'.IsTupleIter i2 l2 (k2 + 1)->IsPair h' s.heap.objs.size x y ->
      (∀ c o,c≠z->c≠TO->c≠i1->c≠i2->s.heap.get? c=some o->h'.get? c=some o)->Q (.ref s.heap.objs.size) { s with heap:=h' }) :
    wpAny (model prog w) A (Builtin.«zip.__next__» ⟨[.ref z],[]⟩) (fun fin s'=>∃ v,fin=.done (.ret v)/\Q v s') E s:=by
  refine wpAny_bind (m:=field (.ref z) 2) (wpAny_field hz rfl (x:=.bool false) rfl ?_);refine wpAny_bind (m:=field (.ref z) 3) (wpAny_field hz rfl (x:=.ref TI) rfl (wpAny_bind (wpAny_seqItems hTI rfl (wpAny_bind (m:=Builtin.SmallTypes.ownedTupleIsFree (.ref z)) ?_))));unfold Builtin.SmallTypes.ownedTupleIsFree;refine wpAny_bind (wpAny_field hz rfl (x:=.none) rfl (wpAny_pure ?_));simp only [if_true];refine wpAny_bind (wpAny_rule (wpAny_bind (wpAny_field hz rfl (x:=.ref TO) rfl (wpAny_bind (wpAny_setField_rec hz (by simp) fun g1 z1 e1=>wpAny_bind ?_)))));have z1:IsZip g1 z TI TO .ellipsis:=z1;simp only [List.zipIdx_cons,List.zipIdx_nil,List.forIn_cons,List.forIn_nil];refine wpAny_bind (wpAny_bind (wpAny_onRaise (wpAny_bind (N2 (h1.at fun o q=>e1.extBut _ _ D.i1z q) (hl1.at fun o q=>e1.extBut _ _ D.l1z q) hx fun g2 n1 e2=>wpAny_pure ?_))));have t2:IsPair g2 TO a b:=e2.extBut _ _ D.TOi1 (e1.extBut _ _ D.TOz hTO);refine wpAny_bind (wpAny_seqItems t2 rfl (wpAny_bind (wpAny_updateSeq_pair t2 fun g3 t3 e3=>wpAny_bind (wpAny_letGo (wpAny_pure ?_)))));have t3:IsPair g3 TO x b:=t3;refine wpAny_bind (wpAny_bind (wpAny_onRaise (wpAny_bind (N2 (h2.at fun o q=>e3.extBut _ _ D.TOi2.symm (e2.extBut _ _ D.i12.symm (e1.extBut _ _ D.i2z q))) (hl2.at fun o q=>e3.extBut _ _ D.l2TO (e2.extBut _ _ D.l2i1 (e1.extBut _ _ D.l2z q))) hy fun g4 n2 e4=>wpAny_pure ?_))));have t4:IsPair g4 TO x b:=e4.extBut _ _ D.TOi2 t3;refine wpAny_bind (wpAny_seqItems t4 rfl (wpAny_bind (wpAny_updateSeq_pair t4 fun g5 t5 e5=>wpAny_bind (wpAny_letGo (wpAny_pure (wpAny_pure ?_))))));have t5:IsPair g5 TO x y:=t5;refine wpAny_bind (wpAny_seqItems t5 rfl (wpAny_bind (wpAny_newTuple (wpAny_bind (m:=Builtin.SmallTypes.ownedTupleHandOut (.ref z) (.ref g5.objs.size)) ?_))));have sz:g5.objs.size=s.heap.objs.size:=by rw [e5.1,e4.1,e3.1,e2.1,e1.1]
  have z5:IsZip g5 z TI TO .ellipsis:=e5.extBut _ _ D.TOz.symm (e4.extBut _ _ D.i2z.symm (e3.extBut _ _ D.TOz.symm (e2.extBut _ _ D.i1z.symm z1)));have k5:∀ c o,c≠z->c≠TO->c≠i1->c≠i2->s.heap.get? c=some o->g5.get? c=some o:=fun c o c1 c2 c3 c4 q=>e5.extBut _ _ c2 (e4.extBut _ _ c4 (e3.extBut _ _ c2 (e2.extBut _ _ c3 (e1.extBut _ _ c1 q))));have n15:g5.IsTupleIter i1 l1 (k1 + 1):=n1.at fun o q=>e5.extBut _ _ D.TOi1.symm (e4.extBut _ _ D.i12 (e3.extBut _ _ D.TOi1.symm q));have n25:g5.IsTupleIter i2 l2 (k2 + 1):=n2.at fun o q=>e5.extBut _ _ D.TOi2.symm q;have zl:z < g5.objs.size:=Heap.lt_size z5;unfold Builtin.SmallTypes.ownedTupleHandOut;have z6:IsZip (g5.push { cls:=.type "tuple",data:=.seq #[x,y] }) z TI TO .ellipsis:=Heap.get?_push_of_some _ z5;refine wpAny_bind (wpAny_setField_rec z6 (by simp) fun g7 z7 e7=>?_);have z7:IsZip g7 z TI TO (rawInt g5.objs.size):=z7;refine wpAny_setField_rec z7 (by simp) fun g8 z8 e8=>?_;have z8:IsZip g8 z TI TO (rawInt g5.objs.size):=z8;have up:∀ c o,c≠z->g5.get? c=some o->g8.get? c=some o:=fun c o c1 q=>e8.extBut _ _ c1 (e7.extBut _ _ c1 (Heap.get?_push_of_some _ q));have p8:IsPair g8 g5.objs.size x y:=e8.extBut _ _ (Nat.ne_of_gt zl) (e7.extBut _ _ (Nat.ne_of_gt zl) (Heap.get?_push_size _ rfl));rw [sz] at z8 p8;refine wpAny_pure ⟨_,rfl,?_⟩;show Q (.ref g5.objs.size) _;rw [sz];exact hQ g8 z8 (up _ _ D.TOz t5) (n15.at fun o q=>up _ o D.i1z q) (n25.at fun o q=>up _ o D.i2z q) p8 fun c o c1 c2 c3 c4 q=>up c o c1 (k5 c o c1 c2 c3 c4 q)
theorem A8v {z TI TO i1 i2 l1 l2:Addr} {k1 k2:Nat} {xs ys:Array Value} {a b:Value} {Q:Fin->Shared->Prop} (hh:A.handled=none) (D:ZipApart z TI TO i1 i2 l1 l2) (hz:IsZip s.heap z TI TO .none) (hTI:IsPair s.heap TI (.ref i1) (.ref i2)) (hTO:IsPair s.heap TO a b)
    (h1:s.heap.IsTupleIter i1 l1 k1) (h2:s.heap.IsTupleIter i2 l2 k2) (hl1:s.heap.IsTuple l1 xs) (hl2:s.heap.IsTuple l2 ys) (hend:xs[k1]?=none\/ys[k2]?=none)
    (hE:∀ h' e,(∀ c o,c≠z->c≠TO->c≠i1->c≠i2->s.heap.get? c=some o->h'.get? c=some o)->(∃ o,h'.get? e=some o/\o.cls=.type "StopIteration")->E (.ref e) { s with heap:=h' }) :
    wpAny (model prog w) A (Builtin.«zip.__next__» ⟨[.ref z],[]⟩) Q E s:=by
  refine wpAny_bind (m:=field (.ref z) 2) (wpAny_field hz rfl (x:=.bool false) rfl ?_);refine wpAny_bind (m:=field (.ref z) 3) (wpAny_field hz rfl (x:=.ref TI) rfl (wpAny_bind (wpAny_seqItems hTI rfl (wpAny_bind (m:=Builtin.SmallTypes.ownedTupleIsFree (.ref z)) ?_))));unfold Builtin.SmallTypes.ownedTupleIsFree;refine wpAny_bind (wpAny_field hz rfl (x:=.none) rfl (wpAny_pure ?_));simp only [if_true];refine wpAny_bind (wpAny_rule (wpAny_bind (wpAny_field hz rfl (x:=.ref TO) rfl (wpAny_bind (wpAny_setField_rec hz (by simp) fun g1 z1 e1=>wpAny_bind ?_)))));have z1:IsZip g1 z TI TO .ellipsis:=z1;simp only [List.zipIdx_cons,List.zipIdx_nil,List.forIn_cons,List.forIn_nil];refine wpAny_bind (wpAny_bind (wpAny_onRaise (wpAny_bind (m:=Builtin.SmallTypes.nextOf (.ref i1)) ?_)));cases hx:xs[k1]? with
  | none =>
    refine W4 hh (h1.at fun o q=>e1.extBut _ _ D.i1z q) (hl1.at fun o q=>e1.extBut _ _ D.l1z q) hx fun g2 e e2 he=>?_;obtain ⟨oe,go,gc⟩:=he;have z2:IsZip g2 z TI TO .ellipsis:=e2 _ _ D.i1z.symm z1;have ez:e≠z:=fun q=>by subst q; rw [z2] at go; cases go; simp at gc
    exact wpAny_setField_rec z2 (by simp) fun g3 _ e3=>hE g3 e (fun c o c1 _ c3 _ q=>e3.extBut _ _ c1 (e2 _ _ c3 (e1.extBut _ _ c1 q))) ⟨oe,e3.extBut _ _ ez go,gc⟩
  | some x =>
    have hy:ys[k2]?=none:=hend.elim (fun q=>by rw [hx] at q; cases q) id;refine N2 (h1.at fun o q=>e1.extBut _ _ D.i1z q) (hl1.at fun o q=>e1.extBut _ _ D.l1z q) hx fun g2 n1 e2=>wpAny_pure ?_;have t2:IsPair g2 TO a b:=e2.extBut _ _ D.TOi1 (e1.extBut _ _ D.TOz hTO);refine wpAny_bind (wpAny_seqItems t2 rfl (wpAny_bind (wpAny_updateSeq_pair t2 fun g3 t3 e3=>wpAny_bind (wpAny_letGo (wpAny_pure ?_)))));refine wpAny_bind (wpAny_bind (wpAny_onRaise (wpAny_bind (W4 hh (h2.at fun o q=>e3.extBut _ _ D.TOi2.symm (e2.extBut _ _ D.i12.symm (e1.extBut _ _ D.i2z q))) (hl2.at fun o q=>e3.extBut _ _ D.l2TO (e2.extBut _ _ D.l2i1 (e1.extBut _ _ D.l2z q))) hy fun g4 e e4 he=>?_))));obtain ⟨oe,go,gc⟩:=he;have z4:IsZip g4 z TI TO .ellipsis:=e4 _ _ D.i2z.symm (e3.extBut _ _ D.TOz.symm (e2.extBut _ _ D.i1z.symm z1));have ez:e≠z:=fun q=>by subst q; rw [z4] at go; cases go; simp at gc
    exact wpAny_setField_rec z4 (by simp) fun g5 _ e5=>hE g5 e (fun c o c1 c2 c3 c4 q=>e5.extBut _ _ c1 (e4 _ _ c4 (e3.extBut _ _ c2 (e2.extBut _ _ c3 (e1.extBut _ _ c1 q))))) ⟨oe,e5.extBut _ _ ez go,gc⟩
end
end L2
namespace L2
open PySem PySem.Spec PyProof.Rows
def zT1 (h:Heap) (l1:Addr):Heap:=h.push { cls:=.type "tuple_iterator",data:=.fields #[.ref l1,.int 0 0] }
def zT2 (h:Heap) (l1 l2:Addr):Heap:=(zT1 h l1).push { cls:=.type "tuple_iterator",data:=.fields #[.ref l2,.int 0 0] }
def zT3 (h:Heap) (l1 l2:Addr):Heap:=(zT2 h l1 l2).push { cls:=.type "tuple",data:=.seq #[.ref h.objs.size,.ref (zT1 h l1).objs.size] }
def zT4 (h:Heap) (l1 l2:Addr):Heap:=(zT3 h l1 l2).push { cls:=.type "tuple",data:=.seq #[.none,.none] }
def zT5 (h:Heap) (l1 l2:Addr):Heap:=(zT4 h l1 l2).push { cls:=.type "zip",data:=.fields #[.none,.bool false,.bool false,.ref (zT2 h l1 l2).objs.size,.ref (zT3 h l1 l2).objs.size] }
theorem A3g (l1 l2:Addr) (xs ys:Array Value):Meets (Builtin.«zip.__new__» ⟨[.type "zip",.ref l1,.ref l2],[]⟩)
    (fun _ R s=>s.heap.IsTuple l1 xs/\s.heap.IsTuple l2 ys/\R (.ok (.ret (.ref (zT4 s.heap l1 l2).objs.size))) { s with heap:=zT5 s.heap l1 l2 }) :=
  .of_wp fun prog w A R s h=>by
    obtain ⟨hp,g,d,tk,os⟩:=s;obtain ⟨q1,q2,h⟩:=h;have hsub:=sub_zip;have hL1:Heap.IsTuple (Shared.heap ⟨hp,g,d,tk,os⟩) l1 xs:=q1;have hL2:Heap.IsTuple (Shared.heap ⟨hp.push { cls:=.type "tuple_iterator",data:=.fields #[.ref l1,.int 0 0] },g,d,tk,os⟩) l2 ys:=Heap.IsTuple.push q2 _
    wp_walk using wpAny_pyIter_tuple hL1,wpAny_pyIter_tuple hL2
    exact ⟨_,rfl,h⟩
section
variable {prog:Program} {w:World} {A:Around} {E:Value->Shared->Prop} {s:Shared}
theorem A8j {l1 l2:Addr} {xs ys:Array Value} {Q:Value->Shared->Prop} (hl1:s.heap.IsTuple l1 xs) (hl2:s.heap.IsTuple l2 ys)
    (h:∀ h',IsZip h' (s.heap.objs.size + 4) (s.heap.objs.size + 2) (s.heap.objs.size + 3) .none->IsPair h' (s.heap.objs.size + 2) (.ref s.heap.objs.size) (.ref (s.heap.objs.size + 1))->IsPair h' (s.heap.objs.size + 3) .none .none ->
      h'.IsTupleIter s.heap.objs.size l1 0->h'.IsTupleIter (s.heap.objs.size + 1) l2 0->(∀ c o,s.heap.get? c=some o->h'.get? c=some o)->Q (.ref (s.heap.objs.size + 4)) { s with heap:=h' }) :
    wpAny (model prog w) A (call (.type "zip") [.ref l1,.ref l2]) Q E s:=by
  refine callType_new F.called_zip (by decide) (F.typeCall_zip_2 _ _) (F.newCall_zip_2 _ _) (fun obj=>F.args_object_init_3 obj _ _) F.entry_zip_new (A3g l1 l2 xs ys) ⟨hl1,hl2,?_⟩;have s1:(zT1 s.heap l1).objs.size=s.heap.objs.size + 1:=Heap.size_push ..;have s2:(zT2 s.heap l1 l2).objs.size=s.heap.objs.size + 2:=(Heap.size_push ..).trans (by rw [s1]);have s3:(zT3 s.heap l1 l2).objs.size=s.heap.objs.size + 3:=(Heap.size_push ..).trans (by rw [s2]);have s4:(zT4 s.heap l1 l2).objs.size=s.heap.objs.size + 4:=(Heap.size_push ..).trans (by rw [s3]);have u5:∀ {c o},(zT4 s.heap l1 l2).get? c=some o->(zT5 s.heap l1 l2).get? c=some o:=fun q=>Heap.get?_push_of_some _ q;have u4:∀ {c o},(zT3 s.heap l1 l2).get? c=some o->(zT4 s.heap l1 l2).get? c=some o:=fun q=>Heap.get?_push_of_some _ q;have u3:∀ {c o},(zT2 s.heap l1 l2).get? c=some o->(zT3 s.heap l1 l2).get? c=some o:=fun q=>Heap.get?_push_of_some _ q;have u2:∀ {c o},(zT1 s.heap l1).get? c=some o->(zT2 s.heap l1 l2).get? c=some o:=fun q=>Heap.get?_push_of_some _ q;have g5:(zT5 s.heap l1 l2).get? (zT4 s.heap l1 l2).objs.size=some _:=Heap.get?_push_size _ rfl;have g4:(zT5 s.heap l1 l2).get? (zT3 s.heap l1 l2).objs.size=some _:=u5 (Heap.get?_push_size _ rfl);have g3:(zT5 s.heap l1 l2).get? (zT2 s.heap l1 l2).objs.size=some _:=u5 (u4 (Heap.get?_push_size _ rfl));have g2:(zT5 s.heap l1 l2).get? (zT1 s.heap l1).objs.size=some _:=u5 (u4 (u3 (Heap.get?_push_size _ rfl)));have g1:(zT5 s.heap l1 l2).get? s.heap.objs.size=some _:=u5 (u4 (u3 (u2 (Heap.get?_push_size _ rfl))));rw [s2,s3,s4] at g5;rw [s1,s2] at g3;rw [s3] at g4;rw [s1] at g2;show _/\_;rw [s4];exact ⟨⟨_,g5,rfl⟩,h _ g5 g3 g4 ⟨_,g1,rfl,rfl⟩ ⟨_,g2,rfl,rfl⟩ fun c o q=>u5 (u4 (u3 (u2 (Heap.get?_push_of_some _ q))))⟩
theorem A3d {z TI TO i1 i2 l1 l2:Addr} {k1 k2:Nat} {xs ys:Array Value} {x y a b:Value} {Q:Option Value->Shared->Prop} (D:ZipApart z TI TO i1 i2 l1 l2) (hz:IsZip s.heap z TI TO .none) (hTI:IsPair s.heap TI (.ref i1) (.ref i2)) (hTO:IsPair s.heap TO a b)
    (h1:s.heap.IsTupleIter i1 l1 k1) (h2:s.heap.IsTupleIter i2 l2 k2) (hl1:s.heap.IsTuple l1 xs) (hl2:s.heap.IsTuple l2 ys) (hx:xs[k1]?=some x) (hy:ys[k2]?=some y)
    (hQ:∀ h',IsZip h' z TI TO (rawInt s.heap.objs.size)->IsPair h' TO x y->h'.IsTupleIter i1 l1 (k1 + 1)->h'.IsTupleIter i2 l2 (k2 + 1)->IsPair h' s.heap.objs.size x y ->
      (∀ c o,c≠z->c≠TO->c≠i1->c≠i2->s.heap.get? c=some o->h'.get? c=some o)->Q (some (.ref s.heap.objs.size)) { s with heap:=h' }):wpAny (model prog w) A (pyNext (.ref z)) Q E s:=by
  have tz:s.TypeIs (.ref z) "zip":=⟨_,hz,rfl⟩;unfold pyNext;refine wpAny_bind (wpAny_attempt (wpAny_callSpecial?_slot (name:=Str.ofString "__next__") tz F.slot_zip_next (wpAny_call_entry F.slot_zip_next tz F.entry_zip_next ?_ (F.args_zip_next_1 _))));exact A3o D hz hTI hTO h1 h2 hl1 hl2 hx hy fun h' a1 a2 a3 a4 a5 a6=>wpAny_pure (hQ h' a1 a2 a3 a4 a5 a6)
theorem A6w {z TI TO i1 i2 l1 l2:Addr} {k1 k2:Nat} {xs ys:Array Value} {a b:Value} {Q:Option Value->Shared->Prop} (hh:A.handled=none) (D:ZipApart z TI TO i1 i2 l1 l2) (hz:IsZip s.heap z TI TO .none) (hTI:IsPair s.heap TI (.ref i1) (.ref i2)) (hTO:IsPair s.heap TO a b)
    (h1:s.heap.IsTupleIter i1 l1 k1) (h2:s.heap.IsTupleIter i2 l2 k2) (hl1:s.heap.IsTuple l1 xs) (hl2:s.heap.IsTuple l2 ys) (hend:xs[k1]?=none\/ys[k2]?=none)
    (hQ:∀ h',(∀ c o,c≠z->c≠TO->c≠i1->c≠i2->s.heap.get? c=some o->h'.get? c=some o)->Q none { s with heap:=h' }):wpAny (model prog w) A (pyNext (.ref z)) Q E s:=by
  have tz:s.TypeIs (.ref z) "zip":=⟨_,hz,rfl⟩;unfold pyNext;refine wpAny_bind (wpAny_attempt (wpAny_callSpecial?_slot (name:=Str.ofString "__next__") tz F.slot_zip_next (wpAny_call_entry F.slot_zip_next tz F.entry_zip_next ?_ (F.args_zip_next_1 _))));refine A8v hh D hz hTI hTO h1 h2 hl1 hl2 hend fun h' e hk ⟨o,ho,hc⟩=>?_;exact wpAny_bind (wpAny_isInstance (T:="StopIteration") (b:=true) ⟨o,ho,hc⟩ isSubtype_stop (wpAny_pure (hQ _ hk)))
end
def ItzT (K:PySem.W.Frag) (l1 l2:Addr):It :=
  ⟨fun i H=>∃ xs ys x y,SqT K H l1 xs/\SqT K H l2 ys/\xs[i]?=some x/\ys[i]?=some y,
   fun i H v H'=>∃ T x y,v=.ref T/\H T=none/\H'=upd H T (.tup [x,y])/\(∀ xs,SqT K H l1 xs->xs[i]?=some x)/\∀ ys,SqT K H l2 ys->ys[i]?=some y,
   fun i H=>∃ xs ys,SqT K H l1 xs/\SqT K H l2 ys/\(xs.length<=i\/ys.length<=i)⟩
theorem A30 {P:Program} {w:World} {K:PySem.W.Frag} {es:List Expr} {kk:Nat} {tp:Pos} {z TI TO i1 i2 l1 l2:Addr} (D:ZipApart z TI TO i1 i2 l1 l2) :
    Turn P w K (.Tuple es kk tp) (ItzT K l1 l2) [z,TI,TO,i1,i2] z (fun i h=>IsZip h z TI TO .none/\IsPair h TI (.ref i1) (.ref i2)/\(∃ a b,IsPair h TO a b)/\h.IsTupleIter i1 l1 i/\h.IsTupleIter i2 l2 i) where
  mem:=Zy
  obj:=fun i h st b hb=>by
    obtain ⟨hz,hTI,⟨a,c,hTO⟩,⟨o1,g1,k1,d1⟩,⟨o2,g2,k2,d2⟩⟩:=st;simp only [List.mem_cons,List.mem_nil_iff,or_false] at hb;rcases hb with rfl | rfl | rfl | rfl | rfl
    · exact ⟨_,hz,fun v q=>Data.noConfusion (show Data.fields _=Data.cell v from q)⟩
    · exact ⟨_,hTI,fun v q=>Data.noConfusion (show Data.seq _ _=Data.cell v from q)⟩
    · exact ⟨_,hTO,fun v q=>Data.noConfusion (show Data.seq _ _=Data.cell v from q)⟩
    · exact ⟨_,g1,fun v q=>by rw [d1] at q; cases q⟩
    · exact ⟨_,g2,fun v q=>by rw [d2] at q; cases q⟩
  keep:=fun i h h' st k=>by
    obtain ⟨hz,hTI,⟨a,c,hTO⟩,h1,h2⟩:=st;exact ⟨k z (by simp) _ hz,k TI (by simp) _ hTI,⟨a,c,k TO (by simp) _ hTO⟩,h1.at fun o e=>k i1 (by simp) o e,h2.at fun o e=>k i2 (by simp) o e⟩
  item:=by
    intro X hP hw hK hc i pins s σ H E I hf st hg;subst hP hw hK;obtain ⟨hz,hTI,⟨a,c,hTO⟩,h1,h2⟩:=st;obtain ⟨xs,ys,x,y,q1,q2,ex,ey⟩:=hg;obtain ⟨its1,r1,p1,_⟩:=I.tuple q1;obtain ⟨its2,r2,p2,_⟩:=I.tuple q2;obtain ⟨u1,e1,ru1⟩:=K5 r1 ex;obtain ⟨u2,e2,ru2⟩:=K5 r2 ey;refine A3d D hz hTI hTO h1 h2 (xs:=its1.toArray) (ys:=its2.toArray) p1 p2 (by simpa using e1) (by simpa using e2) fun h' a1 a2 a3 a4 a5 hk=>⟨_,rfl,?_⟩;refine wpAny_letOwnedTupleGo_zip a1 fun h'' b1 sb=>?_;have lt:∀ {b o},s.heap.get? b=some o->s.heap.objs.size≠b:=fun e=>Nat.ne_of_gt (Heap.lt_size e);have k2:∀ b o,b ∉ [z,TO,i1,i2]->s.heap.get? b=some o->h''.get? b=some o:=fun b o hb e=>by
      simp only [List.mem_cons,List.mem_nil_iff,or_false,not_or] at hb;exact (sb.2 b hb.1).trans (hk b o hb.1 hb.2.1 hb.2.2.1 hb.2.2.2 e)
    have I2:Inv X pins σ (upd H s.heap.objs.size (.tup [x,y])) { s with heap:=h'',toks:=s.toks }:=by
      refine I.laidL (wr:=[z,TO,i1,i2]) k2 (fun b hb=>hf b ?_) (Zv _) ⟨by show 2<=sizeLine; decide,[u1,u2],.cons ru1 (.cons ru2 .nil),?_⟩
      · simp only [List.mem_cons,List.mem_nil_iff,or_false] at hb ⊢
        rcases hb with q | q | q | q <;> simp [q]
      · exact ⟨_,(sb.2 _ (lt hz)).trans a5,rfl,_,rfl⟩
    refine ⟨.ref s.heap.objs.size,_,I2,rfl,⟨_,x,y,rfl,I.fresh,rfl,fun zs hzs=>by rw [I.tuple_inj hzs q1]; exact ex,fun zs hzs=>by rw [I.tuple_inj hzs q2]; exact ey⟩,⟨b1,(sb.2 _ D.TIz).trans (hk _ _ D.TIz D.TITO D.TIi1 D.TIi2 hTI),⟨_,_,(sb.2 _ D.TOz).trans a2⟩,a3.at fun o e=>(sb.2 _ D.i1z).trans e,a4.at fun o e=>(sb.2 _ D.i2z).trans e⟩,fun b hb=>?_⟩;have:b≠s.heap.objs.size:=by
      simp only [List.mem_cons,List.mem_nil_iff,or_false] at hb;obtain ⟨_,g1,_⟩:=h1;obtain ⟨_,g2,_⟩:=h2;rcases hb with rfl | rfl | rfl | rfl | rfl
      · exact (lt hz).symm
      · exact (lt hTI).symm
      · exact (lt hTO).symm
      · exact (lt g1).symm
      · exact (lt g2).symm
    rw [B2 this]; exact (hf b hb).1
  done:=by
    intro X hP hw hK hc i pins s σ H E I hf st hg;subst hP hw hK;obtain ⟨hz,hTI,⟨a,c,hTO⟩,h1,h2⟩:=st;obtain ⟨xs,ys,q1,q2,hl⟩:=hg;obtain ⟨its1,r1,p1,_⟩:=I.tuple q1;obtain ⟨its2,r2,p2,_⟩:=I.tuple q2;have n1:=r1.length;have n2:=r2.length;refine A6w (I.ok.hd hc) D hz hTI hTO h1 h2 (xs:=its1.toArray) (ys:=its2.toArray) p1 p2 (hl.imp (fun q=>by simp; omega) fun q=>by simp; omega) fun h' hk=>⟨rfl,?_⟩;refine I.turnL (t':=s.toks) (wr:=[z,TO,i1,i2]) (fun b o hb e=>?_) (fun b hb=>hf b ?_)
    · simp only [List.mem_cons,List.mem_nil_iff,or_false,not_or] at hb
      exact hk b o hb.1 hb.2.1 hb.2.2.1 hb.2.2.2 e
    · simp only [List.mem_cons,List.mem_nil_iff,or_false] at hb ⊢
      rcases hb with q | q | q | q <;> simp [q]
  self:=fun _ _ _ _ _ st h=>wpAny_pyIter_zip st.1 h
section
variable {X:Cx}
def B8s (K:PySem.W.Frag) (ta:TA):TI:=fun σ H R=>ta σ H fun vs H1=>∃ l1 l2 xs ys,vs=[.ref l1,.ref l2]/\((SqL K H1 l1 xs/\SqL K H1 l2 ys/\R (Itz K l1 l2) H1)\/(SqT K H1 l1 xs/\SqT K H1 l2 ys/\R (ItzT K l1 l2) H1))
theorem B4a {K:PySem.W.Frag} {a b:Expr} {ta:TA} {p pos:Pos} {es:List Expr} {kk:Nat} {tp:Pos} (hK:X.K=K) (hg:Gl X "zip") (hm:X.mg "zip"=none) (ha:QA X [a,b] ta)
    (hs:starEach [a,b] X.env=[(false,eval a X.env),(false,eval b X.env)]:=by rfl) (hs2:starEach [b] X.env=[(false,eval b X.env)]:=by rfl):QI X (.Tuple es kk tp) (.Call (.Name "zip" p) [a,b] [] pos) (B8s K ta):=by
  subst hK;refine ⟨fun pins s σ H R I h=>?_⟩;refine Call_ (W5 I hg hm boot_zip (PyProof.Rows.callWith_type1 (thn (ha.out pos pins s σ H _ I h) fun us s1 ⟨vs,H1,I1,r1,q1⟩=>?_) (hs.trans (by rw [hs2])) (by rw [hs2]; rfl)));obtain ⟨l1,l2,xs,ys,e,q⟩:=q1;subst e;obtain ⟨u,v,rfl,ru,rv⟩:=Vals.two r1;cases (show u=Value.ref l1 from ru);cases (show v=Value.ref l2 from rv);have ap:(show Nat from l1) < s1.heap.objs.size->(show Nat from l2) < s1.heap.objs.size->ZipApart (s1.heap.objs.size + 4) (s1.heap.objs.size + 2) (s1.heap.objs.size + 3) s1.heap.objs.size (s1.heap.objs.size + 1) l1 l2:=fun lt1 lt2=>by
    generalize s1.heap.objs.size=n at lt1 lt2;have g:∀ a b:Nat,a < b->a≠b:=fun a b q=>Nat.ne_of_lt q;have g':∀ a b:Nat,b < a->a≠b:=fun a b q=>Nat.ne_of_gt q;constructor <;> first | exact g _ _ (Nat.lt_trans lt1 (by omega)) | exact g _ _ (Nat.lt_trans lt2 (by omega)) | exact g _ _ lt1 | exact g _ _ lt2 | exact g _ _ (by omega) | exact g' _ _ (by omega)
  have fps:∀ b ∈ [s1.heap.objs.size + 4,s1.heap.objs.size + 2,s1.heap.objs.size + 3,s1.heap.objs.size,s1.heap.objs.size + 1],FpOk X pins H1 b:=fun b hb=>by
    have hb':s1.heap.objs.size<=b:=by
      simp only [List.mem_cons,List.mem_nil_iff,or_false] at hb;rcases hb with rfl | rfl | rfl | rfl | rfl <;> omega
    exact I1.fpOk hb' (I1.hok.fresh hb')
  rcases q with ⟨g1,g2,q⟩ | ⟨g1,g2,q⟩
  · obtain ⟨its1,_,p1,_⟩:=I1.list g1
    obtain ⟨its2,_,p2,_⟩:=I1.list g2;refine call_zip_2 p1.isList p2.isList fun h' a1 a2 a3 a4 a5 a6 hk=>wpAny_pyIter_zip a1 ?_;have lt1:(show Nat from l1) < s1.heap.objs.size:=by obtain ⟨o,_,ho,_⟩:=p1; exact Heap.lt_size ho
    have lt2:(show Nat from l2) < s1.heap.objs.size:=by obtain ⟨o,_,ho,_⟩:=p2; exact Heap.lt_size ho
    exact ⟨_,_,_,_,H1,rfl,I1.kept (t':=s1.toks) hk,A83 (ap lt1 lt2),⟨a1,a2,⟨_,_,a3⟩,a4,a5⟩,fps,q⟩
  · obtain ⟨its1,_,p1,_⟩:=I1.tuple g1
    obtain ⟨its2,_,p2,_⟩:=I1.tuple g2;refine A8j (xs:=its1.toArray) (ys:=its2.toArray) p1 p2 fun h' a1 a2 a3 a4 a5 hk=>wpAny_pyIter_zip a1 ?_;have lt1:(show Nat from l1) < s1.heap.objs.size:=by obtain ⟨o,ho,_⟩:=p1; exact Heap.lt_size ho
    have lt2:(show Nat from l2) < s1.heap.objs.size:=by obtain ⟨o,ho,_⟩:=p2; exact Heap.lt_size ho
    exact ⟨_,_,_,_,H1,rfl,I1.kept (t':=s1.toks) hk,A30 (ap lt1 lt2),⟨a1,a2,⟨_,_,a3⟩,a4,a5⟩,fps,q⟩
end
end L2
namespace Pu
open PySem L2 My Prf
def B0k (xs:List PyData) (k:List PyData->Prop):Prop:=match xs with
  | [.list xs,.list ys]=>k (zipD xs ys)
  | [.tuple xs,.tuple ys]=>k (zipD xs ys)
  | _=>False
def B4i (pa:PAr) (env:PEnv) (Q:List PyData->PEnv->Prop):Prop:=pa env fun xs e=>B0k xs fun zs=>Q zs e
theorem A0z {c:Ct} {w1:Wd} {K:Frag} (hK:c.K=K) {J:It} {us1 us2:List V} {xs ys:List PyData} (d1:DenAll K w1.F us1 xs) (d2:DenAll K w1.F us2 ys)
    (go:∀ w':Wd,w'.Ok->Le c.w0 w'->Same w1.F w'.F->(∀ i,i < min us1.length us2.length->J.go i w'.H)/\J.stop (min us1.length us2.length) w'.H/\∀ i v H',J.yld i w'.H v H'->∃ T x y,v=.ref T/\w'.H T=none/\H'=upd w'.H T (.tup [x,y])/\us1[i]?=some x/\us2[i]?=some y):Walk c w1 J (zipD xs ys):=by
  subst hK;intro w' ok l s;obtain ⟨g1,g2,g3⟩:=go w' ok l s;rw [A8w,<- d1.len,<- d2.len];refine ⟨g1,g2,fun i v H' y hi=>?_⟩;obtain ⟨T,x,y',rfl,hT,rfl,y1,y2⟩:=g3 i v H' y;obtain ⟨dx,x1,x2⟩:=d1.get y1;obtain ⟨dy,y3,y4⟩:=d2.get y2;refine ⟨w'.tup T (.tup [x,y']),.tuple [dx,dy],rfl,Wd.tup_ok ok hT,Wd.tup_le ok hT,?_,?_⟩
  · unfold zipD; rw [List.getElem?_zipWith,x1,y3]
  · have f:=(Wd.tup_le (o:=.tup [x,y']) ok hT).f
    exact .tup (SqD.of B4) (.cons (Den.same (s.trans f) x2) (.cons (Den.same (s.trans f) y4) .nil))
instance ri_zipS {K:Frag} {ta:TA} {pa:PAr} [ha:RAd K ta pa]:RI K (B8s K ta) (B4i pa) where
  ok:=by
    rintro c w env σ Qp R rfl E p k;refine ha.ok c w env σ _ _ rfl E p fun vs xs e1 w1 E1 l1 d1 q1=>?_;unfold B0k at q1;split at q1
    · cases d1 with | cons h t=>cases t with | cons h' t =>
        cases t;obtain ⟨a1,us1,rfl,s1,m1⟩:=h.lstE;obtain ⟨a2,us2,rfl,s2,m2⟩:=h'.lstE;refine ⟨a1,a2,us1,us2,rfl,.inl ⟨E1.wok.sub.seq s1,E1.wok.sub.seq s2,k _ _ e1 w1 E1 l1 (A0z rfl m1 m2 fun w' ok l s=>?_) q1⟩⟩;have t1:=(s.trans ok.sub).seq s1;have t2:=(s.trans ok.sub).seq s2;exact ⟨fun i hi=>⟨us1,us2,us1[i]'(by omega),us2[i]'(by omega),t1,t2,Zg _,Zg _⟩,⟨us1,us2,t1,t2,by omega⟩,fun i v H' ⟨T,x,y,e1,e2,e3,e4,e5⟩=>⟨T,x,y,e1,e2,e3,e4 _ t1,e5 _ t2⟩⟩
    · cases d1 with | cons h t=>cases t with | cons h' t =>
        cases t;obtain ⟨a1,us1,rfl,s1,m1⟩:=h.tupE;obtain ⟨a2,us2,rfl,s2,m2⟩:=h'.tupE;refine ⟨a1,a2,us1,us2,rfl,.inr ⟨SqT.same E1.wok.sub s1,SqT.same E1.wok.sub s2,k _ _ e1 w1 E1 l1 (A0z rfl m1 m2 fun w' ok l s=>?_) q1⟩⟩;have t1:=SqT.same (s.trans ok.sub) s1;have t2:=SqT.same (s.trans ok.sub) s2;exact ⟨fun i hi=>⟨us1,us2,us1[i]'(by omega),us2[i]'(by omega),t1,t2,Zg _,Zg _⟩,⟨us1,us2,t1,t2,by omega⟩,fun i v H' ⟨T,x,y,e1,e2,e3,e4,e5⟩=>⟨T,x,y,e1,e2,e3,e4 _ t1,e5 _ t2⟩⟩
    · exact q1.elim
end Pu
namespace Pu
open PySem L2 My Prf
def okA:Nat->PyData->Prop
  | _,.none=>True
  | _,.bool _=>True
  | _,.int _=>True
  | _,.str s=>(PyData.str s).canLay0=true
  | _,.dict _=>False
  | 0,.list _=>False
  | 0,.tuple _=>False
  | n + 1,.list xs=>xs.length < 1000/\∀ x ∈ xs,okA n x
  | n + 1,.tuple xs=>xs.length < 1000/\∀ x ∈ xs,okA n x
def A1p (n:Nat):PSp:=fun as Q=>∃ x,as=[.d x,.d x]/\okA n x/\Q (.d (.bool true))
theorem A98 {P:Program} {w:World} {K:Frag} {mg:Str->Option Value} {base:Heap} {k:Nat} {f:Addr} {fd:FuncData} {ps:List Str} {md:List Md} (h:md.length=ps.length):FnOk P w K mg base CX0 k f fd ps (spOf K md fun _ _=>False) :=
  ⟨spOf.len h,fun _ _ _ _ _ _ _ _ _ _ _ _ _ hs=>by obtain ⟨_,_,_,_,_,_,z,_⟩:=hs; exact z.elim⟩
theorem R5 {xs ys:List PyData} {k:List PyData->Prop}:B0k [.list xs,.list ys] k=k (zipD xs ys):=rfl
theorem Y8 {xs ys:List PyData} {k:List PyData->Prop}:B0k [.tuple xs,.tuple ys] k=k (zipD xs ys):=rfl
theorem U1 {xs:List PyData} {i:Nat} {x:PyData} (h:(zipD xs xs)[i]?=some x):∃ a,xs[i]?=some a/\x=.tuple [a,a]:=by
  obtain ⟨a,b,h1,h2,rfl⟩:=A8x h;rw [h1] at h2; cases h2; exact ⟨a,h1,rfl⟩
theorem A2r {a b:Bool}:PyData.eqv (.bool a) (.bool b)=decide (a=b):=by cases a <;> cases b <;> rfl
theorem A77 {s:Str}:PyData.eqv (.str s) (.str s)=true:=by show (s == s)=true; simp
theorem B2u:kitB "int" "str"=some false:=by decide +kernel
theorem B2x:kitB "bool" "str"=some false:=by decide +kernel
theorem B2r:kitB "NoneType" "str"=some false:=by decide +kernel
theorem B17 (q:Rat) (n:Nat):okA (n + 1) (dq q):=by
  show _ < 1000/\_;refine ⟨by simp,fun x hx=>?_⟩;simp at hx;rcases hx with rfl | rfl <;> (unfold okA; trivial)
end Pu
namespace Pu
open PySem L2 My Prf
def C0:List PyData->OT
  | []=>.nil
  | x :: r=>.cons (.leaf x) (C0 r)
def OT.len:OT->Nat
  | .cons _ t=>t.len + 1
  | .nil=>0
  | _=>1
def OT.kid:OT->Nat->Option OT
  | .cons h _,0=>some h
  | .cons _ t,n + 1=>t.kid n
  | _,_=>none
theorem N3:∀ xs,(C0 xs).dat=xs
  | []=>rfl
  | x :: r=>by show [x]++(C0 r).dat=x :: r; rw [N3 r]; rfl
theorem O4 {K:Frag} {w:Wd}:∀ {xs:List PyData} {vs:List V},Tre K w (C0 xs) vs->DenAll K w.F vs xs
  | [],_,e=>by cases (show _=[] from e); exact .nil
  | _ :: _,_,⟨_,_,rfl,⟨_,e,h⟩,t⟩=>by cases e; exact .cons h (O4 t)
noncomputable def hm (w:Wd):Hpp:=fun a=>open Classical in if w.M a then none else w.H a
theorem P6 {w:Wd} {a:Addr} {o:HO} (h:w.H a=some o) (n:¬ w.M a):hm w a=some o:=by unfold hm; rw [if_neg n]; exact h
theorem B24 {w:Wd} {a:Addr} {o:HO} (h:hm w a=some o):w.H a=some o/\¬ w.M a:=by
  unfold hm at h; split at h
  · cases h
  · exact ⟨h,‹_›⟩
theorem hm_F {w:Wd} (ok:w.Ok):Same w.F (hm w):=fun a o h=>P6 (ok.sub a o h) fun z=>by rw [ok.nf a z] at h; cases h
theorem B8t {w w':Wd} (l:Lw w w'):Same (hm w) (hm w'):=fun a o h=>by
  obtain ⟨h1,h2⟩:=B24 h;exact P6 (l.h _ _ h1 h2) (l.nm (by rw [h1]; simp) h2)
theorem Tre.den {K:Frag} {w:Wd} (ok:w.Ok):∀ {t:OT} {vs:List V},Tre K w t vs->(∀ a ∈ t.fp,¬ w.M a)->DenAll K (hm w) vs t.dat
  | .leaf _,_,⟨_,e,h⟩,_=>by rw [e]; exact .cons (Den.same (hm_F ok) h) .nil
  | .nd true a _,_,⟨e,_,h,k⟩,n=>by rw [e]; exact .cons (.lst (SqL.of (P6 h (n a (by simp [OT.fp])))) (Tre.den ok k fun q hq=>n q (by simp [OT.fp,hq]))) .nil
  | .nd false a _,_,⟨e,_,h,k⟩,n=>by rw [e]; exact .cons (.tup (SqD.of (P6 h (n a (by simp [OT.fp])))) (Tre.den ok k fun q hq=>n q (by simp [OT.fp,hq]))) .nil
  | .nil,_,e,_=>by rw [show _=[] from e]; exact .nil
  | .cons _ _,_,⟨v,r,e,h,t⟩,n=>by
    rw [e];exact (Tre.den ok h fun q hq=>n q (by simp [OT.fp,hq])).app (vs:=[v]) (us:=r) (Tre.den ok t fun q hq=>n q (by simp [OT.fp,hq]))
def VH (K:Frag) (w:Wd) (v:V) (x:PyData):Prop:=Den K (hm w) v x
theorem VR.vh {c:Ct} {w:Wd} {v:V} {t:OT} {x:PyData} (ok:w.Ok) (h:VR c w v (.tr t)) (e:t.dat=[x]):VH c.K w v x:=by
  have:=h.1.den ok fun a ha=>(h.2.1 a ha).2.2.1;rw [e] at this;cases this with | cons a _=>exact a
theorem VV.vh {K:Frag} {w:Wd} {v:V} {x:PyData} (ok:w.Ok) (h:VV K w v x):VH K w v x:=by
  rcases h with h | ⟨l,vs,xs,rfl,rfl,h1,h2,h3⟩
  · exact Den.same (hm_F ok) h
  · exact .lst (SqL.of (P6 h1 h2)) (DenAll.same (hm_F ok) h3)
class RH (K:Frag) (te:TE) (pd:outParam PDt):Prop where
  ok:∀ (c:Ct) (w:Wd) (env:PEnv) (σ:St) (Qp:PyData->PEnv->Prop) (Q:VK),c.K=K->EnvOk c w env σ->pd env Qp->(∀ v x env' w',EnvOk c w' env' σ->Lw w w'->VH K w' v x->Qp x env'->Q v w'.H)->te σ w.H Q
def B4k (i:Nat) (env:PEnv) (Q:PyData->PEnv->Prop):Prop:=match env[i]? with
  | some (some (.d x))=>Q x env
  | some (some (.own xs))=>Q (.list xs) env
  | some (some (.bor xs))=>Q (.list xs) env
  | some (some (.tr t))=>∃ x,t.dat=[x]/\Q x env
  | _=>False
instance rh_var {K:Frag} {i:Nat}:RH K (tVar i) (B4k i) where
  ok:=by
    rintro c w env σ Qp Q rfl E p k;unfold B4k at p;split at p
    · rename_i x e
      obtain ⟨v,h1,h2⟩:=E.at' i _ e;exact ⟨v,h1,k v _ env w E (Lw.refl w) (Den.same (hm_F E.wok) h2) p⟩
    · rename_i xs e
      obtain ⟨v,h1,l,vs,e',g1,g2,g3,g4,g5⟩:=E.at' i _ e;exact ⟨v,h1,k v _ env w E (Lw.refl w) (VV.vh E.wok (.inr ⟨l,vs,xs,e',rfl,g1,g3,g5⟩)) p⟩
    · rename_i xs e
      obtain ⟨v,h1,h2⟩:=E.at' i _ e;exact ⟨v,h1,k v _ env w E (Lw.refl w) ((h2.vv E.le0).vh E.wok) p⟩
    · rename_i t e
      obtain ⟨x,e1,q⟩:=p;obtain ⟨v,h1,h2⟩:=E.at' i _ e;exact ⟨v,h1,k v _ env w E (Lw.refl w) (h2.vh E.wok e1) q⟩
    · exact p.elim
def B7p (psp:PSp) (pa pb:PDt) (env:PEnv) (Q:SV->PEnv->Prop):Prop:=pa env fun x e=>pb e fun y e2=>psp [.d x,.d y] fun s=>∃ b,s=.d (.bool b)/\Q (.d (.bool b)) e2
def SV.ot (s:SV) (k:OT->Prop):Prop:=match s with
  | .d x=>k (.leaf x)
  | .own xs=>∀ a,k (.nd true a (C0 xs))
  | .tr t=>k t
  | _=>False
def Ct.with (c:Ct) (t:OT):Ct:=⟨c.K,c.w0,fun a=>c.Z a\/a ∈ t.fp⟩
def B7b (env:PEnv) (Q:OT->PEnv->Prop):Prop:=Q .nil env
def B1t (pe:PX) (pr:PEnv->(OT->PEnv->Prop)->Prop) (env:PEnv) (Q:OT->PEnv->Prop):Prop:=pe env fun s e1=>s.ot fun t=>pr e1 fun r e2=>(∀ a ∈ r.fp,a ∉ t.fp)->Q (.cons t r) e2
def B62 (b:Bool) (pa:PEnv->(OT->PEnv->Prop)->Prop) (env:PEnv) (Q:SV->PEnv->Prop):Prop:=pa env fun t e=>t.len<=1000/\∀ a,a ∉ t.fp->Q (.tr (.nd b a t)) e
def asTr (o:Option (Option SV)) (k:OT->Prop):Prop:=match o with
  | some (some (.tr t))=>k t
  | _=>False
def pKid (i:Nat) (n:Int) (env:PEnv) (Q:PyData->PEnv->Prop):Prop:=asTr env[i]? fun t=>∃ (m:Nat) (b:Bool) (a a':Addr) (ks:OT) (xs:List PyData),n=m/\t=.nd b a ks/\ks.kid m=some (.nd true a' (C0 xs))/\Q (.list xs) env
def A5u (i:Nat) (n:Int) (D:PEnds) (env:PEnv):Prop:=asTr env[i]? fun t=>∃ (m:Nat) (b:Bool) (a a':Addr) (ks ls:OT),n=m/\t=.nd b a ks/\ks.kid m=some (.nd true a' ls)/\D.nx (env.set i (some (.tr (OT.put a' .nil t))))
end Pu
namespace L2
open PySem PySem.Spec PyProof.Rows
section
variable {X:Cx} {e:Expr}
end
end L2
namespace Pu
open PySem L2 My Prf
def SV.asH (s:SV) (k:PyData->Prop):Prop:=match s with
  | .d x=>k x
  | .own xs=>k (.list xs)
  | .tr t=>∃ x,t.dat=[x]/\k x
  | _=>False
def B4g (pe:PX) (env:PEnv) (Q:PyData->PEnv->Prop):Prop:=pe env fun s e=>s.asH fun x=>Q x e
instance (priority:=200) rh_re {K:Frag} {te:TE} {pe:PX} [h:RE K te pe]:RH K te (B4g pe) where
  ok:=by
    rintro c w env σ Qp Q rfl E p k;refine h.ok c w env σ _ Q rfl E p fun v s env' w' R q=>?_;have E':=R.ev;cases s with
    | d x=>exact k v x env' w' E' R.lw (Den.same (hm_F E'.wok) R.val) q
    | own xs =>
      obtain ⟨l,vs,e',g1,g2,g3,g4,g5⟩:=R.val;exact k v _ env' w' E' R.lw (VV.vh E'.wok (.inr ⟨l,vs,xs,e',rfl,g1,g3,g5⟩)) q
    | tr t =>
      obtain ⟨x,e,q⟩:=q;exact k v x env' w' E' R.lw (VR.vh E'.wok R.val e) q
    | bor xs=>exact (show False from q).elim
    | bt t=>exact (show False from q).elim
    | al t=>exact (show False from q).elim
    | dk t=>exact (show False from q).elim
    | st=>exact (show False from q).elim
theorem VR.btv {c:Ct} {w:Wd} {v:V} {t:OT} (l:Le c.w0 w) (h:VR c w v (.bt t)):TV c.K w v t:=by
  have lw:Lw ⟨c.w0.M,c.w0.H,w.F⟩ w:=⟨Same.refl _,l.h,l.m,l.mn,l.dom⟩;exact ⟨h.1.mono lw h.2,fun a ha=>l.nm (h.1.has a ha) (h.2 a ha)⟩
class RTr (K:Frag) (te:TE) (pb:outParam (PEnv->(OT->PEnv->Prop)->Prop)):Prop where
  ok:∀ (c:Ct) (w:Wd) (env:PEnv) (σ:St) (Qp:OT->PEnv->Prop) (Q:VK),c.K=K->EnvOk c w env σ->pb env Qp->(∀ v t env' w',EnvOk c w' env' σ->Lw w w'->TV K w' v t->Qp t env'->Q v w'.H)->te σ w.H Q
def pTr (pe:PX) (env:PEnv) (Q:OT->PEnv->Prop):Prop:=pe env fun s e=>s.ot fun t=>Q t e
def pTrV (i:Nat) (env:PEnv) (Q:OT->PEnv->Prop):Prop:=match env[i]? with
  | some (some (.d x))=>Q (.leaf x) env
  | some (some (.tr t))=>Q t env
  | some (some (.bt t))=>Q t env
  | _=>False
instance rtr_var {K:Frag} {i:Nat}:RTr K (tVar i) (pTrV i) where
  ok:=by
    rintro c w env σ Qp Q rfl E p k;unfold pTrV at p;split at p
    · rename_i x e
      obtain ⟨v,h1,h2⟩:=E.at' i _ e;exact ⟨v,h1,k v (.leaf x) env w E (Lw.refl w) ⟨⟨v,rfl,h2⟩,fun a z=>nomatch z⟩ p⟩
    · rename_i t e
      obtain ⟨v,h1,h2⟩:=E.at' i _ e;exact ⟨v,h1,k v _ env w E (Lw.refl w) ⟨h2.1,fun a ha=>(h2.2.1 a ha).2.2.1⟩ p⟩
    · rename_i t e
      obtain ⟨v,h1,h2⟩:=E.at' i _ e;exact ⟨v,h1,k v _ env w E (Lw.refl w) (h2.btv E.le0) p⟩
    · exact p.elim
def B1v (pb:PEnv->(OT->PEnv->Prop)->Prop) (pr:PAs) (env:PEnv) (Q:List SV->PEnv->Prop):Prop:=pb env fun t e1=>pr e1 fun as e2=>Q (.bt t :: as) e2
def OT.lvs:OT->Option (List PyData)
  | .nil=>some []
  | .cons (.leaf x) t=>t.lvs.map (x :: ·)
  | _=>none
theorem Q6:∀ xs,(C0 xs).lvs=some xs
  | []=>rfl
  | x :: r=>by show (C0 r).lvs.map _=_; rw [Q6 r]; rfl
theorem Q8:∀ {t:OT} {xs:List PyData},t.lvs=some xs->t=C0 xs
  | .nil,_,h=>by cases h; rfl
  | .cons (.leaf x) t,xs,h=>by
    have h':t.lvs.map (x :: ·)=some xs:=h;cases q:t.lvs with
    | none=>rw [q] at h'; cases h'
    | some ys=>rw [q] at h'; cases h'; rw [Q8 q]; rfl
def OT.sv:OT->SV
  | .leaf (.list xs)=>.bor xs
  | .leaf x=>.d x
  | .nd true a k=>match k.lvs with
    | some xs=>.bor xs
    | none=>.bt (.nd true a k)
  | t=>.bt t
theorem U4 {a:Addr} {xs:List PyData}:OT.sv (.nd true a (C0 xs))=.bor xs:=by show (match (C0 xs).lvs with | some xs=>SV.bor xs | none=>_)=_; rw [Q6]
theorem VR.sv {c:Ct} {w:Wd} {v:V} {u:OT} (h:VR c w v (.bt u)):VR c w v u.sv:=by
  unfold OT.sv;split
  · obtain ⟨⟨v',e,h⟩,_⟩:=h
    cases e; exact .inl h
  · obtain ⟨⟨v',e,h⟩,_⟩:=h
    cases e; exact h
  · rename_i a k
    split
    · rename_i xs q
      obtain ⟨⟨e,us,h1,h2⟩,h3⟩:=h;cases e;rw [Q8 q] at h2;exact .inr ⟨a,us,rfl,h1,h3 a (by simp [OT.fp]),O4 (w:=⟨c.w0.M,c.w0.H,w.F⟩) h2⟩
    · exact h
  · exact h
theorem B0p {c:Ct} {env:PEnv} {σ:St} {v:V}:∀ {u:OT},New c env σ v u.sv:=by
  intro u a f;unfold OT.sv at f;split at f
  · exact f.elim
  · exact f.elim
  · split at f
    · exact f.elim
    · exact f.elim
  · exact f.elim
def OT.pair:OT->Option (OT × OT)
  | .nd false _ (.cons u (.cons v .nil))=>some (u,v)
  | .leaf (.tuple [x,y])=>some (.leaf x,.leaf y)
  | _=>none
def pUnp (i a b:Nat) (pr:List PyData->PEnv->(PEnv->Prop)->Prop) (D:PEnds) (env:PEnv):Prop:=match env[i]? with
  | some (some (.bt t))=>∃ u v,t.pair=some (u,v)/\D.nx ((env.set a (some u.sv)).set b (some v.sv))
  | some (some (.d x))=>qTup 2 pr x env D.nx
  | _=>False
theorem B50 {c:Ct} {w:Wd} {v:V} {t u1 u2:OT} (ok:w.Ok) (l:Le c.w0 w) (h:VR c w v (.bt t)) (e:t.pair=some (u1,u2)):∃ p x y,v=.ref p/\SqT c.K w.H p [x,y]/\VR c w x (.bt u1)/\VR c w y (.bt u2):=by
  unfold OT.pair at e;split at e
  · rename_i a k1 k2
    cases e;obtain ⟨⟨ev,us,h1,x,r,e1,hx,y,r2,e2,hy,e3⟩,h3⟩:=h;cases ev;have e3':r2=[]:=e3;subst e1; subst e2; subst e3';exact ⟨a,x,y,rfl,SqT.of (l.h _ _ h1 (h3 a (by simp [OT.fp]))),⟨hx,fun q hq=>h3 q (by simp [OT.fp,hq])⟩,⟨hy,fun q hq=>h3 q (by simp [OT.fp,hq])⟩⟩
  · cases e
    obtain ⟨⟨v',ev,h⟩,_⟩:=h;cases ev;obtain ⟨p,vs,rfl,h1,h2⟩:=Den.tupE h;cases h2 with
    | cons hx t=>cases t with
      | cons hy t =>
        cases t;exact ⟨p,_,_,rfl,SqT.same ok.sub h1,⟨⟨_,rfl,hx⟩,fun q hq=>nomatch hq⟩,⟨⟨_,rfl,hy⟩,fun q hq=>nomatch hq⟩⟩
  · cases e
instance (priority:=high) rs_unp {K:Frag} {i a b:Nat} {pr:List PyData->PEnv->(PEnv->Prop)->Prop} [hr:RGs K (A0p (K2 a) (A0p (K2 b) gNil)) pr]:RS K (tAsg (tVar i) (gTup K 2 (A0p (K2 a) (A0p (K2 b) gNil)))) (pUnp i a b pr) where
  ok:=by
    rintro c w env σ Dp D rfl E h p;unfold pUnp at p;split at p
    · rename_i t e
      obtain ⟨u1,u2,hp,q⟩:=p;obtain ⟨v,h1,h2⟩:=E.at' i _ e;obtain ⟨p,x,y,rfl,hs,hx,hy⟩:=B50 E.wok E.le0 h2 hp;refine ⟨_,h1,p,[x,y],rfl,hs,rfl,x,[y],rfl,y,[],rfl,rfl,?_⟩;have E1:=E.set (i:=a) hx.sv B0p;have E2:=E1.set (i:=b) hy.sv B0p;exact h.nx _ _ w E2 (Same.refl _) q
    · rename_i x e
      obtain ⟨v,h1,h2⟩:=E.at' i _ e;refine ⟨v,h1,?_⟩;exact rg_tup.ok c w env σ v x _ _ rfl E h2 p fun e2 σ2 E2 q2=>h.nx e2 σ2 w E2 (Same.refl _) q2
    · exact p.elim
def B9w (i:Nat) (n:Int) (j:Nat) (D:PEnds) (env:PEnv):Prop:=match env[i]? with
  | some (some (.bt t))=>∃ u v,t.pair=some (u,v)/\((n=0/\D.nx (env.set j (some u.sv)))\/(n=1/\D.nx (env.set j (some v.sv))))
  | _=>False
end Pu
namespace Pu
open PySem L2 My Prf
theorem fdE {a:Int} {n:Nat} (h:(n:Int) ∣ a):a.fdiv n=a / n:=Int.fdiv_eq_ediv_of_dvd h
theorem fdN (a n:Nat):(a:Int).fdiv (n:Int)=((a / n:Nat):Int):=by
  rw [Int.fdiv_eq_ediv_of_nonneg _ (Int.natCast_nonneg n)]; rfl
theorem B8a (p q:Rat):p.num.fdiv ((Int.gcd p.num q.den:Nat):Int) * q.num.fdiv ((Int.gcd q.num p.den:Nat):Int)=(p * q).num:=by
  have e:p * q=Rat.mul p q:=rfl;rw [e]; unfold Rat.mul;show _=p.num.divExact _ _ * q.num.divExact _ _;rw [Int.divExact_eq_ediv,Int.divExact_eq_ediv,fdE (Int.gcd_dvd_left ..),fdE (Int.gcd_dvd_left ..)];rfl
theorem B8b (p q:Rat):(p.den:Int).fdiv ((Int.gcd q.num p.den:Nat):Int) * (q.den:Int).fdiv ((Int.gcd p.num q.den:Nat):Int)=((p * q).den:Int):=by
  have e:p * q=Rat.mul p q:=rfl;rw [e]; unfold Rat.mul;show _=((p.den.divExact _ _ * q.den.divExact _ _:Nat):Int);rw [Nat.divExact_eq_div,Nat.divExact_eq_div,fdN,fdN];rfl
theorem Q9 {t:Int} (q:Rat):((Int.gcd t (q.den:Int):Nat):Int)≠0:=by
  have h:=q.den_nz;intro h0;have h1:Int.gcd t (q.den:Int)=0:=by omega
  have h2:=(Int.gcd_eq_zero_iff.mp h1).2;omega
theorem A99 {k:Nat} {a g:Int} (h:Sm k a) (g1:0<=g):Sm k (a.fdiv g):=by
  unfold Sm at *;rw [Int.fdiv_eq_ediv_of_nonneg _ g1];rcases Int.lt_or_le 0 g with h0 | h0
  · have h2:=Int.natAbs_ediv_le_natAbs a g
    omega
  · have:g=0:=by omega
    subst this;rw [Int.ediv_zero]; exact Nat.two_pow_pos k
theorem A4m {pr:List PyData->PEnv->(PEnv->Prop)->Prop} {q:Rat} {env:PEnv} {Q:PEnv->Prop}:qTup 2 pr (dq q) env Q=pr [.int q.num,.int q.den] env Q:=by
  unfold dq; rw [S4]; exact propext ⟨fun h=>h.2,fun h=>⟨rfl,h⟩⟩
theorem B8z (q:Rat):PyData.tuple [.int (-q.num),.int q.den]=dq (-q):=rfl
end Pu
namespace Pu
open PySem L2 My Prf
section
variable {x y:PyData} {xs ys:List PyData} {i j:Nat} {env e:PEnv} {s:SV} {t:OT}
theorem B9b {k:PyData->Prop}:(SV.d x).asD k=k x:=rfl
theorem B9a {k:PyData->Prop}:(SV.own xs).asD k=k (.list xs):=rfl
def oVar (o:Option (Option SV)) (i:Nat) (env:PEnv) (Q:SV->PEnv->Prop):Prop:=match o with
  | some (some (.d x))=>Q (.d x) env
  | some (some (.own xs))=>Q (.d (.list xs)) (env.set i (some (.d (.list xs))))
  | some (some .st)=>Q .st env
  | _=>False
theorem B06 {Q:SV->PEnv->Prop}:pVar i env Q=oVar env[i]? i env Q:=rfl
theorem B2c {Q:SV->PEnv->Prop}:oVar (some (some (.d x))) i env Q=Q (.d x) env:=rfl
theorem B2b {Q:SV->PEnv->Prop}:oVar (some (some (.own xs))) i env Q=Q (.d (.list xs)) (env.set i (some (.d (.list xs)))):=rfl
theorem B2a {Q:SV->PEnv->Prop}:oVar (some (some .st)) i env Q=Q .st env:=rfl
def A9v (o:Option (Option SV)) (env:PEnv) (Q:PyData->PEnv->Prop):Prop:=match o with
  | some (some (.d x))=>Q x env
  | some (some (.own xs))=>Q (.list xs) env
  | some (some (.bor xs))=>Q (.list xs) env
  | _=>False
theorem A41 {Q:PyData->PEnv->Prop}:B4j i env Q=A9v env[i]? env Q:=rfl
theorem A56 {Q:PyData->PEnv->Prop}:A9v (some (some (.d x))) env Q=Q x env:=rfl
theorem A55 {Q:PyData->PEnv->Prop}:A9v (some (some (.own xs))) env Q=Q (.list xs) env:=rfl
theorem A57 {Q:PyData->PEnv->Prop}:A9v (some (some (.bor xs))) env Q=Q (.list xs) env:=rfl
theorem pI_i {C:Int->Int->Prop} {gd:Int->Int->PyData} {i j:Int} {Q:SV->Prop}:pI C gd (.int i) (.int j) Q=(C i j/\Q (.d (gd i j))):=rfl
theorem B7h {gd:Int->Int->PyData} {i j:Int} {Q:SV->Prop}:pI0 gd (.int i) (.int j) Q=Q (.d (gd i j)):=rfl
theorem pU_i {gd:Int->PyData} {i:Int} {Q:SV->Prop}:pU gd (.int i) Q=Q (.d (gd i)):=rfl
theorem B13 {i:Int} {Q:SV->Prop}:pAbs [.int i] Q=Q (.d (.int (if i < 0 then -i else i))):=rfl
theorem B1e {i j:Int} {Q:SV->Prop}:pMax [.int i,.int j] Q=Q (.d (.int (if j > i then j else i))):=rfl
theorem B1d {i j:Int} {Q:SV->Prop}:pMin [.int i,.int j] Q=Q (.d (.int (if j < i then j else i))):=rfl
theorem B1p {i:Int} {Q:SV->Prop}:pInt [.int i] Q=Q (.d (.int i)):=rfl
theorem B1q {b:Bool} {Q:SV->Prop}:pInt [.bool b] Q=Q (.d (.int (if b then 1 else 0))):=rfl
theorem A1t {Q:SV->Prop}:B1f [.list ys] Q=Q (.own ys):=rfl
theorem A1s {Q:SV->Prop}:B1f [.tuple ys] Q=Q (.own ys):=rfl
def oKit (o:Option Bool) (Q:SV->Prop):Prop:=match o with
  | some b=>Q (.d (.bool b))
  | none=>False
theorem B1o {c:String} {pa:PDt} {Q:SV->PEnv->Prop}:pIsi c pa env Q=pa env fun x e=>oKit (kitB (tyD x) c) fun s=>Q s e:=rfl
theorem A5m {cs:List String} {pa:PDt} {Q:SV->PEnv->Prop}:B9t cs pa env Q=pa env fun x e=>cs.length<=1000/\oKit (T5 (tyD x) cs) fun s=>Q s e:=rfl
theorem B2j {b:Bool} {Q:SV->Prop}:oKit (some b) Q=Q (.d (.bool b)):=rfl
theorem B9c {b:Bool} {k:Bool->Prop}:asB (.bool b) k=k b:=rfl
theorem B84 {k:List PyData->Prop}:asL (.list xs) k=k xs:=rfl
theorem B23 {k:Prop}:isSt (some (some .st)) k=k:=rfl
theorem B0m {i:Int} {k:Int->Prop}:asI (.int i) k=k i:=rfl
def A6l (o:Option (Option SV)) (D:PEnds) (env:PEnv):Prop:=match o with
  | some (some (.bor _))=>False
  | some (some (.bt _))=>False
  | some (some (.al _))=>False
  | some (some s)=>D.rt s env
  | _=>False
theorem A46 {D:PEnds}:B4n i D env=A6l env[i]? D env:=rfl
theorem A6k {D:PEnds}:A6l (some (some (.d x))) D env=D.rt (.d x) env:=rfl
theorem A6j {D:PEnds}:A6l (some (some (.own xs))) D env=D.rt (.own xs) env:=rfl
theorem A6i {D:PEnds}:A6l (some (some .st)) D env=D.rt .st env:=rfl
theorem A6h {D:PEnds}:A6l (some (some (.tr t))) D env=D.rt (.tr t) env:=rfl
theorem B0w {Q:PEnv->Prop}:qNil [] env Q=Q env:=rfl
theorem A4n {pg:PyData->PEnv->(PEnv->Prop)->Prop} {pr:List PyData->PEnv->(PEnv->Prop)->Prop} {Q:PEnv->Prop}:B30 pg pr (x :: xs) env Q=pg x env fun e=>pr xs e Q:=rfl
def oPar (i j:Nat) (xs:List PyData) (D:PEnds) (e:PEnv):Prop:=match xs with
  | [x,y]=>D.nx ((e.set i (some (.d x))).set j (some (.d y)))
  | _=>False
theorem B1c {pa:PAr} {D:PEnds}:pPar i j pa D env=pa env fun xs e=>oPar i j xs D e:=rfl
theorem B2i {D:PEnds}:oPar i j [x,y] D e=D.nx ((e.set i (some (.d x))).set j (some (.d y))):=rfl
theorem A8t {k:List PyData->Prop}:J5 (some (some (.own xs))) k=k xs:=rfl
def A15 (o:Option (Option SV)) (i:Nat) (env:PEnv) (Q:List PyData->PEnv->Prop):Prop:=match o with
  | some (some (.d x))=>U0 x fun xs=>Q xs env
  | some (some (.own xs))=>Q xs (env.set i (some (.d (.list xs))))
  | some (some (.bor xs))=>Q xs env
  | _=>False
theorem A1x {Q:List PyData->PEnv->Prop}:B7f i env Q=A15 env[i]? i env Q:=rfl
theorem A13 {Q:List PyData->PEnv->Prop}:A15 (some (some (.d x))) i env Q=U0 x fun xs=>Q xs env:=rfl
theorem A12 {Q:List PyData->PEnv->Prop}:A15 (some (some (.own xs))) i env Q=Q xs (env.set i (some (.d (.list xs)))):=rfl
theorem A14 {Q:List PyData->PEnv->Prop}:A15 (some (some (.bor xs))) i env Q=Q xs env:=rfl
def B72 (xs:List PyData) (Q:List PyData->Prop):Prop:=match xs with
  | [.int j]=>(-(2 ^ 62)<=j/\j < 2 ^ 62)/\Q (rngD 0 j.toNat)
  | _=>False
theorem A45 {pa:PAr} {Q:List PyData->PEnv->Prop}:B64 pa env Q=pa env fun xs e=>B72 xs fun ys=>Q ys e:=rfl
theorem A6g {j:Int} {Q:List PyData->Prop}:B72 [.int j] Q=((-(2 ^ 62)<=j/\j < 2 ^ 62)/\Q (rngD 0 j.toNat)):=rfl
def B71 (xs:List PyData) (Q:List PyData->Prop):Prop:=match xs with
  | [.int i,.int j]=>(-(2 ^ 62)<=i/\i < 2 ^ 62/\-(2 ^ 62)<=j/\j < 2 ^ 62)/\Q (rngD i (j - i).toNat)
  | _=>False
theorem A44 {pa:PAr} {Q:List PyData->PEnv->Prop}:B9r pa env Q=pa env fun xs e=>B71 xs fun ys=>Q ys e:=rfl
theorem A6f {i j:Int} {Q:List PyData->Prop}:B71 [.int i,.int j] Q=((-(2 ^ 62)<=i/\i < 2 ^ 62/\-(2 ^ 62)<=j/\j < 2 ^ 62)/\Q (rngD i (j - i).toNat)):=rfl
def B70 (xs:List PyData) (Q:List PyData->Prop):Prop:=match xs with
  | [.int i,.int j,.int k]=>k=-1/\((-(2 ^ 61)<=i/\i < 2 ^ 61)/\-(2 ^ 61)<=j/\j < 2 ^ 61)/\Q (dwnD i (i - j).toNat)
  | _=>False
theorem A43 {pa:PAr} {Q:List PyData->PEnv->Prop}:B9q pa env Q=pa env fun xs e=>B70 xs fun ys=>Q ys e:=rfl
theorem A6e {i j k:Int} {Q:List PyData->Prop}:B70 [.int i,.int j,.int k] Q=(k=-1/\((-(2 ^ 61)<=i/\i < 2 ^ 61)/\-(2 ^ 61)<=j/\j < 2 ^ 61)/\Q (dwnD i (i - j).toNat)):=rfl
theorem B1y {Q:SV->Prop}:pCat (.list xs) (.list ys) Q=(xs.length + ys.length<=1000000/\Q (.own (xs++ys))):=rfl
theorem B12 {Q:SV->Prop}:pAll [.list ys] Q=∃ bs,blsD ys=some bs/\Q (.d (.bool (bs.all id))):=rfl
theorem B11 {Q:SV->Prop}:pAny [.list ys] Q=∃ bs,blsD ys=some bs/\Q (.d (.bool (bs.any id))):=rfl
def A9x (o:Option (Option SV)) (i:Nat) (env:PEnv) (Q:List PyData->PEnv->Prop):Prop:=match o with
  | some (some (.d x))=>asL x fun xs=>Q xs env
  | some (some (.own xs))=>Q xs (env.set i (some (.d (.list xs))))
  | some (some (.bor xs))=>Q xs env
  | _=>False
theorem A5c {Q:List PyData->PEnv->Prop}:B9s i env Q=A9x env[i]? i env Q:=rfl
theorem A6q {Q:List PyData->PEnv->Prop}:A9x (some (some (.d x))) i env Q=asL x fun xs=>Q xs env:=rfl
theorem A6p {Q:List PyData->PEnv->Prop}:A9x (some (some (.own xs))) i env Q=Q xs (env.set i (some (.d (.list xs)))):=rfl
theorem A6r {Q:List PyData->PEnv->Prop}:A9x (some (some (.bor xs))) i env Q=Q xs env:=rfl
def oZip (xss:List (List PyData)) (Q:List PyData->Prop):Prop:=match xss with
  | [xs,ys]=>Q (zipD xs ys)
  | _=>False
theorem B05 {pa:PEnv->(List (List PyData)->PEnv->Prop)->Prop} {Q:List PyData->PEnv->Prop}:pZip pa env Q=pa env fun xss e=>oZip xss fun ys=>Q ys e:=rfl
theorem B19 {Q:List PyData->Prop}:oZip [xs,ys] Q=Q (zipD xs ys):=rfl
def B74 (xss:List (List PyData)) (Q:List PyData->Prop):Prop:=match xss with
  | [xs]=>Q (B5h xs)
  | _=>False
theorem A5o {pa:PEnv->(List (List PyData)->PEnv->Prop)->Prop} {Q:List PyData->PEnv->Prop}:B9u pa env Q=pa env fun xss e=>B74 xss fun ys=>Q ys e:=rfl
theorem A6u {Q:List PyData->Prop}:B74 [xs] Q=Q (B5h xs):=rfl
def A6c (o:Option (Option SV)) (env:PEnv) (Q:PyData->PEnv->Prop):Prop:=match o with
  | some (some (.d x))=>Q x env
  | some (some (.own xs))=>Q (.list xs) env
  | some (some (.bor xs))=>Q (.list xs) env
  | some (some (.tr t))=>∃ x,t.dat=[x]/\Q x env
  | _=>False
theorem A42 {Q:PyData->PEnv->Prop}:B4k i env Q=A6c env[i]? env Q:=rfl
theorem A6a {Q:PyData->PEnv->Prop}:A6c (some (some (.d x))) env Q=Q x env:=rfl
theorem A59 {Q:PyData->PEnv->Prop}:A6c (some (some (.own xs))) env Q=Q (.list xs) env:=rfl
theorem A6b {Q:PyData->PEnv->Prop}:A6c (some (some (.bor xs))) env Q=Q (.list xs) env:=rfl
theorem A58 {Q:PyData->PEnv->Prop}:A6c (some (some (.tr t))) env Q=∃ x,t.dat=[x]/\Q x env:=rfl
theorem ot_d {k:OT->Prop}:(SV.d x).ot k=k (.leaf x):=rfl
theorem ot_o {k:OT->Prop}:(SV.own xs).ot k=∀ a,k (.nd true a (C0 xs)):=rfl
theorem ot_t {k:OT->Prop}:(SV.tr t).ot k=k t:=rfl
theorem B29 {k:OT->Prop}:asTr (some (some (.tr t))) k=k t:=rfl
theorem B87 {k:PyData->Prop}:(SV.d x).asH k=k x:=rfl
theorem B86 {k:PyData->Prop}:(SV.own xs).asH k=k (.list xs):=rfl
theorem B85 {k:PyData->Prop}:(SV.tr t).asH k=∃ x,t.dat=[x]/\k x:=rfl
def oTrV (o:Option (Option SV)) (env:PEnv) (Q:OT->PEnv->Prop):Prop:=match o with
  | some (some (.d x))=>Q (.leaf x) env
  | some (some (.tr t))=>Q t env
  | some (some (.bt t))=>Q t env
  | _=>False
theorem B09 {Q:OT->PEnv->Prop}:pTrV i env Q=oTrV env[i]? env Q:=rfl
theorem B2g {Q:OT->PEnv->Prop}:oTrV (some (some (.d x))) env Q=Q (.leaf x) env:=rfl
theorem B2f {Q:OT->PEnv->Prop}:oTrV (some (some (.tr t))) env Q=Q t env:=rfl
theorem B2h {Q:OT->PEnv->Prop}:oTrV (some (some (.bt t))) env Q=Q t env:=rfl
def oUnp (o:Option (Option SV)) (a b:Nat) (pr:List PyData->PEnv->(PEnv->Prop)->Prop) (D:PEnds) (env:PEnv):Prop:=match o with
  | some (some (.bt t))=>∃ u v,t.pair=some (u,v)/\D.nx ((env.set a (some u.sv)).set b (some v.sv))
  | some (some (.d x))=>qTup 2 pr x env D.nx
  | _=>False
theorem B07 {a b:Nat} {pr:List PyData->PEnv->(PEnv->Prop)->Prop} {D:PEnds}:pUnp i a b pr D env=oUnp env[i]? a b pr D env:=rfl
theorem B2e {a b:Nat} {pr:List PyData->PEnv->(PEnv->Prop)->Prop} {D:PEnds}:oUnp (some (some (.bt t))) a b pr D env=∃ u v,t.pair=some (u,v)/\D.nx ((env.set a (some u.sv)).set b (some v.sv)):=rfl
theorem B2d {a b:Nat} {pr:List PyData->PEnv->(PEnv->Prop)->Prop} {D:PEnds}:oUnp (some (some (.d x))) a b pr D env=qTup 2 pr x env D.nx:=rfl
def B75 (o:Option (Option SV)) (n:Int) (j:Nat) (D:PEnds) (env:PEnv):Prop:=match o with
  | some (some (.bt t))=>∃ u v,t.pair=some (u,v)/\((n=0/\D.nx (env.set j (some u.sv)))\/(n=1/\D.nx (env.set j (some v.sv))))
  | _=>False
theorem A5y {n:Int} {D:PEnds}:B9w i n j D env=B75 env[i]? n j D env:=rfl
theorem A6v {n:Int} {D:PEnds}:B75 (some (some (.bt t))) n j D env=∃ u v,t.pair=some (u,v)/\((n=0/\D.nx (env.set j (some u.sv)))\/(n=1/\D.nx (env.set j (some v.sv)))):=rfl
class Box (α:Type) where
  f:α->Prop
def hold {α:Type} [b:Box α] (x:α):Prop:=b.f x
theorem A2l {α:Type} {f:α->Prop} {x:α}:@hold α ⟨f⟩ x=f x:=rfl
theorem A5x {psp:PSp} {pa:PAs} {env:PEnv} {Q:SV->PEnv->Prop}:B7q psp pa env Q=pa env fun as e=>psp as (@hold SV ⟨fun s=>Q s e⟩):=rfl
theorem A1z {psp:PSp} {pa pb:PDt} {env:PEnv} {Q:SV->PEnv->Prop}:B7p psp pa pb env Q=pa env fun x e=>pb e fun y e2=>psp [.d x,.d y] (@hold SV ⟨fun s=>∃ b,s=.d (.bool b)/\Q (.d (.bool b)) e2⟩):=rfl
theorem B1h {xs:List PyData} {i:Int} {Q:SV->Prop}:pIx (.list xs) (.int i) Q=pGet xs i (@hold SV ⟨Q⟩):=rfl
theorem B1g {xs:List PyData} {i:Int} {Q:SV->Prop}:pIx (.tuple xs) (.int i) Q=pGet xs i (@hold SV ⟨Q⟩):=rfl
theorem A5t {pi:PAr} {pg:PyData->PEnv->(PEnv->Prop)->Prop} {pt:PTt} {pd:PDt} {cap:List (Option Nat)} {env:PEnv} {Q:SV->PEnv->Prop}:B7o pi pg pt pd cap env Q=pi env fun xs e=>xs.length < 1000000/\G9 xs pg pt pd (E9 cap e) (@hold (List PyData) ⟨fun ys=>Q (.own ys) e⟩):=rfl
theorem Q3 {pi:PAr} {pg:PyData->PEnv->(PEnv->Prop)->Prop} {pt:PTt} {pd:PDt} {cap:List (Option Nat)} {i:Nat} {D:PEnds} {env:PEnv}:A9p pi pg pt pd cap i D env=pi env fun xs e=>xs.length < 1000000/\G9 xs pg pt pd (E9 cap e) (@hold (List PyData) ⟨fun ys=>D.nx (e.set i (some (.own ys)))⟩):=rfl
end
end Pu
namespace L2
open PySem PySem.Spec PyProof.Rows
section
variable {X:Cx}
end
end L2
namespace Pu
open PySem L2 My Prf
def pIn (neg:Bool) (x y:PyData) (Q:SV->Prop):Prop:=U0 y fun xs=>PyData.canLayAll0 xs=true/\x.canLay0=true/\x.depth<=60/\Q (.d (.bool (if neg then !(xs.any fun z=>z.eqv x) else xs.any fun z=>z.eqv x)))
theorem hm_H {w:Wd}:Same (hm w) w.H:=fun _ _ h=>(B24 h).1
instance (priority:=high) re_neH {K:Frag} {ta tb:TE} {pa pb:PDt} [ha:RH K ta pa] [hb:RH K tb pb]:RE K (tOp (rNeD K) ta tb) (pOp pNeD pa pb) where
  ok:=by
    rintro c w env σ Qp Q rfl E p k;refine ha.ok c w env σ _ _ rfl E p fun x dx e1 w1 E1 l1 v1 q1=>?_;refine hb.ok c w1 e1 σ _ _ rfl E1 q1 fun y dy e2 w2 E2 l2 v2 q2=>?_;have v1':VH c.K w2 x dx:=Den.same (B8t l2) v1;exact ⟨dx,dy,Den.same hm_H v1',Den.same hm_H v2,q2.1,q2.2.1,q2.2.2.1,k _ _ e2 w2 ((Res.data E2 (.bl _)).pre (l1.trans l2)) q2.2.2.2⟩
instance (priority:=high) re_eqH {K:Frag} {ta tb:TE} {pa pb:PDt} [ha:RH K ta pa] [hb:RH K tb pb]:RE K (tOp (rEqD K) ta tb) (pOp pEqD pa pb) where
  ok:=by
    rintro c w env σ Qp Q rfl E p k;refine ha.ok c w env σ _ _ rfl E p fun x dx e1 w1 E1 l1 v1 q1=>?_;refine hb.ok c w1 e1 σ _ _ rfl E1 q1 fun y dy e2 w2 E2 l2 v2 q2=>?_;have v1':VH c.K w2 x dx:=Den.same (B8t l2) v1;exact ⟨dx,dy,Den.same hm_H v1',Den.same hm_H v2,q2.1,q2.2.1,q2.2.2.1,k _ _ e2 w2 ((Res.data E2 (.bl _)).pre (l1.trans l2)) q2.2.2.2⟩
def B2k (o:Option (Option SV)) (n:Int) (env:PEnv) (Q:List PyData->PEnv->Prop):Prop:=match o with
  | some (some (.bt t))=>∃ u v xs,t.pair=some (u,v)/\n=1/\v.sv=.bor xs/\Q xs env
  | _=>False
def B1n (i:Nat) (n:Int) (env:PEnv) (Q:List PyData->PEnv->Prop):Prop:=B2k env[i]? n env Q
theorem A16 {t:OT} {n:Int} {env:PEnv} {Q:List PyData->PEnv->Prop}:B2k (some (some (.bt t))) n env Q=∃ u v xs,t.pair=some (u,v)/\n=1/\v.sv=.bor xs/\Q xs env:=rfl
theorem EnvOk.take {c:Ct} {w:Wd} {env:PEnv} {σ:St} {i:Nat} {s:SV} (E:EnvOk c w env σ) (h:env[i]?=some (some s)) (hr:s.isRes=true):∃ v,σ[i]?=some (some v)/\Res c w (env.set i none) σ w v s:=by
  obtain ⟨v,hv,hV⟩:=E.at' i _ h;have up:∀ {j:Nat} {t:SV},(env.set i none)[j]?=some (some t)->i≠j/\env[j]?=some (some t):=by
    intro j t q;rw [List.getElem?_set] at q;split at q
    · split at q <;> cases q
    · rename_i z; exact ⟨z,q⟩
  have E':EnvOk c w (env.set i none) σ:=⟨E.wok,E.le0,by simpa using E.len,fun j s q=>E.at' j s (up q).2,fun j k s t v u a q1 q2=>E.own j k s t v u a (up q1).2 (up q2).2,E.zf,fun a j t u za q=>E.zo a j t u za (up q).2⟩;exact ⟨v,hv,E',Lw.refl w,hV,fun a f=>⟨fun j t u q z g=>(up q).1 (E.own i j _ _ _ _ a h (up q).2 hv z f g),fun za=>E.zo a i _ _ za h hv f⟩,hr⟩
def A9w (o:Option (Option SV)) (i:Nat) (env:PEnv) (k:OT->PEnv->Prop):Prop:=match o with
  | some (some (.d x))=>k (.leaf x) env
  | some (some (.own xs))=>∀ a,k (.nd true a (C0 xs)) (env.set i none)
  | some (some (.tr t))=>k t (env.set i none)
  | _=>False
theorem A6o {x:PyData} {i:Nat} {env:PEnv} {k:OT->PEnv->Prop}:A9w (some (some (.d x))) i env k=k (.leaf x) env:=rfl
theorem A6n {xs:List PyData} {i:Nat} {env:PEnv} {k:OT->PEnv->Prop}:A9w (some (some (.own xs))) i env k=∀ a,k (.nd true a (C0 xs)) (env.set i none):=rfl
theorem A6m {t:OT} {i:Nat} {env:PEnv} {k:OT->PEnv->Prop}:A9w (some (some (.tr t))) i env k=k t (env.set i none):=rfl
def B1u (i:Nat) (pr:PEnv->(OT->PEnv->Prop)->Prop) (env:PEnv) (Q:OT->PEnv->Prop):Prop:=A9w env[i]? i env fun t e1=>pr e1 fun r e2=>(∀ a ∈ r.fp,a ∉ t.fp)->Q (.cons t r) e2
def B7e (i:Nat) (n:Int) (env:PEnv) (Q:SV->PEnv->Prop):Prop:=asTr env[i]? fun t=>∃ (m:Nat) (b:Bool) (a:Addr) (ks:OT) (x:PyData),n=m/\t=.nd b a ks/\ks.kid m=some (.leaf x)/\Q (.d x) env
end Pu
namespace L2
open PySem PySem.Spec PyProof.Rows
section
variable {X:Cx} {tg:Expr}
def Its (x:Str):It:=⟨fun i _=>i < x.cps.size,fun i H v H'=>H'=H/\∃ c,x.cps[i]?=some c/\v=.str ⟨#[c]⟩,fun i _=>x.cps.size<=i⟩
theorem A32 {P:Program} {w:World} {K:PySem.W.Frag} {tg:Expr} (it:Addr) (x:Str) (t:Tok):Turn P w K tg (Its x) [it] it (fun i h=>h.IsStrIter it "str_ascii_iterator" x t i) where
  mem:=by simp
  obj:=fun i h st b hb=>by
    have e:b=it:=by simpa using hb
    subst e;obtain ⟨o,e,c,d⟩:=st;exact ⟨o,e,fun v z=>by rw [d] at z; cases z⟩
  keep:=fun i h h' ⟨o,e,c,d⟩ k=>⟨o,k it (by simp) o e,c,d⟩
  item:=by
    intro X hP hw hK hc i pins s σ H E I hf st hg;subst hP hw hK;have hg:i < x.cps.size:=hg;obtain ⟨f0,f1,f2,f3,f4,f5⟩:=hf it (by simp);refine wpAny_pyNext_ascii_item (c:=x.cps[i]) st (Array.getElem?_eq_getElem hg) fun h' st' sb=>?_;have I1:Inv X pins σ H { s with heap:=h',toks:=s.toks + 1 }:=I.turned (t':=s.toks + 1) (fun b o hb e=>(sb.2 b hb).trans e) f0 f1 f3 f4 f5;obtain ⟨o,e,c,d⟩:=id st';exact ⟨_,rfl,B5e (s:={ s with heap:=h',toks:=s.toks + 1 }) e c d (by decide) ⟨.str ⟨#[x.cps[i]]⟩,H,I1,⟨_,rfl⟩,⟨rfl,_,Array.getElem?_eq_getElem hg,rfl⟩,st',fun b hb=>(hf b hb).1⟩⟩
  done:=by
    intro X hP hw hK hc i pins s σ H E I hf st hg;subst hP hw hK;have hg:x.cps.size<=i:=hg;obtain ⟨f0,f1,f2,f3,f4,f5⟩:=hf it (by simp);exact wpAny_pyNext_ascii_end (I.ok.hd hc) st (Array.getElem?_eq_none hg) fun h' eb=>⟨rfl,I.turned (t':=s.toks) (fun b o hb e=>eb b o hb e) f0 f1 f3 f4 f5⟩
  self:=fun _ _ _ _ _ st h=>wpAny_pyIter_striter_ascii st h
theorem A31 {P:Program} {w:World} {K:PySem.W.Frag} {tg:Expr} (it:Addr) (x:Str) (t:Tok):Turn P w K tg (Its x) [it] it (fun i h=>h.IsStrIter it "str_iterator" x t i) where
  mem:=by simp
  obj:=fun i h st b hb=>by
    have e:b=it:=by simpa using hb
    subst e;obtain ⟨o,e,c,d⟩:=st;exact ⟨o,e,fun v z=>by rw [d] at z; cases z⟩
  keep:=fun i h h' ⟨o,e,c,d⟩ k=>⟨o,k it (by simp) o e,c,d⟩
  item:=by
    intro X hP hw hK hc i pins s σ H E I hf st hg;subst hP hw hK;have hg:i < x.cps.size:=hg;obtain ⟨f0,f1,f2,f3,f4,f5⟩:=hf it (by simp);refine wpAny_pyNext_wide_item (c:=x.cps[i]) st (Array.getElem?_eq_getElem hg) fun h' st' sb=>?_;have I1:Inv X pins σ H { s with heap:=h',toks:=s.toks + 1 }:=I.turned (t':=s.toks + 1) (fun b o hb e=>(sb.2 b hb).trans e) f0 f1 f3 f4 f5;obtain ⟨o,e,c,d⟩:=id st';exact ⟨_,rfl,B5e (s:={ s with heap:=h',toks:=s.toks + 1 }) e c d (by decide) ⟨.str ⟨#[x.cps[i]]⟩,H,I1,⟨_,rfl⟩,⟨rfl,_,Array.getElem?_eq_getElem hg,rfl⟩,st',fun b hb=>(hf b hb).1⟩⟩
  done:=by
    intro X hP hw hK hc i pins s σ H E I hf st hg;subst hP hw hK;have hg:x.cps.size<=i:=hg;obtain ⟨f0,f1,f2,f3,f4,f5⟩:=hf it (by simp);exact wpAny_pyNext_wide_end (I.ok.hd hc) st (Array.getElem?_eq_none hg) fun h' eb=>⟨rfl,I.turned (t':=s.toks) (fun b o hb e=>eb b o hb e) f0 f1 f3 f4 f5⟩
  self:=fun _ _ _ _ _ st h=>wpAny_pyIter_striter_wide st h
def iStr (tl:TE):TI:=fun σ H R=>tl σ H fun x H1=>∃ z,x=.str z/\R (Its z) H1
theorem B6s {l:Expr} {tl:TE} (hl:PE X l tl):PI X tg l (iStr tl):=by
  intro pins s σ H R I h;refine thn (hl pins s σ H _ I h) fun v s1 ⟨x,H1,I1,r1,q1⟩=>?_;obtain ⟨z,rfl,q⟩:=q1;obtain ⟨t,rfl⟩:=r1;refine wpAny_pyIter_strU ?_;have fp:∀ b ∈ [s1.heap.objs.size],FpOk X pins H1 b:=fun b hb=>by
    have e:b=s1.heap.objs.size:=by simpa using hb
    subst e;exact I1.fpOk (Zv _) (I1.hok.fresh (Zv _))
  by_cases ha:(z.cps.all fun x=>decide (x < 128))=true
  · have ty:strIterType z="str_ascii_iterator":=by unfold strIterType; rw [if_pos ha]
    rw [ty];exact ⟨s1.heap.objs.size,[s1.heap.objs.size],_,_,H1,rfl,I1.kept (t':=s1.toks) fun b o e=>Heap.get?_push_of_some _ e,A32 _ z t,⟨_,Heap.get?_push_size _ rfl,rfl,rfl⟩,fp,q⟩
  · have ty:strIterType z="str_iterator":=by unfold strIterType; rw [if_neg ha]
    rw [ty];exact ⟨s1.heap.objs.size,[s1.heap.objs.size],_,_,H1,rfl,I1.kept (t':=s1.toks) fun b o e=>Heap.get?_push_of_some _ e,A31 _ z t,⟨_,Heap.get?_push_size _ rfl,rfl,rfl⟩,fp,q⟩
def rS (g:Str->Str->V):R2:=fun x y H Q=>∃ i j,x=.str i/\y=.str j/\Q (g i j) H
def A4e:R2:=fun x y H Q=>∃ i j,x=.str i/\y=.str j/\i.length + j.length<=1000/\Q (.str (i++j)) H
theorem D6:OpR X (binaryOp .Add) A4e:=by
  intro pins s σ H x y v u Q I rx ry h;obtain ⟨i,j,rfl,rfl,l,q⟩:=h;exact A3a pins s σ H _ _ v u Q I rx ry ⟨i,j,rfl,rfl,Zx l (by rw [sizeLine_eq]; decide),q⟩
def B3t (K:PySem.W.Frag):List V->Hp->VK->Prop:=fun xs H Q=>(∃ p ys,xs=[.ref p]/\(SqL K H p ys\/SqT K H p ys)/\Q (.int ys.length) H)\/∃ z,xs=[.str z]/\z.length<=sizeLine/\Q (.int z.length) H
theorem A3l {K:PySem.W.Frag} (h:X.K=K):CallR X (.builtin "len") (B3t K):=by subst h; exact call_len_seq.or Y0
def B3u (K:PySem.W.Frag):V->List V->Hp->VK->Prop:=fun x vs H Q=>∃ sep p zs,x=.str sep/\vs=[.ref p]/\SqL K H p (zs.map V.str)/\(zs.map fun z=>z.length + sep.length).sum<=1000/\Q (.str (sep.join zs)) H
theorem U5:∀ {zs:List Str} {its:List Value},Vals (zs.map V.str) its->∃ l:List (Str × Tok),its=strValues l/\l.map (·.1)=zs
  | [],_,.nil=>⟨[],rfl,rfl⟩
  | z :: zs,_,.cons r t=>by
    obtain ⟨k,rfl⟩:=r;obtain ⟨l,rfl,e⟩:=U5 (zs:=zs) t;exact ⟨(z,k) :: l,rfl,by rw [List.map_cons,e]⟩
theorem A2n (k:Nat):∀ (zs:List Str) (a:Nat),List.foldl (fun x1 (x2:Str)=>x1 + x2.length + k) a zs=a + (zs.map fun z=>z.length + k).sum
  | [],a=>by simp
  | z :: zs,a=>by rw [List.foldl_cons,A2n k zs,List.map_cons,List.sum_cons]; omega
theorem X1 (k:Array Nat):∀ (ps:List Str) (a:Array Nat),(List.foldl (fun acc (p:Str)=>acc++k++p.cps) a ps).size=a.size + (ps.map fun z=>z.length + k.size).sum
  | [],a=>by simp
  | p :: ps,a=>by
    rw [List.foldl_cons,X1 k ps,List.map_cons,List.sum_cons,Array.size_append,Array.size_append];show a.size + k.size + p.cps.size + _=a.size + (p.cps.size + k.size + _);omega
theorem A94 {sep:Str}:∀ {zs:List Str},(sep.join zs).length<=(zs.map fun z=>z.length + sep.length).sum:=by
  intro zs;rw [<- StrLaws.glued_eq_join];cases zs with
  | nil=>exact Zv _
  | cons z r =>
    show (List.foldl (fun acc (p:Str)=>acc++sep.cps++p.cps) z.cps r).size<=_;rw [X1,List.map_cons,List.sum_cons];show z.cps.size + (r.map fun z=>z.length + sep.cps.size).sum<=z.cps.size + sep.cps.size + (r.map fun z=>z.length + sep.cps.size).sum;omega
theorem T4:1000<=sizeLine:=by rw [sizeLine_eq]; decide
theorem B45:MtR X "str.join" (B3u X.K):=by
  intro pins s σ H x vs v us Q I rx rv h;obtain ⟨sep,p,zs,rfl,rfl,hq,hl,q⟩:=h;obtain ⟨t,rfl⟩:=rx;obtain ⟨u,rfl,ru⟩:=rv.one;cases ru;obtain ⟨its,r,pl,hz⟩:=I.list hq;obtain ⟨l,rfl,e⟩:=U5 r;have h10:=T4;have long:Builtin.Str.tooLong (Array.foldl (fun x1 x2=>x1 + x2.length + sep.length) 0 (List.map (fun x=>x.fst) l).toArray)=false:=by
    rw [List.foldl_toArray,A2n,e];unfold Builtin.Str.tooLong;simp;omega
  have hj:=A94 (sep:=sep) (zs:=zs);refine call_meets F.slot_str_join (typeIs_str s sep t) F.entry_str_join (F.args_str_join_2 _ _) (meets_str_join_list sep t p l long) ⟨pl.isList,?_⟩;subst e;rw [<- StrLaws.glued_eq_join] at q hj;rcases l with _ | ⟨a,_ | ⟨b,r⟩⟩
  · exact ⟨by omega,.str _,H,I.tok _,⟨_,rfl⟩,q⟩
  · exact ⟨.str _,H,I,⟨_,rfl⟩,q⟩
  · exact ⟨by omega,.str _,H,I.tok _,⟨_,rfl⟩,q⟩
end
end L2
namespace L2
open PySem PySem.Spec PyProof.Rows
section
variable {X:Cx} {tg:Expr} {pos:Pos}
theorem B3x {l:Expr} {tl:TE} (hl:QE X l tl):QI X tg l (iStr tl):=⟨B6s hl.out⟩
theorem A90 {K:PySem.W.Frag} (h:X.K=K):MtR X "str.join" (B3u K):=by subst h; exact B45
end
end L2
namespace Pu
open PySem L2 My Prf
def asS (x:PyData) (k:Str->Prop):Prop:=match x with
  | .str z=>k z
  | _=>False
theorem B0l {z:Str} {k:Str->Prop}:asS (.str z) k=k z:=rfl
theorem VV.strE {K:Frag} {w:Wd} {v:V} {z:Str} (h:VV K w v (.str z)):v=.str z:=by
  rcases h with h | ⟨l,vs,xs,e,e',_⟩
  · cases h; rfl
  · cases e'
def sgn (c:Nat):PyData:=.str ⟨#[c]⟩
def A4a (z:Str):List PyData:=z.cps.toList.map sgn
def A5l (pd:PDt) (env:PEnv) (Q:List PyData->PEnv->Prop):Prop:=pd env fun x e=>asS x fun z=>Q (A4a z) e
instance ri_str {K:Frag} {tl:TE} {pd:PDt} [hl:RW K tl pd]:RI K (iStr tl) (A5l pd) where
  ok:=by
    rintro c w env σ Qp R rfl E p k;refine hl.ok c w env σ _ _ rfl E p fun v x e1 w1 E1 l1 d1 q1=>?_;unfold asS at q1;split at q1
    · rename_i z
      refine ⟨z,d1.strE,k _ _ e1 w1 E1 l1 (fun w' ok l s=>?_) q1⟩;have hl:(A4a z).length=z.cps.size:=by unfold A4a; rw [Zl,Array.length_toList]
      refine ⟨fun i hi=>by rw [hl] at hi; exact hi,by rw [hl]; exact Zv _,fun i v H' y hi=>?_⟩;obtain ⟨e,cc,h1,rfl⟩:=y;refine ⟨w',sgn cc,e.symm,ok,Le.refl w',?_,.str _⟩;unfold A4a;rw [Zh,Array.getElem?_toList,h1]; rfl
    · exact q1.elim
class SGS (g:Str->Str->V) (gd:outParam (Str->Str->PyData)):Prop where
  ok:∀ i j K F,Den K F (g i j) (gd i j)
instance sgs_bl {f:Str->Str->Bool}:SGS (fun i j=>.bl (f i j)) (fun i j=>.bool (f i j)):=⟨fun _ _ _ _=>.bl _⟩
def pS (gd:Str->Str->PyData) (x y:PyData) (Q:SV->Prop):Prop:=asS x fun i=>asS y fun j=>Q (.d (gd i j))
instance ro_S {K:Frag} {g:Str->Str->V} {gd:Str->Str->PyData} [s:SGS g gd]:RO K (rS g) (pS gd) where
  ok:=by
    rintro c w env σ x y dx dy Qp Q rfl E vx vy p k;unfold pS asS at p;split at p
    · split at p
      · exact ⟨_,_,vx.strE,vy.strE,k _ _ w (Res.data E (s.ok _ _ _ _)) p⟩
      · exact p.elim
    · exact p.elim
def A9r (x y:PyData) (Q:SV->Prop):Prop:=asS x fun i=>asS y fun j=>i.length + j.length<=1000/\Q (.d (.str (i++j)))
instance ro_catS {K:Frag}:RO K A4e A9r where
  ok:=by
    rintro c w env σ x y dx dy Qp Q rfl E vx vy p k;unfold A9r asS at p;split at p
    · split at p
      · exact ⟨_,_,vx.strE,vy.strE,p.1,k _ _ w (Res.data E (.str _)) p.2⟩
      · exact p.elim
    · exact p.elim
def B7i (z:Str) (i:Int) (Q:SV->Prop):Prop:=∃ c,atI z.cps.toList i=some c/\Q (.d (sgn c))
def pIx2 (x y:PyData) (Q:SV->Prop):Prop:=match x with
  | .str z=>asI y fun i=>z.length<=1000/\B7i z i Q
  | x=>pIx x y Q
theorem B1l {xs:List PyData} {y:PyData} {Q:SV->Prop}:pIx2 (.list xs) y Q=pIx (.list xs) y Q:=rfl
theorem B1i {xs:List PyData} {y:PyData} {Q:SV->Prop}:pIx2 (.tuple xs) y Q=pIx (.tuple xs) y Q:=rfl
theorem B1k {q:Rat} {y:PyData} {Q:SV->Prop}:pIx2 (dq q) y Q=pIx (dq q) y Q:=rfl
theorem B1m {q:Rat × Rat} {y:PyData} {Q:SV->Prop}:pIx2 (dcn q) y Q=pIx (dcn q) y Q:=rfl
theorem B1j {z:Str} {i:Int} {Q:SV->Prop}:pIx2 (.str z) (.int i) Q=(z.length<=1000/\B7i z i Q):=rfl
instance (priority:=high) ro_ix2 {K:Frag}:RO K (rIx K) pIx2 where
  ok:=by
    rintro c w env σ x y dx dy Qp Q rfl E vx vy p k;unfold pIx2 at p;split at p
    · unfold asI at p
      split at p
      · obtain ⟨hl,cc,h1,q⟩:=p
        exact .inr (.inr ⟨_,_,cc,vx.strE,vy.intE,Zx hl T4,h1,k _ _ w (Res.data E (.str _)) q⟩)
      · exact p.elim
    · exact ro_ix.ok c w env σ x y dx dy Qp Q rfl E vx vy p k
def A28 (xs:List PyData) (Q:SV->Prop):Prop:=match xs with
  | [.list ys]=>Q (.d (.int ys.length))
  | [.tuple ys]=>Q (.d (.int ys.length))
  | [.str z]=>z.length<=1000/\Q (.d (.int z.length))
  | _=>False
theorem A5h {ys:List PyData} {Q:SV->Prop}:A28 [.list ys] Q=Q (.d (.int ys.length)):=rfl
theorem A5e {ys:List PyData} {Q:SV->Prop}:A28 [.tuple ys] Q=Q (.d (.int ys.length)):=rfl
theorem A5g {q:Rat} {Q:SV->Prop}:A28 [dq q] Q=Q (.d (.int 2)):=rfl
theorem A5f {z:Str} {Q:SV->Prop}:A28 [.str z] Q=(z.length<=1000/\Q (.d (.int z.length))):=rfl
instance rb_len2 {K:Frag}:RB K (B3t K) A28 where
  ok:=by
    rintro c w env σ vs xs Qp Q rfl E vv p k;unfold A28 at p;split at p
    · cases vv with | cons h t=>cases t; obtain ⟨a,us,e,h1,h2⟩:=h.lst E.wok; exact .inl ⟨a,us,by rw [e],.inl h1,by rw [h2.len]; exact k _ _ w (Res.data E (.int _)) p⟩
    · cases vv with | cons h t=>cases t; obtain ⟨a,us,e,h1,h2⟩:=h.tup E.wok; exact .inl ⟨a,us,by rw [e],.inr h1,by rw [h2.len]; exact k _ _ w (Res.data E (.int _)) p⟩
    · cases vv with | cons h t=>cases t; exact .inr ⟨_,by rw [h.strE],Zx p.1 T4,k _ _ w (Res.data E (.int _)) p.2⟩
    · exact p.elim
def Z5:List PyData->Option (List Str)
  | []=>some []
  | .str z :: r=>(Z5 r).map (z :: ·)
  | _=>none
theorem U6 {K:Frag} {F:Hpp}:∀ {vs:List V} {xs:List PyData} {zs:List Str},DenAll K F vs xs->Z5 xs=some zs->vs=zs.map V.str
  | _,_,zs,.nil,h=>by cases h; rfl
  | _,x :: r,zs,.cons d t,h=>by
    cases d with
    | str z =>
      have h:(Z5 r).map (z :: ·)=some zs:=h;cases q:Z5 r with
      | none=>rw [q] at h; cases h
      | some ys=>rw [q] at h; cases h; rw [U6 t q]; rfl
    | non=>cases h
    | bl=>cases h
    | int=>cases h
    | lst=>cases h
    | tup=>cases h
    | dct=>cases h
def B4t (po pa:PDt) (env:PEnv) (Q:SV->PEnv->Prop):Prop:=po env fun x e=>asS x fun sep=>pa e fun y e2=>asL y fun ys=>∃ zs,Z5 ys=some zs/\(zs.map fun z=>z.length + sep.length).sum<=1000/\Q (.d (.str (sep.join zs))) e2
instance re_join {K:Frag} {to ta:TE} {po pa:PDt} [ho:RW K to po] [ha:RW K ta pa]:RE K (tBM K "str" (B3u K) to (E6 ta tNil)) (B4t po pa) where
  ok:=by
    rintro c w env σ Qp Q rfl E p k;refine ho.ok c w env σ _ _ rfl E p fun v x e1 w1 E1 l1 d1 q1=>?_;unfold asS at q1;split at q1
    · rename_i sep
      have ev:=d1.strE;subst ev;refine ⟨rfl,ha.ok c w1 e1 σ _ _ rfl E1 q1 fun u y e2 w2 E2 l2 d2 q2=>?_⟩;unfold asL at q2;split at q2
      · obtain ⟨zs,hz,hl,q⟩:=q2
        obtain ⟨a,us,e,h1,h2⟩:=d2.lst E2.wok;exact ⟨sep,a,zs,rfl,by rw [e],by rw [<- U6 h2 hz]; exact h1,hl,k _ _ e2 w2 ((Res.data E2 (.str _)).pre (l1.trans l2)) q⟩
      · exact q2.elim
    · exact q1.elim
def B61 (pd:PDt) (i:Nat) (pi:PDt) (D:PEnds) (env:PEnv):Prop:=pd env fun x e=>J5 e[i]? fun _=>pi e fun y e2=>asI y fun n=>J5 e2[i]? fun xs=>∃ j,ixN xs.length n=some j/\D.nx (e2.set i (some (.own (xs.set j x))))
def B7m (env:PEnv) (Q:SV->PEnv->Prop):Prop:=Q (.d (.dict [])) env
def B1s (key:Key) (y:V) (env:PEnv) (Q:SV->PEnv->Prop):Prop:=Q (.d (.dict [B5i (key,y)])) env
theorem A7o:kitB "int" "int"=some true:=by decide +kernel
theorem A7p:kitB "int" "bool"=some false:=by decide +kernel
theorem A7m:kitB "int" "tuple"=some false:=by decide +kernel
theorem A7n:kitB "int" "str"=some false:=by decide +kernel
theorem A7w:kitB "bool" "int"=some true:=by decide +kernel
theorem A7x:kitB "bool" "bool"=some true:=by decide +kernel
theorem A7u:kitB "bool" "tuple"=some false:=by decide +kernel
theorem A7v:kitB "bool" "str"=some false:=by decide +kernel
theorem A7g:kitB "NoneType" "int"=some false:=by decide +kernel
theorem A7h:kitB "NoneType" "bool"=some false:=by decide +kernel
theorem A7e:kitB "NoneType" "tuple"=some false:=by decide +kernel
theorem A7f:kitB "NoneType" "str"=some false:=by decide +kernel
theorem A7c:kitB "str" "int"=some false:=by decide +kernel
theorem A7d:kitB "str" "bool"=some false:=by decide +kernel
theorem A7a:kitB "str" "tuple"=some false:=by decide +kernel
theorem A7b:kitB "str" "str"=some true:=by decide +kernel
theorem A7k:kitB "list" "int"=some false:=by decide +kernel
theorem A7l:kitB "list" "bool"=some false:=by decide +kernel
theorem A7i:kitB "list" "tuple"=some false:=by decide +kernel
theorem A7j:kitB "list" "str"=some false:=by decide +kernel
theorem A68:kitB "tuple" "int"=some false:=by decide +kernel
theorem A69:kitB "tuple" "bool"=some false:=by decide +kernel
theorem A66:kitB "tuple" "tuple"=some true:=by decide +kernel
theorem A67:kitB "tuple" "str"=some false:=by decide +kernel
theorem A7s:kitB "dict" "int"=some false:=by decide +kernel
theorem A7t:kitB "dict" "bool"=some false:=by decide +kernel
theorem A7q:kitB "dict" "tuple"=some false:=by decide +kernel
theorem A7r:kitB "dict" "str"=some false:=by decide +kernel
theorem A03 {kvs:List (PyData × PyData)}:tyD (.dict kvs)="dict":=rfl
def A5v (pr pr':PyData->PyData->(SV->Prop)->Prop) (pa pb pc:PDt) (env:PEnv) (Q:SV->PEnv->Prop):Prop :=
  pa env fun x e1=>pb e1 fun y e2=>pr x y fun s=>s.asD fun b=>asB b fun k=>if k=true then pc e2 fun z e3=>pr' y z fun s2=>Q s2 e3 else Q (.d (.bool false)) e2
instance re_chain {K:Frag} {r r':R2} {ta tb tc:TE} {pr pr':PyData->PyData->(SV->Prop)->Prop} {pa pb pc:PDt} [h:RO K r pr] [h':RO K r' pr'] [ha:RW K ta pa] [hb:RW K tb pb] [hc:RW K tc pc]:RE K (A36 r r' ta tb tc) (A5v pr pr' pa pb pc) where
  ok:=by
    rintro c w env σ Qp Q rfl E p k;refine ha.ok c w env σ _ _ rfl E p fun x dx e1 w1 E1 l1 v1 q1=>?_;refine hb.ok c w1 e1 σ _ _ rfl E1 q1 fun y dy e2 w2 E2 l2 v2 q2=>?_;refine h.ok c w2 e2 σ x y dx dy _ _ rfl E2 (v1.mono l2) v2 q2 fun v s w3 R q3=>?_;cases s with
    | d b =>
      cases b with
      | bool b =>
        have ev:v=.bl b:=Den.blE R.val;refine ⟨b,ev,?_⟩;cases b with
        | true =>
          refine hc.ok c w3 e2 σ _ _ rfl R.ev q3 fun z dz e3 w4 E4 l4 v4 q4=>?_;exact h'.ok c w4 e3 σ y z dy dz _ _ rfl E4 ((v2.mono R.lw).mono l4) v4 q4 fun v s w' R' q=>k v s e3 w' (R'.pre (l1.trans (l2.trans (R.lw.trans l4)))) q
        | false=>exact k _ _ e2 w3 ((Res.data R.ev (.bl _)).pre (l1.trans (l2.trans R.lw))) q3
      | _=>exact (show False from q3).elim
    | own xs=>exact (show False from q3).elim
    | bor xs=>exact (show False from q3).elim
    | st=>exact (show False from q3).elim
    | tr t=>exact (show False from q3).elim
    | bt t=>exact (show False from q3).elim
    | al t=>exact (show False from q3).elim
    | dk t=>exact (show False from q3).elim
end Pu
namespace L2
open PySem PySem.Spec PyProof.Rows
section
variable {prog:Program} {w:World} {A:Around} {E:Value->Shared->Prop} {h:Heap} {g:Array GenState} {d:Drawn} {t:Nat} {os:OsState} {a C:Addr} {o:Obj} {vs:Array Value} {K:PySem.W.Frag}
structure ExK (K:PySem.W.Frag) (C:Addr):Prop where
  ga:PySem.W.findIn K (.ref C) "__getattribute__"=some (some (.builtin "BaseException.__getattribute__"))
  gn:PySem.W.findIn K (.ref C) "__getattr__"=some none
  gc:PySem.W.findIn K (.ref C) "__class__"=some (some (.builtin "object.__class__"))
  sb:PySem.W.subIn K (.ref C) (.type "BaseException")=some true
  so:PySem.W.subIn K (.ref C) (.type "object")=some true
theorem B5u {R:Result->Shared->Prop} (X:K.In h) (k:ExK K C) (hx:h.get? a=some o) (hc:o.cls=.ref C) (hq:R (.ok (.ret (.ref C))) ⟨h,g,d,t,os⟩) :
    codeAny (model prog w) A (.call (.builtin "getset_descriptor.__get__") ⟨[.builtin "object.__class__",.ref a,.ref C],[]⟩) R ⟨h,g,d,t,os⟩:=by
  have yT:(⟨h,g,d,t,os⟩:Shared).TypeIs (.builtin "object.__class__") "getset_descriptor":=F.typeOf_object_class;have LO:=PySem.W.looks_subIn (M:=model prog w) X k.so;have ow:(".".intercalate ("object.__class__".cutAt '.').dropLast)="object":=F.owner_object_class;refine codeAny_call_builtin F.slot_gs_get.plain F.entry_gs_get (F.slot_gs_get.check _ _ _ _ _ _ _ _ (yT) (F.args_gs_get _ _ _) ?_)
  repeat (any_goals (first | assumption | (with_reducible refine wpAny_loadPart_at hx ?_; rw [hc]) | (rw [ow]; with_reducible refine LO.at ?_) | with_reducible refine LO.at ?_ | wp_step))
  refine ⟨Code.quiet_builtin _ (by decide +kernel),codeAny_builtin (F.entry_object_class) ?_⟩
  repeat (any_goals (first | assumption | (with_reducible refine wpAny_loadPart_at hx ?_; rw [hc]) | wp_step))
theorem A8z {tk:Tok} {Q:Fin->Shared->Prop} (X:K.In h) (k:ExK K C) (hx:h.get? a=some o) (hc:o.cls=.ref C) (hq:Q (.done (.ret (.ref C))) ⟨h,g,d,t,os⟩) :
    wpAny (model prog w) A (Builtin.«object.__getattribute__» ⟨[.ref a,.str "__class__" tk],[]⟩) Q E ⟨h,g,d,t,os⟩:=by
  have yT:(⟨h,g,d,t,os⟩:Shared).TypeIs (.builtin "object.__class__") "getset_descriptor":=F.typeOf_object_class;have LC:=PySem.W.looks_findIn (M:=model prog w) X k.gc;have u5:=F.typeOf_object_class;have u6:=F.slot_gs_get.lookup;have u7:=F.slot_gs_set.lookup
  repeat (any_goals (first | assumption | (with_reducible refine wpAny_loadPart_at hx ?_; rw [hc]) | with_reducible refine LC.at ?_ | wp_step))
  refine B5u X k hx hc ?_
  repeat (any_goals first | assumption | wp_step)
theorem A80 {M:Model} {nameV:Value} {Q:Unit->Shared->Prop} (X:K.In h) (k:ExK K C) (hx:h.get? a=some o) (hc:o.cls=.ref C) (hq:Q () ⟨h,g,d,t,os⟩) :
    wpAny M A (checkBuiltinCall "BaseException.__getattribute__" ⟨[.ref a,nameV],[]⟩) Q E ⟨h,g,d,t,os⟩:=by
  have k1:builtinKind "BaseException.__getattribute__"=some .slot:=by decide +kernel
  have k2:splitId "BaseException.__getattribute__"=some ("BaseException","__getattribute__"):=by decide +kernel
  have LB:=PySem.W.looks_subIn (M:=M) X k.sb;have u0:=F.args_bexc_ga (.ref a) nameV;simp only [checkBuiltinCall,k1,k2];refine wpAny_bind ?_;unfold isInstance
  repeat (first | (with_reducible refine wpAny_loadPart_at hx ?_; rw [hc]) | with_reducible refine LB.at ?_ | wp_step)
  exact hq
theorem B9d {tk:Tok} {Q:Value->Shared->Prop} (X:K.In h) (k:ExK K C) (hx:h.get? a=some o) (hc:o.cls=.ref C) (hq:Q (.ref C) ⟨h,g,d,t,os⟩) :
    wpAny (model prog w) A (getAttrBy (.ref a) (.str "__class__" tk) false) Q E ⟨h,g,d,t,os⟩:=by
  have u3:=F.attrBase_ValueError.ga.bind (.ref a);have LG:=PySem.W.looks_findIn (M:=model prog w) X k.ga;have LN:=PySem.W.looks_findIn (M:=model prog w) X k.gn;have z2:(Value.builtin "BaseException.__getattribute__" == Value.builtin "object.__getattribute__")=false:=by decide +kernel
  have z1:(onTheHeap (Value.ref C) && Value.builtin "BaseException.__getattribute__" == Value.builtin "object.__getattribute__")=false:=by rw [z2]; rfl
  repeat (any_goals (first | assumption | (with_reducible refine wpAny_loadPart_at hx ?_; rw [hc]) | with_reducible refine LG.at ?_ | with_reducible refine LN.at ?_ | wp_step))
  refine codeAny_call_builtin F.attrBase_ValueError.ga.plain F.entry_bexc_ga (A80 X k hx hc (A8z X k hx hc ?_))
  repeat (any_goals first | assumption | wp_step)
theorem B3a {Q:Option Value->Shared->Prop} (X:K.In h) (k:ExK K C) (hx:h.get? a=some o) (hc:o.cls=.ref C) (hq:Q (some (.ref C)) ⟨h,g,d,t + 1,os⟩):wpAny (model prog w) A (getAttr? (.ref a) "__class__") Q E ⟨h,g,d,t,os⟩:=by
  unfold getAttr? getAttrBy?
  repeat (any_goals (first | assumption | with_reducible apply B9d X k hx hc | wp_step))
def ExAt (a C:Addr) (h:Heap):Prop:=∃ o,h.get? a=some o/\o.cls=.ref C
theorem ExAt.ty {M:Model} (p:ExAt a C h):PySem.W.Looks M h (typeOf (.ref a)) (.ref C):=by
  obtain ⟨o,e,q⟩:=p;rw [<- q];exact (PySem.W.Looks.ld e).andThen .now
theorem A92 (k:ExK K C) (it:∀ (M:Model) (h:Heap),K.In h->PySem.W.Looks M h (isType (.ref C)) true) (ne:∀ o,K.lookup C=some o->o.cls≠.type "tuple") (hl:(K.lookup C).isSome=true):PySem.W.KitX K (.ref a) (.ref C) (ExAt a C) where
  ty:=fun _ _ _ p=>p.ty
  it:=fun M h X _=>it M h X
  ne:=fun h tp dd its n sl X e=>Bool.eq_false_iff.mpr fun q=>by
    have z:C=tp:=Value.ref.inj (beq_iff_eq.mp q);subst z;obtain ⟨o,ho⟩:=Option.isSome_iff_exists.mp hl;have:=X _ _ ho;rw [e] at this; cases this;exact ne _ ho rfl
  ca:=fun {_ _ _ _ _ s} X p q=>by
    obtain ⟨h,g,d,t,os⟩:=s;obtain ⟨o,e,z⟩:=p;exact B3a X k e z q
end
end L2
namespace L2
open PySem PySem.Spec PyProof.Rows
structure Fly (P:Program) (w:World) (outer:List Env) (H:Hp) (s s':Shared) (a:Addr) (cls a0:Value) (H':Hp) (B:Heap):Prop where
  os:s'.os=s.os
  bare:AllBare s'.gens
  fly:Heap.FlyingW B outer a cls a0 s'.heap
  hok:HOk P w H' B
  keep:∀ b o,s.heap.get? b=some o->H b=none->b ∉ frs outer->B.get? b=some o
  slot:∀ b o,s.heap.get? b=some o->H b=none->b ∈ frs outer->∃ sl,s'.heap.get? b=some { o with slots:=sl }
  free:∀ b o,s.heap.get? b=some o->H b=none->H' b=none
  there:∀ b o,s.heap.get? b=some o->b ∉ frs outer->∃ o',B.get? b=some o'
  tups:∀ b xs,H b=some (.tup xs)->H' b=some (.tup xs)
  frzs:∀ b o u,H b=some (.frz o u)->H' b=some (.frz o u)
  tbls:∀ b ps,H b=some (.tbl ps)->∃ more,H' b=some (.tbl (ps++more))
def CX1 (P:Program) (w:World):CXT:=fun outer H s E e s'=>∃ (a:Addr) (cls a0:Value) (H':Hp) (B:Heap),e=.ref a/\Fly P w outer H s s' a cls a0 H' B/\E cls none H'
section
variable {P:Program} {w:World} {outer:List Env} {H H':Hp} {s s':Shared} {a:Addr} {cls a0:Value} {B:Heap}
theorem Fly.un (F:Fly P w outer H s s' a cls a0 H' B):Un (frs outer) [] H H' s.heap s'.heap where
  keep:=fun b o e n hb _=>F.fly.1 b o (F.keep b o e n hb)
  slot:=fun b o e n hb _=>F.slot b o e n hb
  free:=fun b o e n _=>F.free b o e n
  there:=fun b o e _=>by
    by_cases hb:b ∈ frs outer
    · obtain ⟨_,o',ho,_⟩:=F.fly.2.2.1.mem hb
      exact ⟨o',ho⟩
    · obtain ⟨o',ho⟩:=F.there b o e hb
      exact ⟨o',F.fly.1 b o' ho⟩
  tups:=F.tups
  frzs:=F.frzs
  tbls:=F.tbls
theorem Fly.step {h':Heap} (F:Fly P w outer H s s' a cls a0 H' B) (hf:Heap.FlyingW B outer a cls a0 h') (hs:s'.heap.UpToSlots h'):Fly P w outer H s { s' with heap:=h' } a cls a0 H' B :=
  ⟨F.os,F.bare,hf,F.hok,F.keep,fun b o e n hb=>by
    obtain ⟨sl,e1⟩:=F.slot b o e n hb;obtain ⟨_,o',ho,hn⟩:=F.fly.2.2.1.mem hb;rw [e1] at ho; cases ho;obtain ⟨sl2,e2⟩:=hs b _ e1 hn;exact ⟨sl2,e2⟩,F.free,F.there,F.tups,F.frzs,F.tbls⟩
theorem A54 {h:Heap} {o:HO} (x:ObjOk P w H h a o):∃ ob,h.get? a=some ob:=by
  cases o with
  | lst xs=>obtain ⟨_,_,_,_,e⟩:=x; exact ⟨_,e⟩
  | tup xs=>obtain ⟨_,_,_,o,e,_⟩:=x; exact ⟨_,e⟩
  | dK kvs=>obtain ⟨_,_,_,_,o,_,_,e,_⟩:=x; exact ⟨_,e⟩
  | dT kvs=>obtain ⟨_,_,_,_,o,_,_,e,_⟩:=x; exact ⟨_,e⟩
  | set S n=>obtain ⟨o,_,_,_,e,_⟩:=x; exact ⟨_,e⟩
  | ins C dx fs=>obtain ⟨_,_,_,e,_⟩:=x; exact ⟨_,e⟩
  | own y=>exact x
  | xd fs=>obtain ⟨_,⟨_,_,_,e,_⟩,_⟩:=x; exact ⟨_,e⟩
  | rng lo hi=>obtain ⟨_,_,_,e⟩:=x; exact ⟨_,e⟩
  | frz ob u=>obtain ⟨e,_⟩:=x; exact ⟨_,e⟩
  | tbl ps=>exact ⟨_,x⟩
  | met f y=>exact ⟨_,x⟩
  | ext φ=>exact x.2.1
theorem Fly.new (F:Fly P w outer H s s' a cls a0 H' B):H' a=none:=by
  cases q:H' a with
  | none=>rfl
  | some o =>
    obtain ⟨ob,e⟩:=A54 (F.hok a o q);rw [F.fly.2.1] at e; cases e
end
section
variable {P:Program} {w:World} {K:PySem.W.Frag} {mg:Str->Option Value} {base:Heap} {N:List Str} {qual:Str} {scope:Scope} {f:Addr} {cd:Value} {A:Around} {outer:List Env} {s0:Shared} {H0:Hp} {E:XK}
theorem A6x {X:Cx} {pins:List (Addr × Obj)} {σ:St} {H:Hp} {s:Shared} (I:Inv X pins σ H s) {b:Addr} {o:Obj} (e:X.s₀.heap.get? b=some o) (hb:b ∉ X.fs):b ∉ frs X.stack:=fun z=>by
  rcases List.mem_cons.mp (I.stkSub b z) with q | q
  · exact Nat.ne_of_lt (Nat.lt_of_lt_of_le (Heap.lt_size e) I.ok.above) q
  · exact hb q
end
end L2
namespace L2
open PySem PySem.Spec PyProof.Rows
def A3u:List Value:=[.type "ValueError",.type "Exception",.type "BaseException",.type "object"]
section
variable {X:Cx} {E:XK} {x:Str} {C:Addr} {pos np cpos:Pos} {e:Expr} {es:List Expr} {t:TA}
end
abbrev Cx.held (X:Cx) (a:Addr) (oe:Obj):Cx:={ X with A:=X.A.mark (some (.ref a)),calm:=false,pn:=(a,oe) :: X.pn,xe:=fun _ _=>False }
section
variable {X:Cx} {pins:List (Addr × Obj)} {σ:St} {H:Hp} {s:Shared} {a:Addr} {oe:Obj}
theorem Cx.Ok.held (ok:X.Ok):(X.held a oe).Ok :=
  ⟨ok.mod,ok.kind,ok.glob,ok.blt,ok.above,ok.inj,ok.has,ok.cab,fun z=>(by cases z),ok.frames,ok.stk,ok.exf,ok.bs,ok.bsz,ok.noex,ok.exfs,ok.funs,ok.frf⟩
theorem Inv.hold (I:Inv X pins σ H s) (e:s.heap.get? a=some oe) (n:H a=none) (nl:a≠X.env.locals) (nf:a ∉ X.fs) (nc:∀ v,oe.data≠.cell v):Inv (X.held a oe) pins σ H s :=
  ⟨I.ok.held,I.os,I.bare,I.base,I.loc,I.cell,I.free,I.freeC,fun p hp=>by
    rcases List.mem_cons.mp (show p ∈ (a,oe) :: (X.pn++pins) from hp) with q | q
    · subst q; exact ⟨e,n,nl,nf,nc⟩
    · exact I.pin p q,I.hok,I.len⟩
theorem Inv.loose (I:Inv (X.held a oe) pins σ H s) (ok:X.Ok):Inv X pins σ H s :=
  ⟨ok,I.os,I.bare,I.base,I.loc,I.cell,I.free,I.freeC,fun p hp=>I.pin p (Zr _ hp),I.hok,I.len⟩
theorem A74 {i:Nat} {n:Str} {pos:Pos} {M:Model} {A:Around} {E:Value->Shared->Prop} {Q:Unit->Shared->Prop} (I:Inv X pins σ H s) (hN:X.N.Nodup) (hi:X.N[i]?=some n) (hk:X.env.scope.names.lookup n=some .local)
    (h:∀ s',Inv X pins (σ.set i none) H s'->Q () s'):wpAny M A (do bindName X.env n .none; unbindBehindTheSuite X.env n pos) Q E s:=by
  obtain ⟨m,hn,hl⟩:=id I.loc;have his:i < σ.length:=by rw [I.len]; exact (Zs hi).1
  refine wpAny_nameGoes_keeps hk hn (by rw [I.ok.kind]; rfl) fun h' v hn' hs=>h _ ?_;obtain ⟨oo,_,_,hoo,_⟩:=id hn;have ne:∀ b o,X.s₀.heap.get? b=some o->b≠X.env.locals:=fun b o e=>Nat.ne_of_lt (Nat.lt_of_lt_of_le (Heap.lt_size e) I.ok.above);refine ⟨I.ok,I.os,I.bare,⟨fun b o e z hb hx=>(hs.2 b (ne b o e)).trans (I.base.keep b o e z hb hx),fun b o e z hb hx=>?_,I.base.free,fun b o e hx=>?_,I.base.tups,I.base.frzs,I.base.tbls⟩,⟨_,hn',fun j y v2 e1 e2 e3=>?_⟩,fun y c e=>?_,I.free,I.freeC,fun p hp=>?_,fun b ob e=>?_,by simpa using I.len⟩
  · obtain ⟨sl,e1⟩:=I.base.slot b o e z hb hx
    exact ⟨sl,(hs.2 b (ne b o e)).trans e1⟩
  · obtain ⟨o',e1⟩:=I.base.there b o e hx
    exact ⟨o',(hs.2 b (ne b o e)).trans e1⟩
  · by_cases hj:j=i
    · subst hj
      rw [List.getElem?_set_self his] at e2;cases e2
    · rw [List.getElem?_set_ne (Ne.symm hj)] at e2
      obtain ⟨u2,r2,q⟩:=hl j y v2 e1 e2 e3;refine ⟨u2,r2,?_⟩;rcases q with ⟨k,e⟩ | ⟨k,c,e,zz⟩
      · refine .inl ⟨k,?_⟩
        have:y≠n:=fun e=>hj (T3 hN e1 (e ▸ hi));simp [this,e]
      · exact .inr ⟨k,c,e,zz.sameBut hs (I.cne y c e)⟩
  · obtain ⟨w2,z⟩:=I.cell y c e
    exact ⟨w2,z.sameBut hs (I.cne y c e)⟩
  · obtain ⟨e,z,nl,nf,d⟩:=I.pin p hp
    exact ⟨(hs.2 p.1 nl).trans e,z,nl,nf,d⟩
  · refine (I.hok b ob e).stay (fun c w2 hc q=>(hs.2 c ?_).trans q) (fun _ q=>q) fun _ _ q=>q
    rintro rfl;rcases hc with rfl | hc
    · rw [I.free] at e; cases e
    · rw [I.free] at hc; cases hc
end
end L2
namespace L2
open PySem PySem.Spec PyProof.Rows
section
variable {P:Program} {w:World} {outer:List Env} {H H':Hp} {s s':Shared} {a:Addr} {cls a0:Value} {B:Heap}
theorem Fly.hok2 (F:Fly P w outer H s s' a cls a0 H' B):HOk P w H' s'.heap:=fun b o e=>(F.hok b o e).stay (fun c v _ z=>F.fly.1 c v z) (fun _ z=>z) fun _ _ z=>z
end
section
variable {X:Cx} {pins:List (Addr × Obj)} {σ:St} {H H':Hp} {s s':Shared} {a:Addr} {cls a0:Value} {B:Heap}
theorem Fly.inv (F:Fly X.prog X.w X.stack H s s' a cls a0 H' B) (I:Inv X pins σ H s):Inv X pins σ H' s' :=
  I.call' (ch:=[]) F.os F.un F.hok2 F.bare fun b z=>absurd z (by simp)
theorem Fly.hold (F:Fly X.prog X.w X.stack H s s' a cls a0 H' B) (I:Inv X pins σ H s):∃ oe,s'.heap.get? a=some oe/\oe.cls=cls/\Inv (X.held a oe) pins σ H' s':=by
  obtain ⟨oe,vs,e1,e2,e3,_⟩:=F.fly.first;have I2:=F.inv I;refine ⟨oe,e1,e2,I2.hold e1 F.new (fun z=>?_) (fun z=>?_) fun v q=>by rw [e3] at q; cases q⟩
  · obtain ⟨m,⟨o,es,ep,ho,hd,_⟩,_⟩:=I2.loc
    rw [<- z,e1] at ho; cases ho; rw [e3] at hd; cases hd
  · obtain ⟨_,o',ho,hn⟩:=I2.funs.mem z
    rw [e1] at ho; cases ho; exact hn _ e3
end
section
variable {X:Cx} {k i:Nat} {f C CH:Addr} {fd:FuncData} {ps:List Str} {sp:Sp} {x xh n:Str} {p pos pos2 pos3 pos4 pos5:Pos} {e:Expr} {es:List Expr} {t:TA} {b0:Stmt} {suite:List Stmt} {b:Bool}
end
end L2
namespace L2
open PySem PySem.Spec PyProof.Rows
def tKE (i:Nat) (a:Addr) (b:Bool):TE:=fun σ H Q=>σ[i]?=some (some (.ref a))/\∀ H3,Same H H3->Q (.bl b) H3
structure ExC (K:PySem.W.Frag) (C:Addr):Prop where
  k:ExK K C
  hd:PySem.W.hasDictIn K C=true
  ne:∀ o,K.lookup C=some o->o.cls≠.type "tuple"
  hl:(K.lookup C).isSome=true
theorem ExC.kit {K:PySem.W.Frag} {C a:Addr} (c:ExC K C):PySem.W.KitX K (.ref a) (.ref C) (ExAt a C) :=
  A92 c.k (fun M h X=>PySem.W.mc_isType (s:=⟨h,#[],{},0,{}⟩) X c.hd) c.ne c.hl
section
variable {X:Cx} {a C:Addr} {oe:Obj} {i:Nat} {b:Bool}
inductive ClV:V->Value->Prop
  | own (c:Addr):ClV (.ref c) (.ref c)
  | ty (c:String):ClV (.ty c) (.type c)
theorem ClV.get {c:V} {u cv:Value} (h:ClV c cv) (r:RelV c u):u=cv:=by
  cases h with
  | own c=>exact r
  | ty c=>exact r
inductive ClVs:List V->List Value->Prop
  | nil:ClVs [] []
  | cons {c:V} {cv:Value} {r:List V} {s:List Value}:ClV c cv->ClVs r s->ClVs (c :: r) (cv :: s)
theorem ClVs.get:∀ {cs:List V} {us cvs:List Value},ClVs cs cvs->Vals cs us->us=cvs
  | [],_,_,.nil,.nil=>rfl
  | _ :: _,_,_,.cons h t,.cons r s=>by rw [h.get r,t.get s]
theorem Inv.held_at {pins:List (Addr × Obj)} {σ:St} {H:Hp} {s:Shared} (I:Inv (X.held a oe) pins σ H s) (e:oe.cls=.ref C):ExAt a C s.heap :=
  ⟨oe,(I.pin (a,oe) (Zt _ Zy)).1,e⟩
theorem B0c (e:oe.cls=.ref C) (xc:ExC X.K C):CallR (X.held a oe) (.builtin "isinstance") (fun xs H Q=>∃ c cv b,xs=[.ref a,c]/\ClV c cv/\PySem.W.kitOne X.K (.ref C) cv=some b/\Q (.bl b) H):=by
  rintro pins s σ H xs us Q I r ⟨c,cv,b,rfl,hc,hk,q⟩;obtain ⟨u,v,rfl,ru,rv⟩:=Vals.two r;cases (show u=Value.ref a from ru);cases hc.get rv;exact PySem.W.kia_one xc.kit I.kIn (I.held_at e) hk (fun z=>nomatch z) fun tk=>⟨.bl b,H,I.tok tk,rfl,q⟩
structure KE (X:Cx) (i:Nat) (a:Addr) (e:Expr) (b:Bool):Prop where
  out:PE X e (tKE i a b)
structure KC (X:Cx) (e:Expr) (cv:Value):Prop where
  out:∃ c,ClV c cv/\PE X e (tC c)
theorem B22 {x:Str} {D:Addr} {pos:Pos} (hg:Gl X x) (hm:X.mg x=some (.ref D)) (hd:(x == ("__debug__":Str))=false:=by decide):KC X (.Name x pos) (.ref D):=⟨_,.own D,A4v hg hm rfl hd⟩
theorem B92 {x:Str} {c:String} {pos:Pos} (hg:Gl X x) (hm:X.mg x=none) (hv:bootBuiltins x=some (.type c)) (hn:x≠"__name__":=by decide) (hd:(x == ("__debug__":Str))=false:=by decide):KC X (.Name x pos) (.type c):=⟨_,.ty c,A4w hg hm hv rfl hn hd⟩
theorem A4u {e:Expr} {t t':TE} (h:PE X e t) (k:∀ σ H Q,t' σ H Q->t σ H Q):PE X e t':=fun pins s σ H Q I q=>h pins s σ H Q I (k _ _ _ q)
theorem B5b {n:Str} {ec:Expr} {cv:Value} {p p1 pos:Pos} (he:oe.cls=.ref C) (xc:ExC X.K C) (hg:Gl X "isinstance") (hm:X.mg "isinstance"=none) (hi:X.N[i]?=some n) (hl:Vis X.env.scope n) (hc:KC (X.held a oe) ec cv) (hk:PySem.W.kitOne X.K (.ref C) cv=some b)
    (hd:(n == ("__debug__":Str))=false:=by decide) (hcd:(n == ("__classdict__":Str))=false:=by decide) (hs1:starEach [.Name n p1,ec] X.env=(false,eval (.Name n p1) X.env) :: starEach [ec] X.env:=by rfl) (hs2:starEach [ec] X.env=(false,eval ec X.env) :: starEach [] X.env:=by rfl) (hpl:(backTo pos (starEach [ec] X.env)).any (·.1)=false:=by rfl) :
    KE (X.held a oe) i a (.Call (.Name "isinstance" p) [.Name n p1,ec] [] pos) b:=by
  obtain ⟨c,h1,h2⟩:=hc.out;refine ⟨A4u (T0 (X:=X.held a oe) (B0c he xc) hg hm (by rfl) (pa_cons (V6 hi hl hd hcd) (pa_cons h2 pa_nil hs2) hs1) (by decide) (by decide) hs1 hpl) fun σ H Q q=>?_⟩;exact ⟨_,q.1,c,cv,b,rfl,h1,hk,q.2 _ fun _ _ z=>z⟩
theorem B21 {e e2:Expr} {rest:List Expr} {c d:Bool} {pos:Pos} (h:KE X i a e b) (h2:KE X i a (.BoolOp .And (e2 :: rest) pos) c) (hd:(b && c)=d:=by rfl):KE X i a (.BoolOp .And (e :: e2 :: rest) pos) d:=by
  subst hd;exact ⟨A4u (B03 h.out h2.out) fun σ H Q q=>⟨q.1,fun H3 z=>⟨b,rfl,by
    cases b with
    | true=>exact ⟨q.1,fun H4 z4=>q.2 H4 (z.trans z4)⟩
    | false=>exact q.2 H3 z⟩⟩⟩
theorem B8n {e:Expr} {op} {pos:Pos} (h:KE X i a e b):KE X i a (.BoolOp op [e] pos) b:=⟨B00 h.out⟩
end
end L2
namespace L2
open PySem PySem.Spec PyProof.Rows
section
variable {X:Cx}
theorem B6j {st:Stmt} {t:TS} (h:QS X.nox st t):QS X st t:=⟨fun pins s σ H D I hw =>
  wpAny_mono (h.out pins s σ H D (I.wish _) hw) (fun _ _ q=>q.unwish) fun _ _ z=>False.elim z⟩
theorem B6i {e:Expr} {t:TT} (h:QT X.nox e t):QT X e t:=⟨h.out.nox⟩
variable {k i:Nat} {f C CH:Addr} {fd:FuncData} {ps:List Str} {sp:Sp} {x xh n:Str} {p pos pos2 pos3 pos4 pos5:Pos} {e:Expr} {es:List Expr} {t:TA} {b0:Stmt} {suite:List Stmt} {b:Bool}
end
end L2
namespace Pu
open PySem PySem.Spec PyProof.Rows L2 My Prf
class RSX (K:Frag) (w0:Wd) (ts:TS) (ps:outParam PSt):Prop where
  ok:∀ (c:Ct) (w:Wd) (env:PEnv) (σ:L2.St) (Dp:PEnds) (D:Ends),c.K=K->c.w0=w0->EnvOk c w env σ->EndsOk c w Dp D->ps Dp env->ts D σ w.H
instance (priority:=low) rsx_of {K:Frag} {w0:Wd} {ts:TS} {ps:PSt} [h:RS K ts ps]:RSX K w0 ts ps:=⟨fun c w env σ Dp D e _=>h.ok c w env σ Dp D e⟩
instance rsx_seq {K:Frag} {w0:Wd} {t u:TS} {p q:PSt} [ht:RSX K w0 t p] [hu:RSX K w0 u q]:RSX K w0 (tSeq t u) (pSeq p q) where
  ok:=by
    rintro c w env σ Dp D rfl rfl E h pr;refine ht.ok c w env σ { Dp with nx:=q Dp } _ rfl rfl E ⟨fun e1 σ1 w1 E1 s1 n1=>?_,h.rt,h.bk,h.ct⟩ pr;exact hu.ok c w1 e1 σ1 Dp D rfl rfl E1 (h.on s1) n1
instance rsx_if {K:Frag} {w0:Wd} {tt:TT} {t u:TS} {pt:PTt} {p q:PSt} [hc:RT K tt pt] [ht:RSX K w0 t p] [hu:RSX K w0 u q]:RSX K w0 (tIfS tt t u) (pIf pt p q) where
  ok:=by
    rintro c w env σ Dp D rfl rfl E h pr;refine hc.ok c w env σ _ _ rfl E pr fun b e1 w1 E1 l1 q1=>?_;cases b with
    | true=>exact ht.ok c w1 e1 σ Dp D rfl rfl E1 (h.on l1.f) q1
    | false=>exact hu.ok c w1 e1 σ Dp D rfl rfl E1 (h.on l1.f) q1
theorem B8y {K:Frag} {w:Wd} {ts:TS} {ps:PSt} [hs:RSX K w ts ps] {md:List Md} {vs:List V} {as:List SV} {D:Ends} {N:List Str} (ok:w.Ok) (a:Args K w md vs as)
    (hb:ps ⟨fun _=>False,fun _ _=>False,fun _=>False,fun _=>False⟩ (as.map some++List.replicate (N.length - md.length) none)):ts D (L2.G3 N vs) w.H:=by
  obtain ⟨hl,hat⟩:=F8 a;have look:∀ (i:Nat) s,(as.map some++List.replicate (N.length - md.length) none)[i]?=some (some s)->as[i]?=some s:=fun i s e=>by
    rw [List.getElem?_append] at e;split at e
    · rw [Zh] at e
      cases q:as[i]? with
      | none=>rw [q] at e; cases e
      | some t=>rw [q] at e; cases e; rfl
    · rw [List.getElem?_replicate] at e
      split at e <;> cases e
  refine hs.ok ⟨K,w,noZ⟩ w (as.map some++List.replicate (N.length - md.length) none) (L2.G3 N vs) ⟨fun _=>False,fun _ _=>False,fun _=>False,fun _=>False⟩ D rfl rfl ⟨ok,Le.refl w,by simp [L2.G3,hl,a.len],fun i s e=>?_,fun i j s t v u a e _ _ _ f=>absurd f ((hat i _ (look i _ e)).2 v a),fun a z=>z.elim,fun a j t u z=>z.elim⟩ ⟨fun _ _ _ _ _ z=>z.elim,fun _ _ _ _ _ _ _ _ z=>z.elim,fun _ _ _ _ _ z=>z.elim,fun _ _ _ _ _ z=>z.elim⟩ hb;obtain ⟨⟨v,h1,h2⟩,_⟩:=hat i s (look i s e);refine ⟨v,?_,h2⟩;unfold L2.G3;rw [List.getElem?_append_left (by rw [Zl]; exact (Zs h1).1),Zh,h1]; rfl
end Pu
namespace L2
open PySem PySem.Spec PyProof.Rows
theorem A4g {X:Cx} {st:List Stmt}:QSs X st A06:=⟨fun _ _ _ _ _ _ q=>q.elim⟩
theorem ExC.of {K:PySem.W.Frag} {C:Addr} (ga:PySem.W.findIn K (.ref C) "__getattribute__"=some (some (.builtin "BaseException.__getattribute__"))) (gn:PySem.W.findIn K (.ref C) "__getattr__"=some none)
    (gc:PySem.W.findIn K (.ref C) "__class__"=some (some (.builtin "object.__class__"))) (sb:PySem.W.subIn K (.ref C) (.type "BaseException")=some true) (so:PySem.W.subIn K (.ref C) (.type "object")=some true)
    (hd:PySem.W.hasDictIn K C=true) (ty:(K.lookup C).map (·.cls)=some (.type "type")):ExC K C :=
  ⟨⟨ga,gn,gc,sb,so⟩,hd,(fun o e z=>by rw [e] at ty; simp only [Option.map_some,Option.some.injEq] at ty; rw [ty] at z; exact absurd (Value.type.inj z) (by decide)),(by
    cases q:K.lookup C with
    | none=>rw [q] at ty; cases ty
    | some o=>rfl)⟩
theorem us0:∀ {us:List Value},us.length=0->us=[]
  | [],_=>rfl
theorem usS {n:Nat}:∀ {us:List Value},us.length=n + 1->∃ a r,us=a :: r/\r.length=n
  | a :: r,h=>⟨a,r,rfl,Nat.succ.inj h⟩
theorem us1 {us:List Value} (h:us.length=1):∃ a,us=[a]:=by
  obtain ⟨a,r,e,k⟩:=usS h;exact ⟨a,by rw [e,us0 k]⟩
theorem us2 {us:List Value} (h:us.length=2):∃ a b,us=[a,b]:=by
  obtain ⟨a,r,e,k⟩:=usS h; obtain ⟨b,z⟩:=us1 k; exact ⟨a,b,by rw [e,z]⟩
end L2
namespace L2
open PySem PySem.Spec PyProof.Rows
section
variable {X:Cx}
end
end L2
namespace Pu
open PySem L2 My Prf
def pRep (pe:PX) (pb:PDt) (env:PEnv) (Q:SV->PEnv->Prop):Prop:=pe env fun s e=>∃ xs,s=.own xs/\pb e fun y e2=>∃ n:Int,y=.int n/\0<=n/\n<=1000/\xs.length<=1000/\Q (.own (List.replicate n.toNat xs).flatten) e2
def A5z (i j:Nat) (pd:PDt) (D:PEnds) (env:PEnv):Prop:=i≠j/\J5 env[i]? fun _=>J5 env[j]? fun _=>pd env fun x e=>J5 e[i]? fun xs=>J5 e[j]? fun ys=>∃ (k:Nat) (y:PyData),x=.int k/\ys[k]?=some y/\xs.length < 1000000/\ys.length < 1000000/\D.nx ((e.set j (some (.own (ys.eraseIdx k)))).set i (some (.own (xs++[y]))))
end Pu
namespace L2
open PySem PySem.Spec PyProof.Rows
section
variable {prog:Program} {w:World} {A:Around} {E:Value->Shared->Prop} {s:Shared}
end
section
variable {prog:Program} {w:World} {A:Around} {E:Value->Shared->Prop} {s:Shared} {R:Result->Shared->Prop} {us vs:Array Value}
end
section
variable {prog:Program} {w:World} {A:Around} {E:Value->Shared->Prop} {s:Shared} {us vs:Array Value}
end
section
variable {X:Cx} {pins:List (Addr × Obj)} {σ:St} {H:Hp} {s:Shared}
end
section
variable {X:Cx}
end
end L2
namespace Pu
open PySem L2 My Prf
def A5b (pa:PEnv->(List (List PyData)->PEnv->Prop)->Prop) (env:PEnv) (Q:SV->PEnv->Prop):Prop:=pa env fun xss e=>∃ xs ys,xss=[xs,ys]/\xs.length<=1000/\Q (.own (zipD xs ys)) e
end Pu
namespace L2
open PySem PySem.Spec PyProof.Rows
section
variable {X:Cx}
end
end L2
namespace Pu
open PySem L2 My Prf
def pIdx (po pa:PDt) (env:PEnv) (Q:SV->PEnv->Prop):Prop:=po env fun x e=>asL x fun xs=>pa e fun d e2=>PyData.canLayAll0 xs=true/\d.canLay0=true/\d.depth<=60/\xs.length<=1000/\∃ j:Nat,xs.findIdx? (fun z=>z.eqv d)=some j/\Q (.d (.int (j:Int))) e2
end Pu
namespace L2
open PySem PySem.Spec PyProof.Rows
def B3r (d:PyData):Prop:=(d.canLay0=true/\d.showable=true/\d.hasDict=false\/d=.dict [])/\d.depth<=60/\d.shown.length<=sizeLine
section
variable {X:Cx}
end
end L2
namespace Pu
open PySem L2 My Prf
def B66 (pa:PDt) (env:PEnv) (Q:SV->PEnv->Prop):Prop:=pa env fun d e=>B3r d/\Q (.d (.str d.shown)) e
end Pu
namespace L2
open PySem PySem.Spec PyProof.Rows
def B53 (n:Nat) (i j:Int):List Nat:=sliceRange (sliceBounds (some i) none (some j) n).1 (sliceBounds (some i) none (some j) n).2.1 (sliceBounds (some i) none (some j) n).2.2
section
variable {X:Cx}
end
end L2
namespace Pu
open PySem L2 My Prf
def B9f (xs:List PyData) (i j:Int):List PyData:=(B53 xs.length i j).filterMap (xs[·]?)
def B60 (pe pl ps:PDt) (env:PEnv) (Q:SV->PEnv->Prop):Prop:=pe env fun x e1=>asL x fun xs=>pl e1 fun y e2=>asI y fun i=>ps e2 fun z e3=>asI z fun j=>j≠0/\Q (.own (B9f xs i j)) e3
end Pu
namespace L2
open PySem PySem.Spec PyProof.Rows
end L2
namespace Pu
open PySem L2 My Prf
def B08 (pa:PEnv->(List (List PyData)->PEnv->Prop)->Prop) (env:PEnv) (Q:SV->PEnv->Prop):Prop:=pa env fun xss e=>∃ xs,xss=[xs]/\Q (.d (.tuple xs)) e
end Pu
namespace L2
open PySem PySem.Spec PyProof.Rows
def told:PyData->Str
  | .str z=>z
  | d=>d.shown
section
variable {X:Cx}
end
end L2
namespace Pu
open PySem L2 My Prf
def pStr (pa:PDt) (env:PEnv) (Q:SV->PEnv->Prop):Prop:=pa env fun d e=>B3r d/\Q (.d (.str (told d))) e
end Pu
namespace L2
open PySem PySem.Spec PyProof.Rows
mutual
def lay1:PyData->Bool
  | .list xs=>B5a xs
  | .tuple xs=>B5a xs
  | .dict kvs=>kvs.isEmpty
  | .str x=>PyData.strOk x
  | _=>true
def B5a:List PyData->Bool
  | []=>true
  | x :: r=>lay1 x && B5a r
end
section
variable {X:Cx} {pins:List (Addr × Obj)} {σ:St} {H:Hp} {s:Shared}
end
end L2
namespace L2
open PySem PySem.Spec PyProof.Rows
def B57 (d:PyData):Prop:=(lay1 d=true/\d.showable=true)/\d.depth<=60/\d.shown.length<=sizeLine
section
variable {X:Cx}
end
end L2
namespace Pu
open PySem L2 My Prf
def B6z (pa:PDt) (env:PEnv) (Q:SV->PEnv->Prop):Prop:=pa env fun d e=>B57 d/\Q (.d (.str (told d))) e
end Pu
namespace L2
open PySem PySem.Spec PyProof.Rows
end L2
namespace Pu
open PySem L2 My Prf
def B9v (x y:PyData) (Q:SV->Prop):Prop:=match x,y with
  | .tuple (x :: xs),.tuple (y :: ys)=>xs.length + ys.length<=1000/\Q (.d (.tuple (x :: xs++y :: ys)))
  | _,_=>False
theorem A5w {x y:PyData} {xs ys:List PyData} {Q:SV->Prop}:B9v (.tuple (x :: xs)) (.tuple (y :: ys)) Q=(xs.length + ys.length<=1000/\Q (.d (.tuple (x :: xs++y :: ys)))):=rfl
end Pu
namespace L2
open PySem PySem.Spec PyProof.Rows
section
variable {prog:Program} {w:World} {A:Around} {E:Value->Shared->Prop}
end
end L2
namespace Pu
open PySem L2 My Prf
def qLsU (n:Nat) (pr:List PyData->PEnv->(PEnv->Prop)->Prop) (x:PyData) (env:PEnv) (Q:PEnv->Prop):Prop:=match x with
  | .list xs=>xs.length=n/\pr xs env Q
  | _=>False
theorem B0x {n:Nat} {pr:List PyData->PEnv->(PEnv->Prop)->Prop} {xs:List PyData} {env:PEnv} {Q:PEnv->Prop}:qLsU n pr (.list xs) env Q=(xs.length=n/\pr xs env Q):=rfl
def B7r (pd:PDt) (n:Nat) (pr:List PyData->PEnv->(PEnv->Prop)->Prop) (D:PEnds) (env:PEnv):Prop:=pd env fun x e=>qLsU n pr x e D.nx
end Pu
namespace L2
open PySem PySem.Spec PyProof.Rows
section
variable {M:Model} {A:Around} {E:Value->Shared->Prop} {s:Shared}
end
section
variable {P:Program} {w:World} {K:PySem.W.Frag} {mg:Str->Option Value} {base:Heap} {N:List Str} {qual:Str} {scope:Scope} {f:Addr} {cd:Value} {A:Around} {outer:List Env} {s0:Shared} {H0:Hp} {E:XK}
end
end L2
namespace L2
open PySem PySem.Spec PyProof.Rows
def bx (X:Cx) (scope:Scope) (cl:List (Str × Addr)) (N':List Str) (s3:Shared) (H3:Hp) (fp:List Addr) (E0:XK):Value->Shared->Prop:=fun e s'=>∃ pl σ H s,Inv (X.block scope cl N' s3 H3 fp) pl σ H s/\CX1 X.prog X.w X.stack H s E0 e s'
section
variable {X:Cx} {scope:Scope} {cl:List (Str × Addr)} {N':List Str} {cap:List (Option Nat)} {elt tg iter:Expr} {ifs:List Expr} {wi:TI} {g:TG} {tt:TT} {te:TE} {pos:Pos}
end
section
variable {P:Program} {w:World} {K:PySem.W.Frag} {mg:Str->Option Value} {base:Heap} {N:List Str} {qual:Str} {dsc:Scope} {f:Addr} {cd:Value} {A:Around} {outer:List Env} {s0:Shared} {H0:Hp} {E:XK}
variable {scope:Scope} {cl:List (Str × Addr)} {N':List Str} {cap:List (Option Nat)} {elt tg iter:Expr} {ifs:List Expr} {wi:TI} {g:TG} {tt:TT} {te:TE} {pos:Pos}
end
end L2
namespace L2
open PySem PySem.Spec PyProof.Rows
section
variable {X:Cx} {e:Expr} {t u:TE}
end
section
variable {P:Program} {w:World} {K:PySem.W.Frag} {mg:Str->Option Value} {base:Heap} {N:List Str} {qual:Str} {dsc:Scope} {f:Addr} {cd:Value} {A:Around} {outer:List Env} {s0:Shared} {H0:Hp} {E:XK}
variable {scope:Scope} {cl:List (Str × Addr)} {N':List Str} {cap:List (Option Nat)} {elt tg iter:Expr} {ifs:List Expr} {wi:TI} {g:TG} {tt:TT} {te:TE} {pos:Pos}
end
end L2
namespace Pu
open PySem PySem.Spec PyProof.Rows L2 My Prf
end Pu
namespace L2
open PySem PySem.Spec PyProof.Rows
def A4d:R2:=fun x y H Q=>∃ i n,x=.str i/\y=.int n/\(0<=n/\n<=100)/\i.length<=100/\Q (.str (Txt.mul i n)) H
theorem B79 {x:Str} {n:Int} (h0:0<=n) (h1:n<=100) (h:x.length<=100):MulOk x n:=by
  refine ⟨?_,fun hn _=>?_,fun hn _=>?_⟩
  · rw [Bool.or_eq_false_iff]
    exact ⟨Zd (by omega),Zd (by omega)⟩
  · have hp:0 < n:=by omega
    have h2:100 * n<=2 ^ 63 - 1:=by omega
    have h3:(100:Int)<=(2 ^ 63 - 1) / n:=Int.le_ediv_of_mul_le hp h2;omega
  · have h2:x.length * n.toNat<=100 * 100:=Nat.mul_le_mul h (by omega)
    have h3:100 * 100<=sizeLine:=by rw [sizeLine_eq]; decide
    show decide _=false;exact Zd (by omega)
theorem T1 {X:Cx}:OpR X (binaryOp .Mult) A4d:=by
  intro pins s σ H x y v u Q I rx ry h;obtain ⟨i,n,rfl,rfl,⟨h0,h1⟩,h2,q⟩:=h;obtain ⟨t,rfl⟩:=rx;obtain ⟨t2,rfl⟩:=ry;exact PySem.SB.mul (B79 h0 h1 h2) fun t' k=>⟨.str _,H,I.tok _,⟨t',rfl⟩,q⟩
end L2
namespace Pu
open PySem L2 My Prf
def B4s (x y:PyData) (Q:SV->Prop):Prop:=asS x fun i=>asI y fun n=>(0<=n/\n<=100)/\i.length<=100/\Q (.d (.str (Txt.mul i n)))
theorem A5a {i:Str} {n:Int} {Q:SV->Prop}:B4s (.str i) (.int n) Q=((0<=n/\n<=100)/\i.length<=100/\Q (.d (.str (Txt.mul i n)))):=rfl
instance ro_mulS {K:Frag}:RO K A4d B4s where
  ok:=by
    rintro c w env σ x y dx dy Qp Q rfl E vx vy p k;unfold B4s asS at p;split at p
    · unfold asI at p
      split at p
      · exact ⟨_,_,vx.strE,vy.intE,p.1,p.2.1,k _ _ w (Res.data E (.str _)) p.2.2⟩
      · exact p.elim
    · exact p.elim
end Pu
namespace L2
open PySem PySem.Spec PyProof.Rows
section
variable {pg:Program} {wo:World} {ar:Around} {xe:Value->Shared->Prop} {st:Shared}
end
end L2
namespace Pu
open PySem L2 My Prf
def pSlT (pa:PDt) (pl ph:PEnv->(Option Int->PEnv->Prop)->Prop) (env:PEnv) (Q:SV->PEnv->Prop):Prop:=pa env fun x e=>pl e fun lo e1=>ph e1 fun hi e2=>∃ (xs:List PyData) (b:Nat),x=.tuple xs/\lo=none/\hi=some (b:Int)/\Q (.d (.tuple (xs.take b))) e2
end Pu
namespace Pu
open PySem L2 My Prf
def OT.part:OT->Int->Option OT
  | .leaf (.tuple xs),i=>(L2.atI xs i).map .leaf
  | .leaf (.list xs),i=>(L2.atI xs i).map .leaf
  | .nd _ _ k,i=>(ixN k.len i).bind k.kid
  | _,_=>none
def B44 (o:Option (Option SV)) (env:PEnv) (Q:OT->PEnv->Prop):Prop:=match o with
  | some (some (.bt t))=>Q t env
  | some (some (.d x))=>Q (.leaf x) env
  | _=>False
def B7d (i:Nat) (env:PEnv) (Q:OT->PEnv->Prop):Prop:=B44 env[i]? env Q
theorem A6t {t:OT} {env:PEnv} {Q:OT->PEnv->Prop}:B44 (some (some (.bt t))) env Q=Q t env:=rfl
theorem A6s {x:PyData} {env:PEnv} {Q:OT->PEnv->Prop}:B44 (some (some (.d x))) env Q=Q (.leaf x) env:=rfl
def pPth (pb:PEnv->(OT->PEnv->Prop)->Prop) (pi:PDt) (env:PEnv) (Q:OT->PEnv->Prop):Prop:=pb env fun t e1=>pi e1 fun y e2=>asI y fun n=>∃ u,t.part n=some u/\Q u e2
def OT.vw (t:OT) (k:PyData->Prop):Prop:=match t with
  | .leaf x=>k x
  | t=>∃ xs,t.sv=.bor xs/\k (.list xs)
theorem A3s {x:PyData} {k:PyData->Prop}:OT.vw (.leaf x) k=k x:=rfl
def pVw (pb:PEnv->(OT->PEnv->Prop)->Prop) (env:PEnv) (Q:PyData->PEnv->Prop):Prop:=pb env fun t e=>t.vw fun x=>Q x e
def OT.lf (t:OT) (k:PyData->Prop):Prop:=match t with
  | .leaf x=>k x
  | _=>False
theorem A63 {x:PyData} {k:PyData->Prop}:OT.lf (.leaf x) k=k x:=rfl
def pLf (pb:PEnv->(OT->PEnv->Prop)->Prop) (env:PEnv) (Q:SV->PEnv->Prop):Prop:=pb env fun t e=>t.lf fun x=>Q (.d x) e
def pBr (pb:PEnv->(OT->PEnv->Prop)->Prop) (env:PEnv) (Q:List PyData->PEnv->Prop):Prop:=pb env fun t e=>∃ xs,t.sv=.bor xs/\Q xs e
end Pu
namespace L2
open PySem PySem.Spec PyProof.Rows
end L2
namespace Pu
open PySem L2 My Prf
def Mut (K:Frag) (w:Wd) (l:Addr) (xs:List PyData):Prop:=∃ vs,w.H l=some (.lst vs)/\w.F l=none/\¬ w.M l/\DenAll K w.F vs xs
abbrev PMu:=List PyData->List PyData->List PyData->(PyData->List PyData->List PyData->Prop)->Prop
def B8x (nd:Nat) (p q:Addr) (Qp:PyData->List PyData->List PyData->Prop) (x:PyData) (e:PEnv):Prop:=∃ ys zs,e[nd]?=some (some (.tr (.nd true p (C0 ys))))/\e[nd + 1]?=some (some (.tr (.nd true q (C0 zs))))/\Qp x ys zs
def rtMu (nd:Nat) (p q:Addr) (Qp:PyData->List PyData->List PyData->Prop) (s:SV) (e:PEnv):Prop:=match s with
  | .d x=>B8x nd p q Qp x e
  | _=>False
theorem B0t {nd:Nat} {p q:Addr} {Qp:PyData->List PyData->List PyData->Prop} {x:PyData} {e:PEnv}:rtMu nd p q Qp (.d x) e=B8x nd p q Qp x e:=rfl
def oMu (o:Option (Option SV)) (k:Addr->List PyData->Prop):Prop:=match o with
  | some (some (.tr t))=>∃ a xs,t=.nd true a (C0 xs)/\k a xs
  | _=>False
theorem B9y {a:Addr} {xs:List PyData} {k:Addr->List PyData->Prop} (h:k a xs):oMu (some (some (.tr (.nd true a (C0 xs))))) k:=⟨a,xs,rfl,h⟩
theorem A3k {xs ys:List PyData} (h:C0 xs=C0 ys):xs=ys:=by
  have:=congrArg OT.dat h
  rwa [N3,N3] at this
theorem B73 {a:Addr} {xs:List PyData} {k:Addr->List PyData->Prop}:oMu (some (some (.tr (.nd true a (C0 xs))))) k=k a xs :=
  propext ⟨fun ⟨_,_,e,h⟩=>by
    have e1:=(OT.nd.inj e).2.1;have e2:=A3k (OT.nd.inj e).2.2;subst e1; subst e2; exact h,B9y⟩
def pMuV (i:Nat) (env:PEnv) (Q:PyData->PEnv->Prop):Prop:=oMu env[i]? fun _ xs=>Q (.list xs) env
def B1a (pd:PDt) (i:Nat) (pi:PDt) (D:PEnds) (env:PEnv):Prop:=pd env fun x e=>oMu e[i]? fun _ _=>pi e fun y e2=>asI y fun n=>oMu e2[i]? fun a xs=>∃ j,ixN xs.length n=some j/\D.nx (e2.set i (some (.tr (.nd true a (C0 (xs.set j x))))))
def is2 (o o':Option (Option SV)) (k:Prop):Prop:=match o,o' with
  | some (some (.own _)),some (some (.own _))=>k
  | _,_=>False
theorem B8q {xs ys:List PyData} {k:Prop}:is2 (some (some (.own xs))) (some (some (.own ys))) k=k:=rfl
def pA2 (i j:Nat) (env:PEnv) (Q:List PyData->Nat->Nat->PEnv->Prop):Prop:=is2 env[i]? env[j]? (Q [] i j env)
def pC2 (pd:PDt) (pr:PEnv->(List PyData->Nat->Nat->PEnv->Prop)->Prop) (env:PEnv) (Q:List PyData->Nat->Nat->PEnv->Prop):Prop:=pd env fun x e1=>pr e1 fun xs i j e2=>Q (x :: xs) i j e2
def own2 (o o':Option (Option SV)) (k:List PyData->List PyData->Prop):Prop:=match o,o' with
  | some (some (.own xs)),some (some (.own ys))=>k xs ys
  | _,_=>False
theorem B14 {xs ys:List PyData} {k:List PyData->List PyData->Prop}:own2 (some (some (.own xs))) (some (some (.own ys))) k=k xs ys:=rfl
def pMu (psp:PMu) (pa:PEnv->(List PyData->Nat->Nat->PEnv->Prop)->Prop) (env:PEnv) (Q:PyData->PEnv->Prop):Prop:=pa env fun xs i j e=>i≠j/\own2 e[i]? e[j]? fun ys zs=>psp xs ys zs fun x ys' zs'=>Q x ((e.set i (some (.own ys'))).set j (some (.own zs')))
def B10 (psp:PMu) (pa:PEnv->(List PyData->Nat->Nat->PEnv->Prop)->Prop) (m:Nat) (D:PEnds) (env:PEnv):Prop:=pMu psp pa env fun x e=>D.nx (e.set m (some (.d x)))
def A5p (psp:PMu) (pa:PEnv->(List PyData->Nat->Nat->PEnv->Prop)->Prop) (D:PEnds) (env:PEnv):Prop:=pMu psp pa env fun _ e=>D.nx e
end Pu
namespace L2
open PySem PySem.Spec PyProof.Rows
end L2
namespace Pu
open PySem L2 My Prf
def B1w (i:Nat) (pg:PyData->PEnv->(PEnv->Prop)->Prop) (pt:PTt) (pd:PDt) (cap:List (Option Nat)) (env:PEnv) (Q:SV->PEnv->Prop):Prop:=J5 env[i]? fun xs=>xs.length < 1000000/\G9 xs pg pt pd (E9 cap env) fun ys=>Q (.own ys) env
def V9 (i:Nat) (pg:PyData->PEnv->(PEnv->Prop)->Prop) (pt:PTt) (pd:PDt) (cap:List (Option Nat)) (j:Nat) (D:PEnds) (env:PEnv):Prop:=J5 env[i]? fun xs=>xs.length < 1000000/\G9 xs pg pt pd (E9 cap env) fun ys=>D.nx (env.set j (some (.own ys)))
end Pu
namespace L2
open PySem PySem.Spec PyProof.Rows
end L2
namespace Pu
open PySem L2 My Prf
structure Sub (K:Frag) (w:Wd) (T u:OT) (r:OT->OT) (v0 v:V):Prop where
  tre:Tre K w u [v]
  re:∀ (w':Wd) x,(∀ a o,w.H a=some o->a ∉ u.fp->w'.H a=some o)->Same w.F w'.F->Tre K w' x [v]->Tre K w' (r x) [v0]
  fp:∃ A B,T.fp=A++u.fp++B/\∀ x,(r x).fp=A++x.fp++B
def OT.slot:OT->SV
  | .leaf x=>.d x
  | .nd true a k=>match k.lvs with
    | some xs=>.own xs
    | none=>.tr (.nd true a k)
  | t=>.tr t
def tUn (te:TE):TE:=te
def OT.tup (a:Addr) (k:OT):SV:=match k.lvs with
  | some xs=>.d (.tuple xs)
  | none=>.tr (.nd false a k)
end Pu
namespace L2
open PySem PySem.Spec PyProof.Rows
section
variable {X:Cx} {e:Expr}
end
end L2
namespace Pu
open PySem L2 My Prf
end Pu
namespace L2
open PySem PySem.Spec PyProof.Rows
section
variable {X:Cx} {e:Expr}
end
end L2
namespace L2
open PySem PySem.Spec PyProof.Rows
section
variable {X:Cx} {tg:Expr}
def B52 (i j k:Int):Nat:=if i < j then ((j - i - 1) / k + 1).toNat else 0
end
end L2
namespace Pu
open PySem L2 My Prf
def stpD (lo st:Int) (n:Nat):List PyData:=(List.range n).map fun k:Nat=>PyData.int (lo + (k:Nat) * st)
def B7z (xs:List PyData) (Q:List PyData->Prop):Prop:=match xs with
  | [.int i,.int j,.int k]=>((0<=i/\i<=1000)/\(0<=j/\j<=1000)/\0 < k/\k<=1000)/\Q (stpD i k (B52 i j k))
  | _=>False
theorem A6d {i j k:Int} {Q:List PyData->Prop}:B7z [.int i,.int j,.int k] Q=(((0<=i/\i<=1000)/\(0<=j/\j<=1000)/\0 < k/\k<=1000)/\Q (stpD i k (B52 i j k))):=rfl
def B63 (pa:PAr) (env:PEnv) (Q:List PyData->PEnv->Prop):Prop:=pa env fun xs e=>B7z xs fun ys=>Q ys e
def B68 (i j:Nat) (D:PEnds) (env:PEnv):Prop:=J5 env[j]? fun ys=>∃ y r,ys=y :: r/\D.nx ((env.set j (some (.own r))).set i (some (.d y)))
def A47 (i j a b:Nat) (D:PEnds) (env:PEnv):Prop:=a≠b/\J5 env[a]? fun xs=>J5 env[b]? fun ys=>∃ x r y t,xs=x :: r/\ys=y :: t/\D.nx ((((env.set a (some (.own r))).set b (some (.own t))).set i (some (.d x))).set j (some (.d y)))
def B69 (i j:Nat) (pa:PEnv->(OT->PEnv->Prop)->Prop) (D:PEnds) (env:PEnv):Prop:=pa env fun t e=>∃ a b xs ys,t=.cons (.nd true a (C0 xs)) (.cons (.nd true b (C0 ys)) .nil)/\i≠j/\D.nx ((e.set i (some (.own xs))).set j (some (.own ys)))
def OT.lks:OT->Bool
  | .nil=>true
  | .cons (.nd true _ _) t=>t.lks
  | _=>false
def A5n (i j:Nat) (D:PEnds) (env:PEnv):Prop:=asTr env[i]? fun t=>i≠j/\j < env.length/\∃ a ks,t=.nd true a ks/\ks.lks=true/\D.nx ((env.set i none).set j none)
def A5r (pe:PX) (pr:PAs) (env:PEnv) (Q:List SV->PEnv->Prop):Prop:=pe env fun s e1=>isSt (some (some s)) (pr e1 fun as e2=>Q (.st :: as) e2)
def B1b (pa:PDt) (env:PEnv) (Q:SV->PEnv->Prop):Prop:=pa env fun d e=>B3r d/\Q (.d (.str d.shown)) e
end Pu
namespace L2
open PySem
end L2
namespace L2
open PySem PySem.Spec PyProof.Rows
section
variable {X:Cx} {pos:Pos}
end
end L2
namespace Pu
open PySem L2 My Prf
def pDN (kvs:List (Key × V)) (env:PEnv) (Q:SV->PEnv->Prop):Prop:=Q (.d (.dict (kvs.map B5i))) env
def B47:List (PyData × PyData)->Str->Option PyData
  | [],_=>none
  | (.str x,z) :: r,s=>if x=s then some z else B47 r s
  | _ :: r,s=>B47 r s
def pDk (pa pb:PDt) (env:PEnv) (Q:SV->PEnv->Prop):Prop:=pa env fun x e=>pb e fun y e2=>∃ ds s t,x=.dict ds/\y=.str s/\B47 ds s=some (.str t)/\Q (.d (.str t)) e2
end Pu
namespace Pu
open PySem L2 My Prf
end Pu
namespace L2
open PySem PySem.Spec PyProof.Rows
section
variable {X:Cx} {e:Expr}
end
end L2
namespace L2
open PySem PySem.Spec PyProof.Rows
section
variable {κ:Type} [DecidableEq κ]
theorem KV.length {kvs:List (κ × V)} {vs:List (κ × Value)} (r:KV kvs vs):kvs.length=vs.length:=Paired.length r
end
section
variable {P:Program} {w:World} {H:Hp} {h:Heap} {a:Addr}
theorem B9h {u:HO} (ok:HOk P w H h) (e:Rd H a u):ObjOk P w H h a u:=e.ok ok
end
section
variable {X:Cx} {pins:List (Addr × Obj)} {σ:St} {H:Hp} {s:Shared} {a:Addr} {y v:V} {u r:Value} {o:Option V} {A:Around} {E:Value->Shared->Prop}
end
section
variable {X:Cx} {pins:List (Addr × Obj)} {σ:St} {H:Hp} {s:Shared} {a:Addr} {kvs:List (Key × V)} {k:Key} {u:Value} {A:Around} {E:Value->Shared->Prop}
end
section
variable {X:Cx} {o i e value:Expr} {pos pos' tpos:Pos} {td ty tv:TE}
end
section
variable {X:Cx} {pos:Pos}
end
theorem u1 {n:Nat} (h:n + 64 < cLine):n + 1 < cLine:=by omega
section
variable {X:Cx} {o i e value:Expr} {pos pos':Pos} {td ty tv:TE}
end
end L2
namespace Pu
open PySem L2 My Prf
end Pu
open PySem L2 My
namespace Pu
end Pu
namespace Pu
open PySem L2 My Prf
end Pu
namespace L2
open PySem PySem.Spec PyProof.Rows
section
variable {X:Cx} {e:Expr}
end
end L2
namespace L2
open PySem
def KeptD (h h':Heap):Prop:=∀ b o,h.get? b=some o->∃ o',h'.get? b=some o'/\o'.cls=o.cls/\o'.dict=o.dict
theorem KeptD.refl (h:Heap):KeptD h h:=fun _ o e=>⟨o,e,rfl,rfl⟩
theorem KeptD.trans {h1 h2 h3:Heap} (x:KeptD h1 h2) (y:KeptD h2 h3):KeptD h1 h3:=fun b o e =>
  let ⟨o1,e1,c1,d1⟩:=x b o e
  let ⟨o2,e2,c2,d2⟩:=y b o1 e1
  ⟨o2,e2,c2.trans c1,d2.trans d1⟩
def Mild (f:Obj->Obj):Prop:=∀ o,o.isFreed=false->(f o).cls=o.cls/\(f o).dict=o.dict/\(f o).isFreed=false
theorem W6 {h:Heap} {a:Addr} {f:Obj->Obj} (m:Mild f):KeptD h (h.update a f):=fun b o e=>by
  by_cases q:a=b
  · subst q
    have nf:o.isFreed=false:=(Heap.get?_some_iff.mp e).2;exact ⟨f o,Heap.get?_update_self f e (m o nf).2.2,(m o nf).1,(m o nf).2.1⟩
  · exact ⟨o,by rw [Heap.get?_update_other h f q]; exact e,rfl,rfl⟩
inductive Still {α:Type}:Sem α->Prop
  | pure (a:α):Still (.pure a)
  | raise (e:Value):Still (.raise e)
  | uns (x:String):Still (.unsupported x)
  | load {a:Addr} {p:Option Value} {k:Obj->Sem α}:(∀ o,Still (k o))->Still (.load a p k)
  | upd {a:Addr} {p:Option Value} {f:Obj->Obj} {k:Unit->Sem α}:Mild f->Still (k ())->Still (.update a p f k)
  | alloc {o:Obj} {k:Addr->Sem α}:(∀ a,Still (k a))->Still (.alloc o k)
  | stack {k:List (Code × Pos)->Sem α}:(∀ x,Still (k x))->Still (.stack k)
  | rule {t:String} {k:Unit->Sem α}:Still (k ())->Still (.rule t k)
theorem Still.bind' {α β:Type} {t:Sem α} {f:α->Sem β} (h:Still t) (g:∀ a,Still (f a)):Still (t.bind f):=by
  induction h with
  | pure a=>exact g a
  | raise e=>exact .raise e
  | uns x=>exact .uns x
  | load _ ih=>exact .load ih
  | upd m _ ih=>exact .upd m ih
  | alloc _ ih=>exact .alloc ih
  | stack _ ih=>exact .stack ih
  | rule _ ih=>exact .rule ih
theorem Still.bind {α β:Type} {t:Sem α} {f:α->Sem β} (h:Still t) (g:∀ a,Still (f a)):Still (t >>= f):=h.bind' g
theorem Still.wp {α:Type} {M:Model} {Γ:Ctx} {t:Sem α} (st:Still t):∀ {Q:α->Pos->Shared->Prop} {E:Value->Pos->Shared->Prop} {p:Pos} {s s0:Shared},KeptD s0.heap s.heap->Sem.wp M Γ t Q E p s ->
    Sem.wp M Γ t (fun a p' s'=>Q a p' s'/\KeptD s0.heap s'.heap) (fun e p' s'=>E e p' s'/\KeptD s0.heap s'.heap) p s:=by
  induction st with
  | pure a=>intro Q E p s s0 k h; rw [Sem.wp] at h ⊢; exact ⟨h,k⟩
  | raise e=>intro Q E p s s0 k h; rw [Sem.wp] at h ⊢; exact ⟨h,k⟩
  | uns x=>intro Q E p s s0 k h; rw [Sem.wp] at h; exact h.elim
  | load _ ih=>intro Q E p s s0 k h; rw [Sem.wp] at h ⊢; obtain ⟨o,e,h⟩:=h; exact ⟨o,e,ih o k h⟩
  | upd m _ ih=>intro Q E p s s0 k h; rw [Sem.wp] at h ⊢; exact ⟨h.1,ih (k.trans (W6 m)) h.2⟩
  | alloc _ ih=>intro Q E p s s0 k h; rw [Sem.wp] at h ⊢; exact ih _ (k.trans fun b o e=>⟨o,Heap.get?_push_of_some _ e,rfl,rfl⟩) h
  | stack _ ih=>intro Q E p s s0 k h; rw [Sem.wp] at h ⊢; exact ih _ k h
  | rule _ ih=>intro Q E p s s0 k h; rw [Sem.wp] at h ⊢; exact ih k h
theorem Still.any {α:Type} {M:Model} {A:Around} {t:Sem α} (st:Still t) {Q:α->Shared->Prop} {E:Value->Shared->Prop} {s:Shared} (h:wpAny M A t Q E s) :
    wpAny M A t (fun a s'=>Q a s'/\KeptD s.heap s'.heap) (fun e s'=>E e s'/\KeptD s.heap s'.heap) s:=fun Γ p g=>st.wp (KeptD.refl _) (h Γ p g)
theorem A0m {f:Array Value->Array Value}:Mild (Obj.mapFields f):=fun o nf=>by
  obtain ⟨c,d,da,sl⟩:=o;cases da <;> first | exact ⟨rfl,rfl,rfl⟩ | exact ⟨rfl,rfl,nf⟩
theorem A3f {g:Obj->Array (Option Value)}:Mild (fun o=>{ o with slots:=g o }):=fun o nf=>⟨rfl,rfl,by obtain ⟨c,d,da,sl⟩:=o; cases da <;> exact nf⟩
theorem F9 {α:Type} {c:Prop} [Decidable c] {x y:Sem α} (a:Still x) (b:Still y):Still (if c then x else y):=by split <;> assumption
theorem M4 {a:Addr}:Still (PySem.load a):=.load fun o=>.pure o
theorem P9 {v:Value}:Still (fieldsOf v):=by
  unfold fieldsOf;split
  · refine .bind M4 fun o=>?_
    split
    · exact .pure _
    · exact .uns _
  · exact .uns _
theorem G2 {v:Value} {i:Nat}:Still (field v i):=by
  unfold field;refine .bind P9 fun o=>?_;split
  · exact .pure _
  · exact .uns _
theorem F5 {v:Value} {i:Nat} {x:Value}:Still (setField v i x):=by
  unfold setField;split
  · unfold updateField
    refine .bind M4 fun o=>?_;split
    · refine F9 ?_ (.uns _)
      exact .upd A0m (.pure _)
    · exact .uns _
  · exact .uns _
theorem still_setFlight {e:Value} {f:Option Addr}:Still (setFlight e f):=by
  unfold setFlight;refine .bind G2 fun tb=>?_;exact F9 F5 (.pure _)
theorem K0:Still PySem.stack:=.stack fun x=>.pure x
theorem Z7:∀ l:List Env,Still (readyFrames l):=by
  intro l;induction l with
  | nil=>exact .pure _
  | cons env outer ih =>
    unfold readyFrames;split
    · refine .bind M4 fun o=>F9 (.pure _) ?_
      refine .bind ?_ fun im=>.bind ?_ fun back=>.bind (.upd A3f (.pure _)) fun _=>ih
      · unfold behindIsImport
        refine F9 (.pure _) (F9 (.pure _) (.bind G2 fun _=>.pure _))
      · cases outer with
        | nil=>unfold keptBack; exact F9 (.pure _) (.bind (.bind K0 fun _=>.pure _) fun _=>.pure _)
        | cons c r=>exact .pure _
    · exact .uns _
theorem R8 {env:Env}:Still (frameOf env):=by
  unfold frameOf;refine .bind (.bind K0 fun _=>.pure _) fun l=>.bind ?_ fun x=>?_
  · unfold frameObject
    split
    · exact .pure _
    · exact .bind (Z7 _) fun _=>.pure _
  · split
    · exact .pure _
    · exact .uns _
theorem O5 {t:String} {l:List Value}:Still (newFields t l):=by
  unfold newFields newObj;have z:∀ u:Unit,Still (newObjAsIs (.type t) (.fields l.toArray) none):=fun _=>.alloc fun a=>.pure _;dsimp only;split
  · exact .uns _
  · exact z ()
theorem still_noteFrame {e:Value} {env:Env}:Still (noteFrame e env):=by
  unfold noteFrame;split
  · rename_i f _
    have r:∀ (hd:Value) (b:Bool),Still (do let a <- frameOf env; let pl <- entryPlaceOf f b; let x <- EntryCells.newEntry hd a .none (rawInt f) .none pl; setField e 1 x):=fun hd b =>
      .bind R8 fun a=>.bind (.bind K0 fun l=>by dsimp only; split <;> exact .pure _) fun pl=>.bind O5 fun x=>F5
    refine .bind G2 fun hd=>?_;try dsimp only
    split
    · refine .bind G2 fun x=>?_
      try dsimp only
      split
      · exact .pure _
      · exact .bind F5 fun _=>r _ _
    · exact r _ _
  · exact .uns _
theorem still_leaving {e:Value} {env:Env}:Still (leaving env e):=.bind still_noteFrame fun _=>still_setFlight
open PySem.Spec PyProof.Rows PySem.W
def M9:List Value->Bool
  | .ref _ :: r=>M9 r
  | l=>l == A3u
theorem A89 (self:Value):refuseLoop self "__setattr__" A3u=pure ():=by
  unfold A3u;rw [refuseLoop]
  kernel_rfl
theorem O7 (self:Value):∀ {l:List Value},M9 l=true->refuseLoop self "__setattr__" l=pure ()
  | [],e=>by cases e
  | x :: r,e=>by
    unfold M9 at e;split at e
    · rename_i h; cases h; rw [refuseLoop_ref]; exact O7 self e
    · rw [eq_of_beq e]; exact A89 self
theorem A10:∀ {l:List Value},M9 l=true->l.contains (.type "object")=true
  | [],e=>by cases e
  | x :: r,e=>by
    unfold M9 at e;split at e
    · rename_i h; cases h; rw [List.contains_cons,A10 e,Bool.or_true]
    · rw [eq_of_beq e]; rfl
section
variable {K:PySem.W.Frag} {prog:Program} {w:World} {A:Around} {s:Shared} {x C:Addr} {ox:Obj} {od:Option Obj} {cd:ClassData} {name:Str} {v:Value}
theorem A9s {tk:Tok} {R:Result->Shared->Prop} (X:K.In s.heap) (I:PySem.W.InstAt s.heap x ox C od) (hc:clsIn K C=some cd) (ho:M9 cd.mro=true) (ha:findIn K (.ref C) name=some none)
    (h:wpAny (model prog w) A.in1 (Builtin.ObjectAttr.storeInOwnDict (.ref x) (.ref C) (.str name tk) name v false)
      (fun z s'=>match z with | .done f=>R (.ok f) s' | .again c=>c.quiet=true/\codeAny (model prog w) A c R s') (fun e s'=>R (.error e) s') s) :
    codeAny (model prog w) A (.call (.builtin "object.__setattr__") ⟨[.ref x,.str name tk,v],[]⟩) R s:=by
  have ne:cd.mro.isEmpty=false:=by
    cases q:cd.mro with
    | cons _ _=>rfl
    | nil=>rw [q] at ho; cases ho
  have isIn:Looks (model prog w) s.heap (isInstance (.ref x) (.type "object")) true :=
    I.type.andThen (looks_mroIn X (by unfold mroIn; rw [hc]; simp only [Option.bind_some,ne,Bool.false_eq_true,if_false,A10 ho]))
  have SO:=PySem.F.store_object;refine codeAny_call_builtin SO.slot.plain SO.entry
    (check_slot (i:="object.__setattr__") (owner:="object") (n:="__setattr__") (self:=.ref x) (rest:=[.str name tk,v]) (kw:=[]) SO.kind SO.split isIn (SO.args (.ref x) (.str name tk) v) ?_)
  have mro:Looks (model prog w) s.heap (mroOf (.ref C)) cd.mro:=Looks.andThen (looks_clsIn X hc) .now;rw [osa_eq,refuse_eq];refine wpAny_bind (wpAny_bind (I.type.here ?_));refine wpAny_bind (mro.here ?_);rw [O7 _ ho];refine wpAny_pure (wpAny_bind (I.type.here (wpAny_bind ((looks_findIn X ha).here ?_))));exact wpAny_bind (wpAny_pure h)
theorem A87 {vs:Array Value} {sl:Array (Option Value)} {Q:Unit->Shared->Prop} {E:Value->Shared->Prop} (X:K.In s.heap) (hx:s.heap.get? x=some ⟨.ref C,none,.fields vs,sl⟩)
    (hc:clsIn K C=some cd) (hh:cd.hasDict=true) (ho:M9 cd.mro=true) (hs:findIn K (.ref C) "__setattr__"=some (some (.builtin "object.__setattr__"))) (ha:findIn K (.ref C) name=some none)
    (h:∀ h' d,s.heap.get? d=none->d≠x->h'.get? x=some ⟨.ref C,some d,.fields vs,sl⟩->h'.Ns1 d (fun y=>if y=name then some v else none)->(∀ b o,b≠x->s.heap.get? b=some o->h'.get? b=some o) ->
      Q () { s with heap:=h',toks:=s.toks + 2 }):wpAny (model prog w) A (setAttr (.ref x) name v) Q E s:=by
  have I:PySem.W.InstAt s.heap x ⟨.ref C,none,.fields vs,sl⟩ C none:=⟨hx,rfl,rfl,True.intro⟩;have lt:=Heap.lt_size hx;refine set_plain X I hs (A9s (s:={ s with toks:=s.toks + 1 }) X I hc ho ha ?_);unfold Builtin.ObjectAttr.storeInOwnDict;refine wpAny_bind (wpAny_pure (wpAny_bind ?_));show wpAny _ _ (instanceDict x true) _ _ _;unfold instanceDict;refine wpAny_bind (wpAny_loadPart (s:={ s with toks:=s.toks + 1 }) hx (wpAny_bind (Looks.here (s:={ s with toks:=s.toks + 1 }) (looks_clsIn X hc) ?_)));rw [hh];have x1:(s.heap.push { cls:=.type "dict",data:=.dict #[] }).get? x=some ⟨.ref C,none,.fields vs,sl⟩:=Heap.get?_push_of_some _ hx;refine wpAny_bind (wpAny_alloc (s:={ s with toks:=s.toks + 1 }) (wpAny_bind (wpAny_update (s:={ heap:=_,gens:=_,drawn:=_,toks:=_,os:=_ }) x1 ?_)));refine wpAny_pure ?_;have nd:s.heap.objs.size≠x:=Nat.ne_of_gt lt;have e1:((s.heap.push { cls:=.type "dict",data:=.dict #[] }).update x fun o=>{ o with dict:=some s.heap.objs.size }).get? x=some ⟨.ref C,some s.heap.objs.size,.fields vs,sl⟩ :=
    Heap.get?_update_self _ x1 rfl
  have e2:((s.heap.push { cls:=.type "dict",data:=.dict #[] }).update x fun o=>{ o with dict:=some s.heap.objs.size }).get? s.heap.objs.size=some { cls:=.type "dict",data:=.dict #[] }:=by
    rw [Heap.get?_update_other _ _ (Ne.symm nd)]; exact Heap.get?_push_size _ rfl
  show wpAny _ _ (Builtin.ObjectAttr.storeInDict _ _ _ _) _ _ _;unfold Builtin.ObjectAttr.storeInDict;refine wpAny_bind (wpAny_pure (wpAny_bind ?_));refine wpAny_nsSet1 (m:=fun _=>none) (Heap.Ns1.of_empty ⟨_,#[],0,e2,rfl,fun e he=>absurd he (by simp),fun _=>rfl⟩) fun h' n2 sb=>?_;obtain ⟨oD,es,ep,g1,g2,g3⟩:=n2.count (PySem.Within.cons name v PySem.Within.nil);refine wpAny_bind (wpAny_lookBehind g1 (by rw [g2]; exact pastItsLine_dict (Zx g3 (by rw [sizeLine_eq]; show 1<=_; decide))) (wpAny_pure ?_));refine h h' s.heap.objs.size (Heap.get?_none_of_le (Zv _)) nd ((sb.2 x (Ne.symm nd)).trans e1) n2 fun b o bx e=>?_;refine (sb.2 b (Nat.ne_of_lt (Heap.lt_size e))).trans ?_;rw [Heap.get?_update_other _ _ (Ne.symm bx)];exact Heap.get?_push_of_some _ e
end
section
variable {K:PySem.W.Frag} {prog:Program} {w:World} {A:Around} {s:Shared} {x C:Addr} {ox:Obj} {od:Option Obj} {cd:ClassData} {name:Str} {v:Value}
theorem W1:∀ {l:List Value},M9 l=true->l.contains (.type "BaseException")=true
  | [],e=>by cases e
  | y :: r,e=>by
    unfold M9 at e;split at e
    · rename_i h; cases h; rw [List.contains_cons,W1 e,Bool.or_true]
    · rw [eq_of_beq e]; rfl
theorem getx {expr:Bool} {Q:Value->Shared->Prop} {E:Value->Shared->Prop} (X:K.In s.heap) (I:PySem.W.InstAt s.heap x ox C od) (hc:clsIn K C=some cd) (ho:M9 cd.mro=true)
    (hg:findIn K (.ref C) "__getattribute__"=some (some (.builtin "BaseException.__getattribute__"))) (hk:findIn K (.ref C) "__getattr__"=some none)
    (hf:findObj K C od name=some (.value v)) (hh:handedIn v=true) (h:Q v { s with toks:=s.toks + 1 }):wpAny (model prog w) A (getAttr (.ref x) name expr) Q E s:=by
  obtain ⟨h0,g,d,t,os⟩:=s;have ne:cd.mro.isEmpty=false:=by
    cases q:cd.mro with
    | cons _ _=>rfl
    | nil=>rw [q] at ho; cases ho
  have isIn:Looks (model prog w) h0 (isInstance (.ref x) (.type "BaseException")) true :=
    I.type.andThen (looks_mroIn X (by unfold mroIn; rw [hc]; simp only [Option.bind_some,ne,Bool.false_eq_true,if_false,W1 ho]))
  have L0:=I.type (M:=model prog w);have L1:=looks_findIn (M:=model prog w) X hg;have L2:=looks_findIn (M:=model prog w) X hk;have L3:=looks_find (M:=model prog w) X I hf;unfold getAttr getAttrBy;refine wpAny_bind (wpAny_mkText (wpAny_holding (wpAny_bind (L0.at (wpAny_bind (L1.at ?_))))));dsimp only;rw [if_neg (by rw [show (Value.builtin "BaseException.__getattribute__" == Value.builtin "object.__getattribute__")=false by decide +kernel,Bool.and_false]; decide)];unfold getAttrByItsOwn;have ga:=F.excAttr_ValueError.ga;refine wpAny_bind (L2.at ?_);refine wpAny_bind (wpAny_attempt (wpAny_holding ?_));unfold callGetattribute;rw [if_neg (by cases expr <;> decide)]
  unfold boundAndCalled;rw [ga.bind];refine wpAny_bind (wpAny_pure ?_);dsimp only;refine wpAny_call (codeAny_call_builtin ga.plain F.entry_bexc_ga
    (check_slot (i:="BaseException.__getattribute__") (owner:="BaseException") (n:="__getattribute__") (self:=.ref x) (rest:=[.str name t]) (kw:=[]) (by decide +kernel) (by decide +kernel) isIn (F.args_bexc_ga (.ref x) (.str name t)) ?_))
  unfold Builtin.«object.__getattribute__»;refine wpAny_bind (wpAny_pure (a:=(Value.ref x,[Value.str name t])) ?_);refine wpAny_bind (wpAny_pure (a:=name) ?_);refine wpAny_bind (L0.at (wpAny_bind (L3.at ?_)));dsimp only;refine wpAny_pure ?_;dsimp only;rw [handedOut_of hh];exact wpAny_pure h
end
section
variable {prog:Program} {w:World} {A:Around} {E:Value->Shared->Prop} {s:Shared} {nm q:Str} {C N:Addr} {bs bm bmB:List Value} {hdct:Bool} {sn:List Str} {sub:List Value} {ab:Bool} {col:Option Bool} {dd:Option Addr} {k0 k1 k2 k3 k5:Option Value} {B newId initId:String}
theorem B96 (F:ExcBaseFacts B newId initId bmB) (T:OwnTail s.heap bmB bm) {mN:Str->Option Value} {as:List Value} {fI:Addr} {oI:Obj} {Q:Value->Shared->Prop}
    (hC:s.heap.get? C=some (excClassObj nm q C N bs bm hdct sn sub ab col dd k0 k1 k2 k3 k5 newId)) (hn:s.heap.Ns N mN) (hi:mN "__init__"=some (.ref fI))
    (hf:s.heap.get? fI=some oI) (hfc:oI.cls=.type "function") (hl:as.length<=sizeLine)
    (hq:∀ h' e,Heap.MadeExcOf s.heap h' e (.ref C) as ->
      wpAny (model prog w) (A.under (.builtin "type.__call__" ⟨.ref C :: as,[]⟩)) (call (.ref fI) (.ref e :: as)) (fun r s'=>r=.none/\Q (.ref e) s') E { s with heap:=h' }) :
    wpAny (model prog w) A (call (.ref C) as) Q E s:=by
  obtain ⟨h,g,d,t,os⟩:=s;have t1:=tc_lookup;have t2:=tc_bind (.ref C);have hT:(⟨h,g,d,t,os⟩:Shared).TypeIs (.ref C) "type":=⟨_,hC,rfl⟩;refine wpAny_call (codeAny_of_tree ?_);show wpAny _ _ (callAny (.ref C) ⟨as,[]⟩) _ _ _
  repeat (any_goals (first | assumption | with_reducible refine wpAny_loadPart_at hC ?_ | wp_step))
  refine ⟨rfl,codeAny_call_builtin_at (Code.quiet_builtin _ (by decide +kernel)) entry_typeCall (wpAny_check_type_call_sub hC ?_)⟩
  repeat (first | with_reducible refine wpAny_loadPart_at hC ?_ | with_reducible refine wpAny_madeBy_exc hC ?_ | wp_step)
  refine codeAny_call_builtin_code (Code.quiet_builtin _ F.quiet) (wpAny_check_new_subT F T hC (codeAny_exc_new_subT F T hC ?_ hl));show wpAny _ _ _ _ _ _
  let h2:=(h.push { cls:=.type "tuple",data:=.seq as.toArray }).push { cls:=.ref C,data:=.fields #[.ref h.objs.size,.none,.none,.none,.bool false,.none] }
  have kp:∀ b o,h.get? b=some o->h2.get? b=some o:=fun b o e=>Heap.get?_push_of_some _ (Heap.get?_push_of_some _ e);have hC2:=kp _ _ hC;have hn2:h2.Ns N mN:=let ⟨o,es,ep,e,r⟩:=hn; ⟨o,es,ep,kp _ _ e,r⟩;have he:h2.get? (h.objs.size + 1)=some { cls:=.ref C,data:=.fields #[.ref h.objs.size,.none,.none,.none,.bool false,.none] }:=by heap_get
  have T2:OwnTail h2 bmB bm:=T.keeps kp;have cc:(Value.ref C :: bm).contains (.ref C)=true:=by simp
  unfold isInstance
  repeat (first | with_reducible refine wpAny_loadPart_at he ?_ | wp_step)
  refine wpAny_isSubtype_exc hC2 ?_;rw [cc]
  repeat wp_step
  show wpAny _ _ (typeLookup (.ref C) _) _ _ _;refine wpAny_typeLookup_tail hC2 hn2 T2 F.mroIs F.init.lookup ?_;rw [hi];refine wpAny_holding (wpAny_bind ?_);unfold bindSpecial;refine wpAny_bind (wpAny_typeOf (T:="function") ⟨_,kp _ _ hf,hfc⟩ ?_);rw [if_pos (by decide)];refine wpAny_pure (wpAny_bind (wpAny_mono (hq h2 (h.objs.size + 1) ⟨kp,Heap.get?_none_of_le (Nat.le_succ _),h.objs.size,he,Heap.get?_none_of_le (Zv _),?_⟩) (fun r s' z=>?_) fun _ _ z=>z))
  · exact Heap.get?_push_of_some _ (Heap.get?_push_at rfl rfl)
  · obtain ⟨rfl,z⟩:=z
    wp_walk
    exact z
end
section
variable {P:Program} {w:World} {K:PySem.W.Frag} {mg:Str->Option Value} {base:Heap} {A:Around} {outer:List Env} {s:Shared} {H:Hp} {f C e:Addr} {u:Value} {qual nm x fld:Str} {params:Arguments} {scope:Scope} {dV kV doc pm cdv ct oc:Value} {an od:Option Addr} {osl:Array (Option Value)} {N:List Str}
  {p1 p2 p3 p4:Pos} {ob:Obj} {cd:ClassData} {vs:Array Value} {sl:Array (Option Value)} {v:V}
theorem B93 {R:Result->Shared->Prop} (lk:K.lookup f=some ⟨oc,od,.func (PySem.W.fnOf nm qual params [.Assign [.Attribute (.Name "self" p1) fld p2] (.Name x p3) p4] scope dV kV doc pm an cdv ct),osl⟩) (hcd:PySem.W.codeIn K cdv qual=true)
    (S:FnScope N ["self",x] scope) (hN0:N[0]?=some ("self":Str)) (hN1:N[1]?=some x) (hv0:Vis scope "self") (hv1:Vis scope x) (hr:Room 1 A) (e0:Env0 P w K mg base A outer s H)
    (hx1:(x == ("__debug__":Str))=false) (hx2:(x == ("__classdict__":Str))=false)
    (hb:BindsTo s (PySem.W.fnOf nm qual params [.Assign [.Attribute (.Name "self" p1) fld p2] (.Name x p3) p4] scope dV kV doc pm an cdv ct) ⟨[.ref e,u],[]⟩ [("self",.ref e),(x,u)]) (ru:RelV v u)
    (he:s.heap.get? e=some ⟨.ref C,none,.fields vs,sl⟩) (hne:H e=none) (hfr:e ∉ frs outer)
    (hc:PySem.W.clsIn K C=some cd) (hh:cd.hasDict=true) (ho:M9 cd.mro=true) (hs:PySem.W.findIn K (.ref C) "__setattr__"=some (some (.builtin "object.__setattr__"))) (ha:PySem.W.findIn K (.ref C) fld=some none)
    (hsw:∀ env:Env,swapsWith (.Name x p3) (some (.Attribute (.Name "self" p1) fld p2)) p4.line env=pure false)
    (h:∀ h' d tk g' dr u2,RelV v u2->s.heap.get? d=none->d≠e->h'.get? e=some ⟨.ref C,some d,.fields vs,sl⟩->h'.Ns1 d (fun y=>if y=fld then some u2 else none)->Un (frs outer) [e] H H s.heap h'->HOk P w H h'->AllBare g' ->
      R (.ok (.ret .none)) ⟨h',g',dr,tk,s.os⟩) :
    codeAny (model P w) A (.call (.ref f) ⟨[.ref e,u],[]⟩) R s:=by
  have KX:K.In s.heap:=e0.mod.kin.keeps fun b o e=>(e0.bs b o e).1;have lim:s.heap.NoLimit:=e0.mod.nolimit.keeps fun b o e=>(e0.bs b o e).1;have hkind:∀ y ∈ [(("self":Str),Value.ref e),(x,u)],scope.names.lookup y.1=some .local\/(scope.names.lookup y.1=some .cell/\((cellsFrom (s.heap.objs.size + 1) scope.names []).lookup y.1).isSome=true):=fun ⟨n,z⟩ hy=>by
    have hm:n ∈ [("self":Str),x]:=by
      rcases List.mem_cons.mp hy with q | q
      · cases q; exact Zy
      · cases Zn q; exact Zr _ Zy
    rcases S.par n hm with q | q
    · exact .inl q
    · exact .inr ⟨q,PySem.W.cellsFrom_some _ _ _ (.inl q)⟩
  refine codeAny_call_function hr.depth (KX _ _ lk) rfl S.co S.gen rfl (PySem.W.codeRec_of KX hcd) (hb _ _ _ _ ?_);refine wpAny_newFunctionEnv_cells S.kind hkind fun env hE s1 y=>?_;subst hE;refine ⟨lim.keeps y.toInCall.keep,codeAny_func ?_⟩
  let cx:CXT:=fun _ _ _ _ e s'=>R (.error e) s'
  have I:Inv (cxOf cx P w K mg base N qual scope f cdv A outer s H E0) [] (G3 N [.ref e,v]) H s1:=X0 (ps:=["self",x]) (us:=[.ref e,u]) S hr.hd e0 rfl (.cons rfl (.cons ru .nil)) y;have st0:(G3 N [V.ref e,v])[0]?=some (some (V.ref e)):=rfl;have st1:(G3 N [V.ref e,v])[1]?=some (some v):=rfl;refine wpAny_execs_cons ?_;refine plainObj_wpAny_Assign_Attribute ?_ (hsw _);have g1:=V6 (X:=cxOf cx P w K mg base N qual scope f cdv A outer s H E0) (pos:=p3) hN1 hv1 hx1 hx2 [] s1 _ H (fun z H'=>z=v/\H'=H) I ⟨v,st1,rfl,rfl⟩;refine wpAny_mono g1 (fun u2 s2 z=>?_) (fun _ _ z=>z);obtain ⟨v2,H2,I2,r2,ev,eH⟩:=z;rw [ev] at r2;rw [eH] at I2;have g2:=V6 (X:=cxOf cx P w K mg base N qual scope f cdv A outer s H E0) (pos:=p1) hN0 hv0 (by decide) (by decide) [] s2 _ H (fun z H2=>z=.ref e/\H2=H) I2 ⟨_,st0,rfl,rfl⟩;refine wpAny_mono g2 (fun u3 s3 z=>?_) (fun _ _ z=>z);obtain ⟨v3,H3,I3,r3,ev3,eH3⟩:=z;rw [ev3] at r3;rw [eH3] at I3;obtain rfl:u3=Value.ref e:=r3;have nx:∀ b:Addr,b ∉ (cxOf cx P w K mg base N qual scope f cdv A outer s H E0).ex:=fun b z=>absurd z (List.not_mem_nil);have he3:s3.heap.get? e=some ⟨.ref C,none,.fields vs,sl⟩:=I3.base.keep e _ he hne hfr (nx e);refine A87 (I3.ok.mod.kin.keeps I3.bk) he3 hc hh ho hs ha fun h' d d1 d2 d3 d4 d5=>wpAny_execs_nil ?_;have os:s3.os=s.os:=I3.os;have dn:s.heap.get? d=none:=by
    cases q:s.heap.get? d with
    | none=>rfl
    | some o =>
      obtain ⟨o',z⟩:=I3.base.there d o q (nx d);rw [d1] at z; cases z
  have lift:∀ b o,b≠e->s3.heap.get? b=some o->h'.get? b=some o:=d5;have un:Un (frs outer) [e] H H s.heap h':={
    keep:=fun b o q n hb hx=>lift b o (fun z=>hx (z ▸ List.mem_singleton.mpr rfl)) (I3.base.keep b o q n hb (nx b))
    slot:=fun b o q n hb hx=>by
      obtain ⟨sl2,z⟩:=I3.base.slot b o q n hb (nx b);exact ⟨sl2,lift b _ (fun z=>hx (z ▸ List.mem_singleton.mpr rfl)) z⟩
    free:=fun b o q n hx=>I3.base.free b o q n (nx b)
    there:=fun b o q hx=>by
      obtain ⟨o',z⟩:=I3.base.there b o q (nx b);exact ⟨o',lift b _ (fun z=>hx (z ▸ List.mem_singleton.mpr rfl)) z⟩
    tups:=I3.base.tups
    frzs:=I3.base.frzs
    tbls:=I3.base.tbls }
  have hok:HOk P w H h':=fun b ob q=>(I3.hok b ob q).stay (fun c u hc z=>lift c u (fun y=>by
    subst y;rcases hc with rfl | hc
    · rw [hne] at q; cases q
    · rw [hne] at hc; cases hc) z) (fun _ z=>z) (fun _ _ z=>z)
  obtain ⟨hp,g3,dr3,t3,os3⟩:=s3;show R (.ok (.ret .none)) ⟨h',g3,dr3,t3 + 2,os3⟩;rw [show os3=s.os from os];exact h h' d _ g3 dr3 u2 r2 dn d2 d3 d4 un hok I3.bare
end
section
variable {M:Model} {A:Around} {E:Value->Shared->Prop} {s:Shared} {base:Heap} {env:Env} {outer:List Env} {L e:Addr} {oe:Obj} {cls a0:Value} {Q:Unit->Shared->Prop} {dx:Option Addr}
def DictAt (h:Heap) (e:Addr) (dx:Option Addr):Prop:=∃ o,h.get? e=some o/\o.dict=dx
theorem DictAt.kept {h h':Heap} (x:DictAt h e dx) (k:KeptD h h'):DictAt h' e dx :=
  let ⟨_,q,d⟩:=x
  let ⟨o',q',_,d'⟩:=k _ _ q
  ⟨o',q',d'.trans d⟩
theorem A0n (hfr:A.frames=some (env :: outer)) (hf:env.frame=some L) (hl:s.heap.FunFrames base (env :: outer)) (he:s.heap.get? e=some oe) (hd:oe.data=.fields #[a0,.none,.none,.none,.bool false,.none])
    (hkb:base.StaysIn s.heap) (hen:base.get? e=none) (hQ:∀ h',Heap.FlyingW base outer e oe.cls a0 h'->s.heap.UpToSlots h'->DictAt h' e oe.dict->Q () { s with heap:=h' }):wpAny M A (leaving env (.ref e)) Q E s:=by
  have z:wpAny M A (leaving env (.ref e)) (fun _ s'=>∃ h',s'={ s with heap:=h' }/\Heap.FlyingW base outer e oe.cls a0 h'/\s.heap.UpToSlots h') E s:=by
    refine wpAny_leaving_firstW (a0:=a0) hfr hl hf he hkb hen hd rfl rfl fun h' hL=>?_;obtain ⟨k1,⟨_,_,k2⟩,k3,k4⟩:=hL;exact ⟨h',rfl,⟨k1,hen,k2,k3⟩,k4⟩
  refine wpAny_mono (still_leaving.any z) (fun _ s' q=>?_) fun _ _ q=>q.1;obtain ⟨⟨h',rfl,q1,q2⟩,k⟩:=q;exact hQ h' q1 q2 (DictAt.kept ⟨oe,he,rfl⟩ k)
theorem A61 (hfr:A.frames=some (env :: outer)) (hf:env.frame=some L) (hfl:Heap.FlyingW base (env :: outer) e cls a0 s.heap) (hd:DictAt s.heap e dx)
    (hQ:∀ h',Heap.HeldW base (env :: outer) e cls a0 L h'->s.heap.UpToSlots h'->DictAt h' e dx->Q () { s with heap:=h' }):wpAny M A (noteFrame (.ref e) env) Q E s:=by
  have z:wpAny M A (noteFrame (.ref e) env) (fun _ s'=>∃ h',s'={ s with heap:=h' }/\Heap.HeldW base (env :: outer) e cls a0 L h'/\s.heap.UpToSlots h') E s :=
    wpAny_looks_onW hfr hf hfl fun h' q1 q2=>⟨h',rfl,q1,q2⟩
  refine wpAny_mono (still_noteFrame.any z) (fun _ s' q=>?_) fun _ _ q=>q.1;obtain ⟨⟨h',rfl,q1,q2⟩,k⟩:=q;exact hQ h' q1 q2 (hd.kept k)
theorem B8h {l:List Env} (hh:Heap.HeldW base l e cls a0 L s.heap) (hd:DictAt s.heap e dx)
    (hQ:∀ h',Heap.FlyingW base l e cls a0 h'->s.heap.UpToSlots h'->DictAt h' e dx->Q () { s with heap:=h' }):wpAny M A (setFlight (.ref e) none) Q E s:=by
  have z:wpAny M A (setFlight (.ref e) none) (fun _ s'=>∃ h',s'={ s with heap:=h' }/\Heap.FlyingW base l e cls a0 h'/\s.heap.UpToSlots h') E s :=
    wpAny_landsW hh fun h' q1 q2=>⟨h',rfl,q1,q2⟩
  refine wpAny_mono (still_setFlight.any z) (fun _ s' q=>?_) fun _ _ q=>q.1;obtain ⟨⟨h',rfl,q1,q2⟩,k⟩:=q;exact hQ h' q1 q2 (hd.kept k)
end
def CX2 (P:Program) (w:World):CXT:=fun outer H s E e s'=>∃ (a:Addr) (cls a0:Value) (dx:Option Addr) (H':Hp) (B:Heap),e=.ref a/\Fly P w outer H s s' a cls a0 H' B/\DictAt s'.heap a dx/\E cls dx H'
section
variable {P:Program} {w:World} {K:PySem.W.Frag} {mg:Str->Option Value} {base:Heap} {N:List Str} {qual:Str} {scope:Scope} {f:Addr} {cd:Value} {A:Around} {outer:List Env} {s0:Shared} {H0:Hp} {E:XK}
def A8u (X:Cx) (E:XK):Prop:=∀ (pins:List (Addr × Obj)) (σ:St) (H H2:Hp) (s s2:Shared) (e:Addr) (oe:Obj) (a0:Value),Inv X pins σ H s->s2.os=s.os->AllBare s2.gens->s.heap.get? e=none->H2 e=none ->
  s2.heap.get? e=some oe->oe.data=.fields #[a0,.none,.none,.none,.bool false,.none]->Un (frs X.stack) [] H H2 s.heap s2.heap->s2.heap.FunFrames X.base X.stack->(∀ b ∈ frs X.stack,H2 b=none)->HOk X.prog X.w H2 s2.heap->E oe.cls oe.dict H2->X.xe (.ref e) s2
theorem B3e:A8u (cxOf (CX2 P w) P w K mg base N qual scope f cd A outer s0 H0 E) E:=by
  intro pins σ H H2 s s2 e oe a0 I os bare en e2n he hd un ff fr hok q;generalize hX:cxOf (CX2 P w) P w K mg base N qual scope f cd A outer s0 H0 E=X at *;have nx:∀ b:Addr,b ∉ X.ex:=by subst hX; exact fun b z=>absurd z (List.not_mem_nil)
  have enf:e ∉ frs X.stack:=fun z=>by
    obtain ⟨_,o',ho,_⟩:=I.stack.mem z;rw [en] at ho; cases ho
  have hB:∀ b o,s2.heap.get? b=some o->b≠e->b ∉ frs X.stack->(PySem.W.hideAll s2.heap (e :: frs X.stack)).get? b=some o:=fun b o z n m=>PySem.W.hideAll_get _ z fun y=>by
    rcases List.mem_cons.mp y with y | y
    · exact n y
    · exact m y
  have hin:∀ env ∈ X.stack,∀ a,env.frame=some a->a ∈ e :: frs X.stack:=fun env he a ha=>Zr _ (List.mem_filterMap.mpr ⟨env,he,ha⟩);have frs0:∀ b,b ∈ X.fs->b ∈ frs X.stack:=by
    subst hX;intro b hb;show b ∈ List.filterMap _ (_ :: outer);rw [List.filterMap_cons];split
    · exact hb
    · exact Zr _ hb
  have ne:∀ b o,X.s₀.heap.get? b=some o->b≠e:=fun b o z y=>by
    subst y;obtain ⟨o',z'⟩:=I.base.there b o z (nx b);rw [en] at z'; cases z'
  have FF:=PySem.W.funFrames_hide ff hin;have ST:(PySem.W.hideAll s2.heap (e :: frs X.stack)).StaysIn s2.heap:=fun b o z=>PySem.W.of_hideAll _ z;have EN:(PySem.W.hideAll s2.heap (e :: frs X.stack)).get? e=none:=PySem.W.hideAll_none _ Zy;have goal:∀ h',Heap.FlyingW (PySem.W.hideAll s2.heap (e :: frs X.stack)) outer e oe.cls a0 h'->s2.heap.UpToSlots h'->DictAt h' e oe.dict->CX2 P w outer H0 s0 E (.ref e) { s2 with heap:=h' }:=by
    intro h' hf hs D;subst hX;have nil:∀ b:Addr,b ∉ ([]:List Addr):=fun b z=>absurd z List.not_mem_nil;refine ⟨e,oe.cls,a0,oe.dict,H2,_,rfl,⟨os.trans I.os,bare,hf,fun b ob z=>?_,fun b o z n hb=>?_,fun b o z n hb=>?_,fun b o z n=>?_,fun b o z hb=>?_,fun b xs z=>un.tups b xs (I.base.tups b xs z),fun b o u z=>un.frzs b o u (I.base.frzs b o u z),fun b ps z=>?_⟩,D,q⟩
    · refine (hok b ob z).stay (fun c v hc y=>hB c v y (fun m=>?_) (fun m=>?_)) (fun _ y=>y) (fun _ _ y=>y)
      · subst m
        rcases hc with rfl | hc
        · rw [e2n] at z; cases z
        · rw [e2n] at hc; cases hc
      · have nn:=fr c m
        rcases hc with rfl | hc
        · rw [nn] at z; cases z
        · rw [nn] at hc; cases hc
    · exact hB b o (un.keep b o (I.base.keep b o z n hb (nx b)) (I.base.free b o z n (nx b)) (A6x I z hb) (nil b)) (ne b o z) (A6x I z hb)
    · obtain ⟨sl,e1⟩:=I.base.slot b o z n hb (nx b)
      obtain ⟨sl2,e2⟩:=un.slot b _ e1 (I.base.free b o z n (nx b)) (frs0 b hb) (nil b);obtain ⟨_,o',ho,hn⟩:=ff.mem (frs0 b hb);rw [e2] at ho; cases ho;obtain ⟨sl3,e3⟩:=hs b _ e2 hn;exact ⟨sl3,e3⟩
    · obtain ⟨o',e1⟩:=I.base.there b o z (nx b)
      exact un.free b o' e1 (I.base.free b o z n (nx b)) (nil b)
    · obtain ⟨o',e1⟩:=I.base.there b o z (nx b)
      obtain ⟨o2,e2⟩:=un.there b o' e1 (nil b);exact ⟨o2,hB b o2 e2 (ne b o z) (A6x I z hb)⟩
    · obtain ⟨m1,e1⟩:=I.base.tbls b ps z
      obtain ⟨m2,e2⟩:=un.tbls b _ e1;exact ⟨m1++m2,by rw [e2,Array.append_assoc]⟩
  subst hX;exact A0n I.ok.frames rfl FF he hd ST EN fun h' hf hs D=>goal h' hf hs D
end
section
variable {prog:Program} {w:World} {M:Model} {A:Around} {E:Value->Shared->Prop} {s:Shared} {env:Env} {nm q:Str} {C N:Addr} {bs bm bmB:List Value} {hdct:Bool} {sn:List Str} {sub:List Value} {ab:Bool} {col:Option Bool} {dd:Option Addr} {k0 k1 k2 k3 k5:Option Value} {B newId initId:String}
theorem A23 {y:Sem Value} {Q:Flow->Shared->Prop} (hbase:bm.contains (.type "BaseException")=true) (hh:A.handled=none)
    (h:wpAny M A y (fun v s1=>∃ e t dx,v=.ref e/\s1.heap.get? C=some (excClassObj nm q C N bs bm hdct sn sub ab col dd k0 k1 k2 k3 k5 newId) /\
      s1.heap.get? e=some { cls:=.ref C,dict:=dx,data:=.fields #[.ref t,.none,.none,.none,.bool false,.none] }/\E (.ref e) s1) E s):wpAny M A (raiseStmt env (some y) none) Q E s:=by
  have cb:(Value.ref C :: bm).contains (.type "BaseException")=true:=by rw [List.contains_cons,hbase,Bool.or_true]
  unfold raiseStmt;refine wpAny_bind (wpAny_mono h (fun v s1 z=>?_) fun _ _ z=>z);obtain ⟨e,t,dx,rfl,hC,he,hE⟩:=z;obtain ⟨hp,g,d,tk,os⟩:=s1
  repeat (first | with_reducible refine wpAny_loadPart_at he ?_ | with_reducible refine wpAny_loadPart_at hC ?_ | (with_reducible refine wpAny_isSubtype_exc hC ?_; rw [cb]) | wp_step)
  exact wpAny_raiseNew_none hh hE
theorem Z8 (F:ExcBaseFacts B newId initId bmB) {mN:Str->Option Value} {x:Str} {np cpos pos:Pos} {args:List Expr} {fI:Addr} {oI:Obj} {Q:Flow->Shared->Prop}
    (hbase:bm.contains (.type "BaseException")=true) (hh:A.handled=none) (hpl:(backTo cpos (starEach args env)).any (·.1)=false) (hi:mN "__init__"=some (.ref fI))
    (h:wpAny (model prog w) A (eval (.Name x np) env) (fun f s1=>f=.ref C/\wpAny (model prog w) A (evalArgs (.ref C) true (backTo cpos (starEach args env)) [])
      (fun a s2=>a.kw=[]/\a.pos.length<=sizeLine/\s2.heap.get? C=some (excClassObj nm q C N bs bm hdct sn sub ab col dd k0 k1 k2 k3 k5 newId)/\s2.heap.Ns N mN/\OwnTail s2.heap bmB bm/\s2.heap.get? fI=some oI/\oI.cls=.type "function" /\
        ∀ h' e,Heap.MadeExcOf s2.heap h' e (.ref C) a.pos->wpAny (model prog w) (A.under (.builtin "type.__call__" ⟨.ref C :: a.pos,[]⟩)) (call (.ref fI) (.ref e :: a.pos)) (fun r s3=>r=.none/\s3.heap.get? C=some (excClassObj nm q C N bs bm hdct sn sub ab col dd k0 k1 k2 k3 k5 newId) /\
          (∃ t dx,s3.heap.get? e=some { cls:=.ref C,dict:=dx,data:=.fields #[.ref t,.none,.none,.none,.bool false,.none] })/\E (.ref e) s3) E { s2 with heap:=h' }) E s1) E s) :
    wpAny (model prog w) A (exec (.Raise (some (.Call (.Name x np) args [] cpos)) none pos) env) Q E s:=by
  rw [arm_exec_Raise];simp only [evalOpt,Option.map];refine wpAny_bind (wpAny_standAt (A23 (C:=C) (nm:=nm) (q:=q) (N:=N) (bs:=bs) (bm:=bm) (hdct:=hdct) (sn:=sn) (sub:=sub) (ab:=ab) (col:=col) (dd:=dd) (k0:=k0) (k1:=k1) (k2:=k2) (k3:=k3) (k5:=k5) (newId:=newId) hbase hh ?_));refine wpAny_bind (wpAny_mono (wpAny_Call_ofName (wpAny_mono h (fun f s1 z=>?_) fun _ _ z=>z)) (fun v s3 z=>wpAny_bind (wpAny_standAt (wpAny_pure z))) fun _ _ z=>z);obtain ⟨rfl,z⟩:=z;unfold callWith;refine wpAny_bind (wpAny_holding (wpAny_mono z (fun a s2 y=>wpAny_bind (wpAny_standAt ?_)) fun _ _ y=>y));obtain ⟨ap,ak⟩:=a;obtain ⟨hk,hl,hC,hn,T,hf,hfc,y⟩:=y;obtain rfl:ak=[]:=hk;obtain ⟨hp,g,d,tk,os⟩:=s2;simp only [hpl];refine wpAny_bind (wpAny_keeperOf_exc hC ?_);refine wpAny_bind (B96 F T hC hn hi hf hfc hl fun h' e hm=>wpAny_mono (y h' e hm) (fun r s3 u=>⟨u.1,wpAny_bind (wpAny_holding (wpAny_point (wpAny_pure ?_)))⟩) fun _ _ u=>u);obtain ⟨_,u1,⟨t,dx,u2⟩,u3⟩:=u;exact ⟨e,t,dx,rfl,u1,u2,u3⟩
end
def A2p (K:PySem.W.Frag) (C:Addr) (nid:String) (fI:Addr):Bool:=match K.lookup C with
  | some ⟨.type "type",_,.cls cd,sl⟩=>(match cd.mro,sl.toList with
    | .ref C1 :: bm,[_,_,_,_,some (.builtin n),_]=>(C1 == C && n == nid && !cd.hasDel) && (PySem.W.tailIn K A3u bm && PySem.W.nsOkIn K cd.ns && cd.hasDict) && M9 cd.mro && PySem.W.nsIn K cd.ns "__init__" == some (some (.ref fI))
    | _,_=>false)
  | _=>false
theorem B78 {K:PySem.W.Frag} {h:Heap} {N:Addr} {m:Str->Option Value} {n:Str} {v:Value} (X:K.In h) (G:h.Ns N m) (e:PySem.W.nsIn K N n=some (some v)):m n=some v:=by
  obtain ⟨o,es,ep,ho,hd,_,hf⟩:=G;unfold PySem.W.nsIn at e;split at e
  · rename_i c d es2 n2 sl q
    have z:=X _ _ q;rw [ho] at z;cases z;cases hd;split at e
    · rename_i en he
      cases e;rw [<- hf];unfold nsFind findBy;rw [<- Array.find?_toList,he];rfl
    · split at e <;> cases e
  · cases e
theorem exoI {K:PySem.W.Frag} {h:Heap} {C fI:Addr} {nid:String} (X:K.In h) (q:A2p K C nid fI=true):∃ bm N nm qn bs hd sn sub ab col dd k0 k1 k2 k3 k5 mN cd,
    h.get? C=some (excClassObj nm qn C N bs bm hd sn sub ab col dd k0 k1 k2 k3 k5 nid)/\h.Ns N mN/\mN "__init__"=some (.ref fI)/\OwnTail h A3u bm/\PySem.W.clsIn K C=some cd/\cd.hasDict=true/\M9 cd.mro=true:=by
  unfold A2p at q;split at q
  · rename_i dd cd sl ho
    split at q
    · rename_i C1 bm k0 k1 k2 k3 n k5 e1 e2
      simp only [Bool.and_eq_true,beq_iff_eq,Bool.not_eq_true'] at q;obtain ⟨⟨⟨⟨⟨q1,q2⟩,q3⟩,⟨q4,q5⟩,q7⟩,q8⟩,q6⟩:=q;subst q1 q2;have hcl:PySem.W.clsIn K C1=some cd:=by unfold PySem.W.clsIn; rw [ho]
      have ns:=PySem.Heap.Ns.of_isNs (PySem.W.isNs_of_in X q5);have mi:h.nsMap cd.ns "__init__"=some (.ref fI):=B78 X ns q6;have e3:sl=#[k0,k1,k2,k3,some (.builtin n),k5]:=by cases sl; simp only at e2; rw [e2]
      obtain ⟨nm,bs,mro,nsA,qn,hd,sn,sub,ab,col,del⟩:=cd;simp only at e1 q3 ns mi;subst e3 e1 q3;exact ⟨bm,nsA,nm,qn,bs,hd,sn,sub,ab,col,dd,k0,k1,k2,k3,k5,_,_,X _ _ ho,ns,mi,PySem.W.tail_of_in X q4,hcl,q7,q8⟩
    · cases q
  · cases q
end L2
namespace L2
open PySem PySem.Spec PyProof.Rows
def rS1 (g:Str->Str->V):V->List V->Hp->VK->Prop:=fun x vs H Q=>∃ a b,x=.str a/\vs=[.str b]/\Q (g a b) H
def B0u:V->List V->Hp->VK->Prop:=fun x vs H Q=>∃ a n,x=.str a/\vs=[.int n]/\PadOk n=true/\Q (.str (Txt.zfill a n)) H
def B6f:V->List V->Hp->VK->Prop:=fun x vs H Q=>∃ a b,x=.str a/\vs=[.str b]/\(b.length == 0)=false/\a.length<=100000/\∀ p,H p=none->Q (.ref p) (upd H p (.tup [.str (Txt.partition a b).1,.str (Txt.partition a b).2.1,.str (Txt.partition a b).2.2]))
def rSlS:V->Option Int->Option Int->Hp->VK->Prop:=fun x lo hi H Q=>∃ a,x=.str a/\a.length<=100000/\Q (.str (Txt.slice a lo hi)) H
def B6g:List V->Hp->VK->Prop:=fun xs H Q=>∃ z n,xs=[.str z]/\PySem.intText? z=some n/\z.length<=640/\Q (.int n) H
theorem P3:100000<=sizeLine:=by rw [sizeLine_eq]; decide
section
variable {X:Cx}
theorem A3e:MtR X "str.startswith" (rS1 fun a b=>.bl (Txt.startswith a b)):=by
  intro pins s σ H x vs v us Q I rx rv h;obtain ⟨a,b,rfl,rfl,q⟩:=h;obtain ⟨t,rfl⟩:=rx;obtain ⟨u,rfl,ru⟩:=rv.one;obtain ⟨t2,rfl⟩:=ru;exact SC.startswith ⟨.bl _,H,I,rfl,q⟩
theorem A6y:MtR X "str.zfill" B0u:=by
  intro pins s σ H x vs v us Q I rx rv h;obtain ⟨a,n,rfl,rfl,hp,q⟩:=h;obtain ⟨t,rfl⟩:=rx;obtain ⟨u,rfl,ru⟩:=rv.one;obtain ⟨t2,rfl⟩:=ru;exact SC.zfill hp fun t' k=>⟨.str _,H,I.tok k,⟨t',rfl⟩,q⟩
theorem A9z:MtR X "str.partition" B6f:=by
  intro pins s σ H x vs v us Q I rx rv h;obtain ⟨a,b,rfl,rfl,hb,hl,q⟩:=h;obtain ⟨t,rfl⟩:=rx;obtain ⟨u,rfl,ru⟩:=rv.one;obtain ⟨t2,rfl⟩:=ru;refine call_meets F.slot_str_partition (typeIs_str _ _ _) F.entry_str_partition (F.args_str_partition_2 _ _) (meets_str_partition a b t t2 hb (Zx hl P3)) ?_;have q':=q _ (I.hok.fresh (Zv _));have go:∀ (x1 x2 x3:Str) (ta tb tc:Tok) (k:Nat),Q (.ref s.heap.objs.size) (upd H s.heap.objs.size (.tup [.str x1,.str x2,.str x3])) ->
      EP X pins σ Q (.ref s.heap.objs.size) { s with heap:=s.heap.push { cls:=.type "tuple",data:=.seq [.str x1 ta,.str x2 tb,.str x3 tc].toArray },toks:=k }:=fun x1 x2 x3 ta tb tc k q =>
    ⟨.ref s.heap.objs.size,_,I.laid (t':=k) (o:=.tup [.str x1,.str x2,.str x3]) (fun _ _ q=>Heap.get?_push_of_some _ q) (Zv _) ⟨by show 3<=sizeLine; rw [sizeLine_eq]; decide,[.str x1 ta,.str x2 tb,.str x3 tc],.cons ⟨_,rfl⟩ (.cons ⟨_,rfl⟩ (.cons ⟨_,rfl⟩ .nil)),IsTup.new _ _⟩,rfl,q⟩
  unfold Txt.partition at q';revert q';cases Builtin.Str.occurrences a b 0 a.length 1 with
  | nil=>intro q'; exact go _ _ _ _ _ _ _ q'
  | cons i r=>intro q'; exact go _ _ _ _ _ _ _ q'
theorem A4x {vl:Value} {lo:Option Int} (p:IsPart vl lo):∃ l:Option (Int × Tok),vl=partValue l/\l.map (·.1)=lo:=by
  cases p with
  | none=>exact ⟨none,rfl,rfl⟩
  | int i t=>exact ⟨some (i,t),rfl,rfl⟩
theorem U9:SlR X rSlS:=by
  intro pins s σ H x v vl vu lo hi sl Q I rx hs pl pu h;obtain ⟨a,rfl,hl,q⟩:=h;obtain ⟨t,rfl⟩:=rx;obtain ⟨l,rfl,el⟩:=A4x pl;obtain ⟨u,rfl,eu⟩:=A4x pu;subst el eu;refine ⟨"str",_,F.slot_str_getitem.lookup,typeIs_str _ _ _,wpAny_getItem_str_slice (l:=l) (u:=u) (st:=none) hs rfl (post_val_or_str ⟨Zx (Txt.slice_le a _ _) (Zx hl P3),fun t' k=>?_⟩)⟩;exact ⟨.str _,H,I.tok k,⟨t',rfl⟩,q⟩
theorem A8k:CallR X (.type "int") B6g:=by
  intro pins s σ H xs us Q I r h;obtain ⟨z,n,rfl,hn,hl,q⟩:=h;obtain ⟨u,rfl,rx⟩:=U3 r;obtain ⟨t,rfl⟩:=rx;exact PySem.W.KIN.call_text hn hl ⟨.int n,H,I.tok _,⟨_,rfl⟩,q⟩
def tFmt (te:TE):TE:=fun σ H Q=>te σ H fun x H1=>(∃ z,x=.str z/\z.length<=100000/\Q (.str z) H1)\/∃ i,x=.int i/\i.natAbs.log2 < 1920/\Q (.str (toString i)) H1
theorem A0c {e:Expr} {te:TE} {pos:Pos} (h:QE X e te):QE X (.FormattedValue e (-1) none pos) (tFmt te):=⟨by
  intro pins s σ H Q I q;refine wpAny_FormattedValue_plain (thn (h.out pins s σ H _ I q) fun v s1 ⟨x,H1,I1,r1,q1⟩=>?_);rcases q1 with ⟨z,rfl,hl,q1⟩ | ⟨i,rfl,hl,q1⟩
  · obtain ⟨t,rfl⟩:=r1
    exact wpAny_formatField_str ⟨.str z,H1,I1,⟨_,rfl⟩,q1⟩ ⟨.str z,H1,I1.tok _,⟨_,rfl⟩,q1⟩ (Zx hl P3)
  · obtain ⟨t,rfl⟩:=r1
    exact wpAny_formatField_int hl ⟨.str _,H1,I1.tok _,⟨_,rfl⟩,q1⟩⟩
inductive FP (X:Cx):List Expr->List TE->Prop
  | nil:FP X [] []
  | cons {e:Expr} {es:List Expr} {te:TE} {ts:List TE}:QE X e te->FP X es ts->FP X (e :: es) (te :: ts)
def tJs:List TE->Str->TE
  | [],acc,_,H,Q=>Q (.str acc) H
  | te :: r,acc,σ,H,Q=>te σ H fun x H1=>∃ y,x=.str y/\acc.length + y.length<=100000/\tJs r (acc++y) σ H1 Q
theorem Z6 (a b:Str):(a++b).length=a.length + b.length:=Str.length_append a b
theorem A2g {pins:List (Addr × Obj)} {σ:St} {Q:VK}:∀ {es:List Expr} {ts:List TE},FP X es ts->∀ {acc:Str} {H:Hp} {s:Shared},Inv X pins σ H s->acc.length<=100000->tJs ts acc σ H Q ->
    Joins (model X.prog X.w) X.A X.xe (evalEach es X.env) acc (fun out s₁=>out.length<=sizeLine/\EP X pins σ Q (.str out s₁.toks) { s₁ with toks:=s₁.toks + 1 }) s
  | _,_,.nil,acc,H,s,I,hl,q=>⟨Zx hl P3,.str acc,H,I.tok _,⟨_,rfl⟩,q⟩
  | _,_,.cons h r,acc,H,s,I,hl,q=>by
    show wpAny _ _ _ _ _ _;refine thn (h.out pins s σ H _ I q) fun v s1 ⟨x,H1,I1,r1,y,ex,hy,q1⟩=>?_;subst ex;obtain ⟨t,rfl⟩:=r1;have e:=Z6 acc y;exact ⟨y,t,rfl,by rw [e]; exact Zx hy P3,A2g r I1 (by rw [e]; exact hy) q1⟩
theorem A1k {e1 e2:Expr} {es:List Expr} {ts:List TE} {pos:Pos} (h:FP X (e1 :: e2 :: es) ts):QE X (.JoinedStr (e1 :: e2 :: es) pos) (tJs ts Str.empty) :=
  ⟨fun _ _ _ _ _ I q=>wpAny_JoinedStr (A2g h I (Nat.zero_le _) q)⟩
theorem B7v:OpR X (compareOp .In) (rS fun i j=>.bl (!(Builtin.Str.occurrences j i 0 j.length 1).isEmpty)):=A50
end
def A1f:List V->Hp->VK->Prop:=fun xs H Q=>∃ i j,xs=[.int i,.int j]/\0 < j/\My.Sm 8000 j/\∀ p,H p=none->Q (.ref p) (upd H p (.tup [.int (i / j),.int (i % j)]))
def B6e:List V->Hp->VK->Prop:=fun xs H Q=>∃ i,xs=[.int i]/\i.natAbs.log2 < 1920/\Q (.str (toString i)) H
section
variable {X:Cx}
theorem X9:CallR X (.type "str") B6e:=X8
theorem Y1:CallR X (.builtin "divmod") A1f:=by
  intro pins s σ H xs us Q I r h;obtain ⟨i,j,rfl,h1,h2,q⟩:=h;obtain ⟨u,w',rfl,⟨t,rfl⟩,⟨t',rfl⟩⟩:=B9e r;refine divmod_int (by omega) ?_ (.inl (PyProof.noPylong_of_log2 (Nat.lt_of_lt_of_le (h2.log (by decide)) (by decide))));rw [Int.fdiv_eq_ediv_of_nonneg i (by omega),Int.fmod_eq_emod_of_nonneg i (by omega)];have hn:H s.heap.objs.size=none:=I.hok.fresh (Zv _);refine ⟨.ref s.heap.objs.size,_,?_,rfl,q _ hn⟩;refine I.laid (fun b o e=>Heap.get?_push_of_some _ e) (Zv _) ⟨by simp only [List.length_cons,List.length_nil]; rw [sizeLine_eq]; decide,[.int (i / j) s.toks,.int (i % j) (s.toks + 1)],.cons ⟨_,rfl⟩ (.cons ⟨_,rfl⟩ .nil),?_⟩;exact ⟨_,Heap.get?_push_size s.heap rfl,rfl,0,rfl⟩
end
end L2
namespace Pu
open PySem L2 My Prf
def pS1 (gd:Str->Str->PyData) (po pa:PDt) (env:PEnv) (Q:SV->PEnv->Prop):Prop:=po env fun x e=>asS x fun a=>pa e fun y e2=>asS y fun b=>Q (.d (gd a b)) e2
instance re_s1 {K:Frag} {to ta:TE} {po pa:PDt} {g:Str->Str->V} {gd:Str->Str->PyData} [sg:SGS g gd] [ho:RW K to po] [ha:RW K ta pa]:RE K (tBM K "str" (rS1 g) to (E6 ta tNil)) (pS1 gd po pa) where
  ok:=by
    rintro c w env σ Qp Q rfl E p k;refine ho.ok c w env σ _ _ rfl E p fun v x e1 w1 E1 l1 d1 q1=>?_;unfold asS at q1;split at q1
    · have ev:=d1.strE
      subst ev;refine ⟨rfl,ha.ok c w1 e1 σ _ _ rfl E1 q1 fun u y e2 w2 E2 l2 d2 q2=>?_⟩;split at q2
      · exact ⟨_,_,rfl,by rw [d2.strE],k _ _ e2 w2 ((Res.data E2 (sg.ok _ _ _ _)).pre (l1.trans l2)) q2⟩
      · exact q2.elim
    · exact q1.elim
def A40 (po pa:PDt) (env:PEnv) (Q:SV->PEnv->Prop):Prop:=po env fun x e=>asS x fun a=>pa e fun y e2=>asI y fun n=>PadOk n=true/\Q (.d (.str (Txt.zfill a n))) e2
instance re_zfill {K:Frag} {to ta:TE} {po pa:PDt} [ho:RW K to po] [ha:RW K ta pa]:RE K (tBM K "str" B0u to (E6 ta tNil)) (A40 po pa) where
  ok:=by
    rintro c w env σ Qp Q rfl E p k;refine ho.ok c w env σ _ _ rfl E p fun v x e1 w1 E1 l1 d1 q1=>?_;unfold asS at q1;split at q1
    · have ev:=d1.strE
      subst ev;refine ⟨rfl,ha.ok c w1 e1 σ _ _ rfl E1 q1 fun u y e2 w2 E2 l2 d2 q2=>?_⟩;unfold asI at q2;split at q2
      · exact ⟨_,_,rfl,by rw [d2.intE],q2.1,k _ _ e2 w2 ((Res.data E2 (.str _)).pre (l1.trans l2)) q2.2⟩
      · exact q2.elim
    · exact q1.elim
def A48 (po pa:PDt) (env:PEnv) (Q:SV->PEnv->Prop):Prop:=po env fun x e=>asS x fun a=>pa e fun y e2=>asS y fun b=>(b.length == 0)=false/\a.length<=100000/\Q (.d (.tuple [.str (Txt.partition a b).1,.str (Txt.partition a b).2.1,.str (Txt.partition a b).2.2])) e2
instance re_partT {K:Frag} {to ta:TE} {po pa:PDt} [ho:RW K to po] [ha:RW K ta pa]:RE K (tBM K "str" B6f to (E6 ta tNil)) (A48 po pa) where
  ok:=by
    rintro c w env σ Qp Q rfl E p k;refine ho.ok c w env σ _ _ rfl E p fun v x e1 w1 E1 l1 d1 q1=>?_;unfold asS at q1;split at q1
    · have ev:=d1.strE
      subst ev;refine ⟨rfl,ha.ok c w1 e1 σ _ _ rfl E1 q1 fun u y e2 w2 E2 l2 d2 q2=>?_⟩;split at q2
      · exact ⟨_,_,rfl,by rw [d2.strE],q2.1,q2.2.1,fun p hp=>k _ _ e2 _ ((Res.tup E2 hp (.cons (.str _) (.cons (.str _) (.cons (.str _) .nil)))).pre (l1.trans l2)) q2.2.2⟩
      · exact q2.elim
    · exact q1.elim
def pSlS (pa:PDt) (pl ph:PEnv->(Option Int->PEnv->Prop)->Prop) (env:PEnv) (Q:SV->PEnv->Prop):Prop:=pa env fun x e=>asS x fun a=>pl e fun lo e1=>ph e1 fun hi e2=>a.length<=100000/\Q (.d (.str (Txt.slice a lo hi))) e2
instance re_slS {K:Frag} {te:TE} {tl th:TO} {pa:PDt} {pl ph:PEnv->(Option Int->PEnv->Prop)->Prop} [ha:RW K te pa] [hl:RP K tl pl] [hh:RP K th ph]:RE K (tSl rSlS te tl th) (pSlS pa pl ph) where
  ok:=by
    rintro c w env σ Qp Q rfl E p k;refine ha.ok c w env σ _ _ rfl E p fun x dx e1 w1 E1 l1 v1 q1=>?_;unfold asS at q1;split at q1
    · refine hl.ok c w1 e1 σ _ _ rfl E1 q1 fun lo e2 w2 E2 l2 q2=>?_
      refine hh.ok c w2 e2 σ _ _ rfl E2 q2 fun hi e3 w3 E3 l3 q3=>?_;exact ⟨_,v1.strE,q3.1,k _ _ e3 w3 ((Res.data E3 (.str _)).pre (l1.trans (l2.trans l3))) q3.2⟩
    · exact q1.elim
def B4v (pa:PDt) (env:PEnv) (Q:SV->PEnv->Prop):Prop:=pa env fun x e=>asS x fun z=>∃ n,PySem.intText? z=some n/\z.length<=640/\Q (.d (.int n)) e
instance re_intT {K:Frag} {te:TE} {pa:PDt} [ha:RW K te pa]:RE K (tCB B6g (E6 te tNil)) (B4v pa) where
  ok:=by
    rintro c w env σ Qp Q rfl E p k;refine ha.ok c w env σ _ _ rfl E p fun v x e1 w1 E1 l1 d1 q1=>?_;unfold asS at q1;split at q1
    · obtain ⟨n,hn,hl,q⟩:=q1
      exact ⟨_,n,by rw [d1.strE],hn,hl,k _ _ e1 w1 ((Res.data E1 (.int _)).pre l1) q⟩
    · exact q1.elim
def B4m (pa:PDt) (env:PEnv) (Q:SV->PEnv->Prop):Prop:=pa env fun x e=>asI x fun i=>i.natAbs.log2 < 1920/\Q (.d (.str (toString i))) e
instance re_strI {K:Frag} {te:TE} {pa:PDt} [ha:RW K te pa]:RE K (tCB B6e (E6 te tNil)) (B4m pa) where
  ok:=by
    rintro c w env σ Qp Q rfl E p k;refine ha.ok c w env σ _ _ rfl E p fun v x e1 w1 E1 l1 d1 q1=>?_;unfold asI at q1;split at q1
    · exact ⟨_,by rw [d1.intE],q1.1,k _ _ e1 w1 ((Res.data E1 (.str _)).pre l1) q1.2⟩
    · exact q1.elim
def A0j (pa pb:PDt) (env:PEnv) (Q:SV->PEnv->Prop):Prop:=pa env fun x e=>asI x fun i=>pb e fun y e2=>asI y fun j=>0 < j/\My.Sm 8000 j/\Q (.d (.tuple [.int (i / j),.int (i % j)])) e2
instance re_divmod {K:Frag} {ta tb:TE} {pa pb:PDt} [ha:RW K ta pa] [hb:RW K tb pb]:RE K (tCB A1f (E6 ta (E6 tb tNil))) (A0j pa pb) where
  ok:=by
    rintro c w env σ Qp Q rfl E p k;refine ha.ok c w env σ _ _ rfl E p fun v x e1 w1 E1 l1 d1 q1=>?_;unfold asI at q1;split at q1
    · refine hb.ok c w1 e1 σ _ _ rfl E1 q1 fun u y e2 w2 E2 l2 d2 q2=>?_
      split at q2
      · exact ⟨_,_,by rw [d1.intE,d2.intE],q2.1,q2.2.1,fun p hp=>k _ _ e2 _ ((Res.tup E2 hp (.cons (.int _) (.cons (.int _) .nil))).pre (l1.trans l2)) q2.2.2⟩
      · exact q2.elim
    · exact q1.elim
def asF (x:PyData) (k:Str->Prop):Prop:=match x with
  | .str z=>z.length<=100000/\k z
  | .int i=>i.natAbs.log2 < 1920/\k (toString i)
  | _=>False
theorem B88 {z:Str} {k:Str->Prop}:asF (.str z) k=(z.length<=100000/\k z):=rfl
theorem B89 {i:Int} {k:Str->Prop}:asF (.int i) k=(i.natAbs.log2 < 1920/\k (toString i)):=rfl
def pFmt (pa:PDt) (env:PEnv) (Q:PyData->PEnv->Prop):Prop:=pa env fun x e=>asF x fun z=>Q (.str z) e
instance (priority:=high) rw_fmt {K:Frag} {te:TE} {pa:PDt} [ha:RW K te pa]:RW K (tFmt te) (pFmt pa) where
  ok:=by
    rintro c w env σ Qp Q rfl E p k;refine ha.ok c w env σ _ _ rfl E p fun v x e1 w1 E1 l1 d1 q1=>?_;unfold asF at q1;split at q1
    · exact .inl ⟨_,d1.strE,q1.1,k _ _ e1 w1 E1 l1 (.inl (.str _)) q1.2⟩
    · exact .inr ⟨_,d1.intE,q1.1,k _ _ e1 w1 E1 l1 (.inl (.str _)) q1.2⟩
    · exact q1.elim
class RJs (K:Frag) (ts:List TE) (pj:outParam (Str->PEnv->(Str->PEnv->Prop)->Prop)):Prop where
  ok:∀ (acc:Str) (c:Ct) (w:Wd) (env:PEnv) (σ:St) (Qp:Str->PEnv->Prop) (Q:V->Hpp->Prop),c.K=K->EnvOk c w env σ->pj acc env Qp->(∀ z env' w',EnvOk c w' env' σ->Lw w w'->Qp z env'->Q (.str z) w'.H)->tJs ts acc σ w.H Q
def B4u (acc:Str) (env:PEnv) (Q:Str->PEnv->Prop):Prop:=Q acc env
def A5i (pa:PDt) (pr:Str->PEnv->(Str->PEnv->Prop)->Prop) (acc:Str) (env:PEnv) (Q:Str->PEnv->Prop):Prop:=pa env fun x e=>asS x fun y=>acc.length + y.length<=100000/\pr (acc++y) e Q
instance rjs_nil {K:Frag}:RJs K [] B4u:=⟨fun acc c w env σ Qp Q _ E p k=>k acc env w E (Lw.refl w) p⟩
instance rjs_cons {K:Frag} {te:TE} {ts:List TE} {pa:PDt} {pr:Str->PEnv->(Str->PEnv->Prop)->Prop} [ha:RW K te pa] [hr:RJs K ts pr]:RJs K (te :: ts) (A5i pa pr) where
  ok:=by
    rintro acc c w env σ Qp Q rfl E p k;refine ha.ok c w env σ _ _ rfl E p fun v x e1 w1 E1 l1 d1 q1=>?_;unfold asS at q1;split at q1
    · rename_i y
      exact ⟨y,d1.strE,q1.1,hr.ok (acc++y) c w1 e1 σ _ _ rfl E1 q1.2 fun z e2 w2 E2 l2 q2=>k z e2 w2 E2 (l1.trans l2) q2⟩
    · exact q1.elim
def pFs (pj:Str->PEnv->(Str->PEnv->Prop)->Prop) (env:PEnv) (Q:SV->PEnv->Prop):Prop:=pj Str.empty env fun z e=>Q (.d (.str z)) e
instance re_fs {K:Frag} {ts:List TE} {pj:Str->PEnv->(Str->PEnv->Prop)->Prop} [h:RJs K ts pj]:RE K (tJs ts Str.empty) (pFs pj) where
  ok:=by
    rintro c w env σ Qp Q rfl E p k;exact h.ok _ c w env σ _ _ rfl E p fun z e1 w1 E1 l1 q=>k _ _ e1 w1 ((Res.data E1 (.str _)).pre l1) q
end Pu
namespace L2
open PySem PySem.Spec PyProof.Rows
def B3h (te:TE) (R:V->Hp->Prop):TS:=fun _ σ H=>E6 te tNil σ H fun vs H1=>∃ v,vs=[v]/\R v H1
structure InitX (K:PySem.W.Frag) (C fI:Addr) (fld y qual:Str) (st:Stmt) (fd:FuncData) (N:List Str):Prop where
  F:Fun K "__init__" qual st fI fd
  fc:(K.lookup fI).map (·.cls)=some (.type "function")
  ex:A2p K C "ValueError.__new__" fI=true
  sa:PySem.W.findIn K (.ref C) "__setattr__"=some (some (.builtin "object.__setattr__"))
  nf:PySem.W.findIn K (.ref C) fld=some none
  sc:FnScope N ["self",y] (A6 st)
  b:Binds K fd ["self",y] []
  n0:N[0]?=some ("self":Str)
  n1:N[1]?=some y
  v0:Vis (A6 st) "self"
  v1:Vis (A6 st) y
  d1:(y == ("__debug__":Str))=false
  d2:(y == ("__classdict__":Str))=false
  body:∃ p1 p2 p3 p4,C5 st=[.Assign [.Attribute (.Name "self" p1) fld p2] (.Name y p3) p4]/\∀ env:Env,swapsWith (.Name y p3) (some (.Attribute (.Name "self" p1) fld p2)) p4.line env=pure false
section
variable {X:Cx} {E:XK} {x fld y qual:Str} {st:Stmt} {C fI:Addr} {fd:FuncData} {N:List Str} {pos np cpos:Pos} {e:Expr} {te:TE}
theorem A4q {R:V->Hp->Prop} (hR:∀ v H1,R v H1->∀ d,H1 d=none->E (.ref C) (some d) (upd H1 d (.xd [(fld,v)]))) (J:InitX X.K C fI fld y qual st fd N) (hT:A8u X E) (hc:X.calm=true) (hr:Room 2 X.A) (hg:Gl X x) (hm:X.mg x=some (.ref C)) (he:PE X e te)
    (hd:(x == ("__debug__":Str))=false:=by decide) (hpl:(backTo cpos (starEach [e] X.env)).any (·.1)=false:=by rfl) (hse:starEach [e] X.env=(false,eval e X.env) :: starEach [] X.env:=by rfl) :
    PS X (.Raise (some (.Call (.Name x np) [e] [] cpos)) none pos) (B3h te R):=by
  intro pins s σ H D I h;obtain ⟨bm,Nc,nm,qn,bs,hd',sn,sub,ab,col,dd,k0,k1,k2,k3,k5,mN,cd,h1,h2,h3,h4,h5,h6,h7⟩:=exoI I.ok.mod.kin J.ex;obtain ⟨oc,od,kV,doc,pm,an,cdv,ct,osl,hfd,lk,hcd⟩:=J.F.ex;obtain ⟨p1,p2,p3,p4,hbody,hsw⟩:=J.body;rw [hbody] at hfd;have hB:Binds X.K fd ["self",y] []:=J.b;subst hfd;have hbase:bm.contains (.type "BaseException")=true:=h4.hasType (by rfl);refine Z8 (nm:=nm) (q:=qn) (N:=Nc) (bs:=bs) (hdct:=hd') (sn:=sn) (sub:=sub) (ab:=ab) (col:=col) (dd:=dd) (k0:=k0) (k1:=k1) (k2:=k2) (k3:=k3) (k5:=k5) (oI:=⟨oc,od,.func (PySem.W.fnOf "__init__" qual (D7 st) [.Assign [.Attribute (.Name "self" p1) fld p2] (.Name y p3) p4] (A6 st) .none kV doc pm an cdv ct),osl⟩) F.excBase_ValueError hbase (I.ok.hd hc) hpl h3 (P4 I hg hm ⟨rfl,?_⟩ hd);have P0:=(pa_cons he pa_nil hse:PA X [e] _) cpos pins s σ H (fun vs H1=>∃ v,vs=[v]/\R v H1) I h;obtain ⟨tt,rr,hbk⟩:∃ t r,backTo cpos (starEach [e] X.env)=(false,t) :: r:=by rw [hse]; exact ⟨_,_,rfl⟩
  rw [hbk] at P0 ⊢;refine Calls.evalArgs_plain (thn P0 fun us s2 hA=>?_);obtain ⟨vs,H1,I1,r,v,rfl,q⟩:=hA;obtain ⟨u,rfl,ru⟩:=U3 r;have fcl:oc=.type "function":=by
    have:=J.fc;rw [lk] at this;exact Zj this
  refine ⟨rfl,by show 1<=sizeLine; rw [sizeLine_eq]; decide,I1.bk _ _ h1,h2.keeps I1.bk,h4.keeps I1.bk,I1.kIn _ _ lk,fcl,fun h' e made=>?_⟩;obtain ⟨kp,en,t,he',_,_⟩:=made;have I2:Inv X pins σ H1 { s2 with heap:=h' }:=I1.kept (t':=s2.toks) kp;have e2n:H1 e=none:=by
    cases z:H1 e with
    | none=>rfl
    | some o =>
      obtain ⟨ob,zz⟩:=A54 (I1.hok e o z);rw [en] at zz; cases zz
  have enf:e ∉ frs X.stack:=fun z=>by
    obtain ⟨_,o',ho,_⟩:=I1.stack.mem z;rw [en] at ho; cases ho
  refine wpAny_call (B93 (v:=v) (x:=y) (H:=H1) (outer:=X.stack) lk hcd J.sc J.n0 J.n1 J.v0 J.v1 (hr.make C [u] []) (I2.env0.make C [u] []) J.d1 J.d2 (hB _ [.ref e,u] I2.kIn rfl) ru he' e2n enf h5 h6 h7 J.sa J.nf hsw fun h2' d tk g' dr u2 ru2 dn dne he2 ns un hok bare=>?_);have dn1:s2.heap.get? d=none:=by
    cases z:s2.heap.get? d with
    | none=>rfl
    | some o=>have:=kp d o z; rw [show h'.get? d=none from dn] at this; cases this
  have Hd:H1 d=none:=by
    cases z:H1 d with
    | none=>rfl
    | some o =>
      obtain ⟨ob,zz⟩:=A54 (I1.hok d o z);rw [dn1] at zz; cases zz
  have ub:∀ b,b≠d->upd H1 d (.xd [(fld,v)]) b=H1 b:=fun b z=>B2 z;have nd:∀ b o,s2.heap.get? b=some o->b≠d:=fun b o z y=>by rw [y,dn1] at z; cases z
  have ne:∀ b o,s2.heap.get? b=some o->b ∉ [e]:=fun b o z y=>by
    rw [Zn y,en] at z; cases z
  have un2:Un (frs X.stack) [] H1 (upd H1 d (.xd [(fld,v)])) s2.heap h2':={
    keep:=fun b o z n hb _=>un.keep b o (kp b o z) n hb (ne b o z)
    slot:=fun b o z n hb _=>un.slot b o (kp b o z) n hb (ne b o z)
    free:=fun b o z n _=>(ub b (nd b o z)).trans n
    there:=fun b o z _=>un.there b o (kp b o z) (ne b o z)
    tups:=fun b xs z=>(ub b fun y=>by rw [y,Hd] at z; cases z).trans z
    frzs:=fun b o u z=>(ub b fun y=>by rw [y,Hd] at z; cases z).trans z
    tbls:=fun b ps z=>⟨#[],by rw [Array.append_empty]; exact (ub b fun y=>by rw [y,Hd] at z; cases z).trans z⟩ }
  have hok2:HOk X.prog X.w (upd H1 d (.xd [(fld,v)])) h2':=fun b ob z=>by
    by_cases y:b=d
    · subst y
      rw [B4] at z; cases z;refine ⟨_,ns,fun f=>?_⟩;by_cases ef:f=fld
      · subst ef
        rw [if_pos rfl];have:List.lookup f [(f,v)]=some v:=by simp [List.lookup]
        rw [this]; exact ru2
      · rw [if_neg ef]
        have:List.lookup f [(fld,v)]=none:=by
          have z:(f == fld)=false:=beq_eq_false_iff_ne.mpr ef;simp [List.lookup,z]
        rw [this]; exact True.intro
    · rw [ub b y] at z
      exact (hok b ob z).stay (fun _ _ _ z=>z) (fun c z=>(ub c fun y=>by rw [y,Hd] at z; cases z).trans z) fun c xs z=>(ub c fun y=>by rw [y,Hd] at z; cases z).trans z
  have I3:Inv X pins σ (upd H1 d (.xd [(fld,v)])) ⟨h2',g',dr,tk,s2.os⟩:=I1.call' (ch:=[]) rfl un2 hok2 bare fun b z=>absurd z List.not_mem_nil;refine ⟨rfl,I3.bk _ _ h1,⟨t,some d,he2⟩,?_⟩;exact hT pins σ H1 _ s2 ⟨h2',g',dr,tk,s2.os⟩ e _ _ I1 rfl bare en ((ub e fun z=>dne z.symm).trans e2n) he2 rfl un2 I3.stack I3.stkFree hok2 (hR v H1 q d Hd)
end
abbrev TH:=Value->Option Addr->Ends->St->Hp->Prop
structure QH (X:Cx) (hs:List ExceptHandler) (hx:TH):Prop where
  out:∀ (pins:List (Addr × Obj)) (s0 s:Shared) (σ:St) (H H':Hp) (D:Ends) (a:Addr) (cls a0:Value) (dx:Option Addr) (B:Heap),Inv X pins σ H s0->Fly X.prog X.w X.stack H s0 s a cls a0 H' B->DictAt s.heap a dx->hx cls dx D σ H' ->
    wpAny (model X.prog X.w) X.A (handleBy (.ref a) X.env hs) (SP X pins D) X.xe s
def B8u (C:Addr) (i:Nat) (tsu:Addr->Option Addr->TS):TH:=fun cls dx D σ H=>cls=.ref C/\∀ a,i < σ.length->tsu a dx { nx:=fun σ' H'=>D.nx (σ'.set i none) H',rt:=D.rt } (σ.set i (some (.ref a))) H
def B3g (sp:Sp) (t:TA) (hx:TH):TS:=fun D σ H=>t σ H fun vs H1=>sp (vs++[]) H1 (fun _ H2=>D.nx σ H2) fun cls dx H2=>hx cls dx D σ H2
section
variable {X:Cx} {hs:List ExceptHandler}
variable {C CH:Addr} {xh n:Str} {pos pos2:Pos} {b0:Stmt} {suite:List Stmt} {rest:List ExceptHandler} {nm:Option Str} {bd:List Stmt}
theorem A4l {i:Nat} {tsu:Addr->Option Addr->TS} (hgh:Gl X xh) (hmh:X.mg xh=some (.ref CH)) (hx:PySem.W.exmOne X.K (.ref C) (.ref CH)=some true) (hN:X.N.Nodup) (hi:X.N[i]?=some n) (hl:X.env.scope.names.lookup n=some .local)
    (hsu:∀ a oe,oe.cls=.ref C->PySem.W.notCls oe=true->QSs (X.held a oe) (b0 :: suite) (tsu a oe.dict)) (hdb2:(xh == ("__debug__":Str))=false:=by decide) :
    QH X (.ExceptHandler (some (.Name xh pos)) (some n) (b0 :: suite) pos2 :: rest) (B8u C i tsu):=⟨by
  intro pins s0 s σ H H' D a cls a0 dx B I F d ⟨ec,q⟩;subst ec;obtain ⟨oe,e1,e2,IH⟩:=F.hold I;refine wpAny_handleBy_cons (codeAny_handlers_test ?_) (fun z=>by cases z);refine P4 (X:=X.held a oe) IH hgh hmh ?_ hdb2;refine (PySem.W.exm_one IH.kIn (ExAt.ty ⟨oe,e1,e2⟩) hx).at ?_;show codeAny _ _ _ _ _;refine codeAny_handlers_suite_as ?_;have z:=fun E=>(still_setFlight.any (M:=model X.prog X.w) (A:=X.A.mark (some (.ref a))) (Q:=fun _ s'=>∃ h',s'={ s with heap:=h' }/\Heap.FlyingW B X.stack a (.ref C) a0 h'/\∀ b o,s.heap.get? b=some o->(∀ vs,o.data≠.fields vs)->h'.get? b=some o) (E:=E)
    (wpAny_setFlight_noneW F.fly.1 F.fly.2.2.1 F.fly.2.2.2.at fun h3 k1 k2 k3 k4=>⟨h3,rfl,⟨k1,F.fly.2.1,k2,k3⟩,k4⟩))
  refine wpAny_mono (z _) (fun _ s' qq=>?_) fun _ _ z=>z.1;obtain ⟨⟨h3,rfl,kf,k4⟩,kd⟩:=qq;have F3:Fly X.prog X.w X.stack H s0 { s with heap:=h3 } a (.ref C) a0 H' B:=by
    have F0:Fly X.prog X.w X.stack H s0 s a (.ref C) a0 H' B:=F;exact F0.step (h':=h3) kf fun b o e n=>⟨o.slots,k4 b o e n⟩
  have D3:DictAt h3 a dx:=d.kept kd;obtain ⟨oe3,e31,e32,IH3⟩:=F3.hold I;obtain ⟨oe4,vs4,f1,_,f3,_⟩:=F3.fly.first;have:oe4=oe3:=by rw [e31] at f1; exact (Zj f1).symm
  subst this;have nc:PySem.W.notCls oe4=true:=by unfold PySem.W.notCls; rw [f3]
  obtain ⟨oe5,g1,g2⟩:=D3;have:oe5=oe4:=by rw [show h3.get? a=some oe4 from e31] at g1; exact (Zj g1).symm
  subst this;subst g2;refine K6 (X:=X.held a oe5) IH3 hN hi (.inl hl) (show RelV (.ref a) (.ref a) from rfl) (fun s4 I4=>?_) (.inr hl);refine wpAny_mono ((hsu a oe5 e32 nc).out pins s4 _ _ { nx:=fun σ' H'=>D.nx (σ'.set i none) H',rt:=D.rt } I4 (q a (by rw [I.len]; exact (Zs hi).1))) (fun fl s5 hs=>?_) fun _ _ z=>False.elim z;cases fl with
  | next =>
    obtain ⟨σ5,H5,I5,q5⟩:=hs;exact A74 (I5.loose I.ok) hN hi hl fun s6 I6=>⟨_,_,I6,q5⟩
  | brk=>obtain ⟨_,_,_,q⟩:=hs; exact q.elim
  | cont=>obtain ⟨_,_,_,q⟩:=hs; exact q.elim
  | ret u =>
    obtain ⟨v,σ5,H5,I5,r5,q5⟩:=hs;exact A74 (I5.loose I.ok) hN hi hl fun s6 I6=>⟨v,_,_,I6,r5,q5⟩⟩
variable {k:Nat} {f:Addr} {fd:FuncData} {ps:List Str} {sp:Sp} {x:Str} {p pos5:Pos} {e:Expr} {es:List Expr} {t:TA} {h0:ExceptHandler}
theorem B33 {hx:TH} (F:FnOk X.prog X.w X.K X.mg X.base (CX2 X.prog X.w) k f fd ps sp) (hr:Room k X.A) (hg:Gl X x) (hm:X.mg x=some (.ref f)) (hk:PySem.W.keepIn X.K (.ref f)=true) (hb:Binds X.K fd ps [])
    (ha:PA X.nox (e :: es) t) (hh:QH X (h0 :: hs) hx)
    (hst:X.stack=X.env :: X.outer:=by rfl) (hfr:X.env.frame=some X.env.locals:=by rfl)
    (hdb:(x == ("__debug__":Str))=false:=by decide) (he:starEach (e :: es) X.env=(false,eval e X.env) :: starEach es X.env:=by rfl) (hpl:(backTo pos (starEach es X.env)).any (·.1)=false:=by rfl)
    (hsw:swapsWith (.Call (.Name x p) (e :: es) [] pos) none pos2.line X.env=pure false:=by rfl) :
    PS X (.Try [.Expr (.Call (.Name x p) (e :: es) [] pos) pos2] (h0 :: hs) [] [] pos5) (B3g sp t hx):=by
  intro pins s σ H D I h;refine wpAny_Try_except (wpAny_execs_cons (wpAny_Expr_any ?_ I.quiet hsw));refine wpAny_Call_Name_kw (P4 I hg hm ?_ hdb);refine PySem.W.callWith_K (h₀:=X.base) I.ok.mod.kin hk (wpAny_mono (ha pos pins s σ H _ (I.wish _) h) (fun us s1 ⟨vs,H1,I1,r,q⟩=>⟨I1.unwish.kIn,?_⟩) fun _ _ z=>z.elim) he hpl;have I1:=I1.unwish;have r2:Vals (vs++[]) (us++[]):=r.append .nil;have hl2:(us++[]).length=ps.length:=by rw [<- r2.length]; exact F.len _ _ _ _ q
  refine wpAny_call (codeAny_mono (F.run X.A X.stack s1 H1 ⟨us,[]⟩ (us++[]) (vs++[]) _ _ hr I1.env0 (hb s1 us I1.kIn hl2) r2 q) fun r s' hq=>?_);cases r with
  | ok fl =>
    cases fl with
    | ret u =>
      obtain ⟨v,H2,I2,r2,q2⟩:=I1.after hq;exact wpAny_execs_nil (wpAny_execs_nil ⟨σ,H2,I2,q2⟩)
    | next=>exact False.elim hq
    | brk=>exact False.elim hq
    | cont=>exact False.elim hq
  | error ev =>
    obtain ⟨a,cls,a0,dx,H2,B,rfl,Fl,D2,qd⟩:=hq;have hfrm:X.A.frames=some (X.env :: X.outer):=by rw [<- hst]; exact I.ok.frames
    refine A61 (outer:=X.outer) hfrm hfr (by rw [<- hst]; exact Fl.fly) D2 fun h1 hd1 u1 D3=>?_;refine B8h hd1 D3 fun h2 hd2 u2 D4=>?_;exact hh.out pins s1 _ σ H1 H2 D a cls a0 dx B I1 (Fl.step (h':=h2) (by rw [hst]; exact hd2) (u1.trans u2)) D4 qd
end
def plainV:V->Prop
  | .int _=>True
  | .str _=>True
  | .non=>True
  | .bl _=>True
  | .ref _=>True
  | _=>False
theorem plainV.hand {v:V} {u:Value} (h:plainV v) (r:RelV v u):PySem.W.handedIn u=true:=by
  cases v with
  | int i=>obtain ⟨t,rfl⟩:=r; rfl
  | str i=>obtain ⟨t,rfl⟩:=r; rfl
  | non=>cases (show u=Value.none from r); rfl
  | bl b=>cases (show u=Value.bool b from r); rfl
  | ref a=>cases (show u=Value.ref a from r); rfl
  | _=>exact h.elim
def tHF (i:Nat) (a:Addr) (dx:Option Addr) (fld:Str):TE:=fun σ H Q=>σ[i]?=some (some (.ref a))/\∃ d v,dx=some d/\H d=some (.xd [(fld,v)])/\plainV v/\Q v H
section
variable {X:Cx} {C fI a:Addr} {fld y qual n:Str} {st:Stmt} {fd:FuncData} {N:List Str} {oe:Obj} {i:Nat} {pos p1:Pos}
theorem B9j (J:InitX X.K C fI fld y qual st fd N) (xc:ExC X.K C) (e:oe.cls=.ref C) (nc:PySem.W.notCls oe=true) (hi:X.N[i]?=some n) (hl:Vis X.env.scope n)
    (hd:(n == ("__debug__":Str))=false:=by decide) (hcd:(n == ("__classdict__":Str))=false:=by decide) (hb:attributeBase (.Name n p1) fld X.env (eval (.Name n p1) X.env)=eval (.Name n p1) X.env:=by rfl) :
    QE (X.held a oe) (.Attribute (.Name n p1) fld pos) (tHF i a oe.dict fld):=⟨by
  intro pins s σ H Q I ⟨g,d,v,ed,hH,pl,q⟩;refine B5q hb (thn (V6 (X:=X.held a oe) hi hl hd hcd pins s σ H (fun z H'=>z=.ref a/\H'=H) I ⟨_,g,rfl,rfl⟩) fun u s1 ⟨x,H1,I1,rx,ex,eH⟩=>?_);subst ex eH;obtain rfl:u=Value.ref a:=rx;obtain ⟨bm,Nc,nm,qn,bs,hd',sn,sub,ab,col,dd,k0,k1,k2,k3,k5,mN,cd,_,_,_,_,h5,h6,h7⟩:=exoI I1.ok.mod.kin J.ex;obtain ⟨mA,ns,rel⟩:=(show ∃ mA,s1.heap.Ns1 d mA/\∀ f,RelO (List.lookup f [(fld,v)]) (mA f) from I1.hok d _ hH);obtain ⟨od,hod,look⟩:=A62 ns;have hlk:List.lookup fld [(fld,v)]=some v:=by simp [List.lookup]
  have rf:=rel fld;rw [hlk] at rf;cases em:mA fld with
  | none=>rw [em] at rf; exact rf.elim
  | some u =>
    rw [em] at rf;have ru:RelV v u:=rf;have hx:=(I1.pin (a,oe) (Zt _ Zy)).1;have IA:PySem.W.InstAt s1.heap a oe C (some od):=⟨hx,e,nc,by rw [ed]; exact hod⟩;refine getx (name:=fld) (v:=u) I1.kIn IA h5 h7 xc.k.ga xc.k.gn (PySem.W.findObj_own xc.hd J.nf rfl (by rw [look,em])) (pl.hand ru) ?_;exact ⟨v,H1,I1.tok _,ru,q⟩⟩
end
section
variable {X:Cx} {hs:List ExceptHandler} {pos pos2:Pos} {k:Nat} {f:Addr} {fd:FuncData} {ps:List Str} {sp:Sp} {x:Str} {p pos5:Pos} {e:Expr} {es:List Expr} {t:TA} {h0:ExceptHandler}
theorem A1h {hx:TH} (F:FnOk X.prog X.w X.K X.mg X.base (CX2 X.prog X.w) k f fd ps sp) (hr:Room k X.A) (hg:Gl X x) (hm:X.mg x=some (.ref f)) (hk:PySem.W.keepIn X.K (.ref f)=true) (hb:Binds X.K fd ps [])
    (ha:QA X.nox (e :: es) t) (hh:QH X (h0 :: hs) hx)
    (hst:X.stack=X.env :: X.outer:=by rfl) (hfr:X.env.frame=some X.env.locals:=by rfl)
    (hdb:(x == ("__debug__":Str))=false:=by decide) (he:starEach (e :: es) X.env=(false,eval e X.env) :: starEach es X.env:=by rfl) (hpl:(backTo pos (starEach es X.env)).any (·.1)=false:=by rfl)
    (hsw:swapsWith (.Call (.Name x p) (e :: es) [] pos) none pos2.line X.env=pure false:=by rfl) :
    QS X (.Try [.Expr (.Call (.Name x p) (e :: es) [] pos) pos2] (h0 :: hs) [] [] pos5) (B3g sp t hx):=⟨B33 F hr hg hm hk hb ha.out hh hst hfr hdb he hpl hsw⟩
end
section
variable {X:Cx} {i:Nat} {a:Addr} {b:Bool}
theorem B20 {e:Expr} {pos:Pos} {d:Bool} (h:KE X i a e b) (hd:(!b)=d:=by rfl):KE X i a (.UnaryOp .Not e pos) d:=by
  subst hd;exact ⟨A4u (B01 h.out) fun σ H Q q=>⟨q.1,fun H3 z=>⟨b,rfl,q.2 H3 z⟩⟩⟩
end
def tsF (i j:Nat) (fld:Str) (a:Addr) (dx:Option Addr):TS:=tAsg (tHF i a dx fld) (K2 j)
def tsB (i j:Nat) (b:Bool) (a:Addr) (_:Option Addr):TS:=tAsg (tKE i a b) (K2 j)
section
variable {X:Cx} {C fI a:Addr} {fld y qual n x:Str} {st:Stmt} {fd:FuncData} {N:List Str} {oe:Obj} {i j:Nat} {pos p1 p2 p3:Pos}
theorem B3w (J:InitX X.K C fI fld y qual st fd N) (xc:ExC X.K C) (hi:X.N[i]?=some n) (hl:X.env.scope.names.lookup n=some .local) (hN:X.N.Nodup) (hj:X.N[j]?=some x) (hx:X.env.scope.names.lookup x=some .local)
    (hd:(n == ("__debug__":Str))=false:=by decide) (hcd:(n == ("__classdict__":Str))=false:=by decide) (hb:attributeBase (.Name n p1) fld X.env (eval (.Name n p1) X.env)=eval (.Name n p1) X.env:=by rfl)
    (hs:swapsWith (.Attribute (.Name n p1) fld pos) (some (.Name x p2)) p3.line X.env=pure false:=by rfl):∀ a oe,oe.cls=.ref C->PySem.W.notCls oe=true->QSs (X.held a oe) [.Assign [.Name x p2] (.Attribute (.Name n p1) fld pos) p3] (tsF i j fld a oe.dict):=fun a oe e nc =>
  A4 (Z9 (X:=X.held a oe) hN hj (.inl hx) (B9j J xc e nc hi (.inl hl) hd hcd hb) hs (.inr hx))
theorem A9c {b:Bool} {e:Expr} (hN:X.N.Nodup) (hj:X.N[j]?=some x) (hx:X.env.scope.names.lookup x=some .local) (hk:∀ a oe,oe.cls=.ref C->KE (X.held a oe) i a e b)
    (hs:swapsWith e (some (.Name x p2)) p3.line X.env=pure false:=by rfl):∀ a oe,oe.cls=.ref C->PySem.W.notCls oe=true->QSs (X.held a oe) [.Assign [.Name x p2] e p3] (tsB i j b a oe.dict):=fun a oe ec _ =>
  A4 (Z9 (X:=X.held a oe) hN hj (.inl hx) ⟨(hk a oe ec).out⟩ hs (.inr hx))
end
end L2
namespace Pu
open PySem PySem.Spec PyProof.Rows L2 My Prf
def spE2 (K:Frag) (md:List Md) (C:Addr) (fld:Str) (psp:List SV->PyData->Prop):Sp:=fun vs H _ E=>∃ (w:Wd) (as:List SV) (x:PyData),w.H=H/\w.Ok/\Args K w md vs as/\psp as x/\∀ w' d v,w'.Ok->Le w w'->w'.H d=some (.xd [(fld,v)])->Den K w'.F v x->E (.ref C) (some d) w'.H
theorem spE2.len {K:Frag} {md:List Md} {C:Addr} {fld:Str} {psp:List SV->PyData->Prop} {n:Nat} (h:md.length=n):∀ vs H Q E,spE2 K md C fld psp vs H Q E->vs.length=n:=by
  rintro vs H Q E ⟨w,as,_,_,_,a,_⟩;exact a.len.trans h
def A05 (K:Frag) (w0:Wd) (te:TE) (fld:Str) (x:PyData):TS:=fun _ σ H=>E6 te tNil σ H fun vs H1=>∃ v,vs=[v]/\∀ d,H1 d=none->∃ w',w'.H=upd H1 d (.xd [(fld,v)])/\w'.Ok/\Le w0 w'/\Den K w'.F v x
def A0g (pd:PDt) (x:PyData):PSt:=fun _ env=>pd env fun y _=>y=x
instance rsx_raiseI {K:Frag} {w0:Wd} {te:TE} {fld:Str} {x:PyData} {pd:PDt} [hd:RD K te pd]:RSX K w0 (A05 K w0 te fld x) (A0g pd x) where
  ok:=by
    rintro c w env σ Dp D rfl rfl E h p;refine hd.ok c w env σ _ _ rfl E p fun v y e1 w1 E1 l1 v1 q1=>?_;subst q1;exact ⟨v,rfl,fun d hn=>⟨w1.lay d (.xd [(fld,v)]),rfl,Wd.lay_ok E1.wok hn,E1.le0.trans (Wd.lay_le hn),v1⟩⟩
theorem okx2 {P:Program} {w:World} {K:PySem.W.Frag} {mg:Str->Option Value} {base:Heap} {x qual:Str} {st:Stmt} {f:Addr} {fd:FuncData} {N ps:List Str} {k:Nat} {md:List Md} {C:Addr} {fld:Str} {psp:List SV->PyData->Prop} {ts:Wd->PyData->TS} {pst:PyData->PSt} (F:L2.Fun K x qual st f fd) (S:FnScope N ps (A6 st)) (hm:md.length=ps.length)
    (hbody:∀ (cdv:Value) (A:Around) (outer:List Env) (s:Shared) (H:Hpp) (E:XK) (w0:Wd) (y:PyData),Room k (A.deeper (envOfC qual (A6 st) s.heap.objs.size f cdv))->(∀ w' d v,w'.Ok->Le w0 w'->w'.H d=some (.xd [(fld,v)])->Den K w'.F v y->E (.ref C) (some d) w'.H) ->
      PSs (cxOf (CX2 P w) P w K mg base N qual (A6 st) f cdv A outer s H E) (C5 st) (ts w0 y))
    (hs:∀ w0 y,RSX K w0 (ts w0 y) (pst y)) (hb:∀ as y,psp as y->pst y ⟨fun _=>False,fun _ _=>False,fun _=>False,fun _=>False⟩ (as.map some++List.replicate (N.length - md.length) none)):FnOk P w K mg base (CX2 P w) (k + 1) f fd ps (spE2 K md C fld psp):=by
  obtain ⟨oc,od,kV,doc,pm,an,cdv,ct,osl,rfl,lk,hcd⟩:=F.ex;refine B8v lk hcd S (spE2.len hm) fun A outer s H vs Q E hr ⟨w0,as,y,e,ok,a,p,kk⟩=>?_;refine ⟨_,hbody cdv A outer s H E w0 y hr kk,?_⟩;subst e
  haveI:=hs w0 y
  exact B8y ok a (hb as y p)
theorem A24 {P:Program} {w:World} {K:PySem.W.Frag} {mg:Str->Option Value} {base:Heap} {N:List Str} {qual:Str} {scope:Scope} {f:Addr} {cd:Value} {A:Around} {outer:List Env} {s0:Shared} {H0:Hpp} {E:XK} {w0:Wd} {x fld y qualI:Str} {C fI:Addr} {stI:Stmt} {fdI:FuncData} {NI:List Str} {pos np cpos:Pos} {e:Expr} {te:TE} {z:PyData}
    (hk:∀ w' d v,w'.Ok->Le w0 w'->w'.H d=some (.xd [(fld,v)])->Den K w'.F v z->E (.ref C) (some d) w'.H) (J:InitX K C fI fld y qualI stI fdI NI)
    (hr:Room 2 (cxOf (CX2 P w) P w K mg base N qual scope f cd A outer s0 H0 E).A) (hg:Gl (cxOf (CX2 P w) P w K mg base N qual scope f cd A outer s0 H0 E) x) (hm:mg x=some (.ref C)) (he:QE (cxOf (CX2 P w) P w K mg base N qual scope f cd A outer s0 H0 E) e te)
    (hd:(x == ("__debug__":Str))=false:=by decide) (hpl:(backTo cpos (starEach [e] (cxOf (CX2 P w) P w K mg base N qual scope f cd A outer s0 H0 E).env)).any (·.1)=false:=by rfl) (hse:starEach [e] (cxOf (CX2 P w) P w K mg base N qual scope f cd A outer s0 H0 E).env=(false,eval e (cxOf (CX2 P w) P w K mg base N qual scope f cd A outer s0 H0 E).env) :: starEach [] (cxOf (CX2 P w) P w K mg base N qual scope f cd A outer s0 H0 E).env:=by rfl) :
    QS (cxOf (CX2 P w) P w K mg base N qual scope f cd A outer s0 H0 E) (.Raise (some (.Call (.Name x np) [e] [] cpos)) none pos) (A05 K w0 te fld z) :=
  ⟨fun pins s σ H D I h=>by
    refine A4q (R:=fun v H1=>∀ d,H1 d=none->∃ w':Wd,w'.H=upd H1 d (.xd [(fld,v)])/\w'.Ok/\Le w0 w'/\Den K w'.F v z) (fun v H1 q d hn=>?_) J B3e rfl hr hg hm he.out hd hpl hse pins s σ H D I h;obtain ⟨w',eH,ok,l,dn⟩:=q d hn;rw [<- eH];exact hk w' d v ok l (by rw [eH,B4]) dn⟩
theorem EnvOk.unset {c:Ct} {w:Wd} {env:PEnv} {σ:L2.St} {i:Nat} {o:Option V} (E:EnvOk c w env σ):EnvOk c w (env.set i none) (σ.set i o):=by
  have hd:∀ {j:Nat} {t:SV},(env.set i none)[j]?=some (some t)->i≠j/\env[j]?=some (some t):=fun {j t} q=>by
    rw [List.getElem?_set] at q;split at q
    · split at q
      · cases q
      · cases q
    · rename_i z; exact ⟨z,q⟩
  have hs:∀ {j:Nat},i≠j->(σ.set i o)[j]?=σ[j]?:=fun {j} z=>by rw [List.getElem?_set,if_neg z]
  refine ⟨E.wok,E.le0,by simpa using E.len,fun j t q=>?_,fun j k s1 t1 v1 u1 a q1 q2 q3 q4 f1 f2=>?_,E.zf,fun a j t u za q q'=>?_⟩
  · obtain ⟨z,q⟩:=hd q
    rw [hs z]; exact E.at' j t q
  · obtain ⟨z1,q1⟩:=hd q1
    obtain ⟨z2,q2⟩:=hd q2;rw [hs z1] at q3;rw [hs z2] at q4;exact E.own j k _ _ _ _ a q1 q2 q3 q4 f1 f2
  · obtain ⟨z,q⟩:=hd q
    rw [hs z] at q';exact E.zo a j t u za q q'
class RHS (K:Frag) (fld:Str) (i:Nat) (tsu:Addr->Option Addr->TS) (ps:outParam (PyData->PSt)):Prop where
  ok:∀ (c:Ct) (w:Wd) (env:PEnv) (σ:L2.St) (Dp:PEnds) (D:Ends) (a d:Addr) (v:V) (x:PyData),c.K=K->EnvOk c w env σ->EndsOk c w Dp D->σ[i]?=some (some (.ref a))->w.H d=some (.xd [(fld,v)])->Den K w.F v x->ps x Dp env->tsu a (some d) D σ w.H
theorem Den.plain {K:Frag} {F:Hpp} {v:V} {x:PyData} (h:Den K F v x):plainV v:=by cases h <;> exact True.intro
def pHF (j:Nat) (x:PyData) (D:PEnds) (env:PEnv):Prop:=D.nx (env.set j (some (.d x)))
instance rhs_fld {K:Frag} {i j:Nat} {fld:Str}:RHS K fld i (tsF i j fld) (pHF j) where
  ok:=by
    rintro c w env σ Dp D a d v x rfl E h g hd dn p;exact ⟨g,d,v,rfl,hd,Den.plain dn,h.nx _ _ w (E.set (s:=.d x) dn (fun _ z=>nomatch z)) (Same.refl _) p⟩
def pHB (j:Nat) (b:Bool) (_:PyData) (D:PEnds) (env:PEnv):Prop:=D.nx (env.set j (some (.d (.bool b))))
instance rhs_kind {K:Frag} {i j:Nat} {b:Bool} {fld:Str}:RHS K fld i (tsB i j b) (pHB j b) where
  ok:=by
    rintro c w env σ Dp D a d v x rfl E h g hd dn p;refine ⟨g,fun H3 s3=>?_⟩;have l3:Le w ⟨w.M,H3,w.F⟩:=⟨⟨Same.refl _,fun b o e _=>s3 b o e,fun _ z=>z,fun _ z=>.inl z,fun b z=>by
      cases q:w.H b with
      | none=>rfl
      | some o=>have:=s3 b o q; rw [show H3 b=none from z] at this; cases this⟩,fun _ _ z=>.inl z⟩
    have E3:EnvOk c ⟨w.M,H3,w.F⟩ env σ:=E.mono ⟨E.wok.sub.trans s3,fun p hp=>(E.wok.st p hp).same s3,E.wok.nf⟩ l3;exact h.nx _ _ _ (E3.set (s:=.d (.bool b)) (show Den _ _ _ _ from .bl b) (fun _ z=>nomatch z)) (Same.refl _) p
def B4l (psp:List SV->PyData->Prop) (pa:PAs) (i:Nat) (ps:PyData->PSt) (D:PEnds) (env:PEnv):Prop:=pa env fun as e=>∃ x,psp as x/\ps x ⟨fun e2=>D.nx (e2.set i none),D.rt,fun _=>False,fun _=>False⟩ (e.set i none)
instance rs_tryX {K:Frag} {md:List Md} {psp:List SV->PyData->Prop} {C:Addr} {fld:Str} {i:Nat} {ta:TA} {pa:PAs} {tsu:Addr->Option Addr->TS} {ps:PyData->PSt} [ha:RAm K md ta pa] [hs:RHS K fld i tsu ps]:RS K (B3g (spE2 K md C fld psp) ta (B8u C i tsu)) (B4l psp pa i ps) where
  ok:=by
    rintro c w env σ Dp D rfl E h p;refine ha.ok c w env σ _ _ rfl E p fun vs as e1 w1 E1 l1 a1 ⟨x,q1,q2⟩=>?_;rw [List.append_nil];refine ⟨w1,as,x,rfl,E1.wok,a1,q1,fun w' d v ok l hd dn=>⟨rfl,fun a hi=>?_⟩⟩;refine hs.ok c w' (e1.set i none) (σ.set i (some (.ref a))) ⟨fun e2=>Dp.nx (e2.set i none),Dp.rt,fun _=>False,fun _=>False⟩ _ a d v x rfl (E1.mono ok l).unset ⟨fun e2 σ2 w2 E2 s2 n2=>?_,h.rt,fun _ _ _ _ _ z=>z,fun _ _ _ _ _ z=>z⟩ (List.getElem?_set_self hi) hd dn q2;exact h.nx _ _ w2 E2.unset (l1.f.trans (l.f.trans s2)) n2
def B6y (psp:PSp) (pa:PAs) (D:PEnds) (env:PEnv):Prop:=pa env fun as e=>psp as fun _=>D.nx e
end Pu
namespace L2
open PySem PySem.Spec PyProof.Rows
theorem A95 {K:PySem.W.Frag} {C fI:Addr} {fld y qual:Str} {st:Stmt} {fd:FuncData} {N:List Str} (F:Fun K "__init__" qual st fI fd) (S:FnScope N ["self",y] (A6 st)) (fc:(K.lookup fI).map (·.cls)=some (.type "function")) (ex:A2p K C "ValueError.__new__" fI=true)
    (sa:PySem.W.findIn K (.ref C) "__setattr__"=some (some (.builtin "object.__setattr__"))) (nf:PySem.W.findIn K (.ref C) fld=some none) (body:∃ p1 p2 p3 p4,C5 st=[.Assign [.Attribute (.Name "self" p1) fld p2] (.Name y p3) p4]/\∀ env:Env,swapsWith (.Name y p3) (some (.Attribute (.Name "self" p1) fld p2)) p4.line env=pure false)
    (bd:∀ (kV doc pm:Value) (an:Option Addr) (cdv ct:Value) (us:List Value),us.length=2->bindArgs (PySem.W.fnOf "__init__" qual (D7 st) (C5 st) (A6 st) .none kV doc pm an cdv ct) ⟨us,[]⟩=pure (List.zip [("self":Str),y] us):=by exact fun _ _ _ _ _ _ us hl=>by obtain ⟨_,_,rfl⟩:=us2 hl; rfl)
    (n0:N[0]?=some ("self":Str):=by rfl) (n1:N[1]?=some y:=by rfl) (v0:Vis (A6 st) "self":=by exact Or.inl rfl) (v1:Vis (A6 st) y:=by exact Or.inl rfl) (d1:(y == ("__debug__":Str))=false:=by decide) (d2:(y == ("__classdict__":Str))=false:=by decide):InitX K C fI fld y qual st fd N :=
  ⟨F,fc,ex,sa,nf,S,F.binds bd,n0,n1,v0,v1,d1,d2,body⟩
end L2
set_option synthInstance.maxHeartbeats 0
set_option synthInstance.maxSize 100000
set_option maxHeartbeats 4000000
namespace Prf
open PySem L2 My Pu
local macro_rules | `(tactic| trivial) => `(tactic| try simp only [pSeq, B4r, B1z, B7n, A49, B7l, pRet, A46, A6k, A6j, A6i, A6h, B65, pIf, pAsg, B4y, B1c, B2i, pApp, A8t, B1x, B67, A9o, B9c, pYes, pNot, pAnd, pOr, B4p, B4z, pOrV, pIfE, pOp, pI_i, B7h, pEqD, pNeD, pIsN, B7a, W7, A2j, W9, A2i, W8, A2h, B1h, B1g, pU_i, pUn, pNil, A9q, pTup, pLst, pCB, A5d, W0, A1u, B13, B1e, B1d, B1p, B1q, A1t, A1s, B1o, B2j, A3x, A04, A3w, A01, A02, A3v, A3y, B06, B2c, B2b, B2a, A41, A56, A55, A57, pC, pdat, B9b, B9a, A5x, B4q, A5s, A5q, A1y, B84, B23, B3z, B0w, A4n, S4, A1l, A1r, B7g, A1x, A13, A12, A14, A2y, R6, Y9, Z0, A45, A6g, A44, A6f, pFor, A5t, Q3, E9, SV.lent, A0h, B4o, B0m, pSlL, pRev, A43, A6e, B1y, B12, B11, A5m, List.map_cons, List.map_nil, List.replicate_succ, List.replicate_zero, List.cons_append, List.nil_append, List.getElem?_cons_zero, List.getElem?_cons_succ, List.set_cons_zero, List.set_cons_succ, List.length_cons, List.length_nil, B4x, B4w, B7k, B7j, Option.bind_some, Option.bind_none, Option.map_some, Option.map_none, Option.join_some, A5k, A5j, A65, A19, A17, A8e, A2u, A8c, A2t, B2l, B28, T6, B27, X3, X2, A70, B0o, decide_eq_true_eq, Bool.not_eq_true', decide_eq_false_iff_not, ite_not, true_and, and_true, reduceIte, Nat.zero_le, Nat.reduceAdd, Nat.reduceLeDiff, Nat.reduceSub, Int.zero_add, A1w, A1v, List.length_map, A3p, B16, A3z, A73, A78, A64, A8d, B2m, B2w, B2z, B2v, B2y, B2p, B2t, B2s, B2n, B2o, B2q, Bool.true_eq_false, Bool.false_eq_true, reduceCtorEq, Bool.not_true, Bool.not_false, decide_true, decide_false, B05, B19, A5o, A6u, pLsN, pLsC, B7c, A5c, A6q, A6p, A6r, A0o, A8f, A79, A2k, eq_self, B4i, R5, Y8, A2r, A77, A2f, A2c, A2e, A2b, A2d, A2a, B2u, B2x, B2r, B62, B1t, B7b, ot_d, ot_o, ot_t, A1z, A42, A6a, A59, A6b, A58, pKid, A5u, B29, B4g, B87, B86, B85, pTr, B09, B2g, B2f, B2h, B1v, B07, B2e, B2d, A5y, A6v, U4, A4m, A2l, B1n, A16, B1u, A6o, A6n, A6m, B7e, pIn, A7o, A7p, A7m, A7n, A7w, A7x, A7u, A7v, A7g, A7h, A7e, A7f, A7c, A7d, A7a, A7b, A7k, A7l, A7i, A7j, A68, A69, A66, A67, A7s, A7t, A7q, A7r, A03, B0l, A5l, pS, A9r, B1l, B1i, B1k, B1m, B1j, A5h, A5e, A5g, A5f, B4t, B61, B7m, A5v, pRep, A5b, B1s, pIdx, B66, B60, B08, pStr, B6z, A5w, B7r, B0x, A5a, pSlT, B7d, A6t, A6s, pPth, pVw, A3s, pLf, A63, pBr, pMuV, B73, B1a, pA2, B8q, pC2, pMu, B14, B10, A5p, B0t, B1w, V9, B63, A6d, B68, A47, B69, A5n, B1b, A5z, A5r, pDN, pDk, pS1, B0l, A40, A48, pSlS, B4v, B4m, A0j, B0m, pFmt, B88, B89, pFs, A5i, B4u, B4l, B6y, pHF, pHB, A0g])
local macro_rules | `(tactic| nofun) => `(tactic| try simp -implicitDefEqProofs only [pSeq, B4r, B1z, B7n, A49, B7l, pRet, A46, A6k, A6j, A6i, A6h, B65, pIf, pAsg, B4y, B1c, B2i, pApp, A8t, B1x, B67, A9o, B9c, pYes, pNot, pAnd, pOr, B4p, B4z, pOrV, pIfE, pOp, pI_i, B7h, pEqD, pNeD, pIsN, B7a, W7, A2j, W9, A2i, W8, A2h, B1h, B1g, pU_i, pUn, pNil, A9q, pTup, pLst, pCB, A5d, W0, A1u, B13, B1e, B1d, B1p, B1q, A1t, A1s, B1o, B2j, A3x, A04, A3w, A01, A02, A3v, A3y, B06, B2c, B2b, B2a, A41, A56, A55, A57, pC, pdat, B9b, B9a, A5x, B4q, A5s, A5q, A1y, B84, B23, B3z, B0w, A4n, S4, A1l, A1r, B7g, A1x, A13, A12, A14, A2y, R6, Y9, Z0, A45, A6g, A44, A6f, pFor, A5t, Q3, E9, SV.lent, A0h, B4o, B0m, pSlL, pRev, A43, A6e, B1y, B12, B11, A5m, List.map_cons, List.map_nil, List.replicate_succ, List.replicate_zero, List.cons_append, List.nil_append, List.getElem?_cons_zero, List.getElem?_cons_succ, List.set_cons_zero, List.set_cons_succ, List.length_cons, List.length_nil, B4x, B4w, B7k, B7j, Option.bind_some, Option.bind_none, Option.map_some, Option.map_none, Option.join_some, A5k, A5j, A65, A19, A17, A8e, A2u, A8c, A2t, B2l, B28, T6, B27, X3, X2, A70, B0o, decide_eq_true_eq, Bool.not_eq_true', decide_eq_false_iff_not, ite_not, true_and, and_true, reduceIte, Nat.zero_le, Nat.reduceAdd, Nat.reduceLeDiff, Nat.reduceSub, Int.zero_add, A1w, A1v, List.length_map, A3p, B16, A3z, A73, A78, A64, A8d, B2m, B2w, B2z, B2v, B2y, B2p, B2t, B2s, B2n, B2o, B2q, Bool.true_eq_false, Bool.false_eq_true, reduceCtorEq, Bool.not_true, Bool.not_false, decide_true, decide_false, B05, B19, A5o, A6u, pLsN, pLsC, B7c, A5c, A6q, A6p, A6r, A0o, A8f, A79, A2k, eq_self, B4i, R5, Y8, A2r, A77, A2f, A2c, A2e, A2b, A2d, A2a, B2u, B2x, B2r, B62, B1t, B7b, ot_d, ot_o, ot_t, A1z, A42, A6a, A59, A6b, A58, pKid, A5u, B29, B4g, B87, B86, B85, pTr, B09, B2g, B2f, B2h, B1v, B07, B2e, B2d, A5y, A6v, U4, A4m, A2l, B1n, A16, B1u, A6o, A6n, A6m, B7e, pIn, A7o, A7p, A7m, A7n, A7w, A7x, A7u, A7v, A7g, A7h, A7e, A7f, A7c, A7d, A7a, A7b, A7k, A7l, A7i, A7j, A68, A69, A66, A67, A7s, A7t, A7q, A7r, A03, B0l, A5l, pS, A9r, B1l, B1i, B1k, B1m, B1j, A5h, A5e, A5g, A5f, B4t, B61, B7m, A5v, pRep, A5b, B1s, pIdx, B66, B60, B08, pStr, B6z, A5w, B7r, B0x, A5a, pSlT, B7d, A6t, A6s, pPth, pVw, A3s, pLf, A63, pBr, pMuV, B73, B1a, pA2, B8q, pC2, pMu, B14, B10, A5p, B0t, B1w, V9, B63, A6d, B68, A47, B69, A5n, B1b, A5z, A5r, pDN, pDk, pS1, B0l, A40, A48, pSlS, B4v, B4m, A0j, B0m, pFmt, B88, B89, pFs, A5i, B4u, B4l, B6y, pHF, pHB, A0g])
set_option genInjectivity false
set_option genSizeOfSpec false
structure Adr where
  a_commonpart:Addr
  d_commonpart:FuncData
  a_product:Addr
  d_product:FuncData
  a_shownwhole:Addr
  d_shownwhole:FuncData
  a_shownratio:Addr
  d_shownratio:FuncData
  a_wholein:Addr
  d_wholein:FuncData
  a_ratioin:Addr
  d_ratioin:FuncData
  a_readratio:Addr
  d_readratio:FuncData
  a_Lbegun:Addr
  d_Lbegun:FuncData
  a_Ltake:Addr
  d_Ltake:FuncData
  a_Llow:Addr
  d_Llow:FuncData
  a_Lsame:Addr
  d_Lsame:FuncData
  a_Lfigures:Addr
  d_Lfigures:FuncData
  a_Lfraction:Addr
  d_Lfraction:FuncData
  a_Ltext:Addr
  d_Ltext:FuncData
  a_Lodd:Addr
  d_Lodd:FuncData
  a_Lstrange:Addr
  d_Lstrange:FuncData
  a_Lislonger:Addr
  d_Lislonger:FuncData
  a_Lisrefused:Addr
  d_Lisrefused:FuncData
  a_law:Addr
  d_law:FuncData
  k_NoText:Addr
  k_HurryError:Addr
  k_NoRow:Addr
  k_NoNumber:Addr
structure TxB (K:PySem.W.Frag) (a_commonpart a_product a_shownwhole a_shownratio a_wholein a_ratioin a_readratio a_Lbegun a_Ltake a_Llow a_Lsame a_Lfigures a_Lfraction a_Ltext a_Lodd a_Lstrange a_Lislonger a_Lisrefused k_NoText k_HurryError k_NoRow k_NoNumber:Addr) (d_commonpart d_product d_shownwhole d_shownratio d_wholein d_ratioin d_readratio d_Lbegun d_Ltake d_Llow d_Lsame d_Lfigures d_Lfraction d_Ltext d_Lodd d_Lstrange d_Lislonger d_Lisrefused:FuncData):Prop where
  g_commonpart:PySem.W.nsIn K mainGlobals "common_part"=some (some (.ref a_commonpart))
  F_commonpart:Fun K "common_part" "common_part" s_commonpart a_commonpart d_commonpart
  g_product:PySem.W.nsIn K mainGlobals "product"=some (some (.ref a_product))
  F_product:Fun K "product" "product" s_product a_product d_product
  g_shownwhole:PySem.W.nsIn K mainGlobals "shown_whole"=some (some (.ref a_shownwhole))
  F_shownwhole:Fun K "shown_whole" "shown_whole" s_shownwhole a_shownwhole d_shownwhole
  g_shownratio:PySem.W.nsIn K mainGlobals "shown_ratio"=some (some (.ref a_shownratio))
  F_shownratio:Fun K "shown_ratio" "shown_ratio" s_shownratio a_shownratio d_shownratio
  g_wholein:PySem.W.nsIn K mainGlobals "whole_in"=some (some (.ref a_wholein))
  F_wholein:Fun K "whole_in" "whole_in" s_wholein a_wholein d_wholein
  g_ratioin:PySem.W.nsIn K mainGlobals "ratio_in"=some (some (.ref a_ratioin))
  F_ratioin:Fun K "ratio_in" "ratio_in" s_ratioin a_ratioin d_ratioin
  g_readratio:PySem.W.nsIn K mainGlobals "read_ratio"=some (some (.ref a_readratio))
  F_readratio:Fun K "read_ratio" "read_ratio" s_readratio a_readratio d_readratio
  g_Lbegun:PySem.W.nsIn K mainGlobals "_law_begun"=some (some (.ref a_Lbegun))
  F_Lbegun:Fun K "_law_begun" "_law_begun" s_Lbegun a_Lbegun d_Lbegun
  g_Ltake:PySem.W.nsIn K mainGlobals "_law_take"=some (some (.ref a_Ltake))
  F_Ltake:Fun K "_law_take" "_law_take" s_Ltake a_Ltake d_Ltake
  g_Llow:PySem.W.nsIn K mainGlobals "_law_low"=some (some (.ref a_Llow))
  F_Llow:Fun K "_law_low" "_law_low" s_Llow a_Llow d_Llow
  g_Lsame:PySem.W.nsIn K mainGlobals "_law_same"=some (some (.ref a_Lsame))
  F_Lsame:Fun K "_law_same" "_law_same" s_Lsame a_Lsame d_Lsame
  g_Lfigures:PySem.W.nsIn K mainGlobals "_law_figures"=some (some (.ref a_Lfigures))
  F_Lfigures:Fun K "_law_figures" "_law_figures" s_Lfigures a_Lfigures d_Lfigures
  g_Lfraction:PySem.W.nsIn K mainGlobals "_law_fraction"=some (some (.ref a_Lfraction))
  F_Lfraction:Fun K "_law_fraction" "_law_fraction" s_Lfraction a_Lfraction d_Lfraction
  g_Ltext:PySem.W.nsIn K mainGlobals "_law_text"=some (some (.ref a_Ltext))
  F_Ltext:Fun K "_law_text" "_law_text" s_Ltext a_Ltext d_Ltext
  g_Lodd:PySem.W.nsIn K mainGlobals "_law_odd"=some (some (.ref a_Lodd))
  F_Lodd:Fun K "_law_odd" "_law_odd" s_Lodd a_Lodd d_Lodd
  g_Lstrange:PySem.W.nsIn K mainGlobals "_law_strange"=some (some (.ref a_Lstrange))
  F_Lstrange:Fun K "_law_strange" "_law_strange" s_Lstrange a_Lstrange d_Lstrange
  g_Lislonger:PySem.W.nsIn K mainGlobals "_law_is_longer"=some (some (.ref a_Lislonger))
  F_Lislonger:Fun K "_law_is_longer" "_law_is_longer" s_Lislonger a_Lislonger d_Lislonger
  g_Lisrefused:PySem.W.nsIn K mainGlobals "_law_is_refused"=some (some (.ref a_Lisrefused))
  F_Lisrefused:Fun K "_law_is_refused" "_law_is_refused" s_Lisrefused a_Lisrefused d_Lisrefused
  gc_NoText:PySem.W.nsIn K mainGlobals "NoText"=some (some (.ref k_NoText))
  gc_HurryError:PySem.W.nsIn K mainGlobals "HurryError"=some (some (.ref k_HurryError))
  gc_NoRow:PySem.W.nsIn K mainGlobals "NoRow"=some (some (.ref k_NoRow))
  gc_NoNumber:PySem.W.nsIn K mainGlobals "NoNumber"=some (some (.ref k_NoNumber))
  z_ValueError:PySem.W.nsIn K mainGlobals "ValueError"=some none
  z_abs:PySem.W.nsIn K mainGlobals "abs"=some none
  z_all:PySem.W.nsIn K mainGlobals "all"=some none
  z_bool:PySem.W.nsIn K mainGlobals "bool"=some none
  z_divmod:PySem.W.nsIn K mainGlobals "divmod"=some none
  z_int:PySem.W.nsIn K mainGlobals "int"=some none
  z_isinstance:PySem.W.nsIn K mainGlobals "isinstance"=some none
  z_len:PySem.W.nsIn K mainGlobals "len"=some none
  z_list:PySem.W.nsIn K mainGlobals "list"=some none
  z_range:PySem.W.nsIn K mainGlobals "range"=some none
  z_str:PySem.W.nsIn K mainGlobals "str"=some none
  z_tuple:PySem.W.nsIn K mainGlobals "tuple"=some none
  z_zip:PySem.W.nsIn K mainGlobals "zip"=some none
structure Txt (K:PySem.W.Frag) (mg:Str->Option Value) (D:Adr):Prop where
  B:TxB K D.a_commonpart D.a_product D.a_shownwhole D.a_shownratio D.a_wholein D.a_ratioin D.a_readratio D.a_Lbegun D.a_Ltake D.a_Llow D.a_Lsame D.a_Lfigures D.a_Lfraction D.a_Ltext D.a_Lodd D.a_Lstrange D.a_Lislonger D.a_Lisrefused D.k_NoText D.k_HurryError D.k_NoRow D.k_NoNumber D.d_commonpart D.d_product D.d_shownwhole D.d_shownratio D.d_wholein D.d_ratioin D.d_readratio D.d_Lbegun D.d_Ltake D.d_Llow D.d_Lsame D.d_Lfigures D.d_Lfraction D.d_Ltext D.d_Lodd D.d_Lstrange D.d_Lislonger D.d_Lisrefused
  m_commonpart:mg "common_part"=some (.ref D.a_commonpart)
  m_product:mg "product"=some (.ref D.a_product)
  m_shownwhole:mg "shown_whole"=some (.ref D.a_shownwhole)
  m_shownratio:mg "shown_ratio"=some (.ref D.a_shownratio)
  m_wholein:mg "whole_in"=some (.ref D.a_wholein)
  m_ratioin:mg "ratio_in"=some (.ref D.a_ratioin)
  m_readratio:mg "read_ratio"=some (.ref D.a_readratio)
  m_Lbegun:mg "_law_begun"=some (.ref D.a_Lbegun)
  m_Ltake:mg "_law_take"=some (.ref D.a_Ltake)
  m_Llow:mg "_law_low"=some (.ref D.a_Llow)
  m_Lsame:mg "_law_same"=some (.ref D.a_Lsame)
  m_Lfigures:mg "_law_figures"=some (.ref D.a_Lfigures)
  m_Lfraction:mg "_law_fraction"=some (.ref D.a_Lfraction)
  m_Ltext:mg "_law_text"=some (.ref D.a_Ltext)
  m_Lodd:mg "_law_odd"=some (.ref D.a_Lodd)
  m_Lstrange:mg "_law_strange"=some (.ref D.a_Lstrange)
  m_Lislonger:mg "_law_is_longer"=some (.ref D.a_Lislonger)
  m_Lisrefused:mg "_law_is_refused"=some (.ref D.a_Lisrefused)
  F_law:Fun K "law" "law" s_law D.a_law D.d_law
  m_law:mg "law"=some (.ref D.a_law)
  c_NoText:mg "NoText"=some (.ref D.k_NoText)
  c_HurryError:mg "HurryError"=some (.ref D.k_HurryError)
  c_NoRow:mg "NoRow"=some (.ref D.k_NoRow)
  c_NoNumber:mg "NoNumber"=some (.ref D.k_NoNumber)
  z_ValueError:mg "ValueError"=none
  z_abs:mg "abs"=none
  z_all:mg "all"=none
  z_bool:mg "bool"=none
  z_divmod:mg "divmod"=none
  z_int:mg "int"=none
  z_isinstance:mg "isinstance"=none
  z_len:mg "len"=none
  z_list:mg "list"=none
  z_range:mg "range"=none
  z_str:mg "str"=none
  z_tuple:mg "tuple"=none
  z_zip:mg "zip"=none
  ci_MOST_FIGURES:∃ t,mg "MOST_FIGURES"=some (.int 60 t)
  ci_CHUNK:∃ t,mg "CHUNK"=some (.int 1000000000000000000 t)
  ci_CHUNK_FIGURES:∃ t,mg "CHUNK_FIGURES"=some (.int 18 t)
  cs_FIGURES:∃ t,mg "FIGURES"=some (.str "0123456789" t)
  J_NoText:∃ fI fd,InitX K D.k_NoText fI "row" "row" "NoText.__init__" s_NoTextinit fd ["self","row"]
  xm_NoText_NoText:PySem.W.exmOne K (.ref D.k_NoText) (.ref D.k_NoText)=some true
  xga_NoText:PySem.W.findIn K (.ref D.k_NoText) "__getattribute__"=some (some (.builtin "BaseException.__getattribute__"))
  xgn_NoText:PySem.W.findIn K (.ref D.k_NoText) "__getattr__"=some none
  xgc_NoText:PySem.W.findIn K (.ref D.k_NoText) "__class__"=some (some (.builtin "object.__class__"))
  xsb_NoText:PySem.W.subIn K (.ref D.k_NoText) (.type "BaseException")=some true
  xso_NoText:PySem.W.subIn K (.ref D.k_NoText) (.type "object")=some true
  xhd_NoText:PySem.W.hasDictIn K D.k_NoText=true
  xty_NoText:(K.lookup D.k_NoText).map (·.cls)=some (.type "type")
  xm_NoText_HurryError:PySem.W.exmOne K (.ref D.k_NoText) (.ref D.k_HurryError)=some true
  xi_NoText_NoRow:PySem.W.kitOne K (.ref D.k_NoText) (.ref D.k_NoRow)=some false
  xi_NoText_NoNumber:PySem.W.kitOne K (.ref D.k_NoText) (.ref D.k_NoNumber)=some false
  xi_NoText_ValueError:PySem.W.kitOne K (.ref D.k_NoText) (.type "ValueError")=some true
  sysm:∃ o,K.lookup sysModules=some o/\o.cls≠.type "list"
abbrev sp_law:=B3p
theorem scI {N P:List Str} {sc:Scope} (a:sc.kind=.function:=by rfl) (b:sc.isCoroutine=false:=by rfl) (c:sc.isGenerator=false:=by rfl) (d:N.Nodup:=by decide +kernel) (e:N.take P.length=P:=by rfl) (f:∀ x ∈ P,sc.names.lookup x=some .local\/sc.names.lookup x=some .cell:=by decide +kernel) (g:∀ y ∈ sc.names,y.2≠.free:=by decide +kernel):FnScope N P sc:=⟨a,b,c,d,e,f,g⟩
structure KCl (K:PySem.W.Frag) (mg:Str->Option Value) (x:Str) (f:Addr) (fd:FuncData) (ps:List Str):Prop where
  m:mg x=some (.ref f)
  k:PySem.W.keepIn K (.ref f)=true
  b:Binds K fd ps []
theorem qcK {X:Cx} {k:Nat} {f:Addr} {fd:FuncData} {ps:List Str} {sp:Sp} {x:Str} {p pos:Pos} {e:Expr} {es:List Expr} {t:TA} (F:FnOk X.prog X.w X.K X.mg X.base CX0 k f fd ps sp) (hr:Room k X.A) (c:KCl X.K X.mg x f fd ps) (ha:QA X (e :: es) t) (hg:Gl X x:=by rfl) (hdb:(x == ("__debug__":Str))=false:=by decide) (he:starEach (e :: es) X.env=(false,eval e X.env) :: starEach es X.env:=by rfl) (hpl:(backTo pos (starEach es X.env)).any (·.1)=false:=by rfl):QE X (.Call (.Name x p) (e :: es) [] pos) (A84 sp [] E0 t):=A9g F hr hg c.m c.k c.b .nil B9p ha hdb he hpl
theorem qgn {X:Cx} (i:Nat) {P:List Str} {sc:Scope} {x:Str} {pos:Pos} (S:FnScope X.N P sc) (hi:X.N[i]?=some x:=by rfl) (hx:Loc X.env.scope x:=by exact Or.inl rfl) (hf:X.fn x=true\/X.env.scope.names.lookup x=some .local:=by first | exact .inl rfl | exact .inr rfl | assumption):QG X (.Name x pos) (K2 i):=A1j S.nd hi hx hf
theorem qgc {X:Cx} (i:Nat) (N:List Str) {x:Str} {pos:Pos} (hN:X.N=N:=by exact rfl) (hd:N.Nodup:=by decide +kernel) (hi:X.N[i]?=some x:=by exact rfl) (hx:Loc X.env.scope x:=by exact Or.inl rfl) (hf:X.fn x=true\/X.env.scope.names.lookup x=some .local:=by exact Or.inr rfl):QG X (.Name x pos) (K2 i):=A1j (hN ▸ hd) hi hx hf
theorem qst {X:Cx} (i:Nat) {P:List Str} {sc:Scope} {x:Str} {e:Expr} {te:TE} {pos pos':Pos} (S:FnScope X.N P sc) (he:QE X e te) (hi:X.N[i]?=some x:=by rfl) (hx:Loc X.env.scope x:=by exact Or.inl rfl) (hs:swapsWith e (some (.Name x pos')) pos.line X.env=pure false:=by rfl) (hf:X.fn x=true\/X.env.scope.names.lookup x=some .local:=by first | exact .inl rfl | exact .inr rfl | assumption):QS X (.Assign [.Name x pos'] e pos) (tAsg te (K2 i)):=Z9 S.nd hi hx he hs hf
theorem qln (K:PySem.W.Frag) {X:Cx} {p pos:Pos} {e:Expr} {te:TE} (hm:X.mg "len"=none) (he:QE X e te) (h:X.K=K:=by rfl) (hg:Gl X "len":=by rfl) (hs:starEach [e] X.env=(false,eval e X.env) :: starEach [] X.env:=by rfl) (hpl:(backTo pos (starEach [] X.env)).any (·.1)=false:=by rfl):QE X (.Call (.Name "len" p) [e] [] pos) (tCB (B3t K) (E6 te tNil)):=B1 (A3l h) hg hm PySem.boot_len (A0 he A2 hs) (by decide) (by decide) hs hpl
theorem qix (K:PySem.W.Frag) {X:Cx} {a b:Expr} {ta tb:TE} {pos:Pos} (ha:QE X a ta) (hb:QE X b tb) (h:X.K=K:=by rfl) (hs:A0w b:=by exact fun _ _=>rfl):QE X (.Subscript a b pos) (tOp (rIx K) ta tb):=B6l (B5c h) ha hb hs
theorem _root_.L2.Fun.b1 {K:PySem.W.Frag} {x q:Str} {st:Stmt} {f:Addr} {fd:FuncData} {a:Str} (F:L2.Fun K x q st f fd) (h:∀ (kV doc pm:Value) (an:Option Addr) (cdv ct u:Value),bindArgs (PySem.W.fnOf x q (D7 st) (C5 st) (A6 st) .none kV doc pm an cdv ct) ⟨[u],[]⟩=pure [(a,u)]:=by intros; rfl):Binds K fd [a] []:=F.binds (ps:=[a]) fun _ _ _ _ _ _ us hl=>by obtain ⟨_,rfl⟩:=us1 hl; exact h ..
theorem _root_.L2.Fun.b2 {K:PySem.W.Frag} {x q:Str} {st:Stmt} {f:Addr} {fd:FuncData} {a b:Str} (F:L2.Fun K x q st f fd) (h:∀ (kV doc pm:Value) (an:Option Addr) (cdv ct u v:Value),bindArgs (PySem.W.fnOf x q (D7 st) (C5 st) (A6 st) .none kV doc pm an cdv ct) ⟨[u,v],[]⟩=pure [(a,u),(b,v)]:=by intros; rfl):Binds K fd [a,b] []:=F.binds (ps:=[a,b]) fun _ _ _ _ _ _ us hl=>by obtain ⟨_,_,rfl⟩:=us2 hl; exact h ..
def Zz:=@Pu.spOf.len
section
variable {K:PySem.W.Frag} {mg:Str->Option Value} {D:Adr}
theorem sc_commonpart:FnScope ["one","other"] ["one","other"] (A6 s_commonpart):=scI
theorem J3 (T:Txt K mg D):KCl K mg "common_part" D.a_commonpart D.d_commonpart ["one","other"]:=⟨T.m_commonpart,T.B.F_commonpart.kp,T.B.F_commonpart.b2⟩
theorem sc_product:FnScope ["one","other","mine","theirs"] ["one","other"] (A6 s_product):=scI
theorem A8q (T:Txt K mg D):KCl K mg "product" D.a_product D.d_product ["one","other"]:=⟨T.m_product,T.B.F_product.kp,T.B.F_product.b2⟩
theorem sc_shownwhole:FnScope ["number","chunks","left","chunk","figures"] ["number"] (A6 s_shownwhole):=scI
theorem F2 (T:Txt K mg D):KCl K mg "shown_whole" D.a_shownwhole D.d_shownwhole ["number"]:=⟨T.m_shownwhole,T.B.F_shownwhole.kp,T.B.F_shownwhole.b1⟩
theorem sc_shownratio:FnScope ["one","top","bottom"] ["one"] (A6 s_shownratio):=scI
theorem N9 (T:Txt K mg D):KCl K mg "shown_ratio" D.a_shownratio D.d_shownratio ["one"]:=⟨T.m_shownratio,T.B.F_shownratio.kp,T.B.F_shownratio.b1⟩
theorem sc_wholein:FnScope ["text","figures","number"] ["text"] (A6 s_wholein):=scI
theorem Y6 (T:Txt K mg D):KCl K mg "whole_in" D.a_wholein D.d_wholein ["text"]:=⟨T.m_wholein,T.B.F_wholein.kp,T.B.F_wholein.b1⟩
theorem sc_ratioin:FnScope ["text","left","slash","right","top","bottom"] ["text"] (A6 s_ratioin):=scI
theorem Y7 (T:Txt K mg D):KCl K mg "ratio_in" D.a_ratioin D.d_ratioin ["text"]:=⟨T.m_ratioin,T.B.F_ratioin.kp,T.B.F_ratioin.b1⟩
theorem sc_readratio:FnScope ["text","one"] ["text"] (A6 s_readratio):=scI
theorem G6 (T:Txt K mg D):KCl K mg "read_ratio" D.a_readratio D.d_readratio ["text"]:=⟨T.m_readratio,T.B.F_readratio.kp,T.B.F_readratio.b1⟩
theorem sc_Lbegun:FnScope ["_law_script","_law_k","_law_cell"] ["_law_script","_law_k"] (A6 s_Lbegun):=scI
theorem B0j (T:Txt K mg D):KCl K mg "_law_begun" D.a_Lbegun D.d_Lbegun ["_law_script","_law_k"]:=⟨T.m_Lbegun,T.B.F_Lbegun.kp,T.B.F_Lbegun.b2⟩
theorem sc_Ltake:FnScope ["_law_state","_law_many","_law_digit","_law_made","_law_turn"] ["_law_state","_law_many"] (A6 s_Ltake):=scI
theorem G7 (T:Txt K mg D):KCl K mg "_law_take" D.a_Ltake D.d_Ltake ["_law_state","_law_many"]:=⟨T.m_Ltake,T.B.F_Ltake.kp,T.B.F_Ltake.b2⟩
theorem sc_Llow:FnScope ["_law_top","_law_bottom","_law_one","_law_other"] ["_law_top","_law_bottom"] (A6 s_Llow):=scI
theorem B83 (T:Txt K mg D):KCl K mg "_law_low" D.a_Llow D.d_Llow ["_law_top","_law_bottom"]:=⟨T.m_Llow,T.B.F_Llow.kp,T.B.F_Llow.b2⟩
theorem sc_Lsame:FnScope ["_law_found","_law_due","_law_one","_law_other"] ["_law_found","_law_due"] (A6 s_Lsame):=scI
theorem N4 (T:Txt K mg D):KCl K mg "_law_same" D.a_Lsame D.d_Lsame ["_law_found","_law_due"]:=⟨T.m_Lsame,T.B.F_Lsame.kp,T.B.F_Lsame.b2⟩
theorem sc_Lfigures:FnScope ["_law_number","_law_found"] ["_law_number"] (A6 s_Lfigures):=scI
theorem R4 (T:Txt K mg D):KCl K mg "_law_figures" D.a_Lfigures D.d_Lfigures ["_law_number"]:=⟨T.m_Lfigures,T.B.F_Lfigures.kp,T.B.F_Lfigures.b1⟩
theorem sc_Lfraction:FnScope ["_law_state","_law_way","_law_top","_law_bottom","_law_one"] ["_law_state"] (A6 s_Lfraction):=scI
theorem A0u (T:Txt K mg D):KCl K mg "_law_fraction" D.a_Lfraction D.d_Lfraction ["_law_state"]:=⟨T.m_Lfraction,T.B.F_Lfraction.kp,T.B.F_Lfraction.b1⟩
theorem sc_Ltext:FnScope ["_law_one","_law_found"] ["_law_one"] (A6 s_Ltext):=scI
theorem A8r (T:Txt K mg D):KCl K mg "_law_text" D.a_Ltext D.d_Ltext ["_law_one"]:=⟨T.m_Ltext,T.B.F_Ltext.kp,T.B.F_Ltext.b1⟩
theorem sc_Lodd:FnScope ["_law_turn","_law_some"] ["_law_turn"] (A6 s_Lodd):=scI
theorem B82 (T:Txt K mg D):KCl K mg "_law_odd" D.a_Lodd D.d_Lodd ["_law_turn"]:=⟨T.m_Lodd,T.B.F_Lodd.kp,T.B.F_Lodd.b1⟩
theorem sc_Lstrange:FnScope ["_law_text_here","_law_turn","_law_signs","_law_at"] ["_law_text_here","_law_turn"] (A6 s_Lstrange):=scI
theorem A3n (T:Txt K mg D):KCl K mg "_law_strange" D.a_Lstrange D.d_Lstrange ["_law_text_here","_law_turn"]:=⟨T.m_Lstrange,T.B.F_Lstrange.kp,T.B.F_Lstrange.b2⟩
theorem sc_Lislonger:FnScope ["_law_one","_law_other","_law_long","_law_text_here"] ["_law_one","_law_other"] (A6 s_Lislonger):=scI
theorem A0t (T:Txt K mg D):KCl K mg "_law_is_longer" D.a_Lislonger D.d_Lislonger ["_law_one","_law_other"]:=⟨T.m_Lislonger,T.B.F_Lislonger.kp,T.B.F_Lislonger.b2⟩
theorem sc_Lisrefused:FnScope ["_law_thing","_law_row","e","_law_kinds"] ["_law_thing"] (A6 s_Lisrefused):=scI
theorem F4 (T:Txt K mg D):KCl K mg "_law_is_refused" D.a_Lisrefused D.d_Lisrefused ["_law_thing"]:=⟨T.m_Lisrefused,T.B.F_Lisrefused.kp,T.B.F_Lisrefused.b1⟩
theorem sc_law:FnScope ["_law_script","_law_cells","_law_before","_law_k","_law_state","_law_one","_law_text_here","_law_at","_law_bent"] ["_law_script"] (A6 s_law):=scI
end
theorem sc_NoTextinit:FnScope ["self","row"] ["self","row"] (A6 s_NoTextinit):=scI
theorem hd {a b:PSt} {D:PEnds} {e:PEnv} (h:∀ R,R=b->pSeq a R D e):pSeq a b D e:=h b rfl
theorem A0y {pt:PTt} {pb R:PSt} {D:PEnds} {env:PEnv} (Iv:Nat->PEnv->Prop) (h0:∃ m,Iv m env) (h:∀ m e,Iv m e->pt e fun b e2=>if b=true then pb ⟨fun e3=>∃ m',m' < m/\Iv m' e3,D.rt,R D,fun e3=>∃ m',m' < m/\Iv m' e3⟩ e2 else R D e2):pSeq (A1r pt pb) R D env:=⟨Iv,h0,h⟩
theorem B5v {pt:PTt} {a b:PSt} {D':PEnds} {N:PEnv->Prop} {e:PEnv} (P:PEnv->Prop) (h2:∀ e',P e'->b D' e') (h1:∀ R:PSt,(∀ e',P e'->R D' e')->pt e fun t e2=>if t=true then pSeq a R D' e2 else N e2):pt e fun t e2=>if t=true then pSeq a b D' e2 else N e2:=h1 b h2
theorem O6 {a b:PSt} {D:PEnds} {e:PEnv} (P:PEnv->Prop) (h1:∀ R:PSt,(∀ e',P e'->R D e')->pSeq a R D e) (h2:∀ e',P e'->b D e'):pSeq a b D e:=h1 b h2
abbrev sO (l:List Nat):Str:=⟨l.toArray⟩
theorem C6 (a b:List Nat):sO a++sO b=sO (a++b):=by
  show Str.mk (a.toArray++b.toArray)=Str.mk _;rw [List.append_toArray]
theorem B0 (a:List Nat):(sO a).length=a.length:=by show a.toArray.size=_; simp
theorem B6b {a b:List Nat} (h:sO a=sO b):a=b:=by
  have:=congrArg (fun z:Str=>z.cps.toList) h;simpa using this
theorem B6a (s:String):Str.ofString s=sO (s.toList.map Char.toNat):=Str.ofString_eq_toList s
def cutS (c:Nat):List Nat->Option (List Nat × List Nat)
  | []=>none
  | x :: r=>if x=c then some ([],r) else match cutS c r with
    | none=>none
    | some p=>some (x :: p.1,p.2)
theorem P7 {c:Nat}:∀ {l:List Nat},c ∉ l->cutS c l=none
  | [],_=>rfl
  | x :: r,h=>by
    unfold cutS;rw [if_neg (fun e:x=c=>h (by rw [e]; exact Zy)),P7 fun m=>h (Zr _ m)]
theorem T8 {c:Nat}:∀ {a b:List Nat},c ∉ a->cutS c (a++c :: b)=some (a,b)
  | [],b,_=>by show cutS c (c :: b)=_; unfold cutS; rw [if_pos rfl]
  | x :: r,b,h=>by
    show cutS c (x :: (r++c :: b))=_;unfold cutS;rw [if_neg (fun e:x=c=>h (by rw [e]; exact Zy)),T8 fun m=>h (Zr _ m)]
theorem X4 {c:Nat}:∀ {l:List Nat} {p:List Nat × List Nat},cutS c l=some p->l=p.1++c :: p.2/\c ∉ p.1
  | [],_,h=>by cases h
  | x :: r,p,h=>by
    unfold cutS at h;split at h
    · rename_i e; cases h; exact ⟨by rw [e]; rfl,List.not_mem_nil⟩
    · rename_i e
      split at h
      · cases h
      · rename_i q hq
        cases h;obtain ⟨h1,h2⟩:=X4 hq;exact ⟨by show x :: r=x :: (q.1++c :: q.2); rw [<- h1],fun m=>by
          rcases List.mem_cons.mp m with m | m
          · exact e m.symm
          · exact h2 m⟩
def parS (c:Nat) (l:List Nat):List Nat × List Nat × List Nat:=match cutS c l with
  | none=>(l,[],[])
  | some (a,b)=>(a,[c],b)
theorem B4h (c:Nat) (l:List Nat):Txt.partition (sO l) (sO [c])=(sO (parS c l).1,sO (parS c l).2.1,sO (parS c l).2.2):=by
  unfold Txt.partition parS;rcases PySem.StrLaws.occ_head (sO l) (sO [c]) 1 (Zv 1) with ⟨h0,hn⟩ | ⟨i,r,h0,hi,hn⟩
  · rw [h0]
    have:c ∉ l:=fun hm=>by
      obtain ⟨j,hj⟩:=List.getElem?_of_mem hm;exact hn j ((PySem.StrLaws.subAt_one (sO l) c j).mpr (by simpa using hj))
    rw [P7 this]; rfl
  · rw [h0]
    have hi':l[i]?=some c:=by simpa using (PySem.StrLaws.subAt_one (sO l) c i).mp hi
    have hn':∀ k,k < i->l[k]?≠some c:=fun k hk e=>hn k hk ((PySem.StrLaws.subAt_one (sO l) c k).mpr (by simpa using e));obtain ⟨hil,hic⟩:=Zs hi';have el:l=l.take i++c :: l.drop (i + 1):=by rw [<- hic,List.getElem_cons_drop,List.take_append_drop]
    have nm:c ∉ l.take i:=fun m=>by
      obtain ⟨j,hj⟩:=List.getElem?_of_mem m;rw [List.getElem?_take] at hj;split at hj
      · rename_i q; exact hn' j q hj
      · cases hj
    have ec:cutS c l=some (l.take i,l.drop (i + 1)):=by
      conv=>lhs; rw [el]
      exact T8 nm
    rw [ec];show (Builtin.Str.strSub _ _ _,_,Builtin.Str.strSub _ _ _)=_;rw [PyProof.Rows.strSub_mk,PyProof.Rows.strSub_mk];have e1:((sO l).cps.toList.drop 0).take (i - 0)=l.take i:=by simp
    have e2:((sO l).cps.toList.drop (i + (sO [c]).length)).take ((sO l).length - (i + (sO [c]).length))=l.drop (i + 1):=by
      show (l.drop (i + 1)).take ((sO l).length - (i + 1))=_;rw [B0];exact List.take_of_length_le (by rw [List.length_drop]; exact Zv _)
    rw [e1,e2]
theorem A21 (c:Nat) (l:List Nat):Txt.startswith (sO l) (sO [c])=(l.head? == some c):=by
  unfold Txt.startswith;rw [PySem.StrLaws.subAt_eq];cases l with
  | nil=>rfl
  | cons x r =>
    have e1:(sO [c]).length=1:=rfl;have e2:(sO (x :: r)).length=r.length + 1:=by rw [B0]; rfl
    rw [e1,e2];show (decide (0 + 1<=r.length + 1) && ([x] == [c]))=(some x == some c);rw [Zk (by omega),Bool.true_and];by_cases h:x=c
    · subst h; simp
    · have h1:([x] == [c])=false:=by simp [h]
      have h2:(some x == some c)=false:=by simp [h]
      rw [h1,h2]
theorem A22 (x:Nat) (r:List Nat):Txt.slice (sO (x :: r)) (some 1) none=sO r:=by
  rw [PyProof.Rows.slice_from_eq (b:=((x :: r).length:Int)) (by decide) (by rw [B0]; simp; omega) (by rw [B0])];have:(((x :: r).length:Int) - 1).toNat=r.length:=by simp
  rw [this];show (⟨((((x :: r).drop 1)).take r.length).toArray⟩:Str)=_;simp
def dgs (n:Nat):List Nat:=(Nat.toDigits 10 n).map Char.toNat
theorem M1 {n:Nat} (h:n < 10):dgs n=[48 + n]:=by
  unfold dgs;rw [Nat.toDigits_of_lt_base h];have:∀ d:Nat,d < 10->(Nat.digitChar d).toNat=48 + d:=by decide
  show [(Nat.digitChar n).toNat]=_;rw [this n h]
theorem A2s {q d:Nat} (hq:0 < q) (hd:d < 10):dgs (10 * q + d)=dgs q++[48 + d]:=by
  have e:=Nat.toDigits_append_toDigits (b:=10) (n:=q) (d:=d) (by decide) hq hd;unfold dgs;rw [<- e,Zc];have:=M1 hd;unfold dgs at this;rw [this]
theorem K3 {n:Nat} (h:10<=n):dgs n=dgs (n / 10)++[48 + n % 10]:=by
  rw [<- A2s (by omega) (Nat.mod_lt n (by decide)),Nat.div_add_mod]
theorem R0 (n:Nat):dgs n≠[]:=by
  by_cases h:n < 10
  · rw [M1 h]; simp
  · rw [K3 (by omega)]; simp
theorem K4 (n:Nat):∀ c ∈ dgs n,48<=c/\c<=57:=by
  induction n using Nat.strongRecOn with
  | _ n ih =>
    intro c hc;by_cases h:n < 10
    · rw [M1 h] at hc
      have:=Zn hc;omega
    · rw [K3 (by omega)] at hc
      rcases Za hc with hc | hc
      · exact ih (n / 10) (by omega) c hc
      · have:=Zn hc
        have:=Nat.mod_lt n (show 0 < 10 by decide);omega
theorem B5k (n:Nat):PySem.NumText.digitsVal (dgs n)=n:=PySem.W.KIN.val_back n
theorem dgs_len {k n:Nat}:n < 10 ^ (k + 1) ↔ (dgs n).length<=k + 1:=by
  induction k generalizing n with
  | zero =>
    by_cases h:n < 10
    · rw [M1 h]; simp; omega
    · rw [K3 (by omega),Ze]
      have:=List.length_pos_iff.mpr (R0 (n / 10));simp only [List.length_cons,List.length_nil];constructor
      · intro z; omega
      · intro z; omega
  | succ k ih =>
    by_cases h:n < 10
    · rw [M1 h]
      have:10 ^ (k + 1 + 1) ≥ 10:=by rw [Nat.pow_succ]; exact Nat.le_mul_of_pos_left 10 (Nat.pow_pos (by decide))
      simp only [List.length_cons,List.length_nil];constructor
      · intro; omega
      · intro; omega
    · rw [K3 (by omega),Ze]
      simp only [List.length_cons,List.length_nil];have:=ih (n:=n / 10);rw [show 10 ^ (k + 1 + 1)=10 * 10 ^ (k + 1) by rw [Nat.pow_succ,Nat.mul_comm]];constructor
      · intro z
        have:=this.mp (by omega);omega
      · intro z
        have:=this.mpr (by omega);omega
def padN:Nat->Nat->List Nat
  | 0,_=>[]
  | k + 1,m=>padN k (m / 10)++[48 + m % 10]
theorem A8b:∀ {k q r:Nat},0 < q->r < 10 ^ k->dgs (10 ^ k * q + r)=dgs q++padN k r
  | 0,q,r,_,hr=>by
    have:r=0:=by simpa using hr
    subst this;simp [padN]
  | k + 1,q,r,hq,hr=>by
    have e1:10 ^ (k + 1) * q + r=10 * (10 ^ k * q + r / 10) + r % 10:=by
      have:=Nat.div_add_mod r 10;rw [Nat.pow_succ,Nat.mul_comm (10 ^ k) 10,Nat.mul_assoc];omega
    have hr':r / 10 < 10 ^ k:=by rw [Nat.pow_succ] at hr; omega
    have hp:0 < 10 ^ k * q:=Nat.mul_pos (Nat.pow_pos (by decide)) hq;rw [e1,A2s (by omega) (Nat.mod_lt r (by decide)),A8b hq hr'];show _=dgs q++(padN k (r / 10)++[48 + r % 10]);rw [List.append_assoc]
theorem V8:∀ k:Nat,padN k 0=List.replicate k 48
  | 0=>rfl
  | k + 1=>by show padN k (0 / 10)++[48 + 0 % 10]=_; rw [Nat.zero_div,V8 k,List.replicate_succ']
theorem A4z:∀ {k m:Nat},m < 10 ^ (k + 1)->padN (k + 1) m=List.replicate (k + 1 - (dgs m).length) 48++dgs m
  | 0,m,h=>by
    rw [M1 (by omega)];show padN 0 (m / 10)++[48 + m % 10]=_;have:m % 10=m:=by omega
    rw [this]; rfl
  | k + 1,m,h=>by
    show padN (k + 1) (m / 10)++[48 + m % 10]=_;by_cases hm:m < 10
    · have e0:m / 10=0:=by omega
      have e1:m % 10=m:=by omega
      rw [e0,e1,V8,M1 hm]; rfl
    · have h':m / 10 < 10 ^ (k + 1):=by
        rw [show 10 ^ (k + 1 + 1)=10 * 10 ^ (k + 1) by rw [Nat.pow_succ,Nat.mul_comm]] at h;omega
      rw [A4z h',K3 (by omega:10<=m),Ze,List.append_assoc];simp only [List.length_cons,List.length_nil];congr 2
      omega
theorem A8y {m:Nat} (h:m < 10 ^ 18):Txt.zfill (sO (dgs m)) 18=sO (padN 18 m):=by
  have hl:(dgs m).length<=18:=dgs_len.mp h;rw [A4z h];unfold Txt.zfill;rw [B0];split
  · rename_i z
    have:(dgs m).length=18:=by omega
    rw [this]; rfl
  · have hd:=K4 m
    cases e:dgs m with
    | nil=>exact absurd e (R0 m)
    | cons c r =>
      have hc:=hd c (by rw [e]; exact Zy);have:PySem.zfilled (sO (c :: r)) ((18:Int).toNat - (c :: r).length)=Builtin.Str.padded (sO (c :: r)) ((18:Int).toNat - (c :: r).length) 0 48:=by
        unfold PySem.zfilled;split
        · rename_i q; have:c=43:=by simpa using q
          omega
        · rename_i q; have:c=45:=by simpa using q
          omega
        · rfl
      rw [this];unfold Builtin.Str.padded;show Str.mk _=Str.mk _;congr 1
      apply Array.toList_inj.mp;simp
def whL (n:Int):List Nat:=if n < 0 then 45 :: dgs n.natAbs else dgs n.natAbs
theorem N5 {n:Int} (h:0<=n):Str.ofString (toString n)=sO (dgs n.natAbs):=by
  obtain ⟨m,rfl⟩:=Zi h;rw [B6a];have:(toString ((m:Nat):Int)).toList=Nat.toDigits 10 m:=by
    show (Int.repr _).toList=_;unfold Int.repr;show (Nat.repr m).toList=_;unfold Nat.repr;simp
  rw [this]; rfl
def C8:List Nat->List Nat
  | []=>[]
  | c :: r=>if c=45 then r else c :: r
def digB (c:Nat):Bool:=decide (48<=c) && decide (c<=57)
def valL (l:List Nat):Int:=if l.head?=some 45 then -((PySem.NumText.digitsVal (C8 l):Nat):Int) else ((PySem.NumText.digitsVal (C8 l):Nat):Int)
def wIn (l:List Nat):Option Int:=if 1<=(C8 l).length/\(C8 l).length<=60/\(C8 l).all digB=true then (if whL (valL l)=l then some (valL l) else none) else none
theorem A0s (n:Int):C8 (whL n)=dgs n.natAbs:=by
  unfold whL;split
  · show (if 45=45 then dgs n.natAbs else 45 :: dgs n.natAbs)=_; rw [if_pos rfl]
  · cases e:dgs n.natAbs with
    | nil=>exact absurd e (R0 _)
    | cons c r =>
      have:=K4 n.natAbs c (by rw [e]; exact Zy);show (if c=45 then _ else _)=_;rw [if_neg (by omega)]
theorem B5x (n:Int):valL (whL n)=n:=by
  unfold valL;rw [A0s,B5k];unfold whL;split
  · rename_i h
    rw [if_pos (by rfl)]; omega
  · rename_i h
    rw [if_neg]
    · omega
    · cases e:dgs n.natAbs with
      | nil=>exact absurd e (R0 _)
      | cons c r =>
        have:=K4 n.natAbs c (by rw [e]; exact Zy);intro z;have:c=45:=by simpa using z
        omega
theorem B5j (n:Nat):(dgs n).all digB=true:=List.all_eq_true.mpr fun c hc=>by
  have:=K4 n c hc;unfold digB;rw [Zk this.1,Zk this.2]; rfl
theorem A3q {n:Int} (h:(dgs n.natAbs).length<=60):wIn (whL n)=some n:=by
  unfold wIn;rw [A0s,B5x,if_pos ⟨List.length_pos_iff.mpr (R0 _),h,B5j _⟩,if_pos rfl]
theorem A00 {n:Int} (h:60 < (dgs n.natAbs).length):wIn (whL n)=none:=by
  unfold wIn;rw [A0s,if_neg fun z=>by omega]
theorem A3r {c:Nat} {l:List Nat} (hc:c ∈ l) (h1:digB c=false) (h2:c≠45):wIn l=none:=by
  have hb:c ∈ C8 l:=by
    cases l with
    | nil=>cases hc
    | cons x r =>
      show c ∈ (if x=45 then r else x :: r);by_cases e:x=45
      · rw [if_pos e]
        rcases List.mem_cons.mp hc with m | m
        · exact absurd (m.trans e) h2
        · exact m
      · rw [if_neg e]; exact hc
  unfold wIn;rw [if_neg];intro z;have:=List.all_eq_true.mp z.2.2 c hb;rw [h1] at this;cases this
def rIn (l:List Nat):Option (Int × Int) :=
  match wIn (parS 47 l).1,(if (parS 47 l).2.1=[47] then wIn (parS 47 l).2.2 else some 1) with
  | some t,some b=>if (parS 47 l).2.1=[47]/\(b < 2\/((Int.gcd t b:Nat):Int)≠1) then none else some (t,b)
  | _,_=>none
def rtL (q:Rat):List Nat:=whL q.num++(if 1 < q.den then 47 :: dgs q.den else [])
theorem R7 (n:Int):∀ c ∈ whL n,c=45\/(48<=c/\c<=57):=fun c hc=>by
  unfold whL at hc;split at hc
  · rcases List.mem_cons.mp hc with m | m
    · exact .inl m
    · exact .inr (K4 _ c m)
  · exact .inr (K4 _ c hc)
theorem B5w (n:Int):47 ∉ whL n:=fun m=>by
  rcases R7 n 47 m with h | h <;> omega
theorem B04 (q:Rat):parS 47 (rtL q)=if 1 < q.den then (whL q.num,[47],dgs q.den) else (whL q.num,[],[]):=by
  unfold rtL;by_cases h:1 < q.den
  · rw [if_pos h,if_pos h]
    unfold parS;rw [T8 (B5w _)]
  · rw [if_neg h,if_neg h,List.append_nil]
    unfold parS;rw [P7 (B5w _)]
theorem A0x (n:Nat):whL (n:Int)=dgs n:=by
  unfold whL;rw [if_neg (by omega)]; rfl
theorem B5l {q:Rat} (h:¬ 1 < q.den):q.den=1:=by have:=q.den_pos; omega
theorem B0v {q:Rat} (h1:(dgs q.num.natAbs).length<=60) (h2:(dgs q.den).length<=60):rIn (rtL q)=some (q.num,(q.den:Int)):=by
  unfold rIn;rw [B04];by_cases h:1 < q.den
  · simp only [if_pos h]
    have e2:wIn (dgs q.den)=some (q.den:Int):=by rw [<- A0x]; exact A3q (by simpa using h2)
    rw [A3q h1,if_pos True.intro,e2];show (if _ then _ else _)=_;rw [if_neg];rintro ⟨_,z | z⟩
    · omega
    · apply z
      have:=q.reduced;have:Int.gcd q.num (q.den:Int)=1:=this;rw [this]; rfl
  · simp only [if_neg h]
    rw [A3q h1,if_neg (by simp)];show (if _ then _ else _)=_;rw [if_neg (by simp),B5l h]; rfl
theorem A9b {q:Rat} (h:60 < (dgs q.num.natAbs).length\/(1 < q.den/\60 < (dgs q.den).length)):rIn (rtL q)=none:=by
  unfold rIn;rw [B04];by_cases h1:60 < (dgs q.num.natAbs).length
  · have e1:=A00 h1
    by_cases h2:1 < q.den
    · simp only [if_pos h2,e1]
    · simp only [if_neg h2,e1]
  · obtain ⟨h2,h3⟩:=h.resolve_left h1
    have e2:wIn (dgs q.den)=none:=by rw [<- A0x]; exact A00 (by simpa using h3)
    simp only [if_pos h2,e2];cases wIn (whL q.num) <;> rfl
theorem A4y (c:Nat) (l:List Nat):(parS c l).1++(parS c l).2.1++(parS c l).2.2=l/\(((parS c l).2.1=[]/\(parS c l).2.2=[])\/(parS c l).2.1=[c]):=by
  unfold parS;cases h:cutS c l with
  | none=>exact ⟨by simp,.inl ⟨rfl,rfl⟩⟩
  | some p =>
    obtain ⟨h1,_⟩:=X4 h;exact ⟨by rw [h1]; simp,.inr rfl⟩
theorem B3v {c:Nat} {l:List Nat} (hc:c ∈ l) (h1:digB c=false) (h2:c≠45) (h3:c≠47):rIn l=none:=by
  obtain ⟨e,k⟩:=A4y 47 l;unfold rIn;rw [<- e,List.append_assoc] at hc;rcases Za hc with m | m
  · rw [A3r m h1 h2]
  · rcases k with ⟨k1,k2⟩ | k
    · rw [k1,k2] at m; cases m
    · rw [k] at m ⊢
      rcases Za m with m | m
      · exact absurd (Zn m) h3
      · simp only [if_true]
        rw [A3r m h1 h2];cases wIn (parS 47 l).1 <;> rfl
def oI:Option Int->PyData
  | none=>.none
  | some n=>.int n
def oR:Option (Int × Int)->PyData
  | none=>.none
  | some p=>.tuple [.int p.1,.int p.2]
theorem B0s {q:Rat} {a b:Nat} (h1:q.num.natAbs < 10 ^ (a + 1)) (h2:q.den < 10 ^ (b + 1)):(rtL q).length<=a + b + 4:=by
  have e1:=dgs_len.mp h1;have e2:=dgs_len.mp h2;unfold rtL whL;rw [Ze];split <;> split <;> simp only [List.length_cons,List.length_nil] <;> omega
theorem m45:Str.ofString "-"=sO [45]:=by decide +kernel
theorem m47:Str.ofString "/"=sO [47]:=by decide +kernel
theorem mE:Str.ofString ""=sO []:=by decide +kernel
theorem mFig:Str.ofString "0123456789"=sO [48,49,50,51,52,53,54,55,56,57]:=by decide +kernel
theorem A1c (l:List Nat):A4a (sO l)=l.map sgn:=rfl
theorem B80 (c:Nat):(!(Builtin.Str.occurrences (sO [48,49,50,51,52,53,54,55,56,57]) ⟨#[c]⟩ 0 (sO [48,49,50,51,52,53,54,55,56,57]).length 1).isEmpty)=digB c:=by
  rw [PySem.StrLaws.found_one];unfold digB;rw [<- Bool.decide_and];refine decide_eq_decide.mpr ?_;show c ∈ [48,49,50,51,52,53,54,55,56,57] ↔ _;simp only [List.mem_cons,List.not_mem_nil,or_false];omega
theorem M0 {l:List Nat} (h:∀ c ∈ l,c < 128):(PyData.str (sO l)).canLay0=true:=by
  show PyData.strOk (sO l)=true;unfold PyData.strOk;show l.toArray.all (fun x=>decide (x < 1114112))=true;rw [List.all_toArray];exact List.all_eq_true.mpr fun c hc=>Zk (Nat.lt_trans (h c hc) (by decide))
theorem A2q (a b:List Nat):(PyData.str (sO a)).eqv (.str (sO b))=decide (a=b):=by
  show (sO a == sO b)=_;by_cases h:a=b
  · rw [h,Zk rfl]; simp
  · rw [Zd h]
    exact beq_eq_false_iff_ne.mpr fun z=>h (B6b z)
theorem B0n:∀ (n:Nat) {l:List Nat},l.length=n->(∀ c ∈ l,48<=c/\c<=57)->PySem.NumText.digitsVal l < 10 ^ l.length
  | 0,l,hn,_=>by rw [List.length_eq_zero_iff.mp hn]; decide
  | n + 1,l,hn,h=>by
    have ne:l≠[]:=fun z=>by rw [z] at hn; cases hn
    have e:=List.dropLast_concat_getLast ne;have hl:l.dropLast.length=n:=by rw [List.length_dropLast,hn]; rfl
    have h1:=B0n n hl fun d hd=>h d (List.dropLast_subset l hd);have h2:=h (l.getLast ne) (List.getLast_mem ne);rw [<- e,PySem.NumText.digitsVal_snoc,Ze,List.length_singleton,Nat.pow_succ];omega
theorem T7 {l:List Nat} (h:l.all digB=true):∀ c ∈ l,48<=c/\c<=57:=fun c hc=>by
  have:=List.all_eq_true.mp h c hc;unfold digB at this;simp only [Bool.and_eq_true,decide_eq_true_eq] at this;exact this
theorem B8r {l:List Nat} (h:(C8 l).all digB=true) (h1:1<=(C8 l).length) (h2:l.length<=600):PySem.intText? (sO l)=some (valL l):=by
  have hd:=T7 h;have hl:(sO l).length<=4300:=by rw [B0]; omega
  cases l with
  | nil=>exact absurd h1 (by decide)
  | cons c r =>
    by_cases e:c=45
    · subst e
      have eb:C8 (45 :: r)=r:=by
        show (if 45=45 then r else 45 :: r)=r;exact if_pos rfl
      rw [eb] at hd h1;have:=PySem.intText_neg (x:=sO (45 :: r)) (cs:=r) rfl hd (List.length_pos_iff.mp h1) hl;rw [this];unfold valL;rw [if_pos (show (45 :: r).head?=some 45 from rfl),eb]
    · have eb:C8 (c :: r)=c :: r:=if_neg e
      rw [eb] at hd;have:=PySem.intText_digits (x:=sO (c :: r)) hd (by simp) hl;rw [this];unfold valL;rw [if_neg (by simpa using e),eb]
theorem A3t {l:List Nat} (h:(C8 l).all digB=true) (h2:(C8 l).length<=60):(valL l).natAbs < 10 ^ 60:=by
  have:=B0n _ rfl (T7 h);have h3:10 ^ (C8 l).length<=10 ^ 60:=Zp (by decide) h2;unfold valL;split <;> omega
theorem b300 {n:Nat} (h:n < 10 ^ 300):n < 2 ^ 1000:=Nat.lt_of_lt_of_le h (by decide +kernel)
theorem B8c {i:Int} (h:i.natAbs < 10 ^ 300):i.natAbs.log2 < 1920:=Nat.lt_of_lt_of_le (Sm.log (k:=1000) (b300 h) (by decide)) (by decide)
theorem A33 {n:Nat} (h:n < 10 ^ 60):n < 10 ^ 300:=Nat.lt_of_lt_of_le h (by decide +kernel)
theorem A07:∀ ls:List (List Nat),Z5 (ls.map fun l=>PyData.str (sO l))=some (ls.map sO)
  | []=>rfl
  | l :: r=>by
    show (Z5 (r.map fun l=>PyData.str (sO l))).map (sO l :: ·)=_;rw [A07 r]; rfl
theorem A7y:∀ ls:List (List Nat),(sO []).join (ls.map sO)=sO ls.flatten
  | []=>rfl
  | [a]=>by show sO a=_; simp
  | a :: b :: r=>by
    show sO a++sO []++Str.join (sO []) ((b :: r).map sO)=_;rw [A7y (b :: r),C6,C6]; simp
theorem B0q:∀ ls:List (List Nat),((ls.map sO).map fun z=>z.length + (sO []).length).sum=ls.flatten.length
  | []=>rfl
  | a :: r=>by
    show ((sO a).length + 0) + ((r.map sO).map fun z=>z.length + (sO []).length).sum=_;rw [B0q r,B0]; simp
theorem A1q:∀ (k m:Nat),(padN k m).length=k
  | 0,_=>rfl
  | k + 1,m=>by show (padN k (m / 10)++[48 + m % 10]).length=_; rw [Ze,A1q k]; rfl
theorem A2o {k:Nat}:∀ {ls:List (List Nat)},(∀ l ∈ ls,l.length=k)->ls.flatten.length=k * ls.length
  | [],_=>rfl
  | a :: r,h=>by
    rw [List.flatten_cons,Ze,h a Zy,A2o fun l hl=>h l (Zr _ hl),List.length_cons,Nat.mul_succ,Nat.add_comm]
theorem R1 {n:Nat} (h:n < 10 ^ 300):(dgs n).length<=300:=dgs_len.mp h
theorem P1 (n:Int):(if n < 0 then -n else n)=((n.natAbs:Nat):Int):=by split <;> omega
def strB (c:Nat):Bool:=!digB c && !(c == 45) && !(c == 47) && decide (c < 128)
def OddX:PyData->Prop
  | .str z=>z.length<=600/\rIn z.cps.toList=none
  | .dict _=>False
  | _=>True
theorem B18 {c:Nat} {l:List Nat} (hc:c ∈ l) (hs:strB c=true) (hl:l.length<=600):OddX (.str (sO l)):=by
  unfold strB at hs;simp only [Bool.and_eq_true,Bool.not_eq_true',beq_eq_false_iff_ne,decide_eq_true_eq] at hs;exact ⟨by rw [B0]; exact hl,B3v hc hs.1.1.1 hs.1.1.2 hs.1.2⟩
def oddB:PyData->Bool
  | .str z=>decide (z.cps.size<=100) && (rIn z.cps.toList).isNone
  | .dict _=>false
  | _=>true
theorem B43 {x:PyData} (h:oddB x=true):OddX x:=by
  cases x with
  | str z =>
    unfold oddB at h;simp only [Bool.and_eq_true,decide_eq_true_eq,Option.isNone_iff_eq_none] at h;exact ⟨Zx h.1 (by decide),h.2⟩
  | dict kvs=>cases h
  | _=>exact True.intro
theorem A1e (q:Rat):∀ c ∈ rtL q,c < 128:=fun c hc=>by
  unfold rtL at hc;rcases Za hc with m | m
  · have:=R7 _ c m
    omega
  · split at m
    · rcases List.mem_cons.mp m with m | m
      · omega
      · have:=K4 _ c m
        omega
    · cases m
theorem B9g {q:Rat} (h1:q.num.natAbs < 10 ^ 60) (h2:q.den < 10 ^ 60):(rtL q).length<=130:=by
  have:=B0s (a:=59) (b:=59) h1 h2;omega
theorem B6d {q:Rat} (h1:q.num.natAbs < 10 ^ 120) (h2:q.den < 10 ^ 120):(rtL q).length<=260:=by
  have:=B0s (a:=119) (b:=119) h1 h2;omega
def oddsL:List PyData:=([.str (Str.ofString ""),.str (Str.ofString "-"),.str (Str.ofString "-0"),.str (Str.ofString "+1"),.str (Str.ofString "00"),.str (Str.ofString "01"),.str (Str.ofString "1/"),.str (Str.ofString "/2"),.str (Str.ofString "/"),.str (Str.ofString "1/1"),.str (Str.ofString "2/4"),.str (Str.ofString "0/2"),.str (Str.ofString "1/0"),.str (Str.ofString "1/-2"),.str (Str.ofString "-/2"),.str (Str.ofString "--1"),.str (Str.ofString "1//2")]++[.str (Str.ofString "1/2/3"),.str (Str.ofString "1.5"),.str (Str.ofString "1e3"),.str (Str.ofString " 1"),.str (Str.ofString "1 "),.str (Str.ofString "a"),.str (Str.ofString "1_0"),.str (Str.ofString "0x1"),.str (Str.ofString "-01"),.str (Str.ofString "1/02"),.str (Str.ofString "-1/1"),.str (Str.ofString "-0/3"),.str (Str.ofString "3/6"),.str (Str.ofString "one")])++[.str (Str.ofString "1-"),.str (Str.ofString "1-2"),.str (Str.ofString "2-/3"),.str (Txt.mul (Str.ofString "9") 61),.str ((Str.ofString "-")++(Txt.mul (Str.ofString "9") 61)),.str ((Str.ofString "1/")++(Txt.mul (Str.ofString "7") 61)),.str (((Str.ofString "1")++(Txt.mul (Str.ofString "0") 61))++(Str.ofString "/3"))]++[.none,.int 5,.bool true,.tuple [.int 1,.int 2],.list [.str (Str.ofString "1")]]
theorem A9u:∀ x ∈ oddsL,OddX x:=fun x hx=>B43 (List.all_eq_true.mp (show oddsL.all oddB=true by decide +kernel) x hx)
theorem A8s {P:PyData->Prop} {xs:List PyData} {d:Int} (h:∀ x ∈ xs,P x) (d0:0<=d) (d1:d < xs.length):∃ x,P x/\L2.atI xs d=some x:=by
  obtain ⟨m,rfl⟩:=Zi d0;have hm:m < xs.length:=by omega
  exact ⟨xs[m],h _ (List.getElem_mem hm),J4 (Zg hm)⟩
def strL:List Nat:=[33,34,35,36,38,39,40,41,42,43,46,59,60,61,62,63,64,65,66,67,68,69,70,71,72,73,74,75,76,77,78,79,80,81,82,83,84,85,86,87,88,89,90,92,94,95,96,123,125,126,9]
theorem B3o:strL.all strB=true:=by decide
theorem mStr:Str.ofString "!\"#$&'()*+.;<=>?@ABCDEFGHIJKLMNOPQRSTUVWXYZ\\^_`{}~\t"=sO strL:=by decide +kernel
theorem A1a {l:List Nat} {i:Nat} (h:i<=l.length):Txt.slice (sO l) none (some (i:Int))=sO (l.take i):=by
  have:=PyProof.Rows.slice_closes_to (x:=sO l) (j:=(i:Int)) ⟨Int.natCast_nonneg _,by show (i:Int)<=(l.length:Int); omega⟩;rw [eq_of_beq this];show (⟨((l.drop (0:Int).toNat).take ((i:Int) - 0).toNat).toArray⟩:Str)=_;have e:((i:Int) - 0).toNat=i:=by omega
  rw [e]; rfl
theorem A1b {l:List Nat} {i:Nat} (h:i<=l.length):Txt.slice (sO l) (some (i:Int)) none=sO (l.drop i):=by
  rw [PyProof.Rows.slice_from_eq (b:=(l.length:Int)) (Int.natCast_nonneg _) (by rw [B0]; omega) (by rw [B0])];show (⟨((l.drop (i:Int).toNat).take ((l.length:Int) - (i:Int)).toNat).toArray⟩:Str)=_;have e:((l.length:Int) - (i:Int)).toNat=l.length - i:=by omega
  rw [e,Int.toNat_natCast,List.take_of_length_le (by rw [List.length_drop]; exact Zv _)]
theorem B8f:(PyData.str (sO [47])).canLay0=true:=M0 fun c hc=>by have:=Zn hc; omega
theorem B91:(PyData.str (sO [])).canLay0=true:=M0 fun _ z=>nomatch z
theorem B94 (ns:List Int):cutD (ns.map PyData.int) none (some 63)=(ns.take 63).map .int:=by
  unfold cutD;have e1:HT.sIx (ns.map PyData.int).length 0 none=0:=rfl;have e2:HT.sIx (ns.map PyData.int).length (ns.map PyData.int).length (some 63)=min 63 ns.length:=by unfold HT.sIx; simp
  rw [e1,e2,List.drop_zero,Nat.sub_zero,<- List.map_take];congr 1
  rw [List.take_eq_take_iff]; omega
theorem B48 {p q:Rat} (h1:p.num.natAbs < 10 ^ 60) (h2:p.den < 10 ^ 60) (h3:q.num.natAbs < 10 ^ 60) (h4:q.den < 10 ^ 60):SmQ 3900 p/\SmQ 3900 q/\(p * q).num.natAbs < 10 ^ 120/\(p * q).den < 10 ^ 120:=by
  have b1:10 ^ 60<=2 ^ 200:=by decide +kernel
  have hp:SmR 200 200 p:=⟨Nat.lt_of_lt_of_le h1 b1,Nat.lt_of_lt_of_le h2 b1⟩;have hq:SmR 200 200 q:=⟨Nat.lt_of_lt_of_le h3 b1,Nat.lt_of_lt_of_le h4 b1⟩;refine ⟨hp.q (by decide) (by decide),hq.q (by decide) (by decide),?_,?_⟩
  · have e:(p * q).num=(p.num * q.num) / ((Nat.gcd (p.num * q.num).natAbs (p.den * q.den):Nat):Int):=Rat.num_mul p q
    rw [e];have l1:((p.num * q.num) / ((Nat.gcd (p.num * q.num).natAbs (p.den * q.den):Nat):Int)).natAbs<=(p.num * q.num).natAbs:=by
      rw [Int.natAbs_ediv_of_dvd (Int.ofNat_dvd_left.mpr (Nat.gcd_dvd_left _ _))];exact Nat.div_le_self _ _
    have l2:(p.num * q.num).natAbs < 10 ^ 120:=by
      rw [Int.natAbs_mul];exact Nat.lt_of_lt_of_le (Nat.mul_lt_mul'' h1 h3) (by decide)
    exact Nat.lt_of_le_of_lt l1 l2
  · have e:(p * q).den=(p.den * q.den) / (Nat.gcd (p.num * q.num).natAbs (p.den * q.den)):=Rat.den_mul p q
    rw [e];exact Nat.lt_of_le_of_lt (Nat.div_le_self _ _) (Nat.lt_of_lt_of_le (Nat.mul_lt_mul'' h2 h4) (by decide))
theorem A8a {t b:Int} (hb:0 < b):(Rat.divInt t b).num.natAbs<=t.natAbs/\(Rat.divInt t b).den<=b.natAbs:=by
  rw [Rat.num_divInt,Rat.den_divInt,Int.sign_eq_one_of_pos hb,Int.one_mul,if_neg (by omega)];refine ⟨?_,Nat.div_le_self _ _⟩;rw [Int.natAbs_ediv_of_dvd (Int.gcd_dvd_right ..)];exact Nat.div_le_self _ _
def Pz (x:PyData):Prop:=∃ n:Int,x=.int n/\0 < n/\n<=10 ^ 60
def Pw (x:PyData):Prop:=∃ n:Int,x=.int n/\0 < n/\n < 10 ^ 60
theorem sz {n:Int} (h0:0<=n) (h:n<=10 ^ 60):n.natAbs<=10 ^ 60:=by
  have e:(10:Int) ^ 60=((10 ^ 60:Nat):Int):=by decide +kernel
  rw [e] at h;generalize 10 ^ 60=N at *;omega
theorem smz {n:Int} (h0:0<=n) (h:n<=10 ^ 60):Sm 3000 n:=Nat.lt_of_le_of_lt (sz h0 h) (by decide +kernel)
theorem B3d:∀ x ∈ [PyData.int 3,PyData.int 40,PyData.int (10 ^ Int.toNat 6),PyData.int (10 ^ Int.toNat 30),PyData.int (10 ^ Int.toNat 60)],Pz x:=by
  intro x hx;simp only [List.mem_cons,List.not_mem_nil,or_false] at hx;rcases hx with rfl | rfl | rfl | rfl | rfl
  · exact ⟨_,rfl,by decide +kernel,by decide +kernel⟩
  · exact ⟨_,rfl,by decide +kernel,by decide +kernel⟩
  · exact ⟨_,rfl,by decide +kernel,by decide +kernel⟩
  · exact ⟨_,rfl,by decide +kernel,by decide +kernel⟩
  · exact ⟨_,rfl,by decide +kernel,by decide +kernel⟩
theorem B5n:∀ x ∈ [PyData.int 1,PyData.int 12,PyData.int (10 ^ Int.toNat 60 - 1)],Pw x:=by
  intro x hx;simp only [List.mem_cons,List.not_mem_nil,or_false] at hx;rcases hx with rfl | rfl | rfl
  · exact ⟨_,rfl,by decide +kernel,by decide +kernel⟩
  · exact ⟨_,rfl,by decide +kernel,by decide +kernel⟩
  · exact ⟨_,rfl,by decide +kernel,by decide +kernel⟩
theorem A97 {t b n m:Int} (h0:0<=t) (h1:t < n) (h2:n<=10 ^ 60) (h3:0 < b) (h4:b<=m) (h5:m < 10 ^ 60):(Rat.divInt t b).num.natAbs < 10 ^ 60/\(Rat.divInt t b).den < 10 ^ 60:=by
  obtain ⟨e1,e2⟩:=A8a (t:=t) h3;have e:(10:Int) ^ 60=((10 ^ 60:Nat):Int):=by decide +kernel
  rw [e] at h2 h5;generalize 10 ^ 60=N at *;constructor <;> omega
theorem B51 {n:Nat} (h:n < 10 ^ 120):n < 10 ^ 300:=Nat.lt_of_lt_of_le h (by decide +kernel)
theorem A18:∀ ns:List Int,(PyData.list (ns.map .int)).canLay0=true
  | []=>rfl
  | a :: r=>by show (true && (PyData.list (r.map .int)).canLay0)=true; rw [A18 r]; rfl
theorem B0a (ns:List Int):(PyData.list (ns.map .int)).depth<=60:=by
  have:∀ ns:List Int,PyData.depthAll (ns.map .int)<=0:=fun ns=>by
    induction ns with
    | nil=>exact Zv _
    | cons a r ih=>show max 0 (PyData.depthAll (r.map .int))<=0; omega
  exact Nat.succ_le_succ (Zx (this ns) (by decide))
theorem dgs60 {n:Nat}:n < 10 ^ 60 ↔ (dgs n).length<=60:=dgs_len (k:=59)
theorem B9x {n:Nat} (h:¬ n < 10 ^ 60):1 < n:=by
  have e:1 < 10 ^ 60:=by decide +kernel
  generalize 10 ^ 60=N at *;omega
theorem t60:(10:Int) ^ Int.toNat 60=((10 ^ 60:Nat):Int):=by decide +kernel
theorem smN {n:Nat} (h:n<=1000):Sm 4000 ((n:Nat):Int):=Nat.lt_of_le_of_lt h (Nat.lt_of_lt_of_le (show 1000 < 2 ^ 10 by decide) (Zp (by decide) (by decide)))
theorem B49 {r:Rat} {a b:Prop} (h1:(dgs r.num.natAbs).length<=60->(dgs r.den).length<=60->a) (h2:(60 < (dgs r.num.natAbs).length\/(1 < r.den/\60 < (dgs r.den).length))->b) :
    CPow 10 60/\(if ((r.num.natAbs:Nat):Int) < 10 ^ Int.toNat 60 then CPow 10 60/\(if (r.den:Int) < 10 ^ Int.toNat 60 then a else b) else b):=by
  have hk:CPow 10 60:=N8 60;have d1:=dgs60 (n:=r.num.natAbs);have d2:=dgs60 (n:=r.den);have d3:=B9x (n:=r.den);rw [t60];generalize 10 ^ 60=M at *;refine ⟨hk,?_⟩;by_cases z1:((r.num.natAbs:Nat):Int) < (M:Int)
  · rw [if_pos z1]
    refine ⟨hk,?_⟩;by_cases z2:(r.den:Int) < (M:Int)
    · rw [if_pos z2]
      exact h1 (d1.mp (Int.ofNat_lt.mp z1)) (d2.mp (Int.ofNat_lt.mp z2))
    · rw [if_neg z2]
      have z3:¬ r.den < M:=fun h=>z2 (Int.ofNat_lt.mpr h);exact h2 (.inr ⟨d3 z3,Nat.not_le.mp fun h=>z3 (d2.mpr h)⟩)
  · rw [if_neg z1]
    have z3:¬ r.num.natAbs < M:=fun h=>z1 (Int.ofNat_lt.mpr h);exact h2 (.inl (Nat.not_le.mp fun h=>z3 (d1.mpr h)))
def bentL:List Nat:=[32,43,46,95,97,65,9,10,58,44]
theorem B0h:bentL.all strB=true:=by decide
theorem B9z:Str.ofString " +._aA\t\n:,"=sO bentL:=by decide +kernel
theorem B5r {P:Nat->Prop} {xs:List Nat} {d:Int} (h:∀ x ∈ xs,P x) (d0:0<=d) (d1:d < xs.length):∃ x,P x/\L2.atI xs d=some x:=by
  obtain ⟨m,rfl⟩:=Zi d0;have hm:m < xs.length:=by omega
  exact ⟨xs[m],h _ (List.getElem_mem hm),J4 (Zg hm)⟩
theorem B26 {d:Nat} (h:d < 10):L2.atI [48,49,50,51,52,53,54,55,56,57] (d:Int)=some (48 + d):=by
  have:∀ d:Nat,d < 10->L2.atI [48,49,50,51,52,53,54,55,56,57] (d:Int)=some (48 + d):=by decide
  exact this d h
section
variable {P:Program} {w:World} {K:PySem.W.Frag} {mg:Str->Option Value} {base:Heap} {D:Adr}
theorem G4 (T:Txt K mg D):FnOk P w K mg base CX0 1 D.a_commonpart D.d_commonpart ["one","other"] (Pu.spOf K [.dat,.dat] B6q):=by
  refine T.B.F_commonpart.ok sc_commonpart (Zz rfl) (fun cdv A outer s H vs Q E hr h=>?_);refine ⟨_,(QSs.out (A1 (S2 (i:=0) (j:=1) rfl sc_commonpart.nd rfl rfl (by decide) rfl rfl (A0 (B1 J2 (by rfl) T.z_abs (by rfl) (A0 (qpv 0) A2)) (A0 (B1 J2 (by rfl) T.z_abs (by rfl) (A0 (qpv 1) A2)) A2)) rfl)
      (A1 (K7 PassesOwn.never (A9 (N0 (K:=K) rfl hr.units) (qpv 1) A3 (B5 _))
        (A4 (S2 (i:=0) (j:=1) rfl sc_commonpart.nd rfl rfl (by decide) rfl rfl (A0 (qpv 1) (A0 (A8 J0 (qpv 0) (qpv 1)) A2)) rfl)))
      (A4 (A7 (qpv 0)))))),?_⟩
  refine Pu.J1 h ?_;rintro as Qp ⟨a,b,rfl,k⟩;trivial;refine ⟨fun m e=>∃ x y:Int,e=[some (.d (.int x)),some (.d (.int y))]/\0<=x/\0<=y/\m=y.toNat/\Int.gcd x y=Int.gcd a b,⟨_,_,_,rfl,by split <;> omega,by split <;> omega,rfl,B5f a b⟩,?_⟩
  rintro m e ⟨x,y,rfl,hx,hy,rfl,hg⟩;trivial;refine ite2 (fun e=>?_) (fun hn=>?_)
  · subst e
    have:=A2m x hx;rw [hg] at this;rw [<- this]; exact k
  · have h1:=Int.emod_lt_of_pos x (show 0 < y by omega)
    have h2:=Int.emod_nonneg x hn;exact ⟨by omega,(x % y).toNat,by omega,y,x % y,rfl,hy,h2,rfl,by rw [A75,hg]⟩
theorem A3b (T:Txt K mg D):FnOk P w K mg base CX0 2 D.a_product D.d_product ["one","other"] (Pu.spOf K [.dat,.dat] (B6r (·*·))):=by
  refine T.B.F_product.ok sc_product (Zz rfl) (fun cdv A outer s H vs Q E hr h=>?_);refine ⟨_,(QSs.out (A1 (S2 (i:=2) (j:=3) rfl sc_product.nd rfl rfl (by decide) rfl rfl (A0 (qcK (G4 (K:=K) T) hr.mo (J3 T) (A0 (qix K (qpv 0) A3) (A0 (qix K (qpv 1) A3) A2))) (A0 (qcK (G4 (K:=K) T) hr.mo (J3 T) (A0 (qix K (qpv 1) A3) (A0 (qix K (qpv 0) A3) A2))) A2)) rfl)
      (A4 (A7 (M5 (A0 (A8 I0 (A8 D5 (qix K (qpv 0) A3) (qpv 2)) (A8 D5 (qix K (qpv 1) A3) (qpv 3))) (A0 (A8 I0 (A8 D5 (qix K (qpv 0) A3) (qpv 3)) (A8 D5 (qix K (qpv 1) A3) (qpv 2))) A2))))))),?_⟩
  refine Pu.J1 h ?_;rintro as Qp ⟨p,q,rfl,sp,sq,k⟩;trivial;refine ⟨_,_,rfl,?_⟩;trivial;refine ⟨_,_,rfl,?_⟩;trivial;have p1:=sp.1.mono (l:=8000) (by decide);have q1:=sq.1.mono (l:=8000) (by decide);have p2:=sp.2.mono (l:=8000) (by decide);have q2:=sq.2.mono (l:=8000) (by decide);have g0:=Q9 (t:=p.num) q;have gs:=B0r (t:=p.num) q2 (den0 q);have h0:=Q9 (t:=q.num) p;have hs:=B0r (t:=q.num) p2 (den0 p);refine ⟨⟨g0,gs⟩,⟨h0,hs⟩,⟨A99 p1 (Int.natCast_nonneg _),A99 q1 (Int.natCast_nonneg _)⟩,⟨h0,hs⟩,⟨g0,gs⟩,⟨A99 p2 (Int.natCast_nonneg _),A99 q2 (Int.natCast_nonneg _)⟩,?_⟩;rw [B8a,B8b]; exact k
theorem A3c (T:Txt K mg D):FnOk P w K mg base CX0 1 D.a_Lbegun D.d_Lbegun ["_law_script","_law_k"] (A08 K):=by
  refine T.B.F_Lbegun.ok sc_Lbegun (fun vs H Q E h=>?_) (fun cdv A outer s H vs Q E hr h=>?_)
  · obtain ⟨a,ns,k,rfl,_⟩:=h; rfl
  · obtain ⟨a,ns,k,rfl,ha,k0,k1,kk⟩:=h
    refine ⟨_,(D1 (Q2 (i:=2) sc_Lbegun.nd rfl (Or.inl rfl) B7)
      (D1 (B35 (A4o A29 (pv 1) (T0 call_len_seq (by rfl) T.z_len PySem.boot_len (pa_cons (pv 0) pa_nil)) (B5 _))
        (M8 (Q2 (i:=2) sc_Lbegun.nd rfl (Or.inl rfl) (S8 ix_list (pv 0) (pv 1) (fun _ _=>rfl))))
        A0d)
      (M8 (A1m (B02 (pa_cons (pv 2) (pa_cons (F1 J0 (F1 N6 (F1 N6 (F1 J0 (pv 2) B7) (F1 I0 (F1 I0 B7 (pv 1)) (pv 1))) B7) B7) (pa_cons (S9 B7w (pv 2) (F1 L6 B7 B7) (B5 _)) pa_nil)))))))),?_⟩
    have fin:∀ c:Int,∃ v,([some (V.ref a),some (V.int k),some (V.int c)]:St)[2]?=some (some v) /\
        (E6 (tOp (rI (fun _ j=>0 < j) fun i j=>.int (i % j)) (tOp (rI0 fun i j=>.int (i + j)) (tOp (rI0 fun i j=>.int (i + j)) (tOp (rI (fun _ j=>0 < j) fun i j=>.int (i % j)) (tVar 2) (tC (.int 2147483587)))
          (tOp (rI B5t fun i j=>.int (i * j)) (tOp (rI B5t fun i j=>.int (i * j)) (tC (.int 104729)) (tVar 1)) (tVar 1))) (tC (.int 7))) (tC (.int 2147483587)))
          (E6 (tOp (rI0 fun i j=>.bl (decide (j<=i))) (tVar 2) (tOp (rI CPow fun i j=>.int (i ^ j.toNat)) (tC (.int 10)) (tC (.int 18)))) tNil)) [some (V.ref a),some (V.int k),some (V.int c)] H
          fun xs H1=>(v :: xs).length<=sizeLine/\∀ p,H1 p=none->Q (.ref p) (upd H1 p (.lst (v :: xs))):=by
      intro c;refine ⟨_,rfl,_,rfl,_,_,rfl,rfl,(by show (0:Int) < 2147483587; decide),_,rfl,_,_,rfl,rfl,⟨Q1 0,A09 k0 k1⟩,_,rfl,_,_,rfl,rfl,⟨(Sm.mul (k:=20) (l:=20) (by unfold Sm; decide) (B55 k0 k1)).mono (by decide),A09 k0 k1⟩,
        _,_,rfl,rfl,_,_,rfl,rfl,_,_,rfl,rfl,(by show (0:Int) < 2147483587; decide),_,rfl,_,_,rfl,rfl,N8 18,_,_,rfl,rfl,by show 3<=sizeLine; decide,fun p hp=>?_⟩
      have e1:=Int.emod_nonneg (c % 2147483587 + 104729 * k * k + 7) (show (2147483587:Int)≠0 by decide);have e2:=Int.emod_lt_of_pos (c % 2147483587 + 104729 * k * k + 7) (show (0:Int) < 2147483587 by decide);exact kk p _ hp ⟨_,_,_,B4,e1,by omega⟩ (Same.upd hp).kp
    refine ⟨_,rfl,_,rfl,a,_,rfl,.inl ha,_,_,rfl,rfl,_,rfl,?_⟩;refine ifD (fun hn=>?_) (fun hn=>?_)
    · have hk:(ns.map V.int)[k.toNat]?=some (V.int (ns.getD k.toNat 0)):=by
        have hlt:k.toNat < ns.length:=by rw [Zl] at hn; omega
        rw [Zh,Zg hlt,List.getD_eq_getElem?_getD,Zg hlt]; rfl
      have hk':atI (ns.map V.int) k=some (V.int (ns.getD k.toNat 0)):=by
        have:=J4 hk
        rwa [show ((k.toNat:Nat):Int)=k by omega] at this
      refine ⟨_,rfl,_,rfl,a,_,k,_,rfl,rfl,ha,hk',?_⟩;exact fin _
    · exact fin 0
theorem A52 (T:Txt K mg D):FnOk P w K mg base CX0 1 D.a_Lbegun D.d_Lbegun ["_law_script","_law_k"] (Pu.spOf K [.vw,.dat] Pu.A1n):=FnOk.imp (A3c T) Pu.B0i
theorem A51 (T:Txt K mg D):FnOk P w K mg base CX0 1 D.a_Ltake D.d_Ltake ["_law_state","_law_many"] A38:=by
  refine T.B.F_Ltake.ok sc_Ltake (fun vs H Q E h=>?_) (fun cdv A outer s H vs Q E hr h=>?_)
  · obtain ⟨p,n,rfl,_⟩:=h; rfl
  · obtain ⟨p,n,rfl,S0,n0,sn,k⟩:=h
    refine ⟨_,(D1 (B35 (B0y (S8 ix_list (pv 0) B7 (fun _ _=>rfl)))
        (D1 (Q2 (i:=2) sc_Ltake.nd rfl (Or.inl rfl) (F1 J0 (S8 ix_list (pv 0) B7 (fun _ _=>rfl)) (pv 1)))
        (D1 (A1o (F1 D5 (S8 ix_list (pv 0) B7 (fun _ _=>rfl)) (pv 1)) (A4s (pv 0) B7 S1))
        (D1 (A1o (S9 A9t (S8 ix_list (pv 0) B7 (fun _ _=>rfl)) B7 (B5 _)) (A4s (pv 0) B7 S1))
        (M8 (A1m (pv 2))))))
        A0d)
      (D1 (Q2 (i:=3) sc_Ltake.nd rfl (Or.inl rfl) B7)
      (D1 (B0z PassesOwn.never rfl (V5 rfl T.z_range (pa_cons (F1 N6 B7 (F1 I0 B7 (V7 A8l (by rfl) T.z_int (by rfl) (pa_cons (S9 A9t (pv 1) (F1 L6 B7 B7) (B5 _)) pa_nil)))) pa_nil)) (A4t (i:=4) sc_Ltake.nd rfl (Or.inl rfl) (Or.inl rfl))
        (D1 (A1o (F1 J0 (F1 N6 (F1 I0 (S8 ix_list (pv 0) B7 (fun _ _=>rfl)) B7) B7) B7) (A4s (pv 0) B7 S1))
        (M8 (Q2 (i:=3) sc_Ltake.nd rfl (Or.inl rfl) (F1 N6 (F1 I0 (pv 3) B7) (F1 J0 (F1 I0 (S8 ix_list (pv 0) B7 (fun _ _=>rfl)) (S8 ix_list (pv 0) B7 (fun _ _=>rfl))) B7))))))
      (M8 (A1m (F1 J0 (F1 D5 (pv 3) B7) (pv 1))))))),?_⟩
    obtain ⟨c,m,f,hp,m0,m1⟩:=S0.ex;refine ⟨_,rfl,p,_,_,_,rfl,rfl,SqL.of hp,at2,f,rfl,?_⟩;have s8:Sm 8000 n:=sn.mono (by decide);cases f with
    | true =>
      refine iteT ?_;refine ⟨_,rfl,p,_,_,_,rfl,rfl,SqL.of hp,at0,_,rfl,_,_,rfl,rfl,n0,?_⟩;refine ⟨_,rfl,p,_,_,_,rfl,rfl,SqL.of hp,at0,_,rfl,_,_,rfl,rfl,⟨by omega,s8⟩,_,rfl,p,_,_,0,rfl,rfl,hp,rfl,?_⟩;refine ⟨_,rfl,p,_,_,_,rfl,rfl,SqL.of B4,at0,_,_,rfl,rfl,_,rfl,p,_,_,2,rfl,rfl,B4,rfl,?_⟩;refine ⟨_,rfl,?_⟩;exact k _ _ (Int.emod_nonneg c (by omega)) (Int.emod_lt_of_pos c n0) ⟨_,_,_,B4,m0,m1⟩ (Kp.upd.trans Kp.upd)
    | false =>
      refine iteF ?_;refine ⟨_,rfl,_,_,rfl,rfl,N8 6,_,_,rfl,rfl,.inr ⟨_,rfl,_,_,rfl,rfl,⟨Q1 0,B56 _⟩,_,_,rfl,rfl,_,rfl,?_,?_,A76 (lo:=0)
        (fun i σ H'=>∃ (m' md:Int) (x:Option V),σ=[some (V.ref p),some (V.int n),none,some (V.int md),x]/\H' p=some (.lst [.int c,.int m',.bl false])/\0<=m'/\m' < 2147483648/\Kp p H H'/\Sm (40 * i + 1) md)
        ⟨m,0,none,rfl,hp,m0,m1,Kp.refl,by unfold Sm; decide⟩ ?_ ?_⟩⟩
      · split <;> omega
      · split <;> omega
      · rintro i σ H' hi ⟨m',md,x,rfl,hp',h0,h1,kk,sd⟩
        have hi9:i < 9:=by
          refine Nat.lt_of_lt_of_le hi ?_;split <;> decide
        refine ⟨_,rfl,p,_,_,_,rfl,rfl,SqL.of hp',at1,_,_,rfl,rfl,⟨sm32 h0 h1,Q1 0⟩,_,_,rfl,rfl,_,_,rfl,rfl,(by show (0:Int) < 2147483647; decide),_,rfl,p,_,_,1,rfl,rfl,hp',rfl,?_⟩;have e1:=Int.emod_nonneg (m' * 39373 + 17) (show (2147483647:Int)≠0 by decide);have e2:=Int.emod_lt_of_pos (m' * 39373 + 17) (show (0:Int) < 2147483647 by decide);have sm:=sm32 e1 (by omega);refine ⟨_,rfl,_,_,rfl,rfl,⟨sd.mono (by omega),Q1 0⟩,_,rfl,p,_,_,_,rfl,rfl,SqL.of B4,at1,_,rfl,p,_,_,_,rfl,rfl,SqL.of B4,at1,_,_,rfl,rfl,⟨sm,sm⟩,_,_,rfl,rfl,(by show (0:Int) < 2147483587; decide),_,_,rfl,rfl,?_⟩;have g1:=Int.emod_nonneg ((m' * 39373 + 17) % 2147483647 * ((m' * 39373 + 17) % 2147483647)) (show (2147483587:Int)≠0 by decide);have g2:=Int.emod_lt_of_pos ((m' * 39373 + 17) % 2147483647 * ((m' * 39373 + 17) % 2147483647)) (show (0:Int) < 2147483587 by decide);refine ⟨_,_,_,rfl,B4,e1,by omega,kk.trans Kp.upd,?_⟩;refine Sm.mono (k:=40 * i + 1 + 32 + 1) (Sm.add (sd.mul (l:=32) (by unfold Sm; decide)) ?_) (by omega);exact Sm.mono (k:=32) (by unfold Sm; omega) (by omega)
      · rintro σ H' ⟨m',md,x,rfl,hp',h0,h1,kk,sd⟩
        refine ⟨_,rfl,_,_,rfl,rfl,⟨by decide,Q1 0⟩,_,rfl,_,_,rfl,rfl,n0,?_⟩;exact k _ _ (Int.emod_nonneg _ (by omega)) (Int.emod_lt_of_pos _ n0) ⟨_,_,_,hp',h0,h1⟩ kk
theorem D9 (T:Txt K mg D):FnOk P w K mg base CX0 1 D.a_Ltake D.d_Ltake ["_law_state","_law_many"] (Pu.spOf K [.st,.dat] Pu.A4p):=FnOk.imp (A51 T) Pu.B3f
theorem B41 (T:Txt K mg D):FnOk P w K mg base CX0 1 D.a_Llow D.d_Llow ["_law_top","_law_bottom"] (Pu.spOf K [.dat,.dat] B34):=by
  refine T.B.F_Llow.ok sc_Llow (Zz rfl) (fun cdv A outer s H vs Q E hr h=>?_);refine ⟨_,(QSs.out (A1 (qst 2 sc_Llow (qpv 0))
      (A1 (qst 3 sc_Llow (qpv 1))
      (A1 (K7 PassesOwn.never (A9 (N0 (K:=K) rfl hr.units) (qpv 3) A3 (B5 _))
        (A4 (S2 (i:=2) (j:=3) rfl sc_Llow.nd rfl rfl (by decide) rfl rfl (A0 (qpv 3) (A0 (A8 J0 (qpv 2) (qpv 3)) A2)) rfl)))
      (A4 (A7 (M5 (A0 (A8 D5 (qpv 0) (qpv 2)) (A0 (A8 D5 (qpv 1) (qpv 2)) A2))))))))),?_⟩
  refine Pu.J1 h ?_;rintro as Qp ⟨t,b,rfl,hb,st,sb,k⟩;trivial;refine ⟨fun m e=>∃ x y:Int,e=[some (.d (.int t)),some (.d (.int b)),some (.d (.int x)),some (.d (.int y))]/\0<=y/\(y=0->0 < x)/\m=y.toNat/\Int.gcd x y=Int.gcd t b,⟨_,_,_,rfl,by omega,fun e=>by omega,rfl,rfl⟩,?_⟩;rintro m e ⟨x,y,rfl,hy,hx,rfl,hg⟩;trivial;refine ite2 (fun e=>?_) (fun hn=>?_)
  · subst e
    have hx0:=hx rfl;have e1:x=sh t b:=by
      have:=A2m x (by omega);rw [hg] at this;unfold sh; rw [if_neg (by omega)]; exact this.symm
    subst e1;have hb0:b≠0:=by omega
    refine ⟨⟨B58 hb0,B54 sb hb0⟩,⟨B58 hb0,B54 sb hb0⟩,?_⟩;rw [A60 hb0,B46 hb0]; exact k
  · have h1:=Int.emod_lt_of_pos x (show 0 < y by omega)
    have h2:=Int.emod_nonneg x hn;exact ⟨by omega,(x % y).toNat,by omega,y,x % y,rfl,h2,fun _=>by omega,rfl,by rw [A75,hg]⟩
def S6:Pu.PSp:=fun as Q=>∃ n:Int,as=[.d (.int n)]/\n.natAbs < 10 ^ 300/\Q (.d (.str (sO (whL n))))
theorem D8 (T:Txt K mg D):FnOk P w K mg base CX0 1 D.a_shownwhole D.d_shownwhole ["number"] (Pu.spOf K [.dat] S6):=by
  refine T.B.F_shownwhole.ok sc_shownwhole (Zz rfl) (fun cdv A outer s H vs Q E hr h=>?_);refine ⟨_,(QSs.out (A1 (qst 1 sc_shownwhole (F6 A2))
      (A1 (qst 2 sc_shownwhole (B1 J2 (by rfl) T.z_abs (by rfl) (A0 (qpv 0) A2)))
      (A1 (K7 PassesOwn.never (A9 B7w (qpv 2) (K8 (v:=.int 1000000000000000000) rfl T.ci_CHUNK.choose_spec ⟨_,rfl⟩) (B5 _))
        (A1 (A0a (B1 Y1 (by rfl) T.z_divmod (by rfl) (A0 (qpv 2) (A0 (K8 (v:=.int 1000000000000000000) rfl T.ci_CHUNK.choose_spec ⟨_,rfl⟩) A2))) (O3 (K:=K) (n:=2) rfl rfl (C9 (qgn 2 sc_shownwhole) (C9 (qgn 3 sc_shownwhole) O2)) rfl rfl))
        (A4 (A1i (M7 (K:=K) rfl Z1 Z2 Z3 P2 (qpv 1) (A0 (M7 (K:=K) rfl PySem.F.plainAttrs_str PySem.F.slot_str_zfill PySem.F.type_str_zfill A6y (M6 X9 (by rfl) T.z_str (by rfl) (A0 (qpv 3) A2)) (A0 (K8 (v:=.int 18) rfl T.ci_CHUNK_FIGURES.choose_spec ⟨_,rfl⟩) A2)) A2))))))
      (A1 (A1i (M7 (K:=K) rfl Z1 Z2 Z3 P2 (qpv 1) (A0 (M6 X9 (by rfl) T.z_str (by rfl) (A0 (qpv 2) A2)) A2)))
      (A1 (qst 4 sc_shownwhole (M7 (K:=K) rfl PySem.F.plainAttrs_str PySem.F.slot_str_join PySem.F.type_str_join (A90 (K:=K) rfl) A5 (A0 (A9e (K:=K) rfl (qpv 1) (B6k B5y A3)) A2)))
      (A4 (A7 (E8 (A9 A29 (qpv 0) A3 (B5 _)) (A1k (FP.cons A5 (FP.cons (A0c (qpv 4)) FP.nil))) (qpv 4)))))))))),?_⟩
  refine Pu.J1 h ?_;rintro as Qp ⟨n,rfl,hn,k⟩;refine hd fun R hR=>?_;trivial;subst hR;refine hd fun R hR=>?_;trivial;rw [P1];subst hR;have hl:=R1 hn;refine hd fun R hR=>?_;refine A0y (fun m e=>∃ (a:Nat) (cs:List (List Nat)) (o:Option SV),e=[some (.d (.int n)),some (.own (cs.map fun c=>.str (sO c))),some (.d (.int (a:Int))),o,none]/\m=a/\dgs n.natAbs=dgs a++cs.reverse.flatten/\∀ c ∈ cs,c.length=18) ⟨_,n.natAbs,[],_,rfl,rfl,by simp,fun _ z=>nomatch z⟩ ?_;rintro a e ⟨_,cs,o,rfl,rfl,ed,hc⟩;have hfl:=A2o (ls:=cs.reverse) (k:=18) fun l z=>hc l (List.mem_reverse.mp z);have hll:(dgs a).length + cs.reverse.flatten.length<=300:=by rw [<- Ze,<- ed]; exact hl
  rw [List.length_reverse] at hfl;have a300:a < 10 ^ 300:=(dgs_len (k:=299)).mpr (by omega);trivial;refine ite2 (fun z=>?_) (fun z=>?_)
  · have z':10 ^ 18<=a:=by omega
    have hC:(10:Nat) ^ 18=1000000000000000000:=by decide
    have e1:((a:Nat):Int) / 1000000000000000000=((a / 10 ^ 18:Nat):Int):=by rw [hC]; omega
    have e2:((a:Nat):Int) % 1000000000000000000=((a % 10 ^ 18:Nat):Int):=by rw [hC]; omega
    have hr:a % 10 ^ 18 < 10 ^ 18:=Nat.mod_lt a (by decide);refine ⟨by decide,by unfold Sm; decide,?_⟩;rw [e1,e2];trivial;refine ⟨B8c (i:=((a % 10 ^ 18:Nat):Int)) (Nat.lt_of_lt_of_le hr (by decide +kernel)),by decide,?_⟩;rw [N5 (Int.natCast_nonneg _),show (((a % 10 ^ 18:Nat):Int)).natAbs=a % 10 ^ 18 from rfl,A8y hr];trivial;refine ⟨by omega,a / 10 ^ 18,by omega,a / 10 ^ 18,cs++[padN 18 (a % 10 ^ 18)],_,by rw [Zc]; rfl,rfl,?_,fun c h=>?_⟩
    · have:=A8b (k:=18) (q:=a / 10 ^ 18) (r:=a % 10 ^ 18) (Nat.div_pos z' (by decide)) hr
      rw [Nat.div_add_mod] at this;rw [ed,this,List.reverse_append,List.append_assoc]; rfl
    · rcases Za h with h | h
      · exact hc c h
      · rw [Zn h]; exact A1q _ _
  subst hR;refine hd fun R hR=>?_;trivial;refine ⟨B8c (i:=((a:Nat):Int)) a300,by omega,?_⟩;rw [N5 (Int.natCast_nonneg _),show ((a:Nat):Int).natAbs=a from rfl];subst hR;refine hd fun R hR=>?_;trivial;have em:(cs.map fun c=>PyData.str (sO c))++[.str (sO (dgs a))]=(cs++[dgs a]).map fun c=>PyData.str (sO c):=by rw [Zc]; rfl
  rw [em,<- List.map_reverse];have ef:((cs++[dgs a]).reverse).flatten=dgs n.natAbs:=by rw [ed,List.reverse_append]; rfl
  rw [mE];refine ⟨_,A07 _,by rw [B0q,ef]; omega,?_⟩;rw [A7y,ef];subst hR;trivial;refine ite2 (fun h=>?_) (fun h=>?_)
  · have ew:sO (whL n)=Str.empty++sO [45]++sO (dgs n.natAbs):=by
      show _=sO []++sO [45]++sO (dgs n.natAbs);rw [C6,C6];unfold whL;rw [if_pos h]; rfl
    rw [m45];rw [ew] at k;have h1:(Str.empty++sO [45]).length=1:=rfl;exact ⟨by decide,by rw [B0]; omega,by rw [h1,B0]; omega,k⟩
  · have ew:whL n=dgs n.natAbs:=by unfold whL; rw [if_neg h]
    rw [ew] at k;exact k
def S7:Pu.PSp:=fun as Q=>∃ q:Rat,as=[.d (dq q)]/\q.num.natAbs < 10 ^ 300/\q.den < 10 ^ 300/\Q (.d (.str (sO (rtL q))))
theorem L8 (T:Txt K mg D):FnOk P w K mg base CX0 2 D.a_shownratio D.d_shownratio ["one"] (Pu.spOf K [.dat] S7):=by
  refine T.B.F_shownratio.ok sc_shownratio (Zz rfl) (fun cdv A outer s H vs Q E hr h=>?_);refine ⟨_,(QSs.out (A1 (A0a (qpv 0) (O3 (K:=K) (n:=2) rfl rfl (C9 (qgn 1 sc_shownratio) (C9 (qgn 2 sc_shownratio) O2)) rfl rfl))
      (A4 (A7 (E8 (A9 (F7 (K:=K) rfl hr.units) (qpv 2) A3 (B5 _)) (qcK (D8 (K:=K) T) hr.mo (F2 T) (A0 (qpv 1) A2)) (A1k (FP.cons (A0c (qcK (D8 (K:=K) T) hr.mo (F2 T) (A0 (qpv 1) A2))) (FP.cons A5 (FP.cons (A0c (qcK (D8 (K:=K) T) hr.mo (F2 T) (A0 (qpv 2) A2))) FP.nil))))))))),?_⟩
  refine Pu.J1 h ?_;rintro as Qp ⟨q,rfl,h1,h2,k⟩;trivial;have hw:(whL q.num).length<=301:=by
    have:=R1 h1;unfold whL;split
    · rw [List.length_cons]; omega
    · omega
  refine ite2 (fun h=>?_) (fun h=>?_)
  · refine ⟨_,rfl,h1,?_⟩
    have:rtL q=whL q.num:=by unfold rtL; rw [if_neg (by omega),List.append_nil]
    rw [this] at k;trivial;exact k
  · refine ⟨_,rfl,h1,?_⟩
    have hd':=R1 h2;have e:Str.empty++sO (whL q.num)++Str.ofString "/"++sO (whL (q.den:Int))=sO (rtL q):=by
      show sO []++sO (whL q.num)++_++_=_;rw [m47,C6,C6,C6,A0x];unfold rtL;rw [if_pos (by have:=q.den_pos; omega)]; simp
    have e2:Str.empty++sO (whL q.num)++Str.ofString "/"=sO (whL q.num++[47]):=by
      show sO []++sO (whL q.num)++_=_;rw [m47,C6,C6]; rfl
    have e1:Str.empty++sO (whL q.num)=sO (whL q.num):=by
      show sO []++sO (whL q.num)=_;rw [C6]; rfl
    trivial;have L0:Str.empty.length=0:=rfl;have L1:(sO (whL q.num)).length<=301:=by rw [B0]; exact hw
    have L2:(Str.ofString "/").length=1:=by rw [m47,B0]; rfl
    have L3:(sO (whL (q.den:Int))).length<=300:=by rw [B0,A0x]; exact hd'
    have L4:(sO (whL q.num++[47])).length<=302:=by rw [B0,Ze]; show _ + 1<=_; omega
    refine ⟨by omega,by omega,by rw [e1]; omega,_,rfl,h2,?_⟩;trivial;rw [e];exact ⟨by omega,by rw [e2]; omega,k⟩
def A26:Pu.PSp:=fun as Q=>∃ l:List Nat,as=[.d (.str (sO l))]/\l.length<=600/\Q (.d (oI (wIn l)))
theorem Q4 (T:Txt K mg D):FnOk P w K mg base CX0 2 D.a_wholein D.d_wholein ["text"] (Pu.spOf K [.dat] A26):=by
  refine T.B.F_wholein.ok sc_wholein (Zz rfl) (fun cdv A outer s H vs Q E hr h=>?_);refine ⟨_,(QSs.out (A1 (qst 1 sc_wholein (E8 (C4 (M7 (K:=K) rfl PySem.F.plainAttrs_str PySem.F.slot_str_startswith PySem.F.type_str_startswith A3e (qpv 0) (A0 A5 A2))) (G0 U9 (qpv 0) (J6 A3) J7) (qpv 0)))
      (A1 (C2 (QW.pt (O8 (E7 (A4i B7t B7t A3 (qln K T.z_len (qpv 1)) (K8 (v:=.int 60) rfl T.ci_MOST_FIGURES.choose_spec ⟨_,rfl⟩))) (K1 (E7 (C4 (B1 (A8m (K:=K) rfl) (by rfl) T.z_all (by rfl) (A0 (A9f rfl (A8h ["sign"] [none]) (B3x (qpv 1)) (fun _ _ _=>(qgc 0 ["sign"])) (fun _ _ _=>A9d) (fun _ _ _=>(K9 B7v (qpv 0) (K8 (v:=.str "0123456789") rfl T.cs_FIGURES.choose_spec ⟨_,rfl⟩) (by with_unfolding_all rfl)))) A2)))))))
        (A4 (A7 D0))
        B3)
      (A1 (qst 2 sc_wholein (M6 A8k (by rfl) T.z_int (by rfl) (A0 (qpv 0) A2)))
      (A4 (A7 (E8 (A9 (F7 (K:=K) rfl hr.units) (qcK (D8 (K:=K) T) hr.mo (F2 T) (A0 (qpv 2) A2)) (qpv 0) (B5 _)) (qpv 2) D0))))))),?_⟩
  refine Pu.J1 h ?_;rintro as Qp ⟨l,rfl,hl,k⟩;have hb:(C8 l).length<=l.length:=by
    cases l with
    | nil=>exact Zv _
    | cons c r =>
      show (if c=45 then r else c :: r).length<=_;split
      · exact Nat.le_succ _
      · exact Zv _
  refine O6 (fun e=>e=[some (.d (.str (sO l))),some (.d (.str (sO (C8 l)))),none]) (fun R hR=>?_) ?_
  · trivial
    rw [m45,A21];cases l with
    | nil=>exact ite2 (fun z=>by cases z) fun _=>hR _ rfl
    | cons c r =>
      refine ite2 (fun z=>?_) (fun z=>?_)
      · have:c=45:=by simpa using z
        subst this;have eb:C8 (45 :: r)=r:=by
          show (if 45=45 then r else 45 :: r)=r;exact if_pos rfl
        refine ⟨by rw [B0]; omega,?_⟩;rw [A22];exact hR _ (by rw [eb])
      · have ne:¬ c=45:=fun h=>z (by rw [h]; rfl)
        have eb:C8 (c :: r)=c :: r:=by
          show (if c=45 then r else c :: r)=c :: r;exact if_neg ne
        exact hR _ (by rw [eb])
  rintro e rfl;have no:¬ (1<=(C8 l).length/\(C8 l).length<=60/\(C8 l).all digB=true)->Qp (.d .none):=fun h=>by
    unfold wIn at k;rw [if_neg h] at k; exact k
  refine hd fun R hR=>?_;trivial;rw [B0];refine ⟨by omega,ite2 (fun h1=>ite2 (fun h2=>?_) fun h2=>no fun z=>by omega) fun h1=>no fun z=>by omega⟩;refine ⟨by rw [A1c,Zl]; omega,?_⟩;rw [A1c];refine B0b (f:=sgn) (xs:=C8 l) (fun i e ys=>∃ o:Option SV,e=[o]/\ys=(((C8 l).take i).map digB).map .bool) ⟨_,rfl,rfl⟩ ?_ ?_
  · rintro i c e ys hi ⟨o,rfl,rfl⟩
    unfold sgn;trivial;rw [mFig,B80];refine ⟨_,rfl,?_⟩;rw [List.take_add_one,hi,Zc,Zc]; rfl
  rintro e ys ⟨o,rfl,rfl⟩;rw [List.take_length];trivial;refine ⟨_,A2w _,?_⟩;have ea:((C8 l).map digB).all id=(C8 l).all digB:=by rw [List.all_map]; rfl
  rw [ea];refine ite2 (fun h3=>no fun z=>by rw [z.2.2] at h3; cases h3) fun h3=>?_;have h3:(C8 l).all digB=true:=by cases q:(C8 l).all digB with
    | true=>rfl
    | false=>exact absurd q h3
  have h1:1<=(C8 l).length:=by omega
  have h2:(C8 l).length<=60:=by omega
  subst hR;trivial;refine ⟨_,B8r h3 h1 hl,by rw [B0]; omega,_,rfl,A33 (A3t h3 h2),?_⟩;have l1:∀ c ∈ l,c < 128:=fun c hc=>by
    have hd':=T7 h3;cases l with
    | nil=>cases hc
    | cons x r =>
      have eb:C8 (x :: r)=if x=45 then r else x :: r:=rfl;rw [eb] at hd';split at hd'
      · rcases List.mem_cons.mp hc with m | m
        · omega
        · have:=hd' c m
          omega
      · have:=hd' c hc
        omega
  have l2:∀ c ∈ whL (valL l),c < 128:=fun c hc=>by
    have:=R7 _ c hc;omega
  unfold wIn at k;rw [if_pos ⟨h1,h2,h3⟩] at k;trivial;rw [A2q];refine ⟨M0 l2,M0 l1,ite2 (fun z=>?_) (fun z=>?_)⟩
  · rw [if_pos (of_decide_eq_true z)] at k; exact k
  · rw [if_neg (fun y=>z (Zk y))] at k; exact k
def A27:Pu.PSp:=fun as Q=>∃ l:List Nat,as=[.d (.str (sO l))]/\l.length<=600/\Q (.d (oR (rIn l)))
theorem Q5 (T:Txt K mg D):FnOk P w K mg base CX0 3 D.a_ratioin D.d_ratioin ["text"] (Pu.spOf K [.dat] A27):=by
  refine T.B.F_ratioin.ok sc_ratioin (Zz rfl) (fun cdv A outer s H vs Q E hr h=>?_);refine ⟨_,(QSs.out (A1 (A0a (M7 (K:=K) rfl PySem.F.plainAttrs_str PySem.F.slot_str_partition PySem.F.type_str_partition A9z (qpv 0) (A0 A5 A2)) (O3 (K:=K) (n:=3) rfl rfl (C9 (qgn 1 sc_ratioin) (C9 (qgn 2 sc_ratioin) (C9 (qgn 3 sc_ratioin) O2))) rfl rfl))
      (A1 (qst 4 sc_ratioin (qcK (Q4 (K:=K) T) hr.mo (Y6 T) (A0 (qpv 1) A2)))
      (A1 (qst 5 sc_ratioin (E8 (A9 (F7 (K:=K) rfl hr.units) (qpv 2) A5 (B5 _)) (qcK (Q4 (K:=K) T) hr.mo (Y6 T) (A0 (qpv 3) A2)) A3))
      (A1 (C2 (QW.pt (O8 (A9 N1 (qpv 4) D0 (B5 _)) (K1 (A9 N1 (qpv 5) D0 (B5 _)))))
        (A4 (A7 D0))
        B3)
      (A1 (C2 (QW.pt (A4h (A9 (F7 (K:=K) rfl hr.units) (qpv 2) A5 (B5 _)) (A1g (QW.pt (O8 (A9 A29 (qpv 5) A3 (B5 _)) (K1 (A9 (N0 (K:=K) rfl hr.units) (qcK (G4 (K:=K) T) hr.mo (J3 T) (A0 (qpv 4) (A0 (qpv 5) A2))) A3 (B5 _))))))))
        (A4 (A7 D0))
        B3)
      (A4 (A7 (M5 (A0 (qpv 4) (A0 (qpv 5) A2))))))))))),?_⟩
  refine Pu.J1 h ?_;rintro as Qp ⟨l,rfl,hl,k⟩;obtain ⟨esum,hsl⟩:=A4y 47 l;have hlen:(parS 47 l).1.length + (parS 47 l).2.1.length + (parS 47 l).2.2.length=l.length:=by
    have:=congrArg List.length esum;rw [Ze,Ze] at this; exact this
  have ly:∀ c ∈ (parS 47 l).2.1,c < 128:=fun c hc=>by
    rcases hsl with z | z
    · rw [z.1] at hc; cases hc
    · rw [z] at hc
      have:=Zn hc;omega
  refine hd fun R hR=>?_;trivial;rw [m47,B4h];refine ⟨rfl,by rw [B0]; omega,?_⟩;subst hR;unfold rIn at k;generalize (parS 47 l).1=p1 at *;generalize (parS 47 l).2.1=p2 at *;generalize (parS 47 l).2.2=p3 at *;refine hd fun R hR=>?_;trivial;refine ⟨p1,rfl,by omega,?_⟩;trivial;subst hR;refine O6 (fun e=>e=[some (.d (.str (sO l))),some (.d (.str (sO p1))),some (.d (.str (sO p2))),some (.d (.str (sO p3))),some (.d (oI (wIn p1))),some (.d (oI (if p2=[47] then wIn p3 else some 1)))]) (fun R hR=>?_) ?_
  · trivial
    rw [m47,A2q];refine ⟨M0 ly,B8f,ite2 (fun z=>?_) (fun z=>?_)⟩
    · have z:=of_decide_eq_true z
      refine ⟨p3,rfl,by omega,?_⟩;trivial;exact hR _ (by rw [if_pos z])
    · exact hR _ (by rw [if_neg (fun y=>z (Zk y))]; rfl)
  rintro e rfl;trivial;rw [m47,A2q];cases h1:wIn p1 with
  | none =>
    rw [h1] at k;rw [if_pos (show isNo (oI none)=true from rfl)]; exact k
  | some t =>
    cases h2:(if p2=[47] then wIn p3 else some 1) with
    | none =>
      rw [h1,h2] at k;rw [if_neg (show ¬ isNo (oI (some t))=true from fun z=>Bool.noConfusion z),if_pos (show isNo (oI none)=true from rfl)]; exact k
    | some b =>
      rw [h1,h2] at k;have k:Qp (.d (oR (if p2=[47]/\(b < 2\/((Int.gcd t b:Nat):Int)≠1) then none else some (t,b)))):=k;rw [if_neg (show ¬ isNo (oI (some t))=true from fun z=>Bool.noConfusion z),if_neg (show ¬ isNo (oI (some b))=true from fun z=>Bool.noConfusion z)];refine ⟨M0 ly,B8f,ite2 (fun z=>?_) (fun z=>?_)⟩
      · have z:=of_decide_eq_true z
        unfold oI;trivial;refine ite2 (fun y=>?_) (fun y=>?_)
        · rw [if_pos ⟨z,.inl y⟩] at k; exact k
        · refine ⟨t,b,rfl,?_⟩
          trivial;refine ite2 (fun w=>?_) (fun w=>?_)
          · rw [if_neg (fun q=>q.2.elim y fun q=>q w)] at k; exact k
          · rw [if_pos ⟨z,.inr w⟩] at k; exact k
      · rw [if_neg (fun y=>z (Zk y.1))] at k; exact k
def V1:Pu.PSp:=fun as Q=>∃ (l:List Nat) (p:Int × Int),as=[.d (.str (sO l))]/\l.length<=600/\rIn l=some p/\Q (.d (.tuple [.int p.1,.int p.2]))
theorem N7 (T:Txt K mg D):FnOk P w K mg base CX0 4 D.a_readratio D.d_readratio ["text"] (Pu.spOf K [.dat] V1):=by
  refine T.B.F_readratio.ok sc_readratio (Zz rfl) (fun cdv A outer s H vs Q E hr h=>?_);refine ⟨_,(QSs.out (A1 (qst 1 sc_readratio (E8 (C4 (B1 (B8 (K:=K) rfl) (by rfl) T.z_isinstance (by rfl) (A0 (qpv 0) (A0 (C3 (v:=.ty "str") rfl T.z_str (by rfl) rfl) A2)))) (qcK (Q5 (K:=K) T) hr.mo (Y7 T) (A0 (qpv 0) A2)) D0))
      (A1 (C2 (A9 N1 (qpv 1) D0 (B5 _))
        (A4 A4j)
        B3)
      (A4 (A7 (qpv 1)))))),?_⟩
  refine Pu.J1 h ?_;rintro as Qp ⟨l,p,rfl,hl,hr,k⟩;trivial;refine ⟨l,rfl,hl,?_⟩;rw [hr];unfold oR;trivial;exact k
def S5:List SV->PyData->Prop:=fun as z=>∃ x:PyData,as=[.d x]/\OddX x/\z=.int 0
theorem L7 (T:Txt K mg D):FnOk P w K mg base (CX2 P w) 4 D.a_readratio D.d_readratio ["text"] (Pu.spE2 K [.dat] D.k_NoText "row" S5):=by
  refine Pu.okx2 T.B.F_readratio sc_readratio rfl (fun cdv A outer s H E w0 z hr hk=>(QSs.out (A1 (B6j (qst 1 sc_readratio (E8 (C4 (B1 (B8 (K:=K) rfl) (by rfl) T.z_isinstance (by rfl) (A0 (qpv 0) (A0 (C3 (v:=.ty "str") rfl T.z_str (by rfl) rfl) A2)))) (qcK (Q5 (K:=K) T) hr.mo (Y7 T) (A0 (qpv 0) A2)) D0))) (A1 (C2 (B6i (A9 N1 (qpv 1) D0 (B5 _))) (A4 (A24 hk T.J_NoText.choose_spec.choose_spec hr.mo (by rfl) T.c_NoText A3)) B3) A4g)))) (fun w0 z=>inferInstance) ?_;rintro as z ⟨x,rfl,ox,rfl⟩;cases x with
  | str y =>
    trivial;refine ⟨y.cps.toList,rfl,ox.1,?_⟩;rw [ox.2];unfold oR;trivial
  | dict kvs=>exact ox.elim
  | _ =>
    trivial
theorem L9 (T:Txt K mg D):∀ n:Nat,FnOk P w K mg base CX0 (n + 1) D.a_Lsame D.d_Lsame ["_law_found","_law_due"] (Pu.spOf K [.dat,.dat] (Pu.A1p n)):=by
  have step:∀ (n:Nat) (psI:Pu.PSp),FnOk P w K mg base CX0 n D.a_Lsame D.d_Lsame ["_law_found","_law_due"] (Pu.spOf K [.dat,.dat] psI)->(∀ xs,(okA n (.list xs)\/okA n (.tuple xs))->xs.length < 1000/\∀ x ∈ xs,∀ Q:SV->Prop,Q (.d (.bool true))->psI [.d x,.d x] Q) ->
      FnOk P w K mg base CX0 (n + 1) D.a_Lsame D.d_Lsame ["_law_found","_law_due"] (Pu.spOf K [.dat,.dat] (Pu.A1p n)):=by
    intro n psI IH hI;refine T.B.F_Lsame.ok sc_Lsame (Zz rfl) (fun cdv A outer s H vs Q E hr h=>?_);refine ⟨_,(QSs.out (A1 (C2 (A9 N1 (qpv 1) D0 (B5 _))
        (A4 (A7 (K9 N1 (qpv 0) D0 (B5 _))))
        B3)
      (A1 (C2 (C4 (B1 (B8 (K:=K) rfl) (by rfl) T.z_isinstance (by rfl) (A0 (qpv 1) (A0 (C3 (v:=.ty "str") rfl T.z_str (by rfl) rfl) A2))))
        (A4 (A7 (S3 (B1 (B8 (K:=K) rfl) (by rfl) T.z_isinstance (by rfl) (A0 (qpv 0) (A0 (C3 (v:=.ty "str") rfl T.z_str (by rfl) rfl) A2))) (A0b (K9 (F7 (K:=K) rfl hr.units) (qpv 0) (qpv 1) (B5 _))))))
        B3)
      (A1 (C2 (C4 (B1 (B8 (K:=K) rfl) (by rfl) T.z_isinstance (by rfl) (A0 (qpv 1) (A0 (C3 (v:=.ty "bool") rfl T.z_bool (by rfl) rfl) A2))))
        (A4 (A7 (S3 (B1 (B8 (K:=K) rfl) (by rfl) T.z_isinstance (by rfl) (A0 (qpv 0) (A0 (C3 (v:=.ty "bool") rfl T.z_bool (by rfl) rfl) A2))) (A0b (K9 (F7 (K:=K) rfl hr.units) (qpv 0) (qpv 1) (B5 _))))))
        B3)
      (A1 (C2 (C4 (B1 (B8 (K:=K) rfl) (by rfl) T.z_isinstance (by rfl) (A0 (qpv 1) (A0 (C3 (v:=.ty "int") rfl T.z_int (by rfl) rfl) A2))))
        (A4 (A7 (S3 (B1 (B8 (K:=K) rfl) (by rfl) T.z_isinstance (by rfl) (A0 (qpv 0) (A0 (C3 (v:=.ty "int") rfl T.z_int (by rfl) rfl) A2))) (S3 (B3y (B1 (B8 (K:=K) rfl) (by rfl) T.z_isinstance (by rfl) (A0 (qpv 0) (A0 (C3 (v:=.ty "bool") rfl T.z_bool (by rfl) rfl) A2)))) (A0b (K9 (F7 (K:=K) rfl hr.units) (qpv 0) (qpv 1) (B5 _)))))))
        B3)
      (A1 (C2 (QW.pt (O8 (A9 (N0 (K:=K) rfl hr.units) (B1 (B8 (K:=K) rfl) (by rfl) T.z_isinstance (by rfl) (A0 (qpv 1) (A0 (C3 (v:=.ty "list") rfl T.z_list (by rfl) rfl) A2))) (B1 (B8 (K:=K) rfl) (by rfl) T.z_isinstance (by rfl) (A0 (qpv 0) (A0 (C3 (v:=.ty "list") rfl T.z_list (by rfl) rfl) A2))) (B5 _)) (K1 (A9 (N0 (K:=K) rfl hr.units) (B1 (B8 (K:=K) rfl) (by rfl) T.z_isinstance (by rfl) (A0 (qpv 1) (A0 (C3 (v:=.ty "tuple") rfl T.z_tuple (by rfl) rfl) A2))) (B1 (B8 (K:=K) rfl) (by rfl) T.z_isinstance (by rfl) (A0 (qpv 0) (A0 (C3 (v:=.ty "tuple") rfl T.z_tuple (by rfl) rfl) A2))) (B5 _)))))
        (A4 (A7 G1))
        B3)
      (A1 (C2 (A9 (N0 (K:=K) rfl hr.units) (qln K T.z_len (qpv 0)) (qln K T.z_len (qpv 1)) (B5 _))
        (A4 (A7 G1))
        B3)
      (A1 (A4k PassesOwn.never rfl (B4a (K:=K) rfl rfl T.z_zip (A0 (qpv 0) (A0 (qpv 1) A2))) (O3 (K:=K) (n:=2) rfl rfl (C9 (qgn 2 sc_Lsame) (C9 (qgn 3 sc_Lsame) O2)) rfl rfl)
        (A4 (C2 (E7 (C4 (qcK IH hr.mo (N4 T) (A0 (qpv 2) (A0 (qpv 3) A2)))))
          (A4 (A7 G1))
          B3)))
      (A4 (A7 G1)))))))))),?_⟩
    refine Pu.J1 h ?_;rintro as Qp ⟨x,rfl,ox,k⟩;cases x with
    | none =>
      trivial;exact k
    | bool b =>
      trivial;exact k
    | int i =>
      trivial;exact k
    | str t =>
      have oy:(PyData.str t).canLay0=true:=by cases n <;> exact ox
      trivial;exact ⟨oy,oy,k⟩
    | dict kvs=>unfold okA at ox; exact ox.elim
    | list xs =>
      obtain ⟨hl,hx⟩:=hI xs (.inl ox);trivial;refine ⟨fun i e=>∃ o1 o2:Option SV,e=[some (.d (.list xs)),some (.d (.list xs)),o1,o2],⟨_,_,rfl⟩,?_,?_⟩
      · rintro i x e hxi ⟨o1,o2,rfl⟩
        obtain ⟨a,ha,rfl⟩:=U1 hxi;trivial;refine hx a (Zm ha) _ ?_;trivial;exact ⟨_,_,rfl⟩
      · rintro e ⟨o1,o2,rfl⟩
        trivial;exact k
    | tuple xs =>
      obtain ⟨hl,hx⟩:=hI xs (.inr ox);trivial;refine ⟨fun i e=>∃ o1 o2:Option SV,e=[some (.d (.tuple xs)),some (.d (.tuple xs)),o1,o2],⟨_,_,rfl⟩,?_,?_⟩
      · rintro i x e hxi ⟨o1,o2,rfl⟩
        obtain ⟨a,ha,rfl⟩:=U1 hxi;trivial;refine hx a (Zm ha) _ ?_;trivial;exact ⟨_,_,rfl⟩
      · rintro e ⟨o1,o2,rfl⟩
        trivial;exact k
  intro n;induction n with
  | zero=>exact step 0 _ (A98 rfl) fun xs h=>by rcases h with h | h <;> (unfold okA at h; exact h.elim)
  | succ n ih =>
    refine step (n + 1) _ ih fun xs h=>?_;have h':xs.length < 1000/\∀ x ∈ xs,okA n x:=by rcases h with h | h <;> (unfold okA at h; exact h)
    exact ⟨h'.1,fun x hx Q q=>⟨x,rfl,h'.2 x hx,q⟩⟩
def A0f:Pu.PSp:=fun as Q=>∃ n:Nat,as=[.d (.int (n:Int))]/\n < 10 ^ 300/\Q (.d (.str (sO (dgs n))))
theorem O9 (T:Txt K mg D):FnOk P w K mg base CX0 1 D.a_Lfigures D.d_Lfigures ["_law_number"] (Pu.spOf K [.dat] A0f):=by
  refine T.B.F_Lfigures.ok sc_Lfigures (Zz rfl) (fun cdv A outer s H vs Q E hr h=>?_);refine ⟨_,(QSs.out (A1 (qst 1 sc_Lfigures A5)
      (A1 (K7 PassesOwn.never (QW.pt (O8 (A9 A9t (qpv 0) A3 (B5 _)) (K1 (A9 (F7 (K:=K) rfl hr.units) (qpv 1) A5 (B5 _)))))
        (A1 (qst 1 sc_Lfigures (A8 D6 (qix K A5 (A8 J0 (qpv 0) A3)) (qpv 1)))
        (A4 (qst 0 sc_Lfigures (A8 D5 (qpv 0) A3)))))
      (A4 (A7 (qpv 1)))))),?_⟩
  refine Pu.J1 h ?_;rintro as Qp ⟨n,rfl,hn,k⟩;have hl:=R1 hn;refine hd fun R hR=>?_;trivial;subst hR;rw [mE];refine hd fun R hR=>?_;refine A0y (fun m e=>∃ (a:Nat) (f:List Nat),e=[some (.d (.int (a:Int))),some (.d (.str (sO f)))]/\m=a + (if f=[] then 1 else 0)/\(f=[]->a=n)/\(f≠[]->(a=0/\f=dgs n)\/(0 < a/\dgs a++f=dgs n))/\a<=n/\(∀ c ∈ f,c < 128)/\f.length<=300) ⟨_,n,[],rfl,rfl,fun _=>rfl,fun z=>absurd rfl z,Zv _,(fun _ z=>nomatch z),Nat.zero_le _⟩ ?_;rintro m e ⟨a,f,rfl,hm,h1,h2,h3,h4,h5⟩;have ha:a % 10 < 10:=Nat.mod_lt a (by decide);have em:((a:Nat):Int) % 10=((a % 10:Nat):Int):=by norm_cast
  have edv:Int.fdiv ((a:Nat):Int) 10=((a / 10:Nat):Int):=by rw [Int.fdiv_eq_ediv_of_nonneg _ (by decide)]; norm_cast
  refine B5v (fun e'=>e'=[some (.d (.int (a:Int))),some (.d (.str (sO ((48 + a % 10) :: f))))]/\(0 < a\/f=[])) ?_ (fun R' hR'=>?_)
  · rintro e' ⟨rfl,hx⟩
    trivial;refine ⟨⟨by decide,by unfold Sm; decide⟩,a / 10,?_,a / 10,(48 + a % 10) :: f,by rw [edv],by simp,by simp,fun _=>?_,by omega,fun c hc=>?_,?_⟩
    · rcases hx with hx | hx
      · rw [hm]; omega
      · rw [hm,if_pos hx]; omega
    · by_cases hf:f=[]
      · have:a=n:=h1 hf
        subst this; subst hf;by_cases h10:a < 10
        · exact .inl ⟨by omega,by rw [M1 h10,show a % 10=a by omega]⟩
        · exact .inr ⟨by omega,(K3 (by omega)).symm⟩
      · rcases h2 hf with ⟨z,_⟩ | ⟨z,e2⟩
        · rcases hx with hx | hx
          · omega
          · exact absurd hx hf
        · by_cases h10:a < 10
          · exact .inl ⟨by omega,by rw [<- e2,M1 h10,show a % 10=a by omega]; rfl⟩
          · refine .inr ⟨by omega,?_⟩
            rw [<- e2,K3 (n:=a) (by omega),List.append_assoc]; rfl
    · rcases List.mem_cons.mp hc with m | m
      · omega
      · exact h4 c m
    · by_cases hf:f=[]
      · rw [hf]; show 1<=300; decide
      · rcases h2 hf with ⟨z,_⟩ | ⟨z,e2⟩
        · rcases hx with hx | hx
          · omega
          · exact absurd hx hf
        · have:=congrArg List.length e2
          rw [Ze] at this;have:=List.length_pos_iff.mpr (R0 a);rw [List.length_cons]; omega
  trivial;refine ite2 (fun z=>?_) (fun z=>?_)
  · refine ⟨by decide,by decide,48 + a % 10,by rw [em,mFig]; exact B26 ha,?_⟩
    unfold sgn;trivial;rw [show (⟨#[48 + a % 10]⟩:Str)=sO [48 + a % 10] from rfl,C6];exact ⟨by rw [B0,B0]; show 1 + _<=_; omega,hR' _ ⟨rfl,.inl (by omega)⟩⟩
  · rw [A2q]
    refine ⟨M0 h4,B91,ite2 (fun y=>?_) (fun y=>?_)⟩
    · refine ⟨by decide,by decide,48 + a % 10,by rw [em,mFig]; exact B26 ha,?_⟩
      unfold sgn;trivial;rw [show (⟨#[48 + a % 10]⟩:Str)=sO [48 + a % 10] from rfl,C6];exact ⟨by rw [B0,B0]; show 1 + _<=_; omega,hR' _ ⟨rfl,.inr (of_decide_eq_true y)⟩⟩
    · subst hR
      trivial;rcases h2 (fun q=>y (Zk q)) with ⟨_,e⟩ | ⟨p,_⟩
      · rw [e]; exact k
      · omega
def V3:Pu.PSp:=fun as Q=>as=[.st]/\∀ q:Rat,q.num.natAbs < 10 ^ 60->q.den < 10 ^ 60->Q (.d (dq q))
theorem W3 (T:Txt K mg D):FnOk P w K mg base CX0 2 D.a_Lfraction D.d_Lfraction ["_law_state"] (Pu.spOf K [.st] V3):=by
  refine T.B.F_Lfraction.ok sc_Lfraction (Zz rfl) (fun cdv A outer s H vs Q E hr h=>?_);refine ⟨_,(QSs.out (A1 (qst 1 sc_Lfraction (qcK (D9 (K:=K) T) hr.mo (G7 T) (A0 (qpv 0) (A0 A3 A2))))
      (A1 (qst 2 sc_Lfraction (qcK (D9 (K:=K) T) hr.mo (G7 T) (A0 (qpv 0) (A0 (qix K (F6 (A0 A3 (A0 A3 (A0 (A8 L6 A3 A3) (A0 (A8 L6 A3 A3) (A0 (A8 L6 A3 A3) A2)))))) (qpv 1)) A2))))
      (A1 (qst 3 sc_Lfraction (A8 N6 A3 (qcK (D9 (K:=K) T) hr.mo (G7 T) (A0 (qpv 0) (A0 (qix K (F6 (A0 A3 (A0 A3 (A0 (A8 B15 (A8 L6 A3 A3) A3) A2)))) (qcK (D9 (K:=K) T) hr.mo (G7 T) (A0 (qpv 0) (A0 A3 A2)))) A2)))))
      (A1 (qst 4 sc_Lfraction (qcK (B41 (K:=K) T) hr.mo (B83 T) (A0 (qpv 2) (A0 (qpv 3) A2))))
      (A1 (C2 (A9 (F7 (K:=K) rfl hr.units) (qcK (D9 (K:=K) T) hr.mo (G7 T) (A0 (qpv 0) (A0 A3 A2))) A3 (B5 _))
        (A4 (A7 (M5 (A0 (A8 B15 A3 (qix K (qpv 4) A3)) (A0 (qix K (qpv 4) A3) A2)))))
        B3)
      (A4 (A7 (qpv 4))))))))),?_⟩
  refine Pu.J1 h ?_;rintro as Qp ⟨rfl,k⟩;refine hd fun R hR=>?_;trivial;refine ⟨5,rfl,by decide,sm4 5,fun way w0 w5=>?_⟩;trivial;subst hR;refine hd fun R hR=>?_;trivial;refine ⟨N8 6,N8 30,N8 60,?_⟩;obtain ⟨_,⟨n,rfl,n0,n1⟩,e⟩:=A8s (P:=Pz) (d:=way) B3d w0 w5;refine A0i e ?_;trivial;refine ⟨n,rfl,n0,(smz (by omega) n1).mono (by decide),fun t t0 t1=>?_⟩;trivial;subst hR;refine hd fun R hR=>?_;trivial;refine ⟨N8 60,3,rfl,by decide,sm4 3,fun d d0 d3=>?_⟩;trivial;obtain ⟨_,⟨m,rfl,m0,m1⟩,e⟩:=A8s (P:=Pw) (d:=d) B5n d0 d3;refine A0i e ?_;trivial;refine ⟨m,rfl,m0,(smz (by omega) (Int.le_of_lt m1)).mono (by decide),fun b b0 b1=>?_⟩;trivial;subst hR;refine hd fun R hR=>?_;trivial;have hb0:0 < 1 + b:=by omega
  refine ⟨t,1 + b,rfl,hb0,(smz t0 (by omega)).mono (by decide),(smz (by omega) (by omega)).mono (by decide),?_⟩;trivial;obtain ⟨f1,f2⟩:=A97 t0 t1 n1 hb0 (by omega) m1;generalize Rat.divInt t (1 + b)=q at *;subst hR;trivial;refine ⟨2,rfl,by decide,sm4 2,fun c c0 c2=>?_⟩;trivial;refine ite2 (fun _=>?_) (fun _=>k q f1 f2);rw [Int.zero_sub,B8z];refine k (-q) ?_ ?_
  · show (-q.num).natAbs < _
    rw [Int.natAbs_neg]; exact f1
  · exact f2
def A9k:Pu.PSp:=fun as Q=>∃ q:Rat,as=[.d (dq q)]/\q.num.natAbs < 10 ^ 300/\q.den < 10 ^ 300/\Q (.d (.str (sO (rtL q))))
theorem A11 (T:Txt K mg D):FnOk P w K mg base CX0 2 D.a_Ltext D.d_Ltext ["_law_one"] (Pu.spOf K [.dat] A9k):=by
  refine T.B.F_Ltext.ok sc_Ltext (Zz rfl) (fun cdv A outer s H vs Q E hr h=>?_);refine ⟨_,(QSs.out (A1 (qst 1 sc_Ltext (qcK (O9 (K:=K) T) hr.mo (R4 T) (A0 (B1 J2 (by rfl) T.z_abs (by rfl) (A0 (qix K (qpv 0) A3) A2)) A2)))
      (A1 (C2 (A9 A29 (qix K (qpv 0) A3) A3 (B5 _))
        (A4 (qst 1 sc_Ltext (A8 D6 A5 (qpv 1))))
        B3)
      (A1 (C2 (A9 A9t (qix K (qpv 0) A3) A3 (B5 _))
        (A4 (qst 1 sc_Ltext (A8 D6 (A8 D6 (qpv 1) A5) (qcK (O9 (K:=K) T) hr.mo (R4 T) (A0 (qix K (qpv 0) A3) A2)))))
        B3)
      (A4 (A7 (qpv 1))))))),?_⟩
  refine Pu.J1 h ?_;rintro as Qp ⟨q,rfl,h1,h2,k⟩;have hl1:=R1 h1;have hl2:=R1 h2;refine hd fun R hR=>?_;trivial;rw [P1];refine ⟨_,rfl,h1,?_⟩;trivial;subst hR;refine O6 (fun e=>e=[some (.d (dq q)),some (.d (.str (sO (whL q.num))))]) (fun R hR=>?_) ?_
  · trivial
    refine ite2 (fun z=>?_) (fun z=>?_)
    · rw [m45,C6]
      refine ⟨by rw [B0,B0]; show 1 + _<=_; omega,hR _ ?_⟩;unfold whL;rw [if_pos z]; rfl
    · refine hR _ ?_
      unfold whL;rw [if_neg z]
  rintro e rfl;have hw:(whL q.num).length<=301:=by
    unfold whL;split
    · rw [List.length_cons]; omega
    · omega
  trivial;refine ite2 (fun z=>?_) (fun z=>?_)
  · rw [m47,C6]
    refine ⟨by rw [B0,B0]; show _ + 1<=_; omega,q.den,rfl,h2,?_⟩;trivial;rw [C6];have:whL q.num++[47]++dgs q.den=rtL q:=by unfold rtL; rw [if_pos (by omega)]; simp
    rw [this];exact ⟨by rw [B0,B0,Ze]; show _ + 1 + _<=_; omega,k⟩
  · have:rtL q=whL q.num:=by unfold rtL; rw [if_neg (by omega),List.append_nil]
    rw [this] at k;exact k
def B37:Pu.PSp:=fun as Q=>∃ d:Int,as=[.d (.int d)]/\0<=d/\d < 43/\∀ x,OddX x->Q (.d x)
theorem B40 (T:Txt K mg D):FnOk P w K mg base CX0 1 D.a_Lodd D.d_Lodd ["_law_turn"] (Pu.spOf K [.dat] B37):=by
  refine T.B.F_Lodd.ok sc_Lodd (Zz rfl) (fun cdv A outer s H vs Q E hr h=>?_);refine' Exists.intro _ (And.intro (QSs.out ?h) ?g)
  case h =>
    exact (A1 (qst 1 sc_Lodd (F6 (A0 A5 (A0 A5 (A0 A5 (A0 A5 (A0 A5 (A0 A5 (A0 A5 (A0 A5 (A0 A5 (A0 A5 (A0 A5 (A0 A5 (A0 A5 (A0 A5 (A0 A5 (A0 A5 (A0 A5 A2)))))))))))))))))))
      (A1 (qst 1 sc_Lodd (A8 (A0k (K:=K) rfl) (qpv 1) (F6 (A0 A5 (A0 A5 (A0 A5 (A0 A5 (A0 A5 (A0 A5 (A0 A5 (A0 A5 (A0 A5 (A0 A5 (A0 A5 (A0 A5 (A0 A5 (A0 A5 A2)))))))))))))))))
      (A1 (qst 1 sc_Lodd (A8 (A0k (K:=K) rfl) (qpv 1) (F6 (A0 A5 (A0 A5 (A0 A5 (A0 (A8 T1 A5 A3) (A0 (A8 D6 A5 (A8 T1 A5 A3)) (A0 (A8 D6 A5 (A8 T1 A5 A3)) (A0 (A8 D6 (A8 D6 A5 (A8 T1 A5 A3)) A5) A2))))))))))
      (A4 (A7 (qix K (A8 (A0k (K:=K) rfl) (qpv 1) (F6 (A0 D0 (A0 A3 (A0 G1 (A0 (M5 (A0 A3 (A0 A3 A2))) (A0 (F6 (A0 A5 A2)) A2))))))) (qpv 0)))))))
  case g =>
    refine Pu.J1 h ?_;rintro as Qp ⟨d,rfl,d0,d1,k⟩
    repeat (first | refine And.intro (Nat.le_of_ble_eq_true rfl) ?_ | refine And.intro (by decide) ?_)
    have d2:d < (oddsL.length:Int):=by rw [show oddsL.length=43 from rfl]; exact d1
    obtain ⟨x,hx,e⟩:=A8s (P:=OddX) (xs:=oddsL) (d:=d) A9u d0 d2;exact A0i e (k x hx)
def A0e:Pu.PSp:=fun as Q=>∃ (l:List Nat) (t:Int),as=[.d (.str (sO l)),.d (.int t)]/\l.length<=300/\0<=t/\t < 1000000/\∀ c a b,strB c=true->l=a++b->Q (.d (.str (sO (a++c :: b))))
theorem A0l (T:Txt K mg D):FnOk P w K mg base CX0 1 D.a_Lstrange D.d_Lstrange ["_law_text_here","_law_turn"] (Pu.spOf K [.dat,.dat] A0e):=by
  refine T.B.F_Lstrange.ok sc_Lstrange (Zz rfl) (fun cdv A outer s H vs Q E hr h=>?_);refine ⟨_,(QSs.out (A1 (qst 2 sc_Lstrange A5)
      (A1 (qst 3 sc_Lstrange (A8 J0 (A8 D5 (qpv 1) A3) (A8 N6 (qln K T.z_len (qpv 0)) A3)))
      (A4 (A7 (A8 D6 (A8 D6 (G0 U9 (qpv 0) J7 (J6 (qpv 3))) (qix K (qpv 2) (A8 J0 (qpv 1) A3))) (G0 U9 (qpv 0) (J6 (qpv 3)) J7))))))),?_⟩
  refine Pu.J1 h ?_;rintro as Qp ⟨l,t,rfl,hl,t0,t1,k⟩;trivial;rw [B0,mStr,Int.fdiv_eq_ediv_of_nonneg t (by decide)];obtain ⟨i,hi,ei⟩:∃ i:Nat,i<=l.length/\t / 51 % ((l.length:Int) + 1)=(i:Int):=by
    have a0:=Int.emod_nonneg (t / 51) (show (l.length:Int) + 1≠0 by omega);have a1:=Int.emod_lt_of_pos (t / 51) (show 0 < (l.length:Int) + 1 by omega);exact ⟨(t / 51 % ((l.length:Int) + 1)).toNat,by omega,by omega⟩
  rw [ei,A1a hi,A1b hi];obtain ⟨c,hc,ec⟩:∃ c,strB c=true/\L2.atI strL (t % 51)=some c:=by
    have a0:=Int.emod_nonneg t (show (51:Int)≠0 by decide);have a1:=Int.emod_lt_of_pos t (show (0:Int) < 51 by decide);obtain ⟨j,ej⟩:=Zi a0;have hj:j < strL.length:=by rw [show strL.length=51 from rfl]; omega
    refine ⟨strL[j],List.all_eq_true.mp B3o _ (List.getElem_mem hj),?_⟩;rw [ej];exact J4 (Zg hj)
  have g:=k c _ _ hc (List.take_append_drop i l).symm;have e0:sO (l.take i)++sO [c]++sO (l.drop i)=sO (l.take i++c :: l.drop i):=by rw [C6,C6]; simp
  have hlt:(l.take i).length<=300:=by rw [List.length_take]; omega
  have hld:(l.drop i).length<=300:=by rw [List.length_drop]; omega
  refine ⟨⟨by decide,by unfold Sm; decide⟩,by omega,by omega,by omega,by decide,by decide,c,ec,?_⟩;unfold sgn;trivial;rw [show (⟨#[c]⟩:Str)=sO [c] from rfl,e0,C6];refine ⟨by rw [B0,B0]; show _ + 1<=_; omega,by omega,by rw [B0,B0,Ze]; show _ + 1 + _<=_; omega,g⟩
def L5:Pu.PSp:=fun as Q=>∃ x:PyData,as=[.d x]/\OddX x/\Q (.d (.bool true))
theorem E5 (T:Txt K mg D):FnOk P w K mg base CX0 10 D.a_Lisrefused D.d_Lisrefused ["_law_thing"] (Pu.spOf K [.dat] L5):=by
  refine T.B.F_Lisrefused.ok sc_Lisrefused (Zz rfl) (fun cdv A outer s H vs Q E hr h=>?_);refine ⟨_,(QSs.out (A1 (qst 1 sc_Lisrefused D0)
      (A1 (A1h (L7 (K:=K) T) hr.mo (by rfl) T.m_readratio T.B.F_readratio.kp (G6 T).b (A0 (qpv 0) A2) (A4l (C:=D.k_NoText) (i:=2) (by rfl) T.c_NoText T.xm_NoText_NoText sc_Lisrefused.nd (by rfl) (by rfl) (B3w (i:=2) (j:=1) T.J_NoText.choose_spec.choose_spec (ExC.of T.xga_NoText T.xgn_NoText T.xgc_NoText T.xsb_NoText T.xso_NoText T.xhd_NoText T.xty_NoText) rfl rfl sc_Lisrefused.nd rfl rfl)))
      (A1 (C2 (E7 (C4 (qcK (L9 (K:=K) T 8) hr.mo (N4 T) (A0 (qpv 1) (A0 A3 A2)))))
        (A4 (A7 G1))
        B3)
      (A1 (qst 3 sc_Lisrefused G1)
      (A1 (A1h (L7 (K:=K) T) hr.mo (by rfl) T.m_readratio T.B.F_readratio.kp (G6 T).b (A0 (qpv 0) A2) (A4l (C:=D.k_NoText) (i:=2) (by rfl) T.c_HurryError T.xm_NoText_HurryError sc_Lisrefused.nd (by rfl) (by rfl) (A9c (i:=2) (j:=3) sc_Lisrefused.nd rfl rfl (fun _ _ he=>(B21 (B5b he (ExC.of T.xga_NoText T.xgn_NoText T.xgc_NoText T.xsb_NoText T.xso_NoText T.xhd_NoText T.xty_NoText) (by rfl) T.z_isinstance (by rfl) (Or.inl (by rfl)) (B92 (by rfl) T.z_ValueError (by rfl)) T.xi_NoText_ValueError) (B21 (B20 (B5b he (ExC.of T.xga_NoText T.xgn_NoText T.xgc_NoText T.xsb_NoText T.xso_NoText T.xhd_NoText T.xty_NoText) (by rfl) T.z_isinstance (by rfl) (Or.inl (by rfl)) (B22 (by rfl) T.c_NoNumber) T.xi_NoText_NoNumber)) (B8n (B20 (B5b he (ExC.of T.xga_NoText T.xgn_NoText T.xgc_NoText T.xsb_NoText T.xso_NoText T.xhd_NoText T.xty_NoText) (by rfl) T.z_isinstance (by rfl) (Or.inl (by rfl)) (B22 (by rfl) T.c_NoRow) T.xi_NoText_NoRow)))))))))
      (A4 (A7 (qpv 3))))))))),?_⟩
  refine Pu.J1 h ?_;rintro as Qp ⟨x,rfl,ox,k⟩;trivial;refine ⟨_,⟨x,rfl,ox,rfl⟩,_,rfl,True.intro,?_⟩;trivial;exact ⟨_,⟨x,rfl,ox,rfl⟩,k⟩
def V2:Pu.PSp:=fun as Q=>∃ p q:Rat,as=[.d (dq p),.d (dq q)]/\p.num.natAbs < 10 ^ 60/\p.den < 10 ^ 60/\q.num.natAbs < 10 ^ 60/\q.den < 10 ^ 60/\Q (.d (.bool true))
theorem W2 (T:Txt K mg D):FnOk P w K mg base CX0 11 D.a_Lislonger D.d_Lislonger ["_law_one","_law_other"] (Pu.spOf K [.dat,.dat] V2):=by
  refine T.B.F_Lislonger.ok sc_Lislonger (Zz rfl) (fun cdv A outer s H vs Q E hr h=>?_);refine ⟨_,(QSs.out (A1 (qst 2 sc_Lislonger (qcK (A3b (K:=K) T) hr.mo (A8q T) (A0 (qpv 0) (A0 (qpv 1) A2))))
      (A1 (qst 3 sc_Lislonger (qcK (A11 (K:=K) T) hr.mo (A8r T) (A0 (qpv 2) A2)))
      (A1 (C2 (E7 (C4 (qcK (L9 (K:=K) T 8) hr.mo (N4 T) (A0 (qcK (L8 (K:=K) T) hr.mo (N9 T) (A0 (qpv 2) A2)) (A0 (qpv 3) A2)))))
        (A4 (A7 G1))
        B3)
      (A1 (C2 (QW.pt (A4h (A9 A29 (B1 J2 (by rfl) T.z_abs (by rfl) (A0 (qix K (qpv 2) A3) A2)) (A8 L6 A3 A3) (B5 _)) (A1g (A9 A29 (qix K (qpv 2) A3) (A8 L6 A3 A3) (B5 _)))))
        (A4 (A7 (qcK (L9 (K:=K) T 8) hr.mo (N4 T) (A0 (qcK (N7 (K:=K) T) hr.mo (G6 T) (A0 (qpv 3) A2)) (A0 (qpv 2) A2)))))
        B3)
      (A4 (A7 (qcK (E5 (K:=K) T) hr.mo (F4 T) (A0 (qpv 3) A2))))))))),?_⟩
  refine Pu.J1 h ?_;rintro as Qp ⟨p,q,rfl,h1,h2,h3,h4,k⟩;obtain ⟨sp,sq,n1,n2⟩:=B48 h1 h2 h3 h4;refine hd fun R hR=>?_;trivial;refine ⟨p,q,rfl,sp,sq,?_⟩;trivial;generalize p * q=r at *;have hle:(rtL r).length<=600:=Zx (B6d n1 n2) (by decide);have e1:=B51 n1;have e2:=B51 n2;clear n1 n2 sp sq h1 h2 h3 h4;subst hR;refine hd fun R hR=>?_;trivial;refine ⟨r,rfl,e1,e2,?_⟩;trivial;subst hR;refine hd fun R hR=>?_;trivial;refine ⟨r,rfl,e1,e2,?_⟩;trivial;refine ⟨_,rfl,M0 (A1e r),?_⟩;trivial;clear e1 e2;subst hR;have no:(60 < (dgs r.num.natAbs).length\/(1 < r.den/\60 < (dgs r.den).length))->L5 [SV.d (.str (sO (rtL r)))] Qp:=fun z =>
    ⟨_,rfl,⟨by rw [B0]; exact hle,A9b z⟩,k⟩
  refine O6 (fun e=>e=[some (.d (dq p)),some (.d (dq q)),some (.d (dq r)),some (.d (.str (sO (rtL r))))]/\(60 < (dgs r.num.natAbs).length\/(1 < r.den/\60 < (dgs r.den).length))) (fun R hR=>?_) ?_
  · nofun
    rw [P1];refine B49 ?_ (fun z=>hR _ ⟨rfl,z⟩);intro z1 z2;refine ⟨rtL r,(r.num,(r.den:Int)),rfl,hle,B0v z1 z2,?_⟩;trivial;exact ⟨dq r,rfl,B17 r 7,k⟩
  rintro e ⟨rfl,z⟩;trivial;exact no z
theorem B7y (T:Txt K mg D):FnOk P w K mg base CX0 12 D.a_law D.d_law ["_law_script"] (B3p K):=by
  refine FnOk.imp (sp:=Pu.spOf K [.vw] Pu.pLaw) ?_ Pu.B8g;refine T.F_law.ok sc_law (Zz rfl) (fun cdv A outer s H vs Q E hr h=>?_);refine ⟨_,(QSs.out (A1 (qst 1 sc_law (G0 (A85 (K:=K) rfl) (qpv 0) J7 (J6 A3)))
      (A1 (C2 (A9 (F7 (K:=K) rfl hr.units) (qpv 1) (F6 A2) (B5 _))
        (A4 (qst 1 sc_law (F6 (A0 A3 A2))))
        B3)
      (A1 (qst 2 sc_law (M5 (A0 A3 (A0 A3 A2))))
      (A1 (A4k PassesOwn.never rfl (A25 rfl T.z_range (A0 (qln K T.z_len (qpv 1)) A2)) (qgn 3 sc_law)
        (A1 (qst 4 sc_law (qcK (A52 (K:=K) T) hr.mo (B0j T) (A0 (qpv 1) (A0 (qpv 3) A2))))
        (A1 (qst 5 sc_law (qcK (W3 (K:=K) T) hr.mo (A0u T) (A0 (qpv 4) A2)))
        (A1 (qst 6 sc_law (qcK (A11 (K:=K) T) hr.mo (A8r T) (A0 (qpv 5) A2)))
        (A1 (C2 (E7 (C4 (qcK (W2 (K:=K) T) hr.mo (A0t T) (A0 (qpv 5) (A0 (qpv 2) A2)))))
          (A4 (A7 G1))
          B3)
        (A1 (qst 2 sc_law (qpv 5))
        (A1 (C2 (QW.pt (O8 (E7 (C4 (qcK (L9 (K:=K) T 8) hr.mo (N4 T) (A0 (qcK (L8 (K:=K) T) hr.mo (N9 T) (A0 (qpv 5) A2)) (A0 (qpv 6) A2))))) (K1 (E7 (C4 (qcK (L9 (K:=K) T 8) hr.mo (N4 T) (A0 (qcK (N7 (K:=K) T) hr.mo (G6 T) (A0 (qpv 6) A2)) (A0 (qpv 5) A2))))))))
          (A4 (A7 G1))
          B3)
        (A1 (qst 7 sc_law (qcK (D9 (K:=K) T) hr.mo (G7 T) (A0 (qpv 4) (A0 (A8 N6 (qln K T.z_len (qpv 6)) A3) A2))))
        (A1 (qst 8 sc_law (A8 D6 (A8 D6 (G0 U9 (qpv 6) J7 (J6 (qpv 7))) (qix K A5 (qcK (D9 (K:=K) T) hr.mo (G7 T) (A0 (qpv 4) (A0 A3 A2))))) (G0 U9 (qpv 6) (J6 (qpv 7)) J7)))
        (A1 (C2 (QW.pt (O8 (E7 (C4 (qcK (E5 (K:=K) T) hr.mo (F4 T) (A0 (qpv 8) A2)))) (K1 (E7 (C4 (qcK (E5 (K:=K) T) hr.mo (F4 T) (A0 (qcK (B40 (K:=K) T) hr.mo (B82 T) (A0 (qcK (D9 (K:=K) T) hr.mo (G7 T) (A0 (qpv 4) (A0 A3 A2))) A2)) A2)))))))
          (A4 (A7 G1))
          B3)
        (A4 (C2 (E7 (C4 (qcK (E5 (K:=K) T) hr.mo (F4 T) (A0 (qcK (A0l (K:=K) T) hr.mo (A3n T) (A0 (qpv 6) (A0 (qcK (D9 (K:=K) T) hr.mo (G7 T) (A0 (qpv 4) (A0 (A8 L6 A3 A3) A2))) A2))) A2))))
          (A4 (A7 G1))
          B3))))))))))))
      (A4 (A7 G1))))))),?_⟩
  refine Pu.J1 h ?_;rintro as Qp ⟨ns,rfl,hns,k⟩;refine hd fun R hR=>?_;trivial;rw [B94];subst hR;refine O6 (fun e=>∃ ms:List Int,e=[some (.bor (ns.map .int)),some (.own (ms.map .int)),none,none,none,none,none,none,none]/\0 < ms.length/\ms.length<=63) (fun R hR=>?_) ?_
  · trivial
    refine ⟨A18 _,B0a _,ite2 (fun z=>hR _ ⟨[0],rfl,by decide,by decide⟩) (fun z=>hR _ ⟨_,rfl,?_,by rw [List.length_take]; omega⟩)⟩;cases ns with
    | nil=>exact absurd rfl z
    | cons a r=>rw [List.length_take]; show 0 < min 63 (r.length + 1); omega
  rintro e ⟨ms,rfl,m0,m1⟩;refine hd fun R hR=>?_;trivial;subst hR;rw [show PyData.tuple [.int 7,.int 3]=dq (Rat.divInt 7 3) from rfl];refine hd fun R hR=>?_;trivial;refine ⟨by omega,B5g (fun i e=>∃ (q:Rat) (o3 o4 o5 o6 o7 o8:Option SV),e=[some (.bor (ns.map .int)),some (.own (ms.map .int)),some (.d (dq q)),o3,o4,o5,o6,o7,o8]/\q.num.natAbs < 10 ^ 60/\q.den < 10 ^ 60) ⟨_,_,_,_,_,_,_,rfl,by decide +kernel,by decide +kernel⟩ ?_ ?_⟩
  · rintro i e hi ⟨p,o3,o4,o5,o6,o7,o8,rfl,p1,p2⟩
    rw [Int.toNat_natCast] at hi;refine hd fun R hR=>?_;trivial;refine ⟨ms,_,rfl,by omega,by omega,?_⟩;trivial;subst hR;refine hd fun R hR=>?_;trivial;refine ⟨rfl,fun q q1 q2=>?_⟩;trivial;have hle:=B9g q1 q2;subst hR;refine hd fun R hR=>?_;trivial;refine ⟨q,rfl,A33 q1,A33 q2,?_⟩;trivial;subst hR;refine hd fun R hR=>?_;trivial;refine ⟨q,p,rfl,q1,q2,p1,p2,?_⟩;trivial;subst hR;refine hd fun R hR=>?_;trivial;subst hR;refine hd fun R hR=>?_;trivial;refine ⟨q,rfl,A33 q1,A33 q2,?_⟩;trivial;refine ⟨_,rfl,M0 (A1e q),?_⟩;trivial;refine ⟨rtL q,(q.num,(q.den:Int)),rfl,by omega,B0v (dgs60.mp q1) (dgs60.mp q2),?_⟩;trivial;refine ⟨dq q,rfl,B17 q 7,?_⟩;trivial;subst hR;refine hd fun R hR=>?_;trivial;rw [B0];refine ⟨by omega,((rtL q).length:Int) + 1,rfl,by omega,(smN (n:=(rtL q).length + 1) (by omega)),fun t t0 t1=>?_⟩;trivial;subst hR;obtain ⟨j,hj,ej⟩:∃ j:Nat,j<=(rtL q).length/\t=(j:Int):=⟨t.toNat,by omega,by omega⟩;subst ej;refine hd fun R hR=>?_;trivial;rw [B0];refine ⟨by omega,10,rfl,by decide,sm4 10,fun c c0 c10=>?_⟩;trivial;have d10:c < (bentL.length:Int):=by rw [show bentL.length=10 from rfl]; exact c10
    obtain ⟨x,hx,ex⟩:=B5r (P:=fun c=>strB c=true) (fun y hy=>List.all_eq_true.mp B0h y hy) c0 d10;rw [B9z];refine ⟨by decide,x,ex,?_⟩;unfold sgn;trivial;rw [A1a hj,A1b hj,show (⟨#[x]⟩:Str)=sO [x] from rfl,C6,C6];have hlt:((rtL q).take j).length<=130:=by rw [List.length_take]; omega
    have hld:((rtL q).drop j).length<=130:=by rw [List.length_drop]; omega
    refine ⟨by rw [B0,B0]; show _ + 1<=_; omega,by rw [B0]; omega,by rw [B0,B0,Ze]; show _ + 1 + _<=_; omega,?_⟩;have ob:OddX (.str (sO ((rtL q).take j++[x]++(rtL q).drop j))):=B18 (c:=x) (by simp) hx (by rw [Ze,Ze]; show _ + 1 + _<=_; omega);subst hR;refine hd fun R hR=>?_;trivial;refine ⟨_,rfl,ob,?_⟩;trivial;refine ⟨43,rfl,by decide,sm4 43,fun d d0 d1=>?_⟩;trivial;refine ⟨d,rfl,d0,d1,fun y oy=>?_⟩;trivial;refine ⟨y,rfl,oy,?_⟩;trivial;subst hR;trivial;have e5:(10:Int) ^ Int.toNat 5=100000:=by decide
    rw [e5];refine ⟨N8 5,100000,rfl,by decide,by unfold Sm; decide,fun t t0 t1=>?_⟩;trivial;refine ⟨rtL q,t,rfl,by omega,t0,by omega,fun z u v hz ev=>?_⟩;trivial;refine ⟨_,rfl,B18 (c:=z) (by simp) hz (by have:=congrArg List.length ev; rw [Ze] at this; rw [Ze,List.length_cons]; omega),?_⟩;trivial;exact ⟨_,_,_,_,_,_,_,rfl,q1,q2⟩
  rintro e ⟨p,o3,o4,o5,o6,o7,o8,rfl,p1,p2⟩;subst hR;trivial;exact k
end
theorem all_mk {l:PySem.W.OpenLaw} {w:World} {K:PySem.W.Frag} {h:Heap} {mg:Str->Option Value} {fa:Addr} (X:K.In h) (G:h.Ns mainGlobals mg) (hfa:mg "law"=some (.ref fa)) {a_commonpart a_product a_shownwhole a_shownratio a_wholein a_ratioin a_readratio a_Lbegun a_Ltake a_Llow a_Lsame a_Lfigures a_Lfraction a_Ltext a_Lodd a_Lstrange a_Lislonger a_Lisrefused k_NoText k_HurryError k_NoRow k_NoNumber:Addr} {d_commonpart d_product d_shownwhole d_shownratio d_wholein d_ratioin d_readratio d_Lbegun d_Ltake d_Llow d_Lsame d_Lfigures d_Lfraction d_Ltext d_Lodd d_Lstrange d_Lislonger d_Lisrefused:FuncData} (B:TxB K a_commonpart a_product a_shownwhole a_shownratio a_wholein a_ratioin a_readratio a_Lbegun a_Ltake a_Llow a_Lsame a_Lfigures a_Lfraction a_Ltext a_Lodd a_Lstrange a_Lislonger a_Lisrefused k_NoText k_HurryError k_NoRow k_NoNumber d_commonpart d_product d_shownwhole d_shownratio d_wholein d_ratioin d_readratio d_Lbegun d_Ltake d_Llow d_Lsame d_Lfigures d_Lfraction d_Ltext d_Lodd d_Lstrange d_Lislonger d_Lisrefused)
    {od_law an_law:Option Addr} {sl_law:Array (Option Value)} {oc_law kV_law dc_law pm_law cd_law ct_law:Value} {a_law:Addr}
    {t_MOST_FIGURES:Tok}
    {t_CHUNK:Tok}
    {t_CHUNK_FIGURES:Tok}
    {t_FIGURES:Tok}
    {osy:Obj}
    (g_law:PySem.W.nsIn K mainGlobals "law"=some (some (.ref a_law)))
    (l_law:K.lookup a_law=some ⟨oc_law,od_law,.func (PySem.W.fnOf "law" "law" (D7 s_law) (C5 s_law) (A6 s_law) .none kV_law dc_law pm_law an_law cd_law ct_law),sl_law⟩)
    (c_law:PySem.W.codeIn K cd_law "law"=true)
    (k_law:PySem.W.keepIn K (.ref a_law)=true)
    (gi_MOST_FIGURES:PySem.W.nsIn K mainGlobals "MOST_FIGURES"=some (some (.int 60 t_MOST_FIGURES)))
    (gi_CHUNK:PySem.W.nsIn K mainGlobals "CHUNK"=some (some (.int 1000000000000000000 t_CHUNK)))
    (gi_CHUNK_FIGURES:PySem.W.nsIn K mainGlobals "CHUNK_FIGURES"=some (some (.int 18 t_CHUNK_FIGURES)))
    (gs_FIGURES:PySem.W.nsIn K mainGlobals "FIGURES"=some (some (.str "0123456789" t_FIGURES)))
    (J_NoText:∃ fI fd,InitX K k_NoText fI "row" "row" "NoText.__init__" s_NoTextinit fd ["self","row"])
    (xm_NoText_NoText:PySem.W.exmOne K (.ref k_NoText) (.ref k_NoText)=some true)
    (xga_NoText:PySem.W.findIn K (.ref k_NoText) "__getattribute__"=some (some (.builtin "BaseException.__getattribute__")))
    (xgn_NoText:PySem.W.findIn K (.ref k_NoText) "__getattr__"=some none)
    (xgc_NoText:PySem.W.findIn K (.ref k_NoText) "__class__"=some (some (.builtin "object.__class__")))
    (xsb_NoText:PySem.W.subIn K (.ref k_NoText) (.type "BaseException")=some true)
    (xso_NoText:PySem.W.subIn K (.ref k_NoText) (.type "object")=some true)
    (xhd_NoText:PySem.W.hasDictIn K k_NoText=true)
    (xty_NoText:(K.lookup k_NoText).map (·.cls)=some (.type "type"))
    (xm_NoText_HurryError:PySem.W.exmOne K (.ref k_NoText) (.ref k_HurryError)=some true)
    (xi_NoText_NoRow:PySem.W.kitOne K (.ref k_NoText) (.ref k_NoRow)=some false)
    (xi_NoText_NoNumber:PySem.W.kitOne K (.ref k_NoText) (.ref k_NoNumber)=some false)
    (xi_NoText_ValueError:PySem.W.kitOne K (.ref k_NoText) (.type "ValueError")=some true)
    (lsy:K.lookup sysModules=some osy)
    (lsz:osy.cls≠.type "list")
    : ∃ fd:FuncData,(∀ (s:Shared) (v:Value),BindsTo s fd ⟨[v],[]⟩ [("_law_script",v)])/\∀ base:Heap,K.In base->base.Ns mainGlobals mg->FnOk l.prog w K mg base CX0 12 fa fd ["_law_script"] (sp_law K):=by
  have e:=hfa.symm.trans (Zq X G g_law);cases e;have T:Txt K mg ⟨a_commonpart,d_commonpart,a_product,d_product,a_shownwhole,d_shownwhole,a_shownratio,d_shownratio,a_wholein,d_wholein,a_ratioin,d_ratioin,a_readratio,d_readratio,a_Lbegun,d_Lbegun,a_Ltake,d_Ltake,a_Llow,d_Llow,a_Lsame,d_Lsame,a_Lfigures,d_Lfigures,a_Lfraction,d_Lfraction,a_Ltext,d_Ltext,a_Lodd,d_Lodd,a_Lstrange,d_Lstrange,a_Lislonger,d_Lislonger,a_Lisrefused,d_Lisrefused,fa,PySem.W.fnOf "law" "law" (D7 s_law) (C5 s_law) (A6 s_law) .none kV_law dc_law pm_law an_law cd_law ct_law,k_NoText,k_HurryError,k_NoRow,k_NoNumber⟩:=⟨B,Zq X G B.g_commonpart,Zq X G B.g_product,Zq X G B.g_shownwhole,Zq X G B.g_shownratio,Zq X G B.g_wholein,Zq X G B.g_ratioin,Zq X G B.g_readratio,Zq X G B.g_Lbegun,Zq X G B.g_Ltake,Zq X G B.g_Llow,Zq X G B.g_Lsame,Zq X G B.g_Lfigures,Zq X G B.g_Lfraction,Zq X G B.g_Ltext,Zq X G B.g_Lodd,Zq X G B.g_Lstrange,Zq X G B.g_Lislonger,Zq X G B.g_Lisrefused,C7 (st:=s_law) l_law c_law k_law,Zq X G g_law,Zq X G B.gc_NoText,Zq X G B.gc_HurryError,Zq X G B.gc_NoRow,Zq X G B.gc_NoNumber,PySem.W.mg_none_of X G B.z_ValueError,PySem.W.mg_none_of X G B.z_abs,PySem.W.mg_none_of X G B.z_all,PySem.W.mg_none_of X G B.z_bool,PySem.W.mg_none_of X G B.z_divmod,PySem.W.mg_none_of X G B.z_int,PySem.W.mg_none_of X G B.z_isinstance,PySem.W.mg_none_of X G B.z_len,PySem.W.mg_none_of X G B.z_list,PySem.W.mg_none_of X G B.z_range,PySem.W.mg_none_of X G B.z_str,PySem.W.mg_none_of X G B.z_tuple,PySem.W.mg_none_of X G B.z_zip,⟨_,Zq X G gi_MOST_FIGURES⟩,⟨_,Zq X G gi_CHUNK⟩,⟨_,Zq X G gi_CHUNK_FIGURES⟩,⟨_,Zq X G gs_FIGURES⟩,J_NoText,xm_NoText_NoText,xga_NoText,xgn_NoText,xgc_NoText,xsb_NoText,xso_NoText,xhd_NoText,xty_NoText,xm_NoText_HurryError,xi_NoText_NoRow,xi_NoText_NoNumber,xi_NoText_ValueError,⟨_,lsy,lsz⟩⟩;exact ⟨_,fun s v=>.of_eq rfl,fun base _ _=>B7y T⟩
theorem walk {l:PySem.W.OpenLaw} {q:Program} {loose:List Str} {XP:(Str->Option Value)->Heap->Prop} {YP:World->Heap->Prop} {d:DefRec} {K:Params->PySem.W.Frag} (hn:l.most=some 63) (hdf:d.params.defaults=[])
    (hY:∀ (w:World) (h:Heap),YP w h->(K w.params).In h)
    (F:∀ (w:World) (mg:Str->Option Value) (fa:Addr) (h:Heap),(K w.params).In h->h.Ns mainGlobals mg->mg d.name=some (.ref fa) ->
      ∃ fd:FuncData,(∀ (s:Shared) (u:Value),BindsTo s fd ⟨[u],[]⟩ [("_law_script",u)])/\∀ base:Heap,(K w.params).In base->base.Ns mainGlobals mg->FnOk l.prog w (K w.params) mg base CX0 12 fa fd ["_law_script"] (sp_law (K w.params))) :
    PySem.W.WalkO q loose XP YP l.row.toRowW d [] (fun f vs=>PySem.call f vs) :=
  L2.B3b (n:=63) (k:=12) (x:="_law_script") (CX:=fun _=>CX0) (sp:=fun w=>sp_law (K w.params)) hn (by decide) hdf ⟨rfl,rfl,by decide,by decide⟩ hY F (fun _ _ a ns hl _ hS=>⟨a,ns,rfl,hS,hl,fun _=>rfl⟩) fun _ _ _ _ _ z=>z
end Prf
open PySem PySem.W PyProof.Rows
set_option maxRecDepth 100000 in
set_option maxHeartbeats 0 in
theorem PySem.Challenge.cw_hurryprice_k77_fractions_written_holds : PySem.Challenge.rw_hurryprice_k77_fractions_written.Holds := by
  refine holds_law Prf.said fun ws=>?_;refine holds_open (q:=Prf.qq) (loose:=[]) (Xt:=Prf.xt) (XP:=XL Prf.qq []) (Yf:=Prf.hh.obs)
    (Ya:=Prf.hh.val) (YP:=Prf.hh.says) (N:=3202) Prf.left Prf.hh.of Prf.hh.keeps
    (fun s e=>xl_of s (Bool.and_eq_true_iff.mp e).1) XL.keeps
    (by rfl) (by rfl) (by rfl) (fun s e=>recFacts_of (Bool.and_eq_true_iff.mp e).2)
    (by rfl) ws (by decide +kernel)
    ⟨rfl,rfl,rfl,rfl,rfl,by decide +kernel⟩ ?hw ?hc
  case hw=>w_witness2
  refine Prf.walk (l:=PySem.Challenge.rw_hurryprice_k77_fractions_written) (K:=Prf.kk) rfl rfl (fun w h Y=>PySem.W.kIn_of Y) ?F;case F =>
    intro w mg fa h KX G hmg
    k_fill
    refine' Prf.all_mk KX G hmg ⟨?g_commonpart,?F_commonpart,?g_product,?F_product,?g_shownwhole,?F_shownwhole,?g_shownratio,?F_shownratio,?g_wholein,?F_wholein,?g_ratioin,?F_ratioin,?g_readratio,?F_readratio,?g_Lbegun,?F_Lbegun,?g_Ltake,?F_Ltake,?g_Llow,?F_Llow,?g_Lsame,?F_Lsame,?g_Lfigures,?F_Lfigures,?g_Lfraction,?F_Lfraction,?g_Ltext,?F_Ltext,?g_Lodd,?F_Lodd,?g_Lstrange,?F_Lstrange,?g_Lislonger,?F_Lislonger,?g_Lisrefused,?F_Lisrefused,?gc_NoText,?gc_HurryError,?gc_NoRow,?gc_NoNumber,?z_ValueError,?z_abs,?z_all,?z_bool,?z_divmod,?z_int,?z_isinstance,?z_len,?z_list,?z_range,?z_str,?z_tuple,?z_zip⟩ ?g_law ?l_law ?c_law ?k_law ?gi_MOST_FIGURES ?gi_CHUNK ?gi_CHUNK_FIGURES ?gs_FIGURES ?J_NoText ?xm_NoText_NoText ?xga_NoText ?xgn_NoText ?xgc_NoText ?xsb_NoText ?xso_NoText ?xhd_NoText ?xty_NoText ?xm_NoText_HurryError ?xi_NoText_NoRow ?xi_NoText_NoNumber ?xi_NoText_ValueError ?lsy ?lsz
    (case g_commonpart=>k_is)
    (case F_commonpart=>apply L2.C7 <;> k_is)
    (case g_product=>k_is)
    (case F_product=>apply L2.C7 <;> k_is)
    (case g_shownwhole=>k_is)
    (case F_shownwhole=>apply L2.C7 <;> k_is)
    (case g_shownratio=>k_is)
    (case F_shownratio=>apply L2.C7 <;> k_is)
    (case g_wholein=>k_is)
    (case F_wholein=>apply L2.C7 <;> k_is)
    (case g_ratioin=>k_is)
    (case F_ratioin=>apply L2.C7 <;> k_is)
    (case g_readratio=>k_is)
    (case F_readratio=>apply L2.C7 <;> k_is)
    (case g_Lbegun=>k_is)
    (case F_Lbegun=>apply L2.C7 <;> k_is)
    (case g_Ltake=>k_is)
    (case F_Ltake=>apply L2.C7 <;> k_is)
    (case g_Llow=>k_is)
    (case F_Llow=>apply L2.C7 <;> k_is)
    (case g_Lsame=>k_is)
    (case F_Lsame=>apply L2.C7 <;> k_is)
    (case g_Lfigures=>k_is)
    (case F_Lfigures=>apply L2.C7 <;> k_is)
    (case g_Lfraction=>k_is)
    (case F_Lfraction=>apply L2.C7 <;> k_is)
    (case g_Ltext=>k_is)
    (case F_Ltext=>apply L2.C7 <;> k_is)
    (case g_Lodd=>k_is)
    (case F_Lodd=>apply L2.C7 <;> k_is)
    (case g_Lstrange=>k_is)
    (case F_Lstrange=>apply L2.C7 <;> k_is)
    (case g_Lislonger=>k_is)
    (case F_Lislonger=>apply L2.C7 <;> k_is)
    (case g_Lisrefused=>k_is)
    (case F_Lisrefused=>apply L2.C7 <;> k_is)
    (case gc_NoText=>k_is)
    (case gc_HurryError=>k_is)
    (case gc_NoRow=>k_is)
    (case gc_NoNumber=>k_is)
    (case z_ValueError=>k_is)
    (case z_abs=>k_is)
    (case z_all=>k_is)
    (case z_bool=>k_is)
    (case z_divmod=>k_is)
    (case z_int=>k_is)
    (case z_isinstance=>k_is)
    (case z_len=>k_is)
    (case z_list=>k_is)
    (case z_range=>k_is)
    (case z_str=>k_is)
    (case z_tuple=>k_is)
    (case z_zip=>k_is)
    (case g_law=>k_is)
    (case l_law=>k_is)
    (case c_law=>k_is)
    (case k_law=>k_is)
    (case gi_MOST_FIGURES=>k_is)
    (case gi_CHUNK=>k_is)
    (case gi_CHUNK_FIGURES=>k_is)
    (case gs_FIGURES=>k_is)
    (case J_NoText=>exact Exists.intro (nat_lit 53) (Exists.intro _ (L2.A95 (by apply L2.C7 <;> k_is) Prf.sc_NoTextinit (by exact rfl) (by with_unfolding_all exact rfl) (by k_is) (by k_is) ⟨_,_,_,_,rfl,fun _=>rfl⟩ (bd:=fun _ _ _ _ _ _ us hl=>by obtain ⟨_,_,rfl⟩:=L2.us2 hl; rfl))))
    (case xm_NoText_NoText=>exact rfl)
    (case xga_NoText=>k_is)
    (case xgn_NoText=>k_is)
    (case xgc_NoText=>k_is)
    (case xsb_NoText=>k_is)
    (case xso_NoText=>k_is)
    (case xhd_NoText=>k_is)
    (case xty_NoText=>exact rfl)
    (case xm_NoText_HurryError=>exact rfl)
    (case xi_NoText_NoRow=>exact rfl)
    (case xi_NoText_NoNumber=>exact rfl)
    (case xi_NoText_ValueError=>exact rfl)
    (case lsy=>k_is)
    (case lsz=>exact (fun z=>absurd (Value.type.inj z) (by decide)))
