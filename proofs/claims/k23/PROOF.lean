import PyProof.Rows.All
import Wide.All
import OpenK.AllK
import Wide.FinOn
import Lean
import PyProof.EqAt
import PyProof.EqKinds
import PyProof.TupleCall
import PySem.Challenge.RW_hurryprice_k23_nets_with_times_told
set_option Elab.async false
set_option linter.all false
set_option maxRecDepth 100000
set_option maxHeartbeats 4000000
set_option compiler.extract_closed false
theorem Zm {α:Type u} {l:List α} {i:Nat} {a:α} (h:l[i]?=some a):a ∈ l:=List.mem_of_getElem? h
theorem Zg {α:Type u} {l:List α} {i:Nat} (h:i < l.length):l[i]?=some l[i]:=List.getElem?_eq_getElem h
theorem Zs {α:Type u} {l:List α} {i:Nat} {a:α} (h:l[i]?=some a):∃ h:i < l.length,l[i]=a:=List.getElem?_eq_some_iff.mp h
theorem Za {α:Type u} {a:α} {s t:List α} (h:a ∈ s++t):a ∈ s\/a ∈ t:=List.mem_append.mp h
theorem Zi {a:Int} (h:0<=a):∃ n:Nat,a=(n:Int):=Int.eq_ofNat_of_zero_le h
theorem Zo {α:Type u} {β:Type v} {f:α->β} {x:Option α} {b:β} (h:x.map f=some b):∃ a,x=some a/\f a=b:=Option.map_eq_some_iff.mp h
theorem Zn {α:Type u} {a b:α} (h:a ∈ [b]):a=b:=List.mem_singleton.mp h
theorem Zr {α:Type u} {a:α} {l:List α} (y:α) (h:a ∈ l):a ∈ y :: l:=List.mem_cons_of_mem y h
theorem Zu {m n:Nat} (k:Nat) (h:m<=n):m * k<=n * k:=Nat.mul_le_mul_right k h
theorem Zt {α:Type u} {a:α} {as:List α} (bs:List α) (h:a ∈ as):a ∈ as++bs:=List.mem_append_left bs h
theorem Zw {α:Type u} {b:α} (as:List α) {bs:List α} (h:b ∈ bs):b ∈ as++bs:=List.mem_append_right as h
theorem Zj {α:Type u} {a b:α} (h:some a=some b):a=b:=Option.some.inj h
theorem Zp {n m k:Nat} (h:n > 0) (g:m<=k):n ^ m<=n ^ k:=Nat.pow_le_pow_right h g
theorem Zv (n:Nat):n<=n:=Nat.le_refl n
theorem Zx {n m k:Nat} (a:n<=m) (b:m<=k):n<=k:=Nat.le_trans a b
theorem Zy {α:Type u} {a:α} {l:List α}:a ∈ a :: l:=List.mem_cons_self
theorem Zd {p:Prop} [Decidable p] (h:¬p):decide p=false:=decide_eq_false h
theorem Zk {p:Prop} [Decidable p] (h:p):decide p=true:=decide_eq_true h
def Zq:=@PySem.W.mg_of
def Z1:=@PySem.F.plainAttrs_list
def Z2:=@PySem.F.slot_list_append
def Z3:=@PySem.F.type_list_append
theorem Zl {α:Type u} {β:Type v} {as:List α} {f:α->β}:(as.map f).length=as.length:=List.length_map f
theorem Zh {α:Type u} {β:Type v} {f:α->β} {l:List α} {i:Nat}:(l.map f)[i]?=l[i]?.map f:=List.getElem?_map ..
theorem Zc {α:Type u} {β:Type v} {f:α->β} {l k:List α}:(l++k).map f=l.map f++k.map f:=List.map_append ..
theorem Ze {α:Type u} {as bs:List α}:(as++bs).length=as.length + bs.length:=List.length_append ..
namespace L2
open PySem PySem.Spec PyProof.Rows
def G3 (s:Stmt):Arguments:=match s with
  | .FunctionDef _ a _ _ _ _ _ _ _ _=>a
  | _=>{ posonlyargs:=[],args:=[],vararg:=none,kwonlyargs:=[],kw_defaults:=[],kwarg:=none,defaults:=[] }
def F6 (s:Stmt):List Stmt:=match s with
  | .FunctionDef _ _ b _ _ _ _ _ _ _=>b
  | _=>[]
def A8 (s:Stmt):Scope:=match s with
  | .FunctionDef _ _ _ _ _ _ sc _ _ _=>sc
  | _=>{ kind:=.function,names:=[],isGenerator:=false,isCoroutine:=false }
open PySem.W
def N5 (tb:String->Option Builtin) (p:Program) (w:World) (m:Nat) (ann:Option Value):Nat->SharedT->Thread->Option SharedT
  | 0,_,_=>none
  | n + 1,s,t=>match through t with
    | true=>some s
    | false=>match stepOk m ann t with
      | false=>none
      | true=>match stepT (denote tb) p w s t with
        | some x=>N5 tb p w m ann n x.1 x.2
        | none=>none
theorem R8 {tb:String->Option Builtin} {p:Program} {w:World} {m:Nat} {ann:Option Value}:∀ (n:Nat) (s r:SharedT) (t:Thread),N5 tb p w m ann n s t=some r->topRun tb p w m ann n s.abs t=some r.abs
  | 0,_,_,_,h=>by cases h
  | n + 1,s,r,t,h=>by
    unfold N5 at h;unfold topRun;cases a:through t with
    | true=>rw [a] at h; cases h; rfl
    | false =>
      rw [a] at h;cases b:stepOk m ann t with
      | false=>rw [b] at h; cases h
      | true =>
        rw [b] at h;cases c:stepT (denote tb) p w s t with
        | none=>rw [c] at h; cases h
        | some x =>
          rw [c] at h;rw [stepT_spec (s':=x.1) (t':=x.2) c];exact R8 n x.1 r x.2 h
def mkT (os:List Obj):Nat->Nat->Nat->BT
  | 0,_,_=>.nil
  | k + 1,a,b=>match os[b]? with
    | some o=>.node o (mkT os k (2 * a) (a + b)) (mkT os k (2 * a) (2 * a + b))
    | none=>.nil
noncomputable def A2c (w:World) (os:OsState):Shared:=⟨boot_heap w.params,Array.mk [],boot_drawn,boot_toks,os⟩
noncomputable def A62 (w:World) (os:OsState):SharedT:=⟨mkT (boot_heap w.params).objs.toList 12 1 0,(boot_heap w.params).objs.size,(boot_heap w.params).life,Array.mk [],boot_drawn,boot_toks,os⟩
theorem A61 (w:World) (os:OsState):(A62 w os).abs=A2c w os:=by kernel_rfl
theorem B2y (w:World) (os:OsState):((A2c w os).heap.isNs mainGlobals && (A2c w os).gens.size == 0)=true:=by kernel_rfl
theorem B9k {p q:Program} {loose:List Str} {Xt:Shared->Bool} {α:Type} {Yf:Shared->α} {Ya:World->α} {N:Nat} (ho:opening p=plainProg p.main.scope.names) (hN:Nat.ble 600 N=true) (hf:∀ s,fenceModules? p s=some s)
    (run:∀ (w:World) (os:OsState),(N5 treeTable p w (boot_heap w.params).objs.size ((boot_heap w.params).nsMap mainGlobals "__annotations__") N (A62 w os) (topStub p)).map
      (fun x=>(staticsOk (importedModules p.main.body) (boot_heap w.params) x.abs.heap && namesBound p x.abs.heap && gensDone x.abs && laidKept (boot_heap w.params) x.abs.heap,openSeen q loose (importedModules p.main.body) Xt true x.abs,Yf x.abs))=some (true,openGood q loose,Ya w)) :
    LeftO p q loose Xt Yf Ya N:=fun w=>by
  obtain ⟨⟨h,gs,d,k,os⟩,e,z⟩:=Zo (boot_open ho hN hf w);obtain ⟨rfl,rfl,rfl,rfl⟩:h=boot_heap w.params/\gs=Array.mk []/\d=boot_drawn/\k=boot_toks:=by simpa using z
  obtain ⟨x,r,v⟩:=Zo (run w os);have r:=R8 _ _ _ _ r;rw [A61] at r;obtain ⟨v1,v2⟩:=Prod.mk.inj v;obtain ⟨v2,v3⟩:=Prod.mk.inj v2;show ((fencedOpening treeTable p w N).bind (topFrom treeTable p w N)).map _=_;rw [e];show (topFrom treeTable p w N (A2c w os)).map _=_;have t:topFrom treeTable p w N (A2c w os)=some x.abs:=by
    unfold topFrom;rw [B2y];show (topRun treeTable p w (boot_heap w.params).objs.size ((boot_heap w.params).nsMap mainGlobals "__annotations__") N (A2c w os) (topStub p)).bind _=_;rw [r];show (match staticsOk (importedModules p.main.body) (boot_heap w.params) x.abs.heap && namesBound p x.abs.heap && gensDone x.abs && laidKept (boot_heap w.params) x.abs.heap with | true=>some x.abs | false=>none)=_;rw [v1]
  rw [t];show some (openSeen q loose (importedModules p.main.body) Xt true x.abs,Yf x.abs)=_;rw [v2,v3]
noncomputable abbrev ranT (p:Program) (N:Nat) (w:World) (os:OsState):Option SharedT:=N5 treeTable p w (boot_heap w.params).objs.size ((boot_heap w.params).nsMap mainGlobals "__annotations__") N (A62 w os) (topStub p)
theorem B6z {p q:Program} {loose:List Str} {Xt:Shared->Bool} {α:Type} {Yf:Shared->α} {Ya:World->α} {N:Nat} (ho:opening p=plainProg p.main.scope.names) (hN:Nat.ble 600 N=true) (hf:∀ s,fenceModules? p s=some s)
    (a:∀ (w:World) (os:OsState),(ranT p N w os).map (fun x=>staticsOk (importedModules p.main.body) (boot_heap w.params) x.abs.heap && namesBound p x.abs.heap && gensDone x.abs && laidKept (boot_heap w.params) x.abs.heap)=some true)
    (b:∀ (w:World) (os:OsState),(ranT p N w os).map (fun x=>openSeen q loose (importedModules p.main.body) Xt true x.abs)=some (openGood q loose))
    (c:∀ (w:World) (os:OsState),(ranT p N w os).map (fun x=>Yf x.abs)=some (Ya w)):LeftO p q loose Xt Yf Ya N :=
  B9k ho hN hf fun w os=>by
    obtain ⟨x,r,e⟩:=Zo (a w os);have r':N5 treeTable p w (boot_heap w.params).objs.size ((boot_heap w.params).nsMap mainGlobals "__annotations__") N (A62 w os) (topStub p)=some x:=r;have f:openSeen q loose (importedModules p.main.body) Xt true x.abs=openGood q loose:=by have z:=b w os; rw [r] at z; exact Zj z
    have g:Yf x.abs=Ya w:=by have z:=c w os; rw [r] at z; exact Zj z
    rw [r'];show some (_,_,_)=_;rw [e,f,g]
theorem B6y {p q:Program} {loose:List Str} {Xt:Shared->Bool} {α:Type} {Yf:Shared->α} {Ya:World->α} {N:Nat} (ho:opening p=plainProg p.main.scope.names) (hN:Nat.ble 600 N=true) (hf:∀ s,fenceModules? p s=some s)
    (a:∀ (w:World) (os:OsState),(ranT p N w os).map (fun x=>staticsOk (importedModules p.main.body) (boot_heap w.params) x.abs.heap && namesBound p x.abs.heap && gensDone x.abs && laidKept (boot_heap w.params) x.abs.heap)=some true)
    (b:∀ (w:World) (os:OsState),(ranT p N w os).map (fun x=>seen ((recsOf q).map (·.name)) (ownsOf q) [] { heap:=x.abs.heap,drawn:=x.abs.drawn,toks:=x.abs.toks,os:=x.abs.os })=some (expectedOf q))
    (b1:∀ (w:World) (os:OsState),(ranT p N w os).map (fun x=>x.abs.heap.bltView)=some bltViewBooted)
    (k1:∀ (w:World) (os:OsState),(ranT p N w os).map (fun x=>x.abs.heap.keysOk (looseW q loose) ((recsOf q).map (·.name)) ((litsOf q).map (·.1)) ((clssOf q (looseW q loose)).map (·.name)))=some true)
    (k2:∀ (w:World) (os:OsState),(ranT p N w os).map (fun x=>x.abs.heap.accountedOkI (importedModules p.main.body) && x.abs.heap.isNs mainGlobals && x.abs.heap.isNs builtinsNs && tablesOk q x.abs.heap && Xt x.abs && x.abs.gens.size == 0)=some true)
    (b3:∀ (w:World) (os:OsState),(ranT p N w os).map (fun x=>(tabsOk q x.abs,pinSeenD q (drecsOf q) x.abs))=some (true,pinGoodD (drecsOf q)))
    (b5:∀ (w:World) (os:OsState),(ranT p N w os).map (fun x=>(plainSeenE q (looseW q loose) x.abs,plainSeenD q loose x.abs))=some (plainGoodE q (looseW q loose),plainGoodD q loose))
    (b4:∀ (w:World) (os:OsState),(ranT p N w os).map (fun x=>(wideSeen q x.abs,clsSeenW q loose x.abs))=some (wideGood q,clsGoodW q loose))
    (c:∀ (w:World) (os:OsState),(ranT p N w os).map (fun x=>Yf x.abs)=some (Ya w)):LeftO p q loose Xt Yf Ya N :=
  B6z ho hN hf a (fun w os=>by
    obtain ⟨x,r,e⟩:=Zo (b w os);have z1:=b1 w os;have z2:=k1 w os;have z3:=k2 w os;have z4:=b3 w os;have z6:=b4 w os;have z7:=b5 w os;rw [r] at z1 z2 z3 z4 z6 z7 ⊢;have z1:x.abs.heap.bltView=bltViewBooted:=Zj z1;have z2:x.abs.heap.keysOk (looseW q loose) ((recsOf q).map (·.name)) ((litsOf q).map (·.1)) ((clssOf q (looseW q loose)).map (·.name))=true:=Zj z2;have z3:(x.abs.heap.accountedOkI (importedModules p.main.body) && x.abs.heap.isNs mainGlobals && x.abs.heap.isNs builtinsNs && tablesOk q x.abs.heap && Xt x.abs && x.abs.gens.size == 0)=true:=Zj z3;obtain ⟨y1,y2⟩:=Prod.mk.inj (Zj z4);obtain ⟨y3,y4⟩:=Prod.mk.inj (Zj z7);obtain ⟨y5,y6⟩:=Prod.mk.inj (Zj z6);show some (seen ((recsOf q).map (·.name)) (ownsOf q) [] { heap:=x.abs.heap,drawn:=x.abs.drawn,toks:=x.abs.toks,os:=x.abs.os },x.abs.heap.bltView,(x.abs.heap.keysOk (looseW q loose) ((recsOf q).map (·.name)) ((litsOf q).map (·.1)) ((clssOf q (looseW q loose)).map (·.name)) && x.abs.heap.accountedOkI (importedModules p.main.body) && x.abs.heap.isNs mainGlobals && x.abs.heap.isNs builtinsNs && tablesOk q x.abs.heap && Xt x.abs && x.abs.gens.size == 0),tabsOk q x.abs,pinSeenD q (drecsOf q) x.abs,plainSeenE q (looseW q loose) x.abs,plainSeenD q loose x.abs,wideSeen q x.abs,clsSeenW q loose x.abs)=some (expectedOf q,bltViewBooted,true,true,pinGoodD (drecsOf q),plainGoodE q (looseW q loose),plainGoodD q loose,wideGood q,clsGoodW q loose);rw [z1,z2,Bool.true_and,z3,y1,y2,y3,y4,y5,y6];exact congrArg (fun z=>some (z,_)) e) c
end L2
namespace Prf
open PySem L2
def top (i:Nat):Stmt:=PySem.Challenge.pw_hurryprice_k23_nets_with_times_told.main.body.getD i (.Pass ⟨0,0,0,0⟩)
abbrev s_commonpart:Stmt:=top 5
abbrev s_plus:Stmt:=top 7
abbrev s_minus:Stmt:=top 8
abbrev s_product:Stmt:=top 9
abbrev s_parted:Stmt:=top 10
abbrev s_isless:Stmt:=top 11
abbrev s_ratebetween:Stmt:=top 13
abbrev s_isoffered:Stmt:=top 14
abbrev s_cornersabove:Stmt:=top 15
abbrev s_priceoftime:Stmt:=top 16
abbrev s_timed:Stmt:=top 18
abbrev s_Lbegun:Stmt:=top 20
abbrev s_Ltake:Stmt:=top 21
abbrev s_Llow:Stmt:=top 22
abbrev s_Lplus:Stmt:=top 23
abbrev s_Lminus:Stmt:=top 24
abbrev s_Ltimes:Stmt:=top 25
abbrev s_Lunder:Stmt:=top 26
abbrev s_Lamount:Stmt:=top 27
abbrev s_Loffer:Stmt:=top 28
abbrev s_Lshape:Stmt:=top 29
abbrev s_Lprice:Stmt:=top 30
abbrev s_Lloose:Stmt:=top 31
abbrev s_Ltimesdrawn:Stmt:=top 32
abbrev s_Lcopy:Stmt:=top 33
abbrev s_Lgrouped:Stmt:=top 34
abbrev s_Lalike:Stmt:=top 35
abbrev s_law:Stmt:=top 36
abbrev cO (n:Str) (a:Tok) (m:Str) (b c:Tok) (l p f:Int) (x y z u v:Value) (g k:Int) (d:Tok):Obj:=⟨.type "code",none,.fields #[.str n a,.str m b,.str "/claim/cut.py" c,.int l 0,.int p 0,.int 0 0,.int 0 0,.int f 0,x,.bool true,.int 181 0,y,.none,z,u,v,.int g 0,.int k 0,.str "/claim/cut.py" d],#[]⟩
abbrev fO (n:Str) (s:Stmt) (m:Str) (t:Tok) (c:Addr):Obj:=⟨.type "function",none,.func (PySem.W.fnOf n n (G3 s) (F6 s) (A8 s) .none .none .none (.str m t) none (.ref c) .none),#[]⟩
abbrev nE (P:Params) (x:Str) (t:Tok) (v:Value):DictEntry:=⟨PyData.keyHash P x,.str x t,v⟩
noncomputable def kk:Params->PySem.W.Frag:=fun P =>
  (nat_lit 3,⟨(.type "dict"),none,(.dict #[nE P "__name__" 165 (.str "law_hurryprice_k23_nets_with_times_told" 350),nE P "__doc__" 166 .none,nE P "__package__" 167 .none,nE P "__loader__" 168 (.builtin "__main__.__loader__#opaque"),nE P "__spec__" 169 .none,nE P "__annotations__" 170 (.ref 6),nE P "__builtins__" 171 (.ref 4),nE P "__file__" 173 (.str "/claim/cut.py" 172),nE P "__cached__" 174 .none,nE P "HurryError" 206 (.ref 24),nE P "NoNumber" 222 (.ref 37),nE P "NoTime" 238 (.ref 49),nE P "common_part" 248 (.ref 58),nE P "plus" 263 (.ref 65),nE P "minus" 271 (.ref 72),nE P "product" 281 (.ref 79),nE P "parted" 291 (.ref 86),nE P "is_less" 299 (.ref 93),nE P "rate_between" 309 (.ref 100),nE P "is_offered" 315 (.ref 105),nE P "corners_above" 321 (.ref 110),nE P "price_of_time" 332 (.ref 117),nE P "timed" 349 (.ref 124),nE P "_law_begun" 360 (.ref 131),nE P "_law_take" 371 (.ref 138),nE P "_law_low" 381 (.ref 145),nE P "_law_plus" 389 (.ref 152),nE P "_law_minus" 397 (.ref 159),nE P "_law_times" 405 (.ref 166),nE P "_law_under" 413 (.ref 173),nE P "_law_amount" 424 (.ref 180),nE P "_law_offer" 430 (.ref 185),nE P "_law_shape" 450 (.ref 192),nE P "_law_price" 463 (.ref 199),nE P "_law_loose" 481 (.ref 206),nE P "_law_times_drawn" 498 (.ref 213),nE P "_law_copy" 504 (.ref 218),nE P "_law_grouped" 513 (.ref 225),nE P "_law_alike" 519 (.ref 230),nE P "law" 525 (.ref 235)] 40),#[]⟩) ::
  (nat_lit 57,cO "common_part" 241 "common_part" 242 243 9 2 3 (.ref 52) (.ref 53) (.ref 54) (.ref 55) (.ref 56) 246 9 247) ::
  (nat_lit 58,fO "common_part" s_commonpart "hurryprice.names" 239 57) ::
  (nat_lit 64,cO "plus" 251 "plus" 252 253 15 2 3 (.ref 59) (.ref 60) (.ref 61) (.ref 62) (.ref 63) 261 15 262) ::
  (nat_lit 65,fO "plus" s_plus "hurryprice.ratios" 249 64) ::
  (nat_lit 71,cO "minus" 264 "minus" 265 266 21 2 3 (.ref 66) (.ref 67) (.ref 68) (.ref 69) (.ref 70) 269 21 270) ::
  (nat_lit 72,fO "minus" s_minus "hurryprice.ratios" 249 71) ::
  (nat_lit 78,cO "product" 272 "product" 273 274 23 2 3 (.ref 73) (.ref 74) (.ref 75) (.ref 76) (.ref 77) 279 23 280) ::
  (nat_lit 79,fO "product" s_product "hurryprice.ratios" 249 78) ::
  (nat_lit 85,cO "parted" 282 "parted" 283 284 26 2 3 (.ref 80) (.ref 81) (.ref 82) (.ref 83) (.ref 84) 289 26 290) ::
  (nat_lit 86,fO "parted" s_parted "hurryprice.ratios" 249 85) ::
  (nat_lit 92,cO "is_less" 292 "is_less" 293 294 31 2 3 (.ref 87) (.ref 88) (.ref 89) (.ref 90) (.ref 91) 297 31 298) ::
  (nat_lit 93,fO "is_less" s_isless "hurryprice.ratios" 249 92) ::
  (nat_lit 99,cO "rate_between" 302 "rate_between" 303 304 34 2 3 (.ref 94) (.ref 95) (.ref 96) (.ref 97) (.ref 98) 307 34 308) ::
  (nat_lit 100,fO "rate_between" s_ratebetween "hurryprice.offers" 300 99) ::
  (nat_lit 104,cO "is_offered" 310 "is_offered" 311 312 36 2 3 (.ref 101) (.ref 102) .none .none (.ref 103) 313 36 314) ::
  (nat_lit 105,fO "is_offered" s_isoffered "hurryprice.offers" 300 104) ::
  (nat_lit 109,cO "corners_above" 316 "corners_above" 317 318 41 2 3 (.ref 106) (.ref 107) .none .none (.ref 108) 319 41 320) ::
  (nat_lit 110,fO "corners_above" s_cornersabove "hurryprice.offers" 300 109) ::
  (nat_lit 116,cO "price_of_time" 322 "price_of_time" 323 324 43 2 3 (.ref 111) (.ref 112) (.ref 113) (.ref 114) (.ref 115) 330 43 331) ::
  (nat_lit 117,fO "price_of_time" s_priceoftime "hurryprice.offers" 300 116) ::
  (nat_lit 123,cO "timed" 335 "timed" 336 337 53 2 3 (.ref 118) (.ref 119) (.ref 120) (.ref 121) (.ref 122) 347 53 348) ::
  (nat_lit 124,fO "timed" s_timed "hurryprice.starts" 333 123) ::
  (nat_lit 130,cO "_law_begun" 352 "_law_begun" 353 354 60 2 3 (.ref 125) (.ref 126) (.ref 127) (.ref 128) (.ref 129) 358 60 359) ::
  (nat_lit 131,fO "_law_begun" s_Lbegun "law_hurryprice_k23_nets_with_times_told" 350 130) ::
  (nat_lit 137,cO "_law_take" 361 "_law_take" 362 363 65 2 3 (.ref 132) (.ref 133) (.ref 134) (.ref 135) (.ref 136) 369 65 370) ::
  (nat_lit 138,fO "_law_take" s_Ltake "law_hurryprice_k23_nets_with_times_told" 350 137) ::
  (nat_lit 144,cO "_law_low" 372 "_law_low" 373 374 76 2 3 (.ref 139) (.ref 140) (.ref 141) (.ref 142) (.ref 143) 379 76 380) ::
  (nat_lit 145,fO "_law_low" s_Llow "law_hurryprice_k23_nets_with_times_told" 350 144) ::
  (nat_lit 151,cO "_law_plus" 382 "_law_plus" 383 384 82 2 3 (.ref 146) (.ref 147) (.ref 148) (.ref 149) (.ref 150) 387 82 388) ::
  (nat_lit 152,fO "_law_plus" s_Lplus "law_hurryprice_k23_nets_with_times_told" 350 151) ::
  (nat_lit 158,cO "_law_minus" 390 "_law_minus" 391 392 84 2 3 (.ref 153) (.ref 154) (.ref 155) (.ref 156) (.ref 157) 395 84 396) ::
  (nat_lit 159,fO "_law_minus" s_Lminus "law_hurryprice_k23_nets_with_times_told" 350 158) ::
  (nat_lit 165,cO "_law_times" 398 "_law_times" 399 400 86 2 3 (.ref 160) (.ref 161) (.ref 162) (.ref 163) (.ref 164) 403 86 404) ::
  (nat_lit 166,fO "_law_times" s_Ltimes "law_hurryprice_k23_nets_with_times_told" 350 165) ::
  (nat_lit 172,cO "_law_under" 406 "_law_under" 407 408 88 2 3 (.ref 167) (.ref 168) (.ref 169) (.ref 170) (.ref 171) 411 88 412) ::
  (nat_lit 173,fO "_law_under" s_Lunder "law_hurryprice_k23_nets_with_times_told" 350 172) ::
  (nat_lit 179,cO "_law_amount" 414 "_law_amount" 415 416 90 3 3 (.ref 174) (.ref 175) (.ref 176) (.ref 177) (.ref 178) 422 90 423) ::
  (nat_lit 180,fO "_law_amount" s_Lamount "law_hurryprice_k23_nets_with_times_told" 350 179) ::
  (nat_lit 184,cO "_law_offer" 425 "_law_offer" 426 427 96 4 3 (.ref 181) (.ref 182) .none .none (.ref 183) 428 96 429) ::
  (nat_lit 185,fO "_law_offer" s_Loffer "law_hurryprice_k23_nets_with_times_told" 350 184) ::
  (nat_lit 191,cO "_law_shape" 431 "_law_shape" 432 433 114 2 3 (.ref 186) (.ref 187) (.ref 188) (.ref 189) (.ref 190) 448 114 449) ::
  (nat_lit 192,fO "_law_shape" s_Lshape "law_hurryprice_k23_nets_with_times_told" 350 191) ::
  (nat_lit 198,cO "_law_price" 451 "_law_price" 452 453 135 2 3 (.ref 193) (.ref 194) (.ref 195) (.ref 196) (.ref 197) 461 135 462) ::
  (nat_lit 199,fO "_law_price" s_Lprice "law_hurryprice_k23_nets_with_times_told" 350 198) ::
  (nat_lit 205,cO "_law_loose" 464 "_law_loose" 465 466 146 2 3 (.ref 200) (.ref 201) (.ref 202) (.ref 203) (.ref 204) 479 146 480) ::
  (nat_lit 206,fO "_law_loose" s_Lloose "law_hurryprice_k23_nets_with_times_told" 350 205) ::
  (nat_lit 212,cO "_law_times_drawn" 482 "_law_times_drawn" 483 484 168 3 3 (.ref 207) (.ref 208) (.ref 209) (.ref 210) (.ref 211) 496 168 497) ::
  (nat_lit 213,fO "_law_times_drawn" s_Ltimesdrawn "law_hurryprice_k23_nets_with_times_told" 350 212) ::
  (nat_lit 217,cO "_law_copy" 499 "_law_copy" 500 501 181 1 3 (.ref 214) (.ref 215) .none .none (.ref 216) 502 181 503) ::
  (nat_lit 218,fO "_law_copy" s_Lcopy "law_hurryprice_k23_nets_with_times_told" 350 217) ::
  (nat_lit 224,cO "_law_grouped" 505 "_law_grouped" 506 507 187 2 3 (.ref 219) (.ref 220) (.ref 221) (.ref 222) (.ref 223) 511 187 512) ::
  (nat_lit 225,fO "_law_grouped" s_Lgrouped "law_hurryprice_k23_nets_with_times_told" 350 224) ::
  (nat_lit 229,cO "_law_alike" 514 "_law_alike" 515 516 193 2 3 (.ref 226) (.ref 227) .none .none (.ref 228) 517 193 518) ::
  (nat_lit 230,fO "_law_alike" s_Lalike "law_hurryprice_k23_nets_with_times_told" 350 229) ::
  (nat_lit 234,cO "law" 520 "law" 521 522 202 1 3 (.ref 231) (.ref 232) .none .none (.ref 233) 523 202 524) ::
  (nat_lit 235,fO "law" s_law "law_hurryprice_k23_nets_with_times_told" 350 234) :: []
noncomputable def qq:Program:=PySem.W.view PySem.Challenge.pw_hurryprice_k23_nets_with_times_told [1,2,3,5,7,8,9,10,11,13,14,15,16,18,20,21,22,23,24,25,26,27,28,29,30,31,32,33,34,35,36]
noncomputable def aa:List Nat:=[3,57,58,64,65,71,72,78,79,85,86,92,93,99,100,104,105,109,110,116,117,123,124,130,131,137,138,144,145,151,152,158,159,165,166,172,173,179,180,184,185,191,192,198,199,205,206,212,213,217,218,224,225,229,230,234,235]
theorem B90:∀ P:Params,aa=(kk P).map (·.1):=fun P=>by kernel_rfl
noncomputable abbrev hh:PySem.W.Hook:=PySem.W.kHook kk aa B90
noncomputable abbrev xt (s:Shared):Bool:=PySem.W.xlAt qq [] s && PySem.W.recOk (PySem.W.RowW.records PySem.Challenge.rw_hurryprice_k23_nets_with_times_told.row.toRowW) s
theorem run1 (w:World) (os:OsState):(L2.ranT PySem.Challenge.pw_hurryprice_k23_nets_with_times_told 3220 w os).map (fun x=>PySem.W.staticsOk (importedModules PySem.Challenge.pw_hurryprice_k23_nets_with_times_told.main.body) (PySem.W.boot_heap w.params) x.abs.heap && PySem.W.namesBound PySem.Challenge.pw_hurryprice_k23_nets_with_times_told x.abs.heap && PySem.W.gensDone x.abs && PySem.W.laidKept (PySem.W.boot_heap w.params) x.abs.heap)=some true:=by kernel_rfl
open PySem.W PySem.Spec PyProof.Rows
theorem run2 (w:World) (os:OsState):(L2.ranT PySem.Challenge.pw_hurryprice_k23_nets_with_times_told 3220 w os).map (fun x=>seen ((recsOf qq).map (·.name)) (ownsOf qq) [] { heap:=x.abs.heap,drawn:=x.abs.drawn,toks:=x.abs.toks,os:=x.abs.os })=some (expectedOf qq):=by kernel_rfl
theorem run4 (w:World) (os:OsState):(L2.ranT PySem.Challenge.pw_hurryprice_k23_nets_with_times_told 3220 w os).map (fun x=>x.abs.heap.bltView)=some bltViewBooted:=by kernel_rfl
theorem run5 (w:World) (os:OsState):(L2.ranT PySem.Challenge.pw_hurryprice_k23_nets_with_times_told 3220 w os).map (fun x=>x.abs.heap.keysOk (looseW qq []) ((recsOf qq).map (·.name)) ((litsOf qq).map (·.1)) ((clssOf qq (looseW qq [])).map (·.name)))=some true:=by kernel_rfl
theorem run6 (w:World) (os:OsState):(L2.ranT PySem.Challenge.pw_hurryprice_k23_nets_with_times_told 3220 w os).map (fun x=>x.abs.heap.accountedOkI (importedModules PySem.Challenge.pw_hurryprice_k23_nets_with_times_told.main.body) && x.abs.heap.isNs mainGlobals && x.abs.heap.isNs builtinsNs && tablesOk qq x.abs.heap && xt x.abs && x.abs.gens.size == 0)=some true:=by kernel_rfl
theorem run7 (w:World) (os:OsState):(L2.ranT PySem.Challenge.pw_hurryprice_k23_nets_with_times_told 3220 w os).map (fun x=>(tabsOk qq x.abs,pinSeenD qq (drecsOf qq) x.abs))=some (true,pinGoodD (drecsOf qq)):=by kernel_rfl
theorem run9 (w:World) (os:OsState):(L2.ranT PySem.Challenge.pw_hurryprice_k23_nets_with_times_told 3220 w os).map (fun x=>(plainSeenE qq (looseW qq []) x.abs,plainSeenD qq [] x.abs))=some (plainGoodE qq (looseW qq []),plainGoodD qq []):=by kernel_rfl
theorem run8 (w:World) (os:OsState):(L2.ranT PySem.Challenge.pw_hurryprice_k23_nets_with_times_told 3220 w os).map (fun x=>(wideSeen qq x.abs,clsSeenW qq [] x.abs))=some (wideGood qq,clsGoodW qq []):=by kernel_rfl
theorem run3 (w:World) (os:OsState):(L2.ranT PySem.Challenge.pw_hurryprice_k23_nets_with_times_told 3220 w os).map (fun x=>hh.obs x.abs)=some (hh.val w):=by kernel_rfl
theorem left:PySem.W.LeftO PySem.Challenge.pw_hurryprice_k23_nets_with_times_told qq [] xt hh.obs hh.val 3220:=L2.B6y (by kernel_rfl) (by decide) (fun s=>by kernel_rfl) run1 run2 run4 run5 run6 run7 run9 run8 run3
theorem said:PySem.Challenge.rw_hurryprice_k23_nets_with_times_told.wellSaid=true:=by
  unfold PySem.W.OpenLaw.wellSaid
  repeat' with_reducible refine Bool.and_eq_true_iff.mpr ⟨?_,?_⟩
  all_goals decide +kernel
end Prf
namespace L2
open PySem PySem.Spec PyProof.Rows
abbrev Key:=Sum Int Str
def B7m:Key->Value->Bool
  | .inl k,v=>Value.isInt k v
  | .inr x,v=>Value.isStrOf x v
def keyH (w:World):Key->Int
  | .inl k=>hashInt k
  | .inr x=>hashStr w x
theorem D1:∀ {k:Key} {v:Value},B7m k v=true->(∃ i t,k=Sum.inl i/\v=Value.int i t)\/(∃ x t,k=Sum.inr x/\v=Value.str x t)
  | .inl i,v,h=>by
    obtain ⟨t,e⟩:=Value.isInt_shape (k:=i) (v:=v) h;exact .inl ⟨i,t,rfl,e⟩
  | .inr x,v,h=>by
    obtain ⟨t,e⟩:=Value.isStrOf_shape (x:=x) (v:=v) h;exact .inr ⟨x,t,rfl,e⟩
theorem B7l (a b:Int):decide ((Sum.inl a:Key)=Sum.inl b)=(a == b):=by
  by_cases e:a=b
  · subst e; simp
  · have h:¬ (Sum.inl a:Key)=Sum.inl b:=fun q=>e (Sum.inl.inj q)
    rw [Zd h];exact (beq_eq_false_iff_ne.mpr e).symm
theorem B7i (a b:Str):decide ((Sum.inr a:Key)=Sum.inr b)=decide (a=b):=by
  by_cases e:a=b
  · subst e; simp
  · have h:¬ (Sum.inr a:Key)=Sum.inr b:=fun q=>e (Sum.inr.inj q)
    rw [Zd h,Zd e]
theorem B7k (a:Int) (b:Str):decide ((Sum.inl a:Key)=Sum.inr b)=false:=Zd (fun q=>nomatch q)
theorem B7j (a:Str) (b:Int):decide ((Sum.inr a:Key)=Sum.inl b)=false:=Zd (fun q=>nomatch q)
def A30 (prog:Program) (w:World):PySem.KeyKind prog w Key where
  is:=B7m
  hash:=keyH w
  inj:=fun v a b ha hb=>by
    rcases D1 ha with ⟨i,t,rfl,rfl⟩ | ⟨x,t,rfl,rfl⟩
    · rcases D1 hb with ⟨j,u,rfl,e⟩ | ⟨y,u,rfl,e⟩
      · injection e with e1 _; rw [e1]
      · exact nomatch e
    · rcases D1 hb with ⟨j,u,rfl,e⟩ | ⟨y,u,rfl,e⟩
      · exact nomatch e
      · injection e with e1 _; rw [e1]
  byValue:=fun k v h=>by
    rcases D1 h with ⟨i,t,rfl,rfl⟩ | ⟨x,t,rfl,rfl⟩ <;> rfl
  pyHash:=fun hv h=>by
    rcases D1 hv with ⟨i,t,rfl,rfl⟩ | ⟨x,t,rfl,rfl⟩
    · exact wpAny_pyHash_int h
    · exact wpAny_pyHash_str h
  eqBool:=fun hu hv h=>by
    rcases D1 hu with ⟨i,t,rfl,rfl⟩ | ⟨x,t,rfl,rfl⟩
    · rcases D1 hv with ⟨j,u,rfl,rfl⟩ | ⟨y,u,rfl,rfl⟩
      · rw [B7l] at h; exact wpAny_eqBool_int h
      · rw [B7k] at h; exact SeqAt.EqAt.int_str i t y u _ _ _ _ h
    · rcases D1 hv with ⟨j,u,rfl,rfl⟩ | ⟨y,u,rfl,rfl⟩
      · rw [B7j] at h; exact SeqAt.EqAt.str_int x t j u _ _ _ _ h
      · rw [B7i] at h; exact wpAny_eqBool_str h
  «strs»:=fun k x t v h=>by
    rcases D1 h with ⟨i,u,rfl,e⟩ | ⟨y,u,rfl,e⟩
    · exact nomatch e
    · injection e with e1 _
      subst e1;cases v <;> rfl
end L2
namespace L2
open PySem PySem.Spec PyProof.Rows
inductive V where
  | non | bl (b:Bool) | int (i:Int) | str (x:Str) | byt (b:Array UInt8) | flt (b:UInt64) | ref (a:Addr) | ty (n:String)
  deriving DecidableEq
def RelV:V->Value->Prop
  | .non,u=>u=Value.none
  | .bl b,u=>u=Value.bool b
  | .int i,u=>∃ t,u=Value.int i t
  | .str x,u=>∃ t,u=Value.str x t
  | .byt b,u=>∃ t,u=Value.bytes b t
  | .flt b,u=>∃ t,u=Value.float b t
  | .ref a,u=>u=Value.ref a
  | .ty n,u=>u=Value.type n
abbrev Vals:List V->List Value->Prop:=Paired RelV
theorem Vals.length {xs:List V} {us:List Value} (r:Vals xs us):xs.length=us.length:=Paired.length r
theorem Vals.get:∀ {xs:List V} {us:List Value} {i:Nat} {x:V},Vals xs us->xs[i]?=some x->∃ u,us[i]?=some u/\RelV x u
  | _,_,_,_,.nil,e=>by simp at e
  | _,_,0,_,.cons r _,e=>by simp at e; subst e; exact ⟨_,rfl,r⟩
  | _,_,i + 1,x,.cons _ t,e=>by
    obtain ⟨u,h1,h2⟩:=Vals.get (i:=i) (x:=x) t (by simpa using e);exact ⟨u,by simpa using h1,h2⟩
theorem Vals.set {x:V} {u:Value} (r:RelV x u):∀ {xs:List V} {us:List Value} (i:Nat),Vals xs us->Vals (xs.set i x) (us.set i u)
  | _,_,_,.nil=>.nil
  | _,_,0,.cons _ t=>.cons r t
  | _,_,i + 1,.cons q t=>.cons q (Vals.set r i t)
theorem Vals.append:∀ {xs ys:List V} {us ws:List Value},Vals xs us->Vals ys ws->Vals (xs++ys) (us++ws)
  | _,_,_,_,.nil,s=>s
  | _,_,_,_,.cons r t,s=>.cons r (Vals.append t s)
theorem Vals.take:∀ {xs:List V} {us:List Value} (n:Nat),Vals xs us->Vals (xs.take n) (us.take n)
  | _,_,0,_=>.nil
  | _,_,_ + 1,.nil=>.nil
  | _,_,n + 1,.cons r t=>.cons r (Vals.take n t)
theorem Vals.drop:∀ {xs:List V} {us:List Value} (n:Nat),Vals xs us->Vals (xs.drop n) (us.drop n)
  | _,_,0,r=>r
  | _,_,_ + 1,.nil=>.nil
  | _,_,n + 1,.cons _ t=>Vals.drop n t
theorem Vals.none_of:∀ {xs:List V} {us:List Value} {i:Nat},Vals xs us->xs[i]?=none->us[i]?=none:=fun {xs us i} r e=>by
  have h1:=r.length;have h2:xs.length<=i:=List.getElem?_eq_none_iff.mp e;exact List.getElem?_eq_none_iff.mpr (by omega)
def RelO:Option V->Option Value->Prop
  | some v,some u=>RelV v u
  | none,none=>True
  | _,_=>False
def KV {κ:Type}:List (κ × V)->List (κ × Value)->Prop:=Paired fun (p:κ × V) (q:κ × Value)=>p.1=q.1/\RelV p.2 q.2
def kV:Key->V
  | .inl i=>.int i
  | .inr x=>.str x
inductive HO where
    | lst (xs:List V)
    | tup (xs:List V)
    | dK (kvs:List (Key × V)) | dT (kvs:List (List Key × V))
    | set (S:Int->Bool) (n:Nat)
    | ins (C dx:Addr) (fs:List (Str × V))
    | own (x:Addr)
    | xd (fs:List (Str × V))
    | met (f x:Addr)
    | rng (lo hi:Int)
    | frz (o:Obj) (u:HO)
    | tbl (ps:Array Value)
    | ext (φ:Heap->Prop)
abbrev Hp:=Addr->Option HO
def upd (H:Hp) (a:Addr) (o:HO):Hp:=fun b=>if b=a then some o else H b
theorem B8 {H:Hp} {a:Addr} {o:HO}:upd H a o a=some o:=by unfold upd; rw [if_pos rfl]
theorem C1 {H:Hp} {a b:Addr} {o:HO} (h:b≠a):upd H a o b=H b:=by unfold upd; rw [if_neg h]
theorem C5 {H:Hp} {a b:Addr} {o:HO} (h:H a=some o) (h':H b=none):a≠b:=by
  intro e; subst e; rw [h] at h'; cases h'
section
variable (P:Program) (w:World)
def ObjOk (H:Hp) (h:Heap) (a:Addr):HO->Prop
  | .lst xs=>xs.length<=sizeLine/\∃ (its:List Value) (n:Nat),Vals xs its/\h.get? a=some { cls:=.type "list",data:=.seq its.toArray n }
  | .tup xs=>xs.length<=sizeLine/\∃ its:List Value,Vals xs its/\IsTup h a its.toArray
  | .dK kvs=>kvs.length<=sizeLine/\(a == sysModules)=false/\∃ vs,KV kvs vs/\h.DictOf (A30 P w) a vs
  | .dT kvs=>kvs.length<=sizeLine/\(a == sysModules)=false/\∃ xs:List (List Key × Addr × Value),
      Paired (fun (p:List Key × V) (q:List Key × Addr × Value)=>p.1=q.1/\H q.2.1=some (.tup (p.1.map kV))/\RelV p.2 q.2.2) kvs xs /\
      ∃ o es ep,h.get? a=some o/\o.ExactDict/\o.data=.dict es ep/\es.toList=xs.map (entryOfKey (tupleKind (A30 P w)))/\(xs.map (·.1)).Nodup
  | .set S n=>h.SetOf (intKind P w) a S n
  | .ins C dx fs=>H dx=some (.own a)/\fs.length<=1000/\dx≠a/\h.get? a=some (PySem.W.instObj C dx) /\
      ∃ mA,h.Ns1 dx mA/\(∀ f,RelO (fs.lookup f) (mA f))/\PySem.Within mA (fs.map (·.1))
  | .own _=>∃ o,h.get? a=some o
  | .xd fs=>∃ mA,h.Ns1 a mA/\∀ f,RelO (fs.lookup f) (mA f)
  | .rng lo hi=>∃ t u v,h.get? a=some { cls:=.type "range",data:=.fields #[.int lo t,.int hi u,.int 1 v] }
  | .frz o u=>h.get? a=some o/\ObjOk H h a u
  | .tbl ps=>h.get? a=some { cls:=.none,data:=.fields ps }
  | .met f x=>h.get? a=some (PySem.W.methodObj (.ref f) (.ref x))
  | .ext φ=>φ h/\(∃ o,h.get? a=some o)/\∀ h1 h2:Heap,φ h1->(∀ o,h1.get? a=some o->h2.get? a=some o)->φ h2
def HOk (H:Hp) (h:Heap):Prop:=∀ a o,H a=some o->ObjOk P w H h a o
end
section
variable {P:Program} {w:World} {H H':Hp} {h h':Heap} {a:Addr} {o:HO}
theorem ObjOk.lt (x:ObjOk P w H h a o):a < h.objs.size:=by
  cases o with
  | lst xs=>obtain ⟨_,_,_,_,e⟩:=x; exact Heap.lt_size e
  | tup xs=>obtain ⟨_,_,_,p⟩:=x; exact p.lt
  | dK kvs=>obtain ⟨_,_,_,_,o,_,_,e,_⟩:=x; exact Heap.lt_size e
  | dT kvs=>obtain ⟨_,_,_,_,o,_,_,e,_⟩:=x; exact Heap.lt_size e
  | set S n=>obtain ⟨o,_,_,_,e,_⟩:=x; exact Heap.lt_size e
  | ins C dx fs=>obtain ⟨_,_,_,e,_⟩:=x; exact Heap.lt_size e
  | own y=>obtain ⟨_,e⟩:=x; exact Heap.lt_size e
  | xd fs=>obtain ⟨_,⟨_,_,_,e,_⟩,_⟩:=x; exact Heap.lt_size e
  | rng lo hi=>obtain ⟨_,_,_,e⟩:=x; exact Heap.lt_size e
  | frz ob u=>obtain ⟨e,_⟩:=x; exact Heap.lt_size e
  | tbl ps=>exact Heap.lt_size (show h.get? a=some _ from x)
  | met f y=>exact Heap.lt_size (show h.get? a=some _ from x)
  | ext φ=>obtain ⟨_,⟨_,e⟩,_⟩:=x; exact Heap.lt_size e
theorem Paired.mapP {α β:Type} {F G:α->β->Prop}:∀ {l₁:List α} {l₂:List β},Paired F l₁ l₂->(∀ a b,F a b->G a b)->Paired G l₁ l₂
  | _,_,.nil,_=>.nil
  | _,_,.cons r t,f=>.cons (f _ _ r) (Paired.mapP t f)
theorem ObjOk.stay (x:ObjOk P w H h a o) (k:∀ b u,(b=a\/H b=some (.own a))->h.get? b=some u->h'.get? b=some u)
    (ho:∀ b,H b=some (.own a)->H' b=some (.own a)) (ht:∀ b xs,H b=some (.tup xs)->H' b=some (.tup xs)):ObjOk P w H' h' a o:=by
  induction o with
  | lst xs=>obtain ⟨z,its,n,r,e⟩:=x; exact ⟨z,its,n,r,k _ _ (.inl rfl) e⟩
  | tup xs=>obtain ⟨z,its,r,ob,e,c⟩:=x; exact ⟨z,its,r,ob,k _ _ (.inl rfl) e,c⟩
  | dK kvs=>obtain ⟨z,y,vs,r,ob,es,ep,e,c⟩:=x; exact ⟨z,y,vs,r,ob,es,ep,k _ _ (.inl rfl) e,c⟩
  | dT kvs =>
    obtain ⟨z,y,xs,r,ob,es,ep,e,c⟩:=x;exact ⟨z,y,xs,Paired.mapP r fun p q z=>⟨z.1,ht _ _ z.2.1,z.2.2⟩,ob,es,ep,k _ _ (.inl rfl) e,c⟩
  | set S n=>obtain ⟨ob,es,ep,t,e,c⟩:=x; exact ⟨ob,es,ep,t,k _ _ (.inl rfl) e,c⟩
  | ins C dx fs =>
    obtain ⟨d,z,ne,e,mA,⟨od,es,ep,e2,c⟩,r⟩:=x;exact ⟨ho _ d,z,ne,k _ _ (.inl rfl) e,mA,⟨od,es,ep,k _ _ (.inr d) e2,c⟩,r⟩
  | own y=>obtain ⟨ob,e⟩:=x; exact ⟨ob,k _ _ (.inl rfl) e⟩
  | xd fs=>obtain ⟨mA,⟨od,es,ep,e,c⟩,r⟩:=x; exact ⟨mA,⟨od,es,ep,k _ _ (.inl rfl) e,c⟩,r⟩
  | rng lo hi=>obtain ⟨t,u,v,e⟩:=x; exact ⟨t,u,v,k _ _ (.inl rfl) e⟩
  | frz ob u ih=>obtain ⟨e,q⟩:=x; exact ⟨k _ _ (.inl rfl) e,ih q⟩
  | tbl ps =>
    have e:h.get? a=some { cls:=.none,data:=.fields ps }:=x;show h'.get? a=some { cls:=.none,data:=.fields ps };exact k a _ (.inl rfl) e
  | met f y =>
    have e:h.get? a=some (PySem.W.methodObj (.ref f) (.ref y)):=x;show h'.get? a=some (PySem.W.methodObj (.ref f) (.ref y));exact k a _ (.inl rfl) e
  | ext φ=>obtain ⟨p,⟨o,e⟩,st⟩:=x; exact ⟨st _ _ p fun o q=>k _ _ (.inl rfl) q,⟨o,k _ _ (.inl rfl) e⟩,st⟩
theorem HOk.lt (x:HOk P w H h) (e:H a=some o):a < h.objs.size:=(x a o e).lt
theorem HOk.fresh (x:HOk P w H h) (e:h.objs.size<=a):H a=none:=by
  cases q:H a with
  | none=>rfl
  | some u=>exact absurd (Nat.lt_of_lt_of_le (x.lt q) e) (Nat.lt_irrefl _)
theorem HOk.kept (x:HOk P w H h) (k:∀ b u,h.get? b=some u->h'.get? b=some u):HOk P w H h':=fun a o e =>
  (x a o e).stay (fun b u _ q=>k b u q) (fun _ q=>q) fun _ _ q=>q
theorem HOk.laid (x:HOk P w H h) (k:∀ b u,h.get? b=some u->h'.get? b=some u) (hp:h.objs.size<=a) (new:ObjOk P w (upd H a o) h' a o):HOk P w (upd H a o) h':=fun b u e=>by
  have hn:=x.fresh hp;by_cases hb:b=a
  · subst hb; rw [B8] at e; cases e; exact new
  · rw [C1 hb] at e
    exact (x b u e).stay (fun c v _ q=>k c v q) (fun c q=>by rw [C1 (C5 q hn)]; exact q) fun c xs q=>by rw [C1 (C5 q hn)]; exact q
end
def Rd (H:Hp) (a:Addr) (u:HO):Prop:=H a=some u\/∃ o,H a=some (.frz o u)
theorem Rd.ok {P:Program} {w:World} {H:Hp} {h:Heap} {a:Addr} {u:HO} (r:Rd H a u) (x:HOk P w H h):ObjOk P w H h a u:=by
  rcases r with r | ⟨o,r⟩
  · exact x a u r
  · obtain ⟨_,q⟩:=x a _ r
    exact q
def Mut:Option HO->Prop
  | some (.lst _)=>True
  | some (.dK _)=>True
  | some (.dT _)=>True
  | some (.set _ _)=>True
  | some (.ins _ _ _)=>True
  | some (.ext _)=>True
  | _=>False
section
variable {P:Program} {w:World} {H:Hp} {h h':Heap} {x e:Addr} {o':HO}
theorem HOk.write (ok:HOk P w H h) (mu:Mut (H x)) (he:e=x\/H e=some (.own x)) (k:∀ b u,b≠e->h.get? b=some u->h'.get? b=some u) (heo:∃ u,h'.get? e=some u)
    (new:ObjOk P w (upd H x o') h' x o'):HOk P w (upd H x o') h':=fun b u q=>by
  have nown:∀ c y,H c=some (.own y)->c≠x:=fun c y r z=>by subst z; rw [r] at mu; exact mu
  have ntup:∀ c xs,H c=some (.tup xs)->c≠x:=fun c xs r z=>by subst z; rw [r] at mu; exact mu
  by_cases hb:b=x
  · subst hb; rw [B8] at q; cases q; exact new
  · rw [C1 hb] at q
    by_cases hbe:b=e
    · have q':H b=some (.own x):=by
        rcases he with z | z
        · exact absurd (hbe.trans z) hb
        · rw [hbe]; exact z
      rw [q] at q'; cases q';obtain ⟨v,hv⟩:=heo;exact ⟨v,by rw [hbe]; exact hv⟩
    · refine (ok b u q).stay (fun c v hc r=>k c v ?_ r) (fun c r=>by rw [C1 (nown c b r)]; exact r) fun c xs r=>by rw [C1 (ntup c xs r)]; exact r
      rcases hc with rfl | hc
      · exact hbe
      · rintro rfl
        rcases he with z | z
        · exact nown c b hc z
        · rw [hc] at z; cases z; exact hb rfl
end
structure Un (fs ex:List Addr) (H H':Hp) (h h':Heap):Prop where
  keep:∀ b o,h.get? b=some o->H b=none->b ∉ fs->b ∉ ex->h'.get? b=some o
  slot:∀ b o,h.get? b=some o->H b=none->b ∈ fs->b ∉ ex->∃ sl,h'.get? b=some { o with slots:=sl }
  free:∀ b o,h.get? b=some o->H b=none->b ∉ ex->H' b=none
  there:∀ b o,h.get? b=some o->b ∉ ex->∃ o',h'.get? b=some o'
  tups:∀ b xs,H b=some (.tup xs)->H' b=some (.tup xs)
  frzs:∀ b o u,H b=some (.frz o u)->H' b=some (.frz o u)
  tbls:∀ b ps,H b=some (.tbl ps)->∃ more,H' b=some (.tbl (ps++more))
section
variable {fs fs' ex ex':List Addr} {H H1 H2:Hp} {h h1 h2 h':Heap} {a x e:Addr} {o:HO}
theorem Un.any (u:Un fs ex H H1 h h1) {b:Addr} {ob:Obj} (q:h.get? b=some ob) (n:H b=none) (hx:b ∉ ex):∃ sl,h1.get? b=some { ob with slots:=sl }:=by
  by_cases hb:b ∈ fs
  · exact u.slot b ob q n hb hx
  · exact ⟨ob.slots,u.keep b ob q n hb hx⟩
theorem Un.kept (k:∀ b u,h.get? b=some u->h'.get? b=some u):Un fs ex H H h h' :=
  ⟨fun b ob q _ _ _=>k b ob q,fun b ob q _ _ _=>⟨ob.slots,k b ob q⟩,fun _ _ _ n _=>n,fun b ob q _=>⟨ob,k b ob q⟩,fun _ _ q=>q,fun _ _ _ q=>q,fun _ ps q=>⟨#[],by rw [q]; simp⟩⟩
theorem Un.refl:Un fs ex H H h h:=Un.kept fun _ _ q=>q
theorem Un.laid (k:∀ b u,h.get? b=some u->h'.get? b=some u) (hp:h.objs.size<=a) (hn:H a=none):Un fs ex H (upd H a o) h h' where
  keep:=fun b u q _ _ _=>k b u q
  slot:=fun b u q _ _ _=>⟨u.slots,k b u q⟩
  free:=fun b u q n _=>by rw [C1 (Nat.ne_of_lt (Nat.lt_of_lt_of_le (Heap.lt_size q) hp))]; exact n
  there:=fun b u q _=>⟨u,k b u q⟩
  tups:=fun b xs q=>by rw [C1 (C5 q hn)]; exact q
  frzs:=fun b u xs q=>by rw [C1 (C5 q hn)]; exact q
  tbls:=fun b ps q=>⟨#[],by rw [C1 (C5 q hn),q]; simp⟩
theorem Un.write (mu:Mut (H x)) (he:e=x\/H e=some (.own x)) (k:∀ b u,b≠e->h.get? b=some u->h'.get? b=some u) (heo:∃ u,h'.get? e=some u):Un fs ex H (upd H x o) h h':=by
  have hx:∀ b,H b=none->b≠x:=fun b n z=>by subst z; rw [n] at mu; exact mu
  have hb:∀ b,H b=none->b≠e:=fun b n z=>by
    subst z;rcases he with r | r
    · exact hx b n r
    · rw [n] at r; cases r
  have hm:∀ b u,H b=some u->¬ Mut (some u)->b≠x:=fun b u q nm z=>by subst z; rw [q] at mu; exact nm mu
  refine ⟨fun b u q n _ _=>k b u (hb b n) q,fun b u q n _ _=>⟨u.slots,k b u (hb b n) q⟩,fun b u q n _=>by rw [C1 (hx b n)]; exact n,fun b u q _=>?_,
    fun b xs q=>by rw [C1 (hm b _ q fun z=>z)]; exact q,fun b u xs q=>by rw [C1 (hm b _ q fun z=>z)]; exact q,fun b ps q=>⟨#[],by rw [C1 (hm b _ q fun z=>z),q]; simp⟩⟩
  by_cases hbe:b=e
  · subst hbe; exact heo
  · exact ⟨u,k b u hbe q⟩
end
def trk (h:Heap) (H:Hp):List Addr:=(List.range h.objs.size).filter fun a=>(H a).isSome
def hidT (h:Heap) (H:Hp):Heap:=PySem.W.hideAll h (trk h H)
theorem A4h (h:Heap) (H:Hp):(hidT h H).objs.size=h.objs.size:=PySem.W.hideAll_size _ _
theorem A6p {h:Heap} {H:Hp} {b:Addr} {o:Obj} (e:h.get? b=some o) (n:H b=none):(hidT h H).get? b=some o :=
  PySem.W.hideAll_get _ e fun hm=>by
    have q:(H b).isSome=true:=(List.mem_filter.mp hm).2;rw [n] at q; simp at q
theorem B0k {h:Heap} {H:Hp} {b:Addr} {o:Obj} (e:(hidT h H).get? b=some o):h.get? b=some o/\H b=none:=by
  have e':h.get? b=some o:=PySem.W.of_hideAll (trk h H) e;refine ⟨e',?_⟩;cases q:H b with
  | none=>rfl
  | some x =>
    have hm:b ∈ trk h H:=List.mem_filter.mpr ⟨List.mem_range.mpr (Heap.lt_size e'),by simp [q]⟩;have z:(hidT h H).get? b=none:=PySem.W.hideAll_none (trk h H) hm;rw [z] at e; cases e
def B23 (g h:Heap) (L:Addr):List (Addr × Obj):=(List.range h.objs.size).filterMap fun a=>if a=L\/(g.get? a).isSome=true then none else (h.get? a).map fun o=>(a,o)
def rest (g h:Heap) (L d:Addr):List (Addr × Obj):=(B23 g h L).filter fun p=>decide (p.1≠d)
end L2
namespace L2
open PySem PySem.Spec PyProof.Rows
structure Mod (K:PySem.W.Frag) (mg:Str->Option Value) (base:Heap):Prop where
  kin:K.In base
  glob:base.Ns mainGlobals mg
  blt:∃ mb,base.Ns builtinsNs mb/\∀ x:Str,x≠"__name__"->mb x=bootBuiltins x
  nolimit:base.NoLimit
structure Cx where
  prog:Program
  w:World
  K:PySem.W.Frag
  mg:Str->Option Value
  base:Heap
  A:Around
  N:List Str
  s₀:Shared
  H₀:Hp
  env:Env
  outer:List Env
  stack:List Env
  ex:List Addr
  fn:Str->Bool
  calm:Bool
  pn:List (Addr × Obj)
  xe:Value->Shared->Prop
def frs (l:List Env):List Addr:=l.filterMap (·.frame)
abbrev Cx.fs (X:Cx):List Addr:=frs X.outer
def Vis (sc:Scope) (x:Str):Prop:=sc.names.lookup x=some .local\/sc.names.lookup x=some .cell\/sc.names.lookup x=some .free
def Loc (sc:Scope) (x:Str):Prop:=sc.names.lookup x=some .local\/sc.names.lookup x=some .cell
def Look (env:Env) (h:Heap) (m:Str->Option Value) (x:Str) (u:Value):Prop :=
  (env.kindOf x=some .local/\m x=some u)\/((env.kindOf x=some .cell\/env.kindOf x=some .free)/\∃ c,env.cells.lookup x=some c/\h.IsCell c (some u))
structure Cx.Ok (X:Cx):Prop where
  mod:Mod X.K X.mg X.base
  kind:X.env.scope.kind=.function
  glob:X.env.globals=mainGlobals
  blt:X.env.builtins=builtinsNs
  above:X.s₀.heap.objs.size<=X.env.locals
  inj:∀ x y c,X.env.cells.lookup x=some c->X.env.cells.lookup y=some c->x=y
  has:∀ x,(X.env.kindOf x=some .cell\/X.env.kindOf x=some .free)->∃ c,X.env.cells.lookup x=some c
  cab:∀ x c,X.fn x=true->X.env.cells.lookup x=some c->X.s₀.heap.objs.size<=c
  hd:X.calm=true->X.A.handled=none
  frames:X.A.frames=some X.stack
  stk:X.stack=X.outer\/(X.stack=X.env :: X.outer/\X.env.frame=some X.env.locals)
  exf:∀ b ∈ X.ex,b≠X.env.locals/\∀ x c,X.env.cells.lookup x=some c->c≠b
  bs:∀ b o,X.base.get? b=some o->X.s₀.heap.get? b=some o/\X.H₀ b=none
  bsz:X.base.objs.size<=X.s₀.heap.objs.size
  noex:∀ b o,X.base.get? b=some o->b ∉ X.ex
  exfs:∀ b ∈ X.ex,b ∉ X.fs
  funs:X.s₀.heap.FunFrames X.base X.outer
  frf:∀ b ∈ X.fs,X.H₀ b=none
structure Inv (X:Cx) (pins:List (Addr × Obj)) (σ:List (Option V)) (H:Hp) (s:Shared):Prop where
  ok:X.Ok
  os:s.os=X.s₀.os
  bare:AllBare s.gens
  base:Un X.fs X.ex X.H₀ H X.s₀.heap s.heap
  loc:∃ m,s.heap.Ns X.env.locals m/\∀ (i:Nat) (x:Str) (v:V),X.N[i]?=some x->σ[i]?=some (some v)->Vis X.env.scope x->∃ u,RelV v u/\Look X.env s.heap m x u
  cell:∀ x c,X.env.cells.lookup x=some c->∃ v,s.heap.IsCell c v
  free:H X.env.locals=none
  freeC:∀ x c,X.env.cells.lookup x=some c->H c=none
  pin:∀ p ∈ X.pn++pins,s.heap.get? p.1=some p.2/\H p.1=none/\p.1≠X.env.locals/\p.1 ∉ X.fs/\∀ v,p.2.data≠.cell v
  hok:HOk X.prog X.w H s.heap
  len:σ.length=X.N.length
section
variable {X:Cx} {pins:List (Addr × Obj)} {σ:List (Option V)} {H H':Hp} {s:Shared} {h':Heap}
theorem Cx.Ok.nofr (ok:X.Ok) {b:Addr} {o:Obj} (e:X.base.get? b=some o):b ∉ X.fs:=fun hb=>by
  have:=(ok.funs.mem hb).1;rw [e] at this; cases this
theorem Inv.bs (I:Inv X pins σ H s):∀ b o,X.base.get? b=some o->s.heap.get? b=some o/\H b=none:=fun b o e =>
  ⟨I.base.keep b o (I.ok.bs b o e).1 (I.ok.bs b o e).2 (I.ok.nofr e) (I.ok.noex b o e),I.base.free b o (I.ok.bs b o e).1 (I.ok.bs b o e).2 (I.ok.noex b o e)⟩
theorem Inv.bk (I:Inv X pins σ H s):∀ b o,X.base.get? b=some o->s.heap.get? b=some o:=fun b o e=>(I.bs b o e).1
theorem Inv.mod (I:Inv X pins σ H s):Mod X.K X.mg X.base:=I.ok.mod
theorem Inv.kIn (I:Inv X pins σ H s):X.K.In s.heap:=I.ok.mod.kin.keeps I.bk
theorem Inv.lt (I:Inv X pins σ H s):X.env.locals < s.heap.objs.size:=let ⟨_,hn,_⟩:=I.loc; hn.lt
theorem Inv.sz (I:Inv X pins σ H s):X.s₀.heap.objs.size<=s.heap.objs.size:=Zx I.ok.above (Nat.le_of_lt I.lt)
theorem Inv.nofs (I:Inv X pins σ H s) {a:Addr} (h:s.heap.objs.size<=a):a ∉ X.fs:=fun hb=>by
  obtain ⟨_,o,ho,_⟩:=I.ok.funs.mem hb;exact absurd (Nat.lt_of_lt_of_le (Heap.lt_size ho) (Zx I.sz h)) (Nat.lt_irrefl _)
theorem Inv.cne (I:Inv X pins σ H s):∀ x c,X.env.cells.lookup x=some c->c≠X.env.locals:=fun x c e z=>by
  obtain ⟨v,o,ho,hd⟩:=I.cell x c e;obtain ⟨m,⟨o',es,ep,ho',hd',_⟩,_⟩:=I.loc;rw [z,ho'] at ho; cases ho; rw [hd'] at hd; cases hd
theorem Inv.funs (I:Inv X pins σ H s):s.heap.FunFrames X.base X.outer:=by
  have all:∀ (l:List Env),(∀ b ∈ frs l,b ∈ X.fs)->X.s₀.heap.FunFrames X.base l->s.heap.FunFrames X.base l:=by
    intro l;induction l with
    | nil=>intro _ _; trivial
    | cons env r ih =>
      intro hs hl;obtain ⟨hk,⟨L,o,hf,hn,ho,hd⟩,hr⟩:=hl;have hL:L ∈ X.fs:=hs L (by unfold frs; rw [List.filterMap_cons,hf]; exact Zy);obtain ⟨sl,e⟩:=I.base.slot L o ho (I.ok.frf L hL) hL fun z=>I.ok.exfs L z hL;exact ⟨hk,⟨L,_,hf,hn,e,hd⟩,ih (fun b hb=>hs b (by unfold frs; rw [List.filterMap_cons,hf]; exact Zr _ hb)) hr⟩
  exact all X.outer (fun _ hb=>hb) I.ok.funs
theorem Inv.stack (I:Inv X pins σ H s):s.heap.FunFrames X.base X.stack:=by
  rcases I.ok.stk with e | ⟨e,hf⟩
  · rw [e]; exact I.funs
  · rw [e]
    obtain ⟨m,hn,_⟩:=I.loc;refine .cons (by rw [I.ok.kind]; decide) hf hn ?_ I.funs;exact Heap.get?_none_of_le (Zx I.ok.bsz I.ok.above)
theorem Inv.stkSub (I:Inv X pins σ H s):∀ b ∈ frs X.stack,b ∈ X.env.locals :: X.fs:=fun b hb=>by
  rcases I.ok.stk with e | ⟨e,hf⟩
  · rw [e] at hb; exact Zr _ hb
  · rw [e] at hb
    unfold frs at hb;rw [List.filterMap_cons,hf] at hb;exact hb
theorem Inv.stkFree (I:Inv X pins σ H s):∀ b ∈ frs X.stack,H b=none:=fun b hb=>by
  rcases List.mem_cons.mp (I.stkSub b hb) with e | hb
  · rw [e]; exact I.free
  · obtain ⟨_,o,ho,_⟩:=I.ok.funs.mem hb
    exact I.base.free b o ho (I.ok.frf b hb) fun z=>I.ok.exfs b z hb
theorem Inv.step {g':Array GenState} {t':Nat} {d':Drawn} {ch:List Addr} (I:Inv X pins σ H s)
    (hch:∀ b ∈ ch,(b ∈ X.ex\/X.s₀.heap.objs.size<=b)/\b≠X.env.locals/\(∀ x c,X.env.cells.lookup x=some c->c≠b)/\∀ p ∈ X.pn++pins,p.1≠b)
    (keep:∀ b o,b≠X.env.locals->b ∉ X.fs->b ∉ ch->s.heap.get? b=some o->H b=none->h'.get? b=some o)
    (slot:∀ b o,b≠X.env.locals->b ∈ X.fs->b ∉ ch->s.heap.get? b=some o->H b=none->∃ sl,h'.get? b=some { o with slots:=sl }) (free:∀ b o,b ∉ ch->s.heap.get? b=some o->H b=none->H' b=none)
    (there:∀ b o,b ∉ ch->s.heap.get? b=some o->∃ o',h'.get? b=some o')
    (tups:∀ b xs,H b=some (.tup xs)->H' b=some (.tup xs)) (frzs:∀ b o u,H b=some (.frz o u)->H' b=some (.frz o u)) (tbls:∀ b ps,H b=some (.tbl ps)->∃ more,H' b=some (.tbl (ps++more)))
    (ns:∀ m,s.heap.Ns X.env.locals m->h'.Ns X.env.locals m) (hok:HOk X.prog X.w H' h') (hg:AllBare g') :
    Inv X pins σ H' { s with heap:=h',gens:=g',drawn:=d',toks:=t' }:=by
  have neL:∀ b o,X.s₀.heap.get? b=some o->b≠X.env.locals:=fun b o e=>Nat.ne_of_lt (Nat.lt_of_lt_of_le (Heap.lt_size e) I.ok.above);have neC:∀ b o,X.s₀.heap.get? b=some o->b ∉ X.ex->b ∉ ch:=fun b o e hx hb=>by
    rcases (hch b hb).1 with z | z
    · exact hx z
    · exact absurd (Nat.lt_of_lt_of_le (Heap.lt_size e) z) (Nat.lt_irrefl _)
  have cellK:∀ x c,X.env.cells.lookup x=some c->∀ v,s.heap.IsCell c v->h'.IsCell c v:=fun x c e v ⟨o,ho,hd⟩=>by
    have nch:c ∉ ch:=fun z=>(hch c z).2.2.1 x c e rfl;by_cases hc:c ∈ X.fs
    · obtain ⟨sl,q⟩:=slot c o (I.cne x c e) hc nch ho (I.freeC x c e)
      exact ⟨_,q,hd⟩
    · exact ⟨o,keep c o (I.cne x c e) hc nch ho (I.freeC x c e),hd⟩
  refine ⟨I.ok,I.os,hg,⟨fun b o e n hb hx=>?_,fun b o e n hb hx=>?_,fun b o e n hx=>?_,fun b o e hx=>?_,fun b xs e=>tups b xs (I.base.tups b xs e),fun b o xs e=>frzs b o xs (I.base.frzs b o xs e),fun b ps e=>?_⟩,?_,fun x c e=>?_,?_,fun x c e=>?_,fun p hp=>?_,hok,I.len⟩
  · exact keep b o (neL b o e) hb (neC b o e hx) (I.base.keep b o e n hb hx) (I.base.free b o e n hx)
  · obtain ⟨sl,e1⟩:=I.base.slot b o e n hb hx
    obtain ⟨sl',e2⟩:=slot b _ (neL b o e) hb (neC b o e hx) e1 (I.base.free b o e n hx);exact ⟨sl',e2⟩
  · obtain ⟨o',e1⟩:=I.base.there b o e hx
    exact free b o' (neC b o e hx) e1 (I.base.free b o e n hx)
  · obtain ⟨o',e1⟩:=I.base.there b o e hx
    exact there b o' (neC b o e hx) e1
  · obtain ⟨m1,e1⟩:=I.base.tbls b ps e
    obtain ⟨m2,e2⟩:=tbls b _ e1;exact ⟨m1++m2,by rw [e2,Array.append_assoc]⟩
  · obtain ⟨m,hn,hl⟩:=I.loc
    refine ⟨m,ns m hn,fun i x v e1 e2 e3=>?_⟩;obtain ⟨u,r,l⟩:=hl i x v e1 e2 e3;refine ⟨u,r,?_⟩;rcases l with l | ⟨k,c,e,z⟩
    · exact .inl l
    · exact .inr ⟨k,c,e,cellK x c e _ z⟩
  · obtain ⟨v,z⟩:=I.cell x c e
    exact ⟨v,cellK x c e v z⟩
  · obtain ⟨m,⟨o,_,_,ho,_⟩,_⟩:=I.loc
    exact free _ o (fun z=>(hch _ z).2.1 rfl) ho I.free
  · obtain ⟨v,o,ho,hd⟩:=I.cell x c e
    exact free c o (fun z=>(hch c z).2.2.1 x c e rfl) ho (I.freeC x c e)
  · obtain ⟨e,n,ne,nf,d⟩:=I.pin p hp
    have nch:p.1 ∉ ch:=fun z=>(hch p.1 z).2.2.2 p hp rfl;exact ⟨keep p.1 p.2 ne nf nch e n,free p.1 p.2 nch e n,ne,nf,d⟩
theorem Inv.un {t':Nat} (I:Inv X pins σ H s) (u:Un X.fs [] H H' s.heap h') (hok:HOk X.prog X.w H' h'):Inv X pins σ H' { s with heap:=h',toks:=t' }:=by
  obtain ⟨m,⟨o,es,ep,ho,r⟩,_⟩:=id I.loc;obtain ⟨sl,hL⟩:=u.any ho I.free (by simp);exact I.step (g':=s.gens) (d':=s.drawn) (ch:=[]) (fun _ z=>nomatch z) (fun b o _ hb _ e n=>u.keep b o e n hb (by simp)) (fun b o _ hb _ e n=>u.slot b o e n hb (by simp)) (fun b o _ e n=>u.free b o e n (by simp)) (fun b o _ e=>u.there b o e (by simp)) u.tups u.frzs u.tbls (fun m' hm=>by
    obtain ⟨o',es',ep',ho',r'⟩:=hm;rw [ho] at ho'; cases ho';exact ⟨_,es',ep',hL,r'⟩) hok I.bare
theorem Inv.call {g':Array GenState} {t':Nat} {d':Drawn} {ch:List Addr} (I:Inv X pins σ H s) (u:Un (frs X.stack) ch H H' s.heap h') (hok:HOk X.prog X.w H' h') (hg:AllBare g')
    (hch:∀ b ∈ ch,(b ∈ X.ex\/X.s₀.heap.objs.size<=b)/\b≠X.env.locals/\(∀ x c,X.env.cells.lookup x=some c->c≠b)/\∀ p ∈ X.pn++pins,p.1≠b) :
    Inv X pins σ H' { s with heap:=h',gens:=g',drawn:=d',toks:=t' }:=by
  obtain ⟨m,⟨o,es,ep,ho,r⟩,_⟩:=id I.loc;obtain ⟨sl,hL⟩:=u.any ho I.free fun z=>(hch _ z).2.1 rfl;exact I.step (ch:=ch) hch (fun b o hL hb hc e n=>u.keep b o e n (fun z=>(List.mem_cons.mp (I.stkSub b z)).elim hL hb) hc) (fun b o _ _ hc e n=>u.any e n hc) (fun b o hc e n=>u.free b o e n hc) (fun b o hc e=>u.there b o e hc) u.tups u.frzs u.tbls (fun m' hm=>by
    obtain ⟨o',es',ep',ho',r'⟩:=hm;rw [ho] at ho'; cases ho';exact ⟨_,es',ep',hL,r'⟩) hok hg
theorem Inv.turned {t':Nat} {it:Addr} (I:Inv X pins σ H s) (k:∀ b o,b≠it->s.heap.get? b=some o->h'.get? b=some o) (hn:H it=none) (hL:it≠X.env.locals)
    (h1:it ∈ X.ex\/X.s₀.heap.objs.size<=it) (h2:∀ x c,X.env.cells.lookup x=some c->c≠it) (h3:∀ p ∈ X.pn++pins,p.1≠it):Inv X pins σ H { s with heap:=h',toks:=t' }:=by
  have nit:∀ b u,H b=some u->b≠it:=fun b u e z=>by rw [z,hn] at e; cases e
  refine I.step (g':=s.gens) (d':=s.drawn) (ch:=[it]) (fun b hb=>?_) (fun b o _ _ hc e _=>k b o (fun z=>hc (by simp [z])) e) (fun b o _ _ hc e _=>⟨o.slots,k b o (fun z=>hc (by simp [z])) e⟩) (fun _ _ _ _ n=>n)
    (fun b o hc e=>⟨o,k b o (fun z=>hc (by simp [z])) e⟩) (fun _ _ e=>e) (fun _ _ _ e=>e) (fun b ps e=>⟨#[],by rw [e]; simp⟩) (fun m hm=>?_) (fun b u e=>?_) I.bare
  · have e:b=it:=by simpa using hb
    subst e;exact ⟨h1,hL,h2,h3⟩
  · obtain ⟨o,es,ep,ho,r⟩:=hm
    exact ⟨o,es,ep,k _ o (Ne.symm hL) ho,r⟩
  · refine (I.hok b u e).stay (fun c v hc q=>k c v ?_ q) (fun _ q=>q) fun _ _ q=>q
    rcases hc with z | z
    · rw [z]; exact nit b u e
    · exact nit c _ z
theorem Inv.tok (I:Inv X pins σ H s) (t:Nat):Inv X pins σ H { s with toks:=t }:=I.un (h':=s.heap) (t':=t) Un.refl I.hok
theorem Inv.kept {t':Nat} (I:Inv X pins σ H s) (k:∀ b u,s.heap.get? b=some u->h'.get? b=some u):Inv X pins σ H { s with heap:=h',toks:=t' }:=I.un (Un.kept k) (I.hok.kept k)
theorem Inv.laid {a:Addr} {o:HO} {t':Nat} (I:Inv X pins σ H s) (k:∀ b u,s.heap.get? b=some u->h'.get? b=some u) (hp:s.heap.objs.size<=a) (new:ObjOk X.prog X.w (upd H a o) h' a o) :
    Inv X pins σ (upd H a o) { s with heap:=h',toks:=t' }:=I.un (Un.laid k hp (I.hok.fresh hp)) (I.hok.laid k hp new)
theorem Inv.write {x e:Addr} {o:HO} {t':Nat} (I:Inv X pins σ H s) (mu:Mut (H x)) (he:e=x\/H e=some (.own x)) (k:∀ b u,b≠e->s.heap.get? b=some u->h'.get? b=some u) (heo:∃ u,h'.get? e=some u)
    (new:ObjOk X.prog X.w (upd H x o) h' x o):Inv X pins σ (upd H x o) { s with heap:=h',toks:=t' }:=I.un (Un.write mu he k heo) (I.hok.write mu he k heo new)
theorem Inv.pins_of {pins':List (Addr × Obj)} (I:Inv X pins σ H s) (h:∀ p ∈ pins',s.heap.get? p.1=some p.2/\H p.1=none/\p.1≠X.env.locals/\p.1 ∉ X.fs/\∀ v,p.2.data≠.cell v):Inv X pins' σ H s :=
  ⟨I.ok,I.os,I.bare,I.base,I.loc,I.cell,I.free,I.freeC,fun p hp=>(Za hp).elim (fun z=>I.pin p (Zt _ z)) (h p),I.hok,I.len⟩
theorem A1h {N:List Str} (hN:N.Nodup) {i j:Nat} {x:Str} (a:N[i]?=some x) (b:N[j]?=some x):i=j:=by
  obtain ⟨h1,e1⟩:=Zs a;obtain ⟨h2,e2⟩:=Zs b;exact (List.getElem_inj hN).mp (e1.trans e2.symm)
theorem W0 {M:Model} {A:Around} {E:Value->Shared->Prop} {i:Nat} {x:Str} {v:V} {u:Value} {Q:Unit->Shared->Prop} (I:Inv X pins σ H s) (hN:X.N.Nodup) (hi:X.N[i]?=some x) (hx:Loc X.env.scope x) (r:RelV v u)
    (h:∀ s',Inv X pins (σ.set i (some v)) H s'->(∃ a,Heap.SameBut a s.heap s'.heap/\(a=X.env.locals\/X.env.cells.lookup x=some a))->Q () s') (hf:X.fn x=true\/X.env.scope.names.lookup x=some .local:=by first | exact .inl rfl | exact .inr rfl | assumption):wpAny M A (storeName X.env x u) Q E s:=by
  obtain ⟨m,hn,hl⟩:=id I.loc;have hcls:(X.env.scope.kind == .class || (X.env.scope.kind == .module && X.env.locals != X.env.globals))=false:=by rw [I.ok.kind]; rfl
  have hiσ:i < σ.length:=by rw [I.len]; exact (Zs hi).1
  have cne:=I.cne;have tracked:∀ {a:Addr} {h':Heap},(∃ o,s.heap.get? a=some o/\H a=none)->Heap.SameBut a s.heap h'->HOk X.prog X.w H h':=fun {a h'} ha hs b ob e=>by
    obtain ⟨_,_,hfree⟩:=ha;refine (I.hok b ob e).stay (fun c w' hc q=>(hs.2 c ?_).trans q) (fun _ q=>q) fun _ _ q=>q;rintro rfl;rcases hc with rfl | hc
    · rw [hfree] at e; cases e
    · rw [hfree] at hc; cases hc
  rcases hx with hk | hk
  · refine wpAny_storeName_local hk hn (fun h' hn' hs=>?_) hcls
    obtain ⟨oL,_,_,hoL,_⟩:=id hn;refine h _ ⟨I.ok,I.os,I.bare,⟨fun b o e n hb hx=>?_,fun b o e n hb hx=>?_,I.base.free,fun b o e hx=>?_,I.base.tups,I.base.frzs,I.base.tbls⟩,⟨_,hn',fun j y v' e1 e2 e3=>?_⟩,fun y c e=>?_,I.free,I.freeC,fun p hp=>?_,tracked ⟨oL,hoL,I.free⟩ hs,by simpa using I.len⟩ ⟨_,hs,.inl rfl⟩
    · exact (hs.2 b (Nat.ne_of_lt (Nat.lt_of_lt_of_le (Heap.lt_size e) I.ok.above))).trans (I.base.keep b o e n hb hx)
    · obtain ⟨sl,e1⟩:=I.base.slot b o e n hb hx
      exact ⟨sl,(hs.2 b (Nat.ne_of_lt (Nat.lt_of_lt_of_le (Heap.lt_size e) I.ok.above))).trans e1⟩
    · obtain ⟨o',e1⟩:=I.base.there b o e hx
      exact ⟨o',(hs.2 b (Nat.ne_of_lt (Nat.lt_of_lt_of_le (Heap.lt_size e) I.ok.above))).trans e1⟩
    · by_cases hj:j=i
      · subst hj
        rw [hi] at e1; cases e1;rw [List.getElem?_set_self hiσ] at e2;cases e2;exact ⟨u,r,.inl ⟨hk,by simp⟩⟩
      · rw [List.getElem?_set_ne (Ne.symm hj)] at e2
        obtain ⟨u',r',q⟩:=hl j y v' e1 e2 e3;refine ⟨u',r',?_⟩;rcases q with ⟨k,e⟩ | ⟨k,c,e,z⟩
        · refine .inl ⟨k,?_⟩
          have:y≠x:=fun e=>hj (A1h hN e1 (e ▸ hi));simp [this,e]
        · exact .inr ⟨k,c,e,z.sameBut hs (cne y c e)⟩
    · obtain ⟨w',z⟩:=I.cell y c e
      exact ⟨w',z.sameBut hs (cne y c e)⟩
    · obtain ⟨e,n,ne,nf,d⟩:=I.pin p hp
      exact ⟨(hs.2 p.1 ne).trans e,n,ne,nf,d⟩
  · have hfn:X.fn x=true:=by
      rcases hf with z | z
      · exact z
      · rw [z] at hk; cases hk
    obtain ⟨c,hc⟩:=I.ok.has x (.inl hk);obtain ⟨w',z⟩:=I.cell x c hc;refine wpAny_storeName_cell I.ok.kind hk hc z (fun h' hc' hs=>?_);obtain ⟨oc,hoc,hocd⟩:=id z;refine h { s with heap:=h' } ⟨I.ok,I.os,I.bare,⟨fun b o e n hb hx=>?_,fun b o e n hb hx=>?_,I.base.free,fun b o e hx=>?_,I.base.tups,I.base.frzs,I.base.tbls⟩,⟨m,hn.sameBut hs (Ne.symm (cne x c hc)),fun j y v' e1 e2 e3=>?_⟩,fun y c' e=>?_,I.free,I.freeC,fun p hp=>?_,tracked ⟨oc,hoc,I.freeC x c hc⟩ hs,by simpa using I.len⟩ ⟨c,hs,.inr hc⟩
    · exact (hs.2 b (Nat.ne_of_lt (Nat.lt_of_lt_of_le (Heap.lt_size e) (I.ok.cab x c hfn hc)))).trans (I.base.keep b o e n hb hx)
    · obtain ⟨sl,e1⟩:=I.base.slot b o e n hb hx
      exact ⟨sl,(hs.2 b (Nat.ne_of_lt (Nat.lt_of_lt_of_le (Heap.lt_size e) (I.ok.cab x c hfn hc)))).trans e1⟩
    · obtain ⟨o',e1⟩:=I.base.there b o e hx
      exact ⟨o',(hs.2 b (Nat.ne_of_lt (Nat.lt_of_lt_of_le (Heap.lt_size e) (I.ok.cab x c hfn hc)))).trans e1⟩
    · by_cases hj:j=i
      · subst hj
        rw [hi] at e1; cases e1;rw [List.getElem?_set_self hiσ] at e2;cases e2;exact ⟨u,r,.inr ⟨.inl hk,c,hc,hc'⟩⟩
      · rw [List.getElem?_set_ne (Ne.symm hj)] at e2
        obtain ⟨u',r',q⟩:=hl j y v' e1 e2 e3;refine ⟨u',r',?_⟩;rcases q with q | ⟨k,c',e,z'⟩
        · exact .inl q
        · refine .inr ⟨k,c',e,z'.sameBut hs ?_⟩
          rintro rfl;exact hj (A1h hN e1 (I.ok.inj _ _ _ e hc ▸ hi))
    · by_cases hcc:c'=c
      · subst hcc; exact ⟨_,hc'⟩
      · obtain ⟨w2,z2⟩:=I.cell y c' e
        exact ⟨w2,z2.sameBut hs hcc⟩
    · obtain ⟨e,n,ne,nf,d⟩:=I.pin p hp
      refine ⟨(hs.2 p.1 ?_).trans e,n,ne,nf,d⟩;intro q;rw [q,hoc] at e;have q':oc=p.2:=Zj e;exact d w' (by rw [<- q']; exact hocd)
theorem J4 {M:Model} {A:Around} {E:Value->Shared->Prop} {i:Nat} {x:Str} {v:V} {u:Value} {Q:Unit->Shared->Prop} (I:Inv X pins σ H s) (hN:X.N.Nodup) (hi:X.N[i]?=some x) (hx:Loc X.env.scope x) (r:RelV v u)
    (h:∀ s',Inv X pins (σ.set i (some v)) H s'->Q () s') (hf:X.fn x=true\/X.env.scope.names.lookup x=some .local:=by first | exact .inl rfl | exact .inr rfl | assumption):wpAny M A (storeName X.env x u) Q E s :=
  W0 I hN hi hx r (fun s' I' _=>h s' I') hf
theorem Inv.call' {s':Shared} {ch:List Addr} (I:Inv X pins σ H s) (ho:s'.os=s.os) (u:Un (frs X.stack) ch H H' s.heap s'.heap) (hok:HOk X.prog X.w H' s'.heap) (hg:AllBare s'.gens)
    (hch:∀ b ∈ ch,(b ∈ X.ex\/X.s₀.heap.objs.size<=b)/\b≠X.env.locals/\(∀ x c,X.env.cells.lookup x=some c->c≠b)/\∀ p ∈ X.pn++pins,p.1≠b):Inv X pins σ H' s':=by
  obtain ⟨h',g',d',t',o'⟩:=s';have e:o'=s.os:=ho;subst e;exact I.call (g':=g') (t':=t') (d':=d') u hok hg hch
end
abbrev XK:=Value->Option Addr->Hp->Prop
abbrev St:=List (Option V)
abbrev VK:=V->Hp->Prop
abbrev TE:=St->Hp->VK->Prop
abbrev TT:=St->Hp->(Bool->Hp->Prop)->Prop
abbrev TA:=St->Hp->(List V->Hp->Prop)->Prop
structure Ends where
  nx:St->Hp->Prop
  rt:VK
  bk:St->Hp->Prop:=fun _ _=>False
  ct:St->Hp->Prop:=fun _ _=>False
abbrev TS:=Ends->St->Hp->Prop
def EP (X:Cx) (pins:List (Addr × Obj)) (σ:St) (Q:VK) (u:Value) (s':Shared):Prop:=∃ v H',Inv X pins σ H' s'/\RelV v u/\Q v H'
def TP (X:Cx) (pins:List (Addr × Obj)) (σ:St) (Q:Bool->Hp->Prop) (b:Bool) (s':Shared):Prop:=∃ H',Inv X pins σ H' s'/\Q b H'
def AP (X:Cx) (pins:List (Addr × Obj)) (σ:St) (Q:List V->Hp->Prop) (us:List Value) (s':Shared):Prop:=∃ vs H',Inv X pins σ H' s'/\Vals vs us/\Q vs H'
def SP (X:Cx) (pins:List (Addr × Obj)) (D:Ends) (f:Flow) (s':Shared):Prop :=
  match f with
  | .next=>∃ σ' H',Inv X pins σ' H' s'/\D.nx σ' H'
  | .brk=>∃ σ' H',Inv X pins σ' H' s'/\D.bk σ' H'
  | .cont=>∃ σ' H',Inv X pins σ' H' s'/\D.ct σ' H'
  | .ret u=>∃ v σ' H',Inv X pins σ' H' s'/\RelV v u/\D.rt v H'
def PE (X:Cx) (e:Expr) (t:TE):Prop :=
  ∀ (pins:List (Addr × Obj)) (s:Shared) (σ:St) (H:Hp) (Q:VK),Inv X pins σ H s->t σ H Q->wpAny (model X.prog X.w) X.A (eval e X.env) (EP X pins σ Q) X.xe s
def PT (X:Cx) (e:Expr) (t:TT):Prop :=
  ∀ (pins:List (Addr × Obj)) (s:Shared) (σ:St) (H:Hp) (Q:Bool->Hp->Prop),Inv X pins σ H s->t σ H Q->wpAny (model X.prog X.w) X.A (isTrue e X.env (eval e X.env)) (TP X pins σ Q) X.xe s
def PW (X:Cx) (e:Expr) (t:TT):Prop :=
  ∀ (whole:Sem Value) (pins:List (Addr × Obj)) (s:Shared) (σ:St) (H:Hp) (Q:Bool->Hp->Prop),Inv X pins σ H s->t σ H Q->wpAny (model X.prog X.w) X.A (isTrue e X.env whole) (TP X pins σ Q) X.xe s
theorem PW.pt {X:Cx} {e:Expr} {t:TT} (h:PW X e t):PT X e t:=h _
def PA (X:Cx) (es:List Expr) (t:TA):Prop :=
  ∀ (pos:Pos) (pins:List (Addr × Obj)) (s:Shared) (σ:St) (H:Hp) (Q:List V->Hp->Prop),Inv X pins σ H s->t σ H Q->wpAny (model X.prog X.w) X.A (spliced (backTo pos (starEach es X.env))) (AP X pins σ Q) X.xe s
def PS (X:Cx) (st:Stmt) (t:TS):Prop :=
  ∀ (pins:List (Addr × Obj)) (s:Shared) (σ:St) (H:Hp) (D:Ends),Inv X pins σ H s->t D σ H->wpAny (model X.prog X.w) X.A (exec st X.env) (SP X pins D) X.xe s
def PSs (X:Cx) (st:List Stmt) (t:TS):Prop :=
  ∀ (pins:List (Addr × Obj)) (s:Shared) (σ:St) (H:Hp) (D:Ends),Inv X pins σ H s->t D σ H->wpAny (model X.prog X.w) X.A (execs st X.env) (SP X pins D) X.xe s
theorem thn {α:Type} {t:Sem α} {Q Q':α->Shared->Prop} {M:Model} {A:Around} {E:Value->Shared->Prop} {s:Shared} (h:wpAny M A t Q E s) (hQ:∀ a s,Q a s->Q' a s):wpAny M A t Q' E s:=wpAny_mono h hQ fun _ _ x=>x
end L2
namespace L2
open PySem PySem.Spec PyProof.Rows
section
variable {X:Cx}
theorem bin {a b:Expr} {ta tb:TE} (ha:PE X a ta) (hb:PE X b tb) {pins:List (Addr × Obj)} {s:Shared} {σ:St} {H:Hp} {R:V->V->Hp->Prop} (I:Inv X pins σ H s) (h:ta σ H fun x H1=>tb σ H1 fun y H2=>R x y H2)
    {α:Type} {Q:α->Shared->Prop} {f:Value->Value->Sem α}
    (hf:∀ v u s2 x y H2,Inv X pins σ H2 s2->RelV x v->RelV y u->R x y H2->wpAny (model X.prog X.w) X.A (f v u) Q X.xe s2) :
    wpAny (model X.prog X.w) X.A (eval a X.env) (fun v s₁=>wpAny (model X.prog X.w) X.A (eval b X.env) (fun u s₂=>wpAny (model X.prog X.w) X.A (f v u) Q X.xe s₂) X.xe s₁) X.xe s:=by
  refine thn (ha pins s σ H _ I h) fun v s1 ⟨x,H1,I1,r1,q1⟩=>?_;refine thn (hb pins s1 σ H1 _ I1 q1) fun u s2 ⟨y,H2,I2,r2,q2⟩=>?_;exact hf v u s2 x y H2 I2 r1 r2 q2
def tVar (i:Nat):TE:=fun σ H Q=>∃ v,σ[i]?=some (some v)/\Q v H
def tC (v:V):TE:=fun _ H Q=>Q v H
theorem B35 {i:Nat} {x:Str} {pos:Pos} (hN:X.N[i]?=some x) (hv:Vis X.env.scope x) (hd:(x == ("__debug__":Str))=false:=by decide) (hcd:(x == ("__classdict__":Str))=false:=by decide):PE X (.Name x pos) (tVar i):=by
  intro pins s σ H Q I h;obtain ⟨v,e,h⟩:=h;obtain ⟨m,hn,hl⟩:=I.loc;obtain ⟨u,r,l⟩:=hl i x v hN e hv;have fin:EP X pins σ Q u s:=⟨v,H,I,r,h⟩;rcases l with ⟨hk,hm⟩ | ⟨hk,c,hc,hcell⟩
  · exact wpAny_Name (wpAny_loadName_local I.ok.kind hk hn hm fin) hd
  · rcases hk with hk | hk
    · exact wpAny_Name (wpAny_loadName_cell I.ok.kind hk hc hcell fin) hd
    · exact wpAny_Name (wpAny_loadName_free I.ok.kind hk hc hcell fin hcd) hd
theorem C8 {i j pos}:PE X (.Constant (.int i) j pos) (tC (.int i)):=fun _ _ _ H _ I h=>wpAny_Constant_int ⟨.int i,H,I.tok _,⟨_,rfl⟩,h⟩
theorem B8m {b j pos}:PE X (.Constant (.bool b) j pos) (tC (.bl b)):=fun _ _ _ H _ I h=>Constant_bool ⟨.bl b,H,I,rfl,h⟩
theorem B4a {j pos}:PE X (.Constant .none j pos) (tC .non):=fun _ _ _ H _ I h=>Constant_none ⟨.non,H,I,rfl,h⟩
theorem B37 {x j pos}:PE X (.Constant (.str x) j pos) (tC (.str x)):=fun _ _ _ H _ I h=>Calls.Constant_str ⟨.str x,H,I.tok _,⟨_,rfl⟩,h⟩
def Gl (X:Cx) (x:Str):Prop:=X.env.kindOf x=some .globalImplicit
theorem B1i {E:Value->Shared->Prop} {pins:List (Addr × Obj)} {s:Shared} {σ:St} {H:Hp} {x:Str} {u:Value} {pos:Pos} {Q:Value->Shared->Prop} (I:Inv X pins σ H s) (hg:Gl X x) (hm:X.mg x=some u) (h:Q u s)
    (hd:(x == ("__debug__":Str))=false:=by decide):wpAny (model X.prog X.w) X.A (eval (.Name x pos) X.env) Q E s :=
  Calls.Name_function_global I.ok.kind hg (Calls.loadGlobal_global (by rw [I.ok.glob]; exact I.mod.glob.keeps I.bk) hm h) hd
theorem T1 {E:Value->Shared->Prop} {pins:List (Addr × Obj)} {s:Shared} {σ:St} {H:Hp} {x:Str} {u:Value} {pos:Pos} {Q:Value->Shared->Prop} (I:Inv X pins σ H s) (hg:Gl X x) (hm:X.mg x=none) (hv:bootBuiltins x=some u) (h:Q u s)
    (hn:x≠"__name__":=by decide) (hd:(x == ("__debug__":Str))=false:=by decide):wpAny (model X.prog X.w) X.A (eval (.Name x pos) X.env) Q E s:=by
  obtain ⟨mb,h1,h2⟩:=I.mod.blt;exact Calls.Name_function_global I.ok.kind hg (Calls.loadGlobal_builtin (by rw [I.ok.glob]; exact I.mod.glob.keeps I.bk) hm (by rw [I.ok.blt]; exact h1.keeps I.bk) ((h2 x hn).trans hv) h) hd
theorem A9b {x:Str} {v:V} {u:Value} {pos:Pos} (hg:Gl X x) (hm:X.mg x=none) (hv:bootBuiltins x=some u) (r:RelV v u) (hn:x≠"__name__":=by decide) (hd:(x == ("__debug__":Str))=false:=by decide):PE X (.Name x pos) (tC v) :=
  fun _ _ _ H _ I h=>T1 I hg hm hv ⟨v,H,I,r,h⟩ hn hd
variable {a b:Expr} {ta tb:TE} {pos:Pos}
def PC (X:Cx) (op:CmpOp) (a b:Expr) (t:TE):Prop :=
  ∀ (pins:List (Addr × Obj)) (s:Shared) (σ:St) (H:Hp) (Q:VK),Inv X pins σ H s->t σ H Q ->
    wpAny (model X.prog X.w) X.A (eval a X.env) (fun v s₁=>wpAny (model X.prog X.w) X.A (eval b X.env) (fun u s₂=>wpAny (model X.prog X.w) X.A (compareOp op v u) (EP X pins σ Q) X.xe s₂) X.xe s₁) X.xe s
theorem A57 (b:Expr) {op:CmpOp} (h:op≠.In) (h2:op≠.NotIn):behindInMarks op b=false:=by
  have e1:(op == CmpOp.In)=false:=by cases op <;> first | rfl | exact absurd rfl h
  have e2:(op == CmpOp.NotIn)=false:=by cases op <;> first | rfl | exact absurd rfl h2
  cases b <;> simp [behindInMarks,e1,e2]
def tB (t:TE):TT:=fun σ H Q=>t σ H fun x H1=>∃ c,x=.bl c/\Q c H1
theorem B92 {op:CmpOp} {t:TE} (h:PC X op a b t) (h1:behindInMarks op b=false:=by first | exact A57 _ (by decide) (by decide) | rfl):PT X (.Compare a [op] [b] pos) (tB t):=by
  intro pins s σ H Q I hw;refine wpAny_isTrue_Compare1 (thn (h pins s σ H _ I hw) fun v s1 h1=>thn h1 fun u s2 h2=>thn h2 fun c s3 ⟨x,H1,I1,r1,q1⟩=>?_) h1;obtain ⟨d,rfl,q⟩:=q1;cases r1;exact wpAny_truthy_bool ⟨H1,I1,q⟩
theorem A7j {e:Expr} {t:TE} (h:PE X e t) (he:∀ whole,isTrue e X.env whole=(do let v <- whole; standAt e.pos; holding [v] (truthy v)):=by intro _; rfl):PT X e (tB t):=by
  intro pins s σ H Q I hw;refine isTrue_plain (thn (h pins s σ H _ I hw) fun v s1 ⟨x,H1,I1,r1,q1⟩=>?_) (he _);obtain ⟨d,rfl,q⟩:=q1;cases r1;exact wpAny_truthy_bool ⟨H1,I1,q⟩
variable {tA tB':TT} {rest:List Expr}
def tAnd (t u:TT):TT:=fun σ H Q=>t σ H fun c H1=>if c=true then u σ H1 Q else Q false H1
def tOr (t u:TT):TT:=fun σ H Q=>t σ H fun c H1=>if c=true then Q true H1 else u σ H1 Q
def tNot (t:TT):TT:=fun σ H Q=>t σ H fun c H1=>Q (!c) H1
theorem A8x (ha:PT X a tA):PW X (.BoolOp .And [a] pos) tA:=by
  intro wh pins s σ H Q I h;refine isTrue_and (thn (ha pins s σ H Q I h) fun c s1 e=>?_);cases c with
  | true=>exact isTrue_and_nil e
  | false=>exact e
theorem B3y (ha:PT X a tA):PW X (.BoolOp .Or [a] pos) tA:=by
  intro wh pins s σ H Q I h;refine isTrue_or (thn (ha pins s σ H Q I h) fun c s1 e=>?_);cases c with
  | false=>exact isTrue_or_nil e
  | true=>exact e
theorem B3z (ha:PT X a tA) (hb:PW X (.BoolOp .And (b :: rest) pos) tB'):PW X (.BoolOp .And (a :: b :: rest) pos) (tAnd tA tB'):=by
  intro wh pins s σ H Q I h;refine isTrue_and (thn (ha pins s σ H _ I h) fun c s1 ⟨H1,I1,q1⟩=>?_);cases c with
  | true=>exact hb wh pins s1 σ H1 Q I1 q1
  | false=>exact ⟨H1,I1,q1⟩
theorem B8i (ha:PT X a tA) (hb:PW X (.BoolOp .Or (b :: rest) pos) tB'):PW X (.BoolOp .Or (a :: b :: rest) pos) (tOr tA tB'):=by
  intro wh pins s σ H Q I h;refine isTrue_or (thn (ha pins s σ H _ I h) fun c s1 ⟨H1,I1,q1⟩=>?_);cases c with
  | true=>exact ⟨H1,I1,q1⟩
  | false=>exact hb wh pins s1 σ H1 Q I1 q1
theorem B30 (ha:PT X a tA):PT X (.UnaryOp .Not a pos) (tNot tA):=by
  intro pins s σ H Q I h;exact isTrue_not (ha pins s σ H (fun c H1=>Q (!c) H1) I h)
def A8k (ta tb:TE):TE:=fun σ H Q=>ta σ H fun x H1=>∃ c,x=.bl c/\if c=true then tb σ H1 Q else Q (.bl false) H1
def A8i (ta:TE):TE:=fun σ H Q=>ta σ H fun x H1=>∃ c,x=.bl c/\Q (.bl (!c)) H1
theorem B38 {op} {t:TE} (h:PE X a t):PE X (.BoolOp op [a] pos) t:=fun pins s σ H Q I hw=>BoolOp_one (h pins s σ H Q I hw)
theorem B4c (ha:PE X a ta) (hb:PE X (.BoolOp .And (b :: rest) pos) tb):PE X (.BoolOp .And (a :: b :: rest) pos) (A8k ta tb):=by
  intro pins s σ H Q I h;refine BoolOp_and (thn (ha pins s σ H _ I h) fun v s1 ⟨x,H1,I1,r1,q1⟩=>?_);obtain ⟨c,rfl,q1⟩:=q1;cases r1;refine wpAny_truthy_bool ?_;cases c with
  | true=>exact hb pins s1 σ H1 Q I1 q1
  | false=>exact ⟨.bl false,H1,I1,rfl,q1⟩
theorem B39 (ha:PE X a ta):PE X (.UnaryOp .Not a pos) (A8i ta):=by
  intro pins s σ H Q I h;refine UnaryOp_ (thn (ha pins s σ H _ I h) fun v s1 ⟨x,H1,I1,r1,q1⟩=>?_);obtain ⟨c,rfl,q1⟩:=q1;cases r1;exact not_of (wpAny_truthy_bool ⟨.bl (!c),H1,I1,rfl,q1⟩)
def tIf (t:TT) (ta tb:TE):TE:=fun σ H Q=>t σ H fun c H1=>if c=true then ta σ H1 Q else tb σ H1 Q
theorem A5q {c:Expr} (hc:PT X c tA) (ha:PE X a ta) (hb:PE X b tb):PE X (.IfExp c a b pos) (tIf tA ta tb):=by
  intro pins s σ H Q I h;refine wpAny_IfExp (thn (hc pins s σ H _ I h) fun d s1 ⟨H1,I1,q1⟩=>?_);cases d with
  | true=>exact ha pins s1 σ H1 Q I1 q1
  | false=>exact hb pins s1 σ H1 Q I1 q1
end
end L2
namespace L2
open PySem PySem.Spec PyProof.Rows
def SqL (K:PySem.W.Frag) (H:Hp) (a:Addr) (xs:List V):Prop :=
  Rd H a (.lst xs) \/
    ∃ (o:Obj) (its:Array Value) (n:Nat),K.lookup a=some o/\o.cls=.type "list"/\o.dict=none/\o.data=.seq its n/\its.size<=sizeLine/\Vals xs its.toList
def SqT (K:PySem.W.Frag) (H:Hp) (a:Addr) (xs:List V):Prop :=
  Rd H a (.tup xs) \/
    ∃ (o:Obj) (its:Array Value) (n:Nat),K.lookup a=some o/\o.cls=.type "tuple"/\o.data=.seq its n/\its.size<=sizeLine/\Vals xs its.toList
def absV:Value->Option V
  | .none=>some .non
  | .bool b=>some (.bl b)
  | .int i _=>some (.int i)
  | .str x _=>some (.str x)
  | .bytes b _=>some (.byt b)
  | .float b _=>some (.flt b)
  | .ref a=>some (.ref a)
  | .type n=>some (.ty n)
  | _=>none
theorem RelV.abs {x:V} {u:Value} (r:RelV x u):absV u=some x:=by
  cases x with
  | non=>cases r; rfl
  | bl _=>cases r; rfl
  | int _=>obtain ⟨t,rfl⟩:=r; rfl
  | str _=>obtain ⟨t,rfl⟩:=r; rfl
  | byt _=>obtain ⟨t,rfl⟩:=r; rfl
  | flt _=>obtain ⟨t,rfl⟩:=r; rfl
  | ref _=>cases r; rfl
  | ty _=>cases r; rfl
theorem RelV.inj {x y:V} {u:Value} (r:RelV x u) (q:RelV y u):x=y:=Zj (r.abs.symm.trans q.abs)
theorem Vals.inj:∀ {xs ys:List V} {us:List Value},Vals xs us->Vals ys us->xs=ys
  | _,_,_,.nil,.nil=>rfl
  | _,_,_,.cons r t,.cons r' t'=>by rw [r.inj r',Vals.inj t t']
section
variable {X:Cx} {pins:List (Addr × Obj)} {σ:St} {H:Hp} {s:Shared} {a:Addr} {xs ys:List V}
theorem SqL.of {K:PySem.W.Frag} (h:H a=some (.lst xs)):SqL K H a xs:=.inl (.inl h)
theorem SqT.of {K:PySem.W.Frag} (h:H a=some (.tup xs)):SqT K H a xs:=.inl (.inl h)
theorem Inv.list (I:Inv X pins σ H s) (h:SqL X.K H a xs):∃ its:List Value,Vals xs its/\PlainL s.heap a its.toArray/\xs.length<=sizeLine:=by
  rcases h with h | ⟨o,its,n,hk,hc,hd,hs,hz,r⟩
  · obtain ⟨z,its,n,r,e⟩:=h.ok I.hok
    exact ⟨its,r,⟨_,n,e,rfl,rfl,rfl⟩,z⟩
  · refine ⟨its.toList,r,⟨o,n,I.kIn a o hk,hc,hd,by simpa using hs⟩,?_⟩
    have e:=r.length;simp only [Array.length_toList] at e;omega
theorem Inv.tuple (I:Inv X pins σ H s) (h:SqT X.K H a xs):∃ its:List Value,Vals xs its/\IsTup s.heap a its.toArray/\xs.length<=sizeLine:=by
  rcases h with h | ⟨o,its,n,hk,hc,hs,hz,r⟩
  · obtain ⟨z,its,r,p⟩:=h.ok I.hok
    exact ⟨its,r,p,z⟩
  · refine ⟨its.toList,r,⟨o,I.kIn a o hk,hc,n,by simpa using hs⟩,?_⟩
    have e:=r.length;simp only [Array.length_toList] at e;omega
theorem Inv.list_inj (I:Inv X pins σ H s) (h:SqL X.K H a xs) (h':SqL X.K H a ys):xs=ys:=by
  obtain ⟨its,r,⟨o,n,e,_,_,d⟩,_⟩:=I.list h;obtain ⟨its',r',⟨o',n',e',_,_,d'⟩,_⟩:=I.list h';rw [e] at e'; cases e';rw [d] at d';injection d' with d1 _
  have:its=its':=by simpa using congrArg Array.toList d1
  subst this;exact r.inj r'
theorem Inv.tuple_inj (I:Inv X pins σ H s) (h:SqT X.K H a xs) (h':SqT X.K H a ys):xs=ys:=by
  obtain ⟨its,r,⟨o,e,_,n,d⟩,_⟩:=I.tuple h;obtain ⟨its',r',⟨o',e',_,n',d'⟩,_⟩:=I.tuple h';rw [e] at e'; cases e';rw [d] at d';injection d' with d1 _
  have:its=its':=by simpa using congrArg Array.toList d1
  subst this;exact r.inj r'
end
abbrev Cx.wish (X:Cx) (E:Value->Shared->Prop):Cx:={ X with xe:=E }
abbrev Cx.nox (X:Cx):Cx:=X.wish fun _ _=>False
theorem Cx.Ok.wish {X:Cx} (ok:X.Ok) (E:Value->Shared->Prop):(X.wish E).Ok :=
  ⟨ok.mod,ok.kind,ok.glob,ok.blt,ok.above,ok.inj,ok.has,ok.cab,ok.hd,ok.frames,ok.stk,ok.exf,ok.bs,ok.bsz,ok.noex,ok.exfs,ok.funs,ok.frf⟩
theorem Cx.Ok.unwish {X:Cx} {E:Value->Shared->Prop} (ok:(X.wish E).Ok):X.Ok :=
  ⟨ok.mod,ok.kind,ok.glob,ok.blt,ok.above,ok.inj,ok.has,ok.cab,ok.hd,ok.frames,ok.stk,ok.exf,ok.bs,ok.bsz,ok.noex,ok.exfs,ok.funs,ok.frf⟩
section
variable {X:Cx} {pins:List (Addr × Obj)} {σ:St} {H:Hp} {s:Shared} {E:Value->Shared->Prop}
theorem Inv.wish (I:Inv X pins σ H s) (E:Value->Shared->Prop):Inv (X.wish E) pins σ H s:=⟨I.ok.wish E,I.os,I.bare,I.base,I.loc,I.cell,I.free,I.freeC,I.pin,I.hok,I.len⟩
theorem Inv.unwish (I:Inv (X.wish E) pins σ H s):Inv X pins σ H s:=⟨I.ok.unwish,I.os,I.bare,I.base,I.loc,I.cell,I.free,I.freeC,I.pin,I.hok,I.len⟩
theorem SP.unwish {D:Ends} {f:Flow} {s':Shared} (h:SP (X.wish E) pins D f s'):SP X pins D f s':=by
  cases f with
  | next=>obtain ⟨σ',H',I,q⟩:=h; exact ⟨σ',H',I.unwish,q⟩
  | brk=>obtain ⟨σ',H',I,q⟩:=h; exact ⟨σ',H',I.unwish,q⟩
  | cont=>obtain ⟨σ',H',I,q⟩:=h; exact ⟨σ',H',I.unwish,q⟩
  | ret u=>obtain ⟨v,σ',H',I,r,q⟩:=h; exact ⟨v,σ',H',I.unwish,r,q⟩
theorem PSs.nox {st:List Stmt} {t:TS} (h:PSs X.nox st t):PSs X st t:=fun pins s σ H D I hw =>
  wpAny_mono (h pins s σ H D (I.wish _) hw) (fun _ _ q=>q.unwish) fun _ _ z=>False.elim z
end
section
variable {X:Cx} {st:Stmt} {rest:List Stmt} {t u:TS} {e:Expr} {te:TE} {pos:Pos}
def A8j:TS:=fun D σ H=>D.nx σ H
def tSeq (t u:TS):TS:=fun D σ H=>t { D with nx:=u D } σ H
theorem A0d:PSs X [] A8j:=fun _ _ σ H _ I h=>wpAny_execs_nil ⟨σ,H,I,h⟩
theorem E9 (h1:PS X st t) (h2:PSs X rest u):PSs X (st :: rest) (tSeq t u):=by
  intro pins s σ H D I h;refine wpAny_execs_cons (thn (h1 pins s σ H { D with nx:=u D } I h) fun f s1 q=>?_);cases f with
  | next =>
    obtain ⟨σ',H',I',q⟩:=q;exact h2 pins s1 σ' H' D I' q
  | ret v=>exact q
  | brk=>exact q
  | cont=>exact q
theorem N7 (h1:PS X st t):PSs X [st] t:=by
  intro pins s σ H D I h;refine wpAny_execs_cons (thn (h1 pins s σ H D I h) fun f s1 q=>?_);cases f with
  | next=>exact wpAny_execs_nil q
  | ret v=>exact q
  | brk=>exact q
  | cont=>exact q
theorem Inv.quiet {pins:List (Addr × Obj)} {σ:St} {H:Hp} {s:Shared} (I:Inv X pins σ H s):interactive X.env=false:=by simp [interactive,I.ok.kind]
def Z6 (te:TE):TS:=fun D σ H=>te σ H fun _ H1=>D.nx σ H1
theorem A82 (he:PE X e te) (hs:swapsWith e none pos.line X.env=pure false:=by rfl):PS X (.Expr e pos) (Z6 te):=by
  intro pins s σ H D I h;exact wpAny_Expr_any (thn (he pins s σ H _ I h) fun v s1 ⟨x,H1,I1,r1,q1⟩=>⟨σ,H1,I1,q1⟩) I.quiet hs
def tRet (te:TE):TS:=fun D σ H=>te σ H D.rt
theorem A04 (he:PE X e te):PS X (.Return (some e) pos) (tRet te):=by
  intro pins s σ H D I h;exact wpAny_Return_some (thn (he pins s σ H _ I h) fun v s1 ⟨x,H1,I1,r1,q1⟩=>⟨x,σ,H1,I1,r1,q1⟩)
def tIfS (c:TT) (t u:TS):TS:=fun D σ H=>c σ H fun b H1=>if b=true then t D σ H1 else u D σ H1
theorem A81 {c:Expr} {a b:List Stmt} {tc:TT} (hc:PT X c tc) (ha:PSs X a t) (hb:PSs X b u):PS X (.If c a b pos) (tIfS tc t u):=by
  intro pins s σ H D I h;refine wpAny_If (thn (hc pins s σ H _ I h) fun d s1 ⟨H1,I1,q1⟩=>?_);cases d with
  | true=>exact ha pins s1 σ H1 D I1 q1
  | false=>exact hb pins s1 σ H1 D I1 q1
def A2i:TS:=fun _ _ _=>False
theorem A5n:PS X st A2i:=fun _ _ _ _ _ _ h=>h.elim
end
abbrev TG:=V->St->Hp->(St->Hp->Prop)->Prop
abbrev TGs:=List V->St->Hp->(St->Hp->Prop)->Prop
def PG (X:Cx) (target:Expr) (t:TG):Prop :=
  ∀ (pins:List (Addr × Obj)) (s:Shared) (σ:St) (H:Hp) (v:V) (u:Value) (Q:St->Hp->Prop),Inv X pins σ H s->RelV v u->t v σ H Q ->
    wpAny (model X.prog X.w) X.A (assign target X.env u) (fun _ s'=>∃ σ' H',Inv X pins σ' H' s'/\Q σ' H') X.xe s
def PGs (X:Cx) (ts:List Expr) (t:TGs):Prop :=
  ∀ (pins:List (Addr × Obj)) (s:Shared) (σ:St) (H:Hp) (vs:List V) (us:List Value) (Q:St->Hp->Prop),Inv X pins σ H s->Vals vs us->t vs σ H Q ->
    wpAny (model X.prog X.w) X.A (assignInOrder ((assignEach ts X.env).map (·.2)) us) (fun _ s'=>∃ σ' H',Inv X pins σ' H' s'/\Q σ' H') X.xe s
abbrev TSet:=V->V->V->Hp->(Hp->Prop)->Prop
def PSet (X:Cx) (t:TSet):Prop :=
  ∀ (pins:List (Addr × Obj)) (s:Shared) (σ:St) (H:Hp) (o i v:V) (ov iv u:Value) (Q:Hp->Prop),Inv X pins σ H s->RelV o ov->RelV i iv->RelV v u->t o i v H Q ->
    wpAny (model X.prog X.w) X.A (setItem ov iv u) (fun _ s'=>∃ H',Inv X pins σ H' s'/\Q H') X.xe s
section
variable {X:Cx} {pos:Pos}
def O1 (i:Nat):TG:=fun v σ H Q=>Q (σ.set i (some v)) H
theorem A28 {i:Nat} {x:Str} (hN:X.N.Nodup) (hi:X.N[i]?=some x) (hx:Loc X.env.scope x) (hf:X.fn x=true\/X.env.scope.names.lookup x=some .local:=by first | exact .inl rfl | exact .inr rfl | assumption):PG X (.Name x pos) (O1 i):=by
  intro pins s σ H v u Q I r h;exact wpAny_assign_Name (J4 I hN hi hx r (fun s' I'=>⟨_,H,I',h⟩) hf)
def gNil:TGs:=fun vs σ H Q=>vs=[]/\Q σ H
def A0i (t:TG) (u:TGs):TGs:=fun vs σ H Q=>∃ v r,vs=v :: r/\t v σ H fun σ' H'=>u r σ' H' Q
theorem A87:PGs X [] gNil:=by
  intro pins s σ H vs us Q I r h;obtain ⟨e,h⟩:=h;subst e;cases r;exact assignInOrder_nil ⟨σ,H,I,h⟩
theorem A5o {e:Expr} {es:List Expr} {t:TG} {u:TGs} (h1:PG X e t) (h2:PGs X es u)
    (hs:(assignEach (e :: es) X.env).map (·.2)=assign e X.env :: (assignEach es X.env).map (·.2):=by rfl):PGs X (e :: es) (A0i t u):=by
  intro pins s σ H vs us Q I r h;obtain ⟨v,vr,e1,h⟩:=h;subst e1;cases r with
  | cons r rr =>
    rw [hs];refine assignInOrder_cons (thn (h1 pins s σ H _ _ _ I r h) fun _ s1 ⟨σ1,H1,I1,q1⟩=>?_);exact h2 pins s1 σ1 H1 _ _ Q I1 rr q1
def gTup (K:PySem.W.Frag) (n:Nat) (t:TGs):TG:=fun v σ H Q=>∃ a xs,v=.ref a/\SqT K H a xs/\xs.length=n/\t xs σ H Q
theorem B34 {es:List Expr} {k:Nat} {t:TGs} {n:Nat} (hc:X.calm=true) (h:PGs X es t)
    (hn:(assignEach es X.env).length=n:=by rfl) (hst:(assignEach es X.env).findIdx? (·.1)=none:=by rfl):PG X (.Tuple es k pos) (gTup X.K n t):=by
  intro pins s σ H v u Q I r hw;obtain ⟨a,xs,e1,hq,hl,hw⟩:=hw;subst e1;cases r;obtain ⟨its,rv,ht,hz⟩:=I.tuple hq;refine assign_Tuple_tuple (I.ok.hd hc) ht (by simp [hn,<- hl,rv.length]) hst fun h' hx=>?_;have I1:Inv X pins σ H { s with heap:=h' }:=I.kept (t':=s.toks) fun b o e=>hx b o (Nat.ne_of_lt (Heap.lt_size e)) e;exact h pins _ σ H xs _ Q I1 (by simpa using rv) hw
def gSub (to ti:TE) (t:TSet):TG:=fun v σ H Q=>to σ H fun o H1=>ti σ H1 fun i H2=>t o i v H2 fun H3=>Q σ H3
theorem A07 {o i:Expr} {to ti:TE} {t:TSet} (ho:PE X o to) (hi:PE X i ti) (hs:PSet X t)
    (ha:∀ v,assign (.Subscript o i pos) X.env v=(do
      let ov <- holding [v] (eval o X.env)
      let iv <- holding [v,ov] (eval i X.env)
      standAt pos
      holding [v,ov,iv] (setItem ov iv v)
      release [v,ov,iv] []):=by intro _; rfl):PG X (.Subscript o i pos) (gSub to ti t):=by
  intro pins s σ H v u Q I r h;rw [ha];refine wpAny_bind (wpAny_holding (thn (ho pins s σ H _ I h) fun ov s1 ⟨x,H1,I1,r1,q1⟩=>?_));refine wpAny_bind (wpAny_holding (thn (hi pins s1 σ H1 _ I1 q1) fun iv s2 ⟨y,H2,I2,r2,q2⟩=>?_));refine wpAny_bind (wpAny_standAt (wpAny_bind (wpAny_holding (thn (hs pins s2 σ H2 x y v ov iv u _ I2 r1 r2 r q2) fun _ s3 ⟨H3,I3,q3⟩=>?_))));exact wpAny_release ⟨σ,H3,I3,q3⟩
def tAsg (te:TE) (g:TG):TS:=fun D σ H=>te σ H fun x H1=>g x σ H1 D.nx
theorem A05 {tg e:Expr} {te:TE} {g:TG} (he:PE X e te) (hg:PG X tg g) (hs:swapsWithSole [tg] e pos.line X.env=pure false:=by rfl) (hw:swappedStores [tg] e X.env=pure none:=by rfl)
    (h1:(assignEach [tg] X.env).map (·.2)=[assign tg X.env]:=by rfl):PS X (.Assign [tg] e pos) (tAsg te g):=by
  intro pins s σ H D I h;refine wpAny_Assign_stores (thn (he pins s σ H _ I h) fun v s1 ⟨x,H1,I1,r1,q1⟩=>?_) hs hw;rw [h1];exact thn (hg pins s1 σ H1 x v _ I1 r1 q1) fun _ s2 q=>q
theorem S3 {i:Nat} {x:Str} {e:Expr} {te:TE} {pos':Pos} (hN:X.N.Nodup) (hi:X.N[i]?=some x) (hx:Loc X.env.scope x) (he:PE X e te) (hs:swapsWith e (some (.Name x pos')) pos.line X.env=pure false:=by rfl) (hf:X.fn x=true\/X.env.scope.names.lookup x=some .local:=by first | exact .inl rfl | exact .inr rfl | assumption) :
    PS X (.Assign [.Name x pos'] e pos) (tAsg te (O1 i)):=by
  intro pins s σ H D I h;refine wpAny_Assign_Name (thn (he pins s σ H _ I h) fun v s1 ⟨y,H1,I1,r1,q1⟩=>?_) hs;exact J4 I1 hN hi hx r1 (fun s2 I2=>⟨_,H1,I2,q1⟩) hf
def tPar (i j:Nat) (ta:TA):TS:=fun D σ H=>ta σ H fun vs H1=>∃ v w,vs=[v,w]/\D.nx ((σ.set i (some v)).set j (some w)) H1
theorem B31 {i j:Nat} {x y:Str} {a b:Expr} {ta:TA} {px py pt:Pos} {kt k2 pt2} (hc:X.calm=true) (hN:X.N.Nodup) (hi:X.N[i]?=some x) (hj:X.N[j]?=some y) (hij:i≠j)
    (hx:X.env.scope.names.lookup x=some .local) (hy:X.env.scope.names.lookup y=some .local) (ha:PA X [a,b] ta)
    (hw:swappedStores [.Tuple [.Name x px,.Name y py] kt pt] (.Tuple [a,b] k2 pt2) X.env=pure (some [x,y]))
    (hs:swapsWithSole [.Tuple [.Name x px,.Name y py] kt pt] (.Tuple [a,b] k2 pt2) pos.line X.env=pure false:=by rfl) :
    PS X (.Assign [.Tuple [.Name x px,.Name y py] kt pt] (.Tuple [a,b] k2 pt2) pos) (tPar i j ta):=by
  intro pins s σ H D I h;rw [exec_Assign_arm];refine wpAny_bind (wpAny_standAt ?_);rw [hs];refine wpAny_bind (wpAny_pure ?_);rw [if_neg (by decide)];refine wpAny_bind (Tuple_ (thn (ha _ pins s σ H _ I h) fun us s1 ⟨vs,H1,I1,r1,q1⟩=>?_));obtain ⟨v,w,e1,q1⟩:=q1;subst e1;obtain ⟨u1,u2,rfl,rv,rw'⟩:∃ u1 u2,us=[u1,u2]/\RelV v u1/\RelV w u2:=by
    cases r1 with
    | cons p q =>
      cases q with
      | cons p' q' =>
        cases q';exact ⟨_,_,rfl,p,p'⟩
  refine wpAny_newObj_type ?_ (by show 2<=sizeLine; decide);have I2:Inv X pins σ H1 { s1 with heap:=s1.heap.push { cls:=.type "tuple",data:=.seq [u1,u2].toArray } }:=I1.kept (t':=s1.toks) fun b o e=>Heap.get?_push_of_some _ e;rw [hw];refine wpAny_bind (wpAny_pure ?_);show wpAny (model X.prog X.w) X.A (do rule "assign.swapped-stores"; let items <- unpackItems (.ref s1.heap.objs.size) 2 none; assignInOrder [fun v=>bindName X.env y v,fun v=>bindName X.env x v] items.reverse; pure Flow.next) _ _ _;refine wpAny_bind (wpAny_rule (wpAny_bind (unpackItems_tuple (items:=#[u1,u2]) (I.ok.hd hc) (IsTup.new s1.heap _) fun h' hx'=>?_)));have I3:=I2.kept (h':=h') (t':=s1.toks) fun b o e=>hx' b o (Nat.ne_of_lt (Heap.lt_size e)) e;show wpAny _ _ (assignInOrder [fun v=>bindName X.env y v,fun v=>bindName X.env x v] [u2,u1] >>= fun _=>pure Flow.next) _ _ _;refine wpAny_bind (assignInOrder_cons (wpAny_bindName (J4 I3 hN hj (.inl hy) rw' (fun s2 I4=>?_) (.inr hy))));refine assignInOrder_cons (wpAny_bindName (J4 I4 hN hi (.inl hx) rv (fun s3 I5=>assignInOrder_nil (wpAny_pure ?_)) (.inr hx)));rw [List.set_comm _ _ (Ne.symm hij)] at I5;exact ⟨_,H1,I5,q1⟩
end
section
variable {X:Cx} {pos:Pos}
def A2h (c:TT) (tb:TS):TS:=fun D σ H=>∃ W:Nat->St->Hp->Prop,(∃ m,W m σ H)/\∀ m σ H,W m σ H ->
  c σ H fun b H1=>if b=true then ∃ N:St->Hp->Prop,(∀ σ' H',N σ' H'->∃ m',m' < m/\W m' σ' H')/\tb { D with nx:=N,ct:=N,bk:=D.nx } σ H1 else D.nx σ H1
theorem A5l {c:Expr} {body:List Stmt} {tc:TT} {tb:TS} (hp:PassesOwn (model X.prog X.w) X.A X.env X.xe) (hc:PT X c tc) (hb:PSs X body tb):PS X (.While c body [] pos) (A2h tc tb):=by
  intro pins s σ H D I h;obtain ⟨W,⟨m0,w0⟩,turn⟩:=h;refine wpAny_While (codeAny_whileLoop (fun n s'=>∃ σ' H',Inv X pins σ' H' s'/\W n σ' H') ?_ m0 ⟨σ,H,I,w0⟩);rintro n s1 ⟨σ1,H1,I1,w1⟩;refine wpAny_passesOwn hp (thn (hc pins s1 σ1 H1 _ I1 (turn n σ1 H1 w1)) fun b s2 ⟨H2,I2,q2⟩=>?_);cases b with
  | true =>
    obtain ⟨N,hN,q2⟩:=q2;rw [if_pos rfl];refine wpAny_passesOwn hp (thn (hb pins s2 σ1 H2 _ I2 q2) fun f s3 q3=>?_);cases f with
    | next =>
      obtain ⟨σ3,H3,I3,n3⟩:=q3;obtain ⟨m',hm,w3⟩:=hN σ3 H3 n3;exact ⟨m',hm,σ3,H3,I3,w3⟩
    | cont =>
      obtain ⟨σ3,H3,I3,n3⟩:=q3;obtain ⟨m',hm,w3⟩:=hN σ3 H3 n3;exact ⟨m',hm,σ3,H3,I3,w3⟩
    | brk=>exact q3
    | ret v=>exact q3
  | false =>
    rw [if_neg Bool.false_ne_true];exact wpAny_execs_nil ⟨σ1,H2,I2,q2⟩
end
structure It where
  go:Nat->Hp->Prop
  yld:Nat->Hp->V->Hp->Prop
  stop:Nat->Hp->Prop
def FpOk (X:Cx) (pins:List (Addr × Obj)) (H:Hp) (b:Addr):Prop :=
  H b=none/\b≠X.env.locals/\b ∉ X.fs/\(b ∈ X.ex\/X.s₀.heap.objs.size<=b)/\(∀ x c,X.env.cells.lookup x=some c->c≠b)/\∀ p ∈ X.pn++pins,p.1≠b
theorem Inv.fpOk {X:Cx} {pins:List (Addr × Obj)} {σ:St} {H H':Hp} {s:Shared} {b:Addr} (I:Inv X pins σ H s) (hb:s.heap.objs.size<=b) (hn:H' b=none):FpOk X pins H' b:=by
  refine ⟨hn,Nat.ne_of_gt (Nat.lt_of_lt_of_le I.lt hb),I.nofs hb,.inr (Zx I.sz hb),fun x c e z=>?_,fun p hp z=>?_⟩
  · obtain ⟨v,q⟩:=I.cell x c e
    exact absurd (Nat.lt_of_lt_of_le q.lt (by rw [z]; exact hb)) (Nat.lt_irrefl _)
  · exact absurd (Nat.lt_of_lt_of_le (Heap.lt_size (I.pin p hp).1) (by rw [z]; exact hb)) (Nat.lt_irrefl _)
structure Turn (P:Program) (w:World) (K:PySem.W.Frag) (tg:Expr) (J:It) (fp:List Addr) (it:Addr) (tn:Nat->Heap->Prop):Prop where
  mem:it ∈ fp
  obj:∀ i h,tn i h->∀ b ∈ fp,∃ o,h.get? b=some o/\∀ v,o.data≠.cell v
  keep:∀ i h h',tn i h->(∀ b ∈ fp,∀ o,h.get? b=some o->h'.get? b=some o)->tn i h'
  item:∀ (X:Cx),X.prog=P->X.w=w->X.K=K->X.calm=true->∀ (i:Nat) (pins:List (Addr × Obj)) (s:Shared) (σ:St) (H:Hp) (E:Value->Shared->Prop),Inv X pins σ H s->(∀ b ∈ fp,FpOk X pins H b)->tn i s.heap->J.go i H ->
    wpAny (model P w) X.A (pyNext (.ref it)) (fun r s1=>∃ u,r=some u /\
      wpAny (model P w) X.A (letOwnedTupleGo tg (.ref it) u) (fun _ s2=>∃ x H',Inv X pins σ H' s2/\RelV x u/\J.yld i H x H'/\tn (i + 1) s2.heap/\∀ b ∈ fp,H' b=none) E s1) E s
  done:∀ (X:Cx),X.prog=P->X.w=w->X.K=K->X.calm=true->∀ (i:Nat) (pins:List (Addr × Obj)) (s:Shared) (σ:St) (H:Hp) (E:Value->Shared->Prop),Inv X pins σ H s->(∀ b ∈ fp,FpOk X pins H b)->tn i s.heap->J.stop i H ->
    wpAny (model P w) X.A (pyNext (.ref it)) (fun r s1=>r=none/\Inv X pins σ H s1) E s
  self:∀ (A:Around) (i:Nat) (s:Shared) (Q:Value->Shared->Prop) (E:Value->Shared->Prop),tn i s.heap->Q (.ref it) s->wpAny (model P w) A (pyIter (.ref it)) Q E s
abbrev TI:=St->Hp->(It->Hp->Prop)->Prop
def PIE (X:Cx) (pins:List (Addr × Obj)) (σ:St) (tg:Expr) (R:It->Hp->Prop) (itv:Value) (s2:Shared):Prop :=
  ∃ (it:Addr) (fp:List Addr) (tn:Nat->Heap->Prop) (J:It) (H':Hp),itv=.ref it/\Inv X pins σ H' s2/\Turn X.prog X.w X.K tg J fp it tn/\tn 0 s2.heap/\(∀ b ∈ fp,FpOk X pins H' b)/\R J H'
def PI (X:Cx) (tg iter:Expr) (wi:TI):Prop :=
  ∀ (pins:List (Addr × Obj)) (s:Shared) (σ:St) (H:Hp) (R:It->Hp->Prop),Inv X pins σ H s->wi σ H R ->
    wpAny (model X.prog X.w) X.A (eval iter X.env) (fun v s1=>wpAny (model X.prog X.w) X.A (pyIter v) (PIE X pins σ tg R) X.xe s1) X.xe s
theorem B2k {M:Model} {A:Around} {E:Value->Shared->Prop} {s:Shared} {tg:Expr} {it:Addr} {u:Value} {o:Obj} {n:String} {vs:Array Value} {Q:Unit->Shared->Prop} (ho:s.heap.get? it=some o) (hc:o.cls=.type n) (hd:o.data=.fields vs)
    (hn:["enumerate","zip","dict_itemiterator","dict_reverseitemiterator","odict_iterator","itertools.zip_longest","itertools.pairwise"].contains n=false) (hQ:Q () s):wpAny M A (letOwnedTupleGo tg (.ref it) u) Q E s:=by
  unfold letOwnedTupleGo;cases tg <;> first
    | exact wpAny_pure hQ
    | (cases u <;> first
        | exact wpAny_pure hQ
        | (refine wpAny_bind (wpAny_load ho ?_)
           rw [hc,hd];show wpAny M A (if (["enumerate","zip","dict_itemiterator","dict_reverseitemiterator","odict_iterator","itertools.zip_longest","itertools.pairwise"].contains n && vs[0]? == some (rawInt _))=true then _ else _) Q E s;rw [if_neg (by intro h; rw [hn,Bool.false_and] at h; cases h)];exact wpAny_pure hQ))
def Itl (K:PySem.W.Frag) (a:Addr):It :=
  ⟨fun i H=>∃ xs x,SqL K H a xs/\xs[i]?=some x,fun i H x H'=>H'=H/\∀ xs,SqL K H a xs->xs[i]?=some x,fun i H=>∃ xs,SqL K H a xs/\xs.length<=i⟩
def Itt (K:PySem.W.Frag) (a:Addr):It :=
  ⟨fun i H=>∃ xs x,SqT K H a xs/\xs[i]?=some x,fun i H x H'=>H'=H/\∀ xs,SqT K H a xs->xs[i]?=some x,fun i H=>∃ xs,SqT K H a xs/\xs.length<=i⟩
def Itr (lo:Int) (n:Nat):It:=⟨fun i _=>i < n,fun i H x H'=>H'=H/\x=.int (lo + i),fun i _=>n<=i⟩
theorem A2g {P:Program} {w:World} {K:PySem.W.Frag} {tg:Expr} (a it:Addr):Turn P w K tg (Itl K a) [it] it (fun i h=>h.IsListIter it a i) where
  mem:=by simp
  obj:=fun i h st b hb=>by
    have e:b=it:=by simpa using hb
    subst e;obtain ⟨o,e,c,d⟩:=st;exact ⟨o,e,fun v z=>by rw [d] at z; cases z⟩
  keep:=fun i h h' st k=>st.at fun o e=>k it (by simp) o e
  item:=by
    intro X hP hw hK hc i pins s σ H E I hf st hg;subst hP hw hK;obtain ⟨xs,x,hq,hx⟩:=hg;obtain ⟨its,rv,p,hz⟩:=I.list hq;obtain ⟨u,hu,ru⟩:=rv.get hx;obtain ⟨f0,f1,f2,f3,f4,f5⟩:=hf it (by simp);refine wpAny_pyNext_list_item st p.isList (x:=u) (by simpa using hu) fun h' st' sb=>?_;have I1:Inv X pins σ H { s with heap:=h' }:=I.turned (t':=s.toks) (fun b o hb e=>(sb.2 b hb).trans e) f0 f1 f3 f4 f5;obtain ⟨o,e,c,d⟩:=id st';exact ⟨u,rfl,B2k (s:={ s with heap:=h' }) e c d (by decide) ⟨x,H,I1,ru,⟨rfl,fun ys hy=>by rw [I.list_inj hy hq]; exact hx⟩,st',fun b hb=>(hf b hb).1⟩⟩
  done:=by
    intro X hP hw hK hc i pins s σ H E I hf st hg;subst hP hw hK;obtain ⟨xs,hq,hx⟩:=hg;obtain ⟨its,rv,p,hz⟩:=I.list hq;obtain ⟨f0,f1,f2,f3,f4,f5⟩:=hf it (by simp);have hl:=rv.length;exact wpAny_pyNext_list_end (I.ok.hd hc) st p.isList (by simp; omega) fun h' eb=>⟨rfl,I.turned (t':=s.toks) (fun b o hb e=>eb b o hb e) f0 f1 f3 f4 f5⟩
  self:=fun _ _ _ _ _ st h=>wpAny_pyIter_listiter st h
theorem A1x {P:Program} {w:World} {K:PySem.W.Frag} {tg:Expr} (a it:Addr):Turn P w K tg (Itt K a) [it] it (fun i h=>h.IsTupleIter it a i) where
  mem:=by simp
  obj:=fun i h st b hb=>by
    have e:b=it:=by simpa using hb
    subst e;obtain ⟨o,e,c,d⟩:=st;exact ⟨o,e,fun v z=>by rw [d] at z; cases z⟩
  keep:=fun i h h' st k=>st.at fun o e=>k it (by simp) o e
  item:=by
    intro X hP hw hK hc i pins s σ H E I hf st hg;subst hP hw hK;obtain ⟨xs,x,hq,hx⟩:=hg;obtain ⟨its,rv,p,hz⟩:=I.tuple hq;obtain ⟨u,hu,ru⟩:=rv.get hx;obtain ⟨f0,f1,f2,f3,f4,f5⟩:=hf it (by simp);refine wpAny_pyNext_tuple_item st (show s.heap.IsTuple a its.toArray from p) (x:=u) (by simpa using hu) fun h' st' sb=>?_;have I1:Inv X pins σ H { s with heap:=h' }:=I.turned (t':=s.toks) (fun b o hb e=>(sb.2 b hb).trans e) f0 f1 f3 f4 f5;obtain ⟨o,e,c,d⟩:=id st';exact ⟨u,rfl,B2k (s:={ s with heap:=h' }) e c d (by decide) ⟨x,H,I1,ru,⟨rfl,fun ys hy=>by rw [I.tuple_inj hy hq]; exact hx⟩,st',fun b hb=>(hf b hb).1⟩⟩
  done:=by
    intro X hP hw hK hc i pins s σ H E I hf st hg;subst hP hw hK;obtain ⟨xs,hq,hx⟩:=hg;obtain ⟨its,rv,p,hz⟩:=I.tuple hq;obtain ⟨f0,f1,f2,f3,f4,f5⟩:=hf it (by simp);have hl:=rv.length;exact wpAny_pyNext_tuple_end (I.ok.hd hc) st (show s.heap.IsTuple a its.toArray from p) (by simp; omega) fun h' eb=>⟨rfl,I.turned (t':=s.toks) (fun b o hb e=>eb b o hb e) f0 f1 f3 f4 f5⟩
  self:=fun _ _ _ _ _ st h=>wpAny_pyIter_tupleiter st h
theorem A1y {P:Program} {w:World} {K:PySem.W.Frag} {tg:Expr} (it:Addr) (lo:Int) (n:Nat):Turn P w K tg (Itr lo n) [it] it (fun i h=>IsRangeIter h it (lo + (i:Nat) * 1) ((n:Int) - (i:Nat)) 1) where
  mem:=by simp
  obj:=fun i h st b hb=>by
    have e:b=it:=by simpa using hb
    subst e;exact ⟨_,st,fun v z=>by
      have z':Data.fields _=Data.cell v:=z;cases z'⟩
  keep:=fun i h h' st k=>k it (by simp) _ st
  item:=by
    intro X hP hw hK hc i pins s σ H E I hf st hg;subst hP hw hK;obtain ⟨f0,f1,f2,f3,f4,f5⟩:=hf it (by simp);have W:=Walks.range (prog:=X.prog) (w:=X.w) (I.ok.hd hc) it lo 1 n;refine W.item i s _ _ hg st fun v h' tk hv st' kk=>?_;obtain ⟨t,rfl⟩:=hv;have I1:Inv X pins σ H { s with heap:=h',toks:=tk }:=I.turned (fun b o hb e=>kk b o (by simpa using hb) e) f0 f1 f3 f4 f5;refine ⟨_,rfl,B2k (s:={ s with heap:=h',toks:=tk }) (n:="range_iterator") st' rfl rfl (by decide) ⟨.int (lo + i),H,I1,⟨t,?_⟩,⟨rfl,rfl⟩,st',fun b hb=>(hf b hb).1⟩⟩;rw [Int.mul_one]
  done:=by
    intro X hP hw hK hc i pins s σ H E I hf st hg;subst hP hw hK;obtain ⟨f0,f1,f2,f3,f4,f5⟩:=hf it (by simp);exact wpAny_pyNext_range_end (I.ok.hd hc) st (by have:n<=i:=hg; omega) fun h' eb=>⟨rfl,I.turned (t':=s.toks) (fun b o hb e=>eb b o hb e) f0 f1 f3 f4 f5⟩
  self:=fun _ _ _ _ _ st h=>wpAny_pyIter_rangeiter st h
end L2
namespace L2
open PySem PySem.Spec PyProof.Rows
section
variable {X:Cx} {tg:Expr}
theorem A0z {pins:List (Addr × Obj)} {σ:St} {H:Hp} {s:Shared} {R:It->Hp->Prop} {E:Value->Shared->Prop} {lo hi:Int} {t u v:Tok} {tk:Nat} (I:Inv X pins σ H s) (h1:-(2 ^ 62)<=lo) (h2:lo < 2 ^ 62) (h3:-(2 ^ 62)<=hi) (h4:hi < 2 ^ 62)
    (q:R (Itr lo (hi - lo).toNat) H):wpAny (model X.prog X.w) X.A (pyIter (.ref s.heap.objs.size)) (PIE X pins σ tg R) E { s with heap:=s.heap.push { cls:=.type "range",data:=.fields #[.int lo t,.int hi u,.int 1 v] },toks:=tk }:=by
  refine wpAny_pyIter_range (IsRange.new ..) (small_one h1 h2 h3 h4) ?_;have I1:Inv X pins σ H { s with heap:=s.heap.push { cls:=.type "range",data:=.fields #[.int lo t,.int hi u,.int 1 v] },toks:=tk }:=I.kept fun b o e=>Heap.get?_push_of_some _ e;refine ⟨(s.heap.push { cls:=.type "range",data:=.fields #[.int lo t,.int hi u,.int 1 v] }).objs.size,[(s.heap.push { cls:=.type "range",data:=.fields #[.int lo t,.int hi u,.int 1 v] }).objs.size],_,_,H,rfl,
    I1.kept (t':=tk) fun b o e=>Heap.get?_push_of_some _ e,A1y _ lo (hi - lo).toNat,?_,fun b hb=>?_,q⟩
  · have e1:lo + ((0:Nat):Int) * 1=lo:=by simp
    have e2:(((hi - lo).toNat:Nat):Int) - ((0:Nat):Int)=Builtin.Range.rangeSize lo hi 1:=by rw [rangeSize_one]; split <;> omega
    show IsRangeIter _ _ (lo + ((0:Nat):Int) * 1) ((((hi - lo).toNat:Nat):Int) - ((0:Nat):Int)) 1;rw [e1,e2];exact Heap.get?_push_size _ rfl
  · have e:b=(s.heap.push { cls:=.type "range",data:=.fields #[.int lo t,.int hi u,.int 1 v] }).objs.size:=by simpa using hb
    subst e;exact I1.fpOk (Zv _) (I1.hok.fresh (Zv _))
def B2h (ta:TA):TI:=fun σ H R=>ta σ H fun vs H1=>∃ j:Int,vs=[.int j]/\-(2 ^ 62)<=j/\j < 2 ^ 62/\R (Itr 0 j.toNat) H1
def B2g (ta:TA):TI:=fun σ H R=>ta σ H fun vs H1=>∃ i j:Int,vs=[.int i,.int j]/\(-(2 ^ 62)<=i/\i < 2 ^ 62/\-(2 ^ 62)<=j/\j < 2 ^ 62)/\R (Itr i (j - i).toNat) H1
theorem W8 {a:Expr} {ta:TA} {p pos:Pos} (hg:Gl X "range") (hm:X.mg "range"=none) (ha:PA X [a] ta) (hs:starEach [a] X.env=[(false,eval a X.env)]:=by rfl):PI X tg (.Call (.Name "range" p) [a] [] pos) (B2h ta):=by
  intro pins s σ H R I h;refine Call_ (T1 I hg hm boot_range (PyProof.Rows.callWith_type1 (thn (ha pos pins s σ H _ I h) fun us s1 ⟨vs,H1,I1,r1,q1⟩=>?_) hs rfl));obtain ⟨j,e,q1,q2,q⟩:=q1;subst e;cases r1 with
  | cons r rr =>
    cases rr;obtain ⟨t,rfl⟩:=r;exact call_range_1 (A0z I1 (by omega) (by omega) q1 q2 (by simpa using q))
theorem A27 {a b:Expr} {ta:TA} {p pos:Pos} (hg:Gl X "range") (hm:X.mg "range"=none) (ha:PA X [a,b] ta) (hs:starEach [a,b] X.env=[(false,eval a X.env),(false,eval b X.env)]:=by rfl) (hs2:starEach [b] X.env=[(false,eval b X.env)]:=by rfl) :
    PI X tg (.Call (.Name "range" p) [a,b] [] pos) (B2g ta):=by
  intro pins s σ H R I h;refine Call_ (T1 I hg hm boot_range (PyProof.Rows.callWith_type1 (thn (ha pos pins s σ H _ I h) fun us s1 ⟨vs,H1,I1,r1,q1⟩=>?_) (by rw [hs,hs2]) (by rw [hs2]; rfl)));obtain ⟨i,j,e,⟨q1,q2,q3,q4⟩,q⟩:=q1;subst e;cases r1 with
  | cons r rr =>
    cases rr with
    | cons r' rr =>
      cases rr;obtain ⟨t,rfl⟩:=r;obtain ⟨t',rfl⟩:=r';exact call_range_2 (A0z I1 q1 q2 q3 q4 q)
def tFor (wi:TI) (g:TG) (tb:TS):TS:=fun D σ H=>wi σ H fun J H1=>∃ W:Nat->Nat->St->Hp->Prop,(∃ m,W 0 m σ H1)/\∀ i m σ H,W i m σ H ->
  (J.stop i H/\D.nx σ H)\/(J.go i H/\∃ N:St->Hp->Prop,(∀ σ' H',N σ' H'->∃ m',m' < m/\W (i + 1) m' σ' H')/\∀ x H',J.yld i H x H'->g x σ H' fun σ2 H2=>tb { D with nx:=N,ct:=N,bk:=D.nx } σ2 H2)
def W7 (fp:List Addr) (h:Heap):List (Addr × Obj):=fp.filterMap fun b=>(h.get? b).map fun o=>(b,o)
theorem L9 {fp:List Addr} {h:Heap} {b:Addr} {o:Obj} (hb:b ∈ fp) (e:h.get? b=some o):(b,o) ∈ W7 fp h:=List.mem_filterMap.mpr ⟨b,hb,by rw [e]; rfl⟩
theorem A3u {fp:List Addr} {h:Heap} {p:Addr × Obj} (hp:p ∈ W7 fp h):p.1 ∈ fp/\h.get? p.1=some p.2:=by
  obtain ⟨b,hb,e⟩:=List.mem_filterMap.mp hp;cases q:h.get? b with
  | none=>rw [q] at e; cases e
  | some o =>
    rw [q] at e;have e':(b,o)=p:=Zj e;subst e';exact ⟨hb,q⟩
theorem Inv.pinned {pins:List (Addr × Obj)} {σ:St} {H:Hp} {s:Shared} {fp:List Addr} (I:Inv X pins σ H s) (hf:∀ b ∈ fp,FpOk X pins H b) (ho:∀ b ∈ fp,∃ o,s.heap.get? b=some o/\∀ v,o.data≠.cell v):Inv X (pins++W7 fp s.heap) σ H s :=
  I.pins_of fun p hp=>(Za hp).elim (fun z=>I.pin p (Zw _ z)) fun z=>by
    obtain ⟨hb,e⟩:=A3u z;obtain ⟨f0,f1,f2,_⟩:=hf p.1 hb;obtain ⟨o,e',d⟩:=ho p.1 hb;rw [e] at e'; cases e';exact ⟨e,f0,f1,f2,d⟩
theorem Inv.unpinned {pins pl:List (Addr × Obj)} {σ:St} {H:Hp} {s:Shared} (I:Inv X (pins++pl) σ H s):Inv X pins σ H s:=I.pins_of fun p hp=>I.pin p (Zw _ (Zt _ hp))
theorem A7k {iter:Expr} {body:List Stmt} {wi:TI} {g:TG} {tb:TS} {pos:Pos} (hp:PassesOwn (model X.prog X.w) X.A X.env X.xe) (hc:X.calm=true) (hi:PI X tg iter wi) (hg:PG X tg g) (hb:PSs X body tb)
    (hs:∀ x,foldedSetIterable iter X.env x=pure x:=by intro _; rfl):PS X (.For tg iter body [] pos) (tFor wi g tb):=by
  intro pins s σ H D I h;refine wpAny_For (thn (hi pins s σ H _ I h) fun v s1 h1=>thn h1 fun itv s2 h2=>?_) hs;obtain ⟨it,fp,tn,J,H2,e,I2,T,st2,f2,W,⟨m0,w0⟩,turn⟩:=h2;subst e;have stat:∀ {H':Hp},(∀ b ∈ fp,H' b=none)->∀ b ∈ fp,FpOk X pins H' b:=fun hn b hb=>⟨hn b hb,(f2 b hb).2⟩;refine codeAny_forLoop_any (fun n s'=>∃ i σ' H',Inv X pins σ' H' s'/\tn i s'.heap/\(∀ b ∈ fp,H' b=none)/\W i n σ' H') ?_ m0 ⟨0,σ,H2,I2,st2,fun b hb=>(f2 b hb).1,w0⟩;rintro n s3 ⟨i,σ3,H3,I3,st3,fr3,w3⟩;rcases turn i n σ3 H3 w3 with ⟨stop,qn⟩ | ⟨go,N,hN,step⟩
  · refine wpAny_passesOwn hp (thn (T.done X rfl rfl rfl hc i pins s3 σ3 H3 X.xe I3 (stat fr3) st3 stop) fun r s4 ⟨hr,I4⟩=>?_)
    subst hr;exact wpAny_execs_nil ⟨σ3,H3,I4,qn⟩
  · refine wpAny_passesOwn hp (thn (T.item X rfl rfl rfl hc i pins s3 σ3 H3 X.xe I3 (stat fr3) st3 go) fun r s4 ⟨u,hr,h4⟩=>?_)
    subst hr;refine wpAny_passesOwn hp (thn h4 fun _ s5 ⟨x,H5,I5,r5,y5,st5,fr5⟩=>?_);have I5':=I5.pinned (stat fr5) (T.obj _ _ st5);refine wpAny_passesOwn hp (thn (hg _ s5 σ3 H5 x u _ I5' r5 (step x H5 y5)) fun _ s6 ⟨σ6,H6,I6,q6⟩=>?_);refine wpAny_passesOwn hp (thn (hb _ s6 σ6 H6 _ I6 q6) fun f s7 q7=>?_);have again:∀ {σ7:St} {H7:Hp},Inv X (pins++W7 fp s5.heap) σ7 H7 s7->N σ7 H7->∃ m,m < n/\∃ i σ' H',Inv X pins σ' H' s7/\tn i s7.heap/\(∀ b ∈ fp,H' b=none)/\W i m σ' H':=fun {σ7 H7} I7 n7=>by
      obtain ⟨m',hm,w7⟩:=hN σ7 H7 n7;refine ⟨m',hm,i + 1,σ7,H7,I7.unpinned,T.keep _ _ _ st5 fun b hb o e=>(I7.pin (b,o) (Zw _ (Zw _ (L9 hb e)))).1,fun b hb=>?_,w7⟩;obtain ⟨o,e,d⟩:=T.obj _ _ st5 b hb;exact (I7.pin (b,o) (Zw _ (Zw _ (L9 hb e)))).2.1
    cases f with
    | next=>obtain ⟨σ7,H7,I7,n7⟩:=q7; exact again I7 n7
    | cont=>obtain ⟨σ7,H7,I7,n7⟩:=q7; exact again I7 n7
    | brk=>obtain ⟨σ7,H7,I7,q7⟩:=q7; exact ⟨σ7,H7,I7.unpinned,q7⟩
    | ret v=>obtain ⟨x7,σ7,H7,I7,r7,q7⟩:=q7; exact ⟨x7,σ7,H7,I7.unpinned,r7,q7⟩
end
theorem A4l {lo:Int} {n:Nat} {g:TG} {tb:TS} {D:Ends} {σ:St} {H:Hp} (Pv:Nat->St->Hp->Prop) (h0:Pv 0 σ H)
    (hs:∀ i σ H,i < n->Pv i σ H->g (.int (lo + i)) σ H fun σ2 H2=>tb { D with nx:=Pv (i + 1),ct:=Pv (i + 1),bk:=D.nx } σ2 H2) (hd:∀ σ H,Pv n σ H->D.nx σ H) :
    ∃ W:Nat->Nat->St->Hp->Prop,(∃ m,W 0 m σ H)/\∀ i m σ H,W i m σ H ->
      ((Itr lo n).stop i H/\D.nx σ H)\/((Itr lo n).go i H/\∃ N:St->Hp->Prop,(∀ σ' H',N σ' H'->∃ m',m' < m/\W (i + 1) m' σ' H')/\∀ x H',(Itr lo n).yld i H x H'->g x σ H' fun σ2 H2=>tb { D with nx:=N,ct:=N,bk:=D.nx } σ2 H2):=by
  refine ⟨fun i m σ H=>m=n - i/\i<=n/\Pv i σ H,⟨n,by simp,Nat.zero_le _,h0⟩,?_⟩;rintro i m σ H ⟨rfl,hi,p⟩;by_cases hlt:i < n
  · refine .inr ⟨hlt,Pv (i + 1),fun σ' H' p'=>⟨n - (i + 1),by omega,rfl,hlt,p'⟩,fun x H' y=>?_⟩
    obtain ⟨e,y⟩:=y;subst e y;exact hs i σ _ hlt p
  · have e:i=n:=by omega
    subst e;exact .inl ⟨Zv _,hd σ H p⟩
end L2
namespace L2
open PySem PySem.Spec PyProof.Rows
abbrev R2:=V->V->Hp->VK->Prop
def OpR (X:Cx) (f:Value->Value->Sem Value) (r:R2):Prop :=
  ∀ (pins:List (Addr × Obj)) (s:Shared) (σ:St) (H:Hp) (x y:V) (v u:Value) (Q:VK),Inv X pins σ H s->RelV x v->RelV y u->r x y H Q ->
    wpAny (model X.prog X.w) X.A (f v u) (EP X pins σ Q) X.xe s
def UnR (X:Cx) (f:Value->Sem Value) (r:V->Hp->VK->Prop):Prop :=
  ∀ (pins:List (Addr × Obj)) (s:Shared) (σ:St) (H:Hp) (x:V) (v:Value) (Q:VK),Inv X pins σ H s->RelV x v->r x H Q ->
    wpAny (model X.prog X.w) X.A (f v) (EP X pins σ Q) X.xe s
def CallR (X:Cx) (f:Value) (r:List V->Hp->VK->Prop):Prop :=
  ∀ (pins:List (Addr × Obj)) (s:Shared) (σ:St) (H:Hp) (xs:List V) (us:List Value) (Q:VK),Inv X pins σ H s->Vals xs us->r xs H Q ->
    wpAny (model X.prog X.w) X.A (call f us) (EP X pins σ Q) X.xe s
def tOp (r:R2) (ta tb:TE):TE:=fun σ H Q=>ta σ H fun x H1=>tb σ H1 fun y H2=>r x y H2 Q
def tUn (r:V->Hp->VK->Prop) (ta:TE):TE:=fun σ H Q=>ta σ H fun x H1=>r x H1 Q
def rI (C:Int->Int->Prop) (g:Int->Int->V):R2:=fun x y H Q=>∃ i j,x=.int i/\y=.int j/\C i j/\Q (g i j) H
def rI0 (g:Int->Int->V):R2:=fun x y H Q=>∃ i j,x=.int i/\y=.int j/\Q (g i j) H
def rU (g:Int->V):V->Hp->VK->Prop:=fun x H Q=>∃ i,x=.int i/\Q (g i) H
section
variable {X:Cx} {a b c:Expr} {ta tb tc:TE} {pos:Pos}
theorem binT (ha:PE X a ta) (hb:PE X b tb) {pins:List (Addr × Obj)} {s:Shared} {σ:St} {H:Hp} {R:V->V->Hp->Prop} (I:Inv X pins σ H s)
    (h:ta σ H fun x H1=>tb σ H1 fun y H2=>R x y H2) {Q:Value->Shared->Prop} {f:Value->Value->Sem Value}
    (hf:∀ v u s2 x y H2,Inv X pins σ H2 s2->RelV x v->RelV y u->R x y H2->wpAny (model X.prog X.w) X.A (f v u) Q X.xe s2) :
    wpAny (model X.prog X.w) X.A (eval a X.env) (fun v s₁=>wpAny (model X.prog X.w) X.A (eval b X.env) (fun u s₂=>wpAny (model X.prog X.w) X.A (f v u) Q X.xe s₂) X.xe s₁) X.xe s:=by
  refine thn (ha pins s σ H _ I h) fun v s1 ⟨x,H1,I1,r1,q1⟩=>?_;refine thn (hb pins s1 σ H1 _ I1 q1) fun u s2 ⟨y,H2,I2,r2,q2⟩=>?_;exact hf v u s2 x y H2 I2 r1 r2 q2
theorem G1 {op:Operator} {r:R2} (ho:OpR X (binaryOp op) r) (ha:PE X a ta) (hb:PE X b tb):PE X (.BinOp a op b pos) (tOp r ta tb):=by
  intro pins s σ H Q I h;exact wpAny_BinOp (binT ha hb I h fun v u s2 x y H2 I2 rx ry q=>ho pins s2 σ H2 x y v u Q I2 rx ry q)
theorem B8k {op:UnaryOp} {r:V->Hp->VK->Prop} (ho:UnR X (unaryOp op) r) (ha:PE X a ta):PE X (.UnaryOp op a pos) (tUn r ta):=by
  intro pins s σ H Q I h;exact UnaryOp_ (thn (ha pins s σ H _ I h) fun v s1 ⟨x,H1,I1,r1,q1⟩=>ho pins s1 σ H1 x v Q I1 r1 q1)
theorem opI {f:Value->Value->Sem Value} {C:Int->Int->Prop} {g:Int->Int->Int}
    (rule:∀ (i j:Int) (t u:Tok) (s:Shared) (Q:Value->Shared->Prop) (E:Value->Shared->Prop),C i j->Q (.int (g i j) s.toks) { s with toks:=s.toks + 1 }->wpAny (model X.prog X.w) X.A (f (.int i t) (.int j u)) Q E s) :
    OpR X f (rI C fun i j=>.int (g i j)):=by
  intro pins s σ H x y v u Q I rx ry h;obtain ⟨i,j,rfl,rfl,hc,q⟩:=h;obtain ⟨t,rfl⟩:=rx;obtain ⟨t',rfl⟩:=ry;exact rule i j t t' s _ _ hc ⟨.int (g i j),H,I.tok _,⟨_,rfl⟩,q⟩
theorem opI0 {f:Value->Value->Sem Value} {g:Int->Int->Int}
    (rule:∀ (i j:Int) (t u:Tok) (s:Shared) (Q:Value->Shared->Prop) (E:Value->Shared->Prop),Q (.int (g i j) s.toks) { s with toks:=s.toks + 1 }->wpAny (model X.prog X.w) X.A (f (.int i t) (.int j u)) Q E s) :
    OpR X f (rI0 fun i j=>.int (g i j)):=by
  intro pins s σ H x y v u Q I rx ry h;obtain ⟨i,j,rfl,rfl,q⟩:=h;obtain ⟨t,rfl⟩:=rx;obtain ⟨t',rfl⟩:=ry;exact rule i j t t' s _ _ ⟨.int (g i j),H,I.tok _,⟨_,rfl⟩,q⟩
theorem opB0 {f:Value->Value->Sem Value} {g:Int->Int->Bool}
    (rule:∀ (i j:Int) (t u:Tok) (s:Shared) (Q:Value->Shared->Prop) (E:Value->Shared->Prop),Q (.bool (g i j)) s->wpAny (model X.prog X.w) X.A (f (.int i t) (.int j u)) Q E s) :
    OpR X f (rI0 fun i j=>.bl (g i j)):=by
  intro pins s σ H x y v u Q I rx ry h;obtain ⟨i,j,rfl,rfl,q⟩:=h;obtain ⟨t,rfl⟩:=rx;obtain ⟨t',rfl⟩:=ry;exact rule i j t t' s _ _ ⟨.bl (g i j),H,I,rfl,q⟩
def CPow (i j:Int):Prop:=0<=j/\j<=1000000/\i.natAbs < 2 ^ 64
theorem D5:OpR X (binaryOp .Add) (rI0 fun i j=>.int (i + j)):=opI0 fun _ _ _ _ _ _ _ q=>add_int q
theorem N2:OpR X (binaryOp .Sub) (rI0 fun i j=>.int (i - j)):=opI0 fun _ _ _ _ _ _ _ q=>sub_int q
theorem M1:OpR X (binaryOp .Mod) (rI (fun _ j=>0 < j) fun i j=>.int (i % j)):=opI fun i j _ _ _ _ _ hc q=>by
  have h1:(0:Int) < j:=hc;exact mod_int' (by omega) (by rw [Int.fmod_eq_emod_of_nonneg i (by omega)]; exact q)
theorem S6:OpR X (binaryOp .Pow) (rI CPow fun i j=>.int (i ^ j.toNat)):=opI fun _ _ _ _ _ _ _ hc q=>pow_int_small hc.1 hc.2.1 hc.2.2 q
theorem unI {f:Value->Sem Value} {g:Int->Int}
    (rule:∀ (i:Int) (t:Tok) (s:Shared) (Q:Value->Shared->Prop) (E:Value->Shared->Prop),Q (.int (g i) s.toks) { s with toks:=s.toks + 1 }->wpAny (model X.prog X.w) X.A (f (.int i t)) Q E s) :
    UnR X f (rU fun i=>.int (g i)):=by
  intro pins s σ H x v Q I rx h;obtain ⟨i,rfl,q⟩:=h;obtain ⟨t,rfl⟩:=rx;exact rule i t s _ _ ⟨.int (g i),H,I.tok _,⟨_,rfl⟩,q⟩
theorem R7:UnR X (unaryOp .USub) (rU fun i=>.int (-i)):=unI fun _ _ _ _ _ q=>neg_int q
end
section
variable {X:Cx} {a b c:Expr} {ta tb tc:TE} {pos:Pos}
theorem A14:OpR X (compareOp .Lt) (rI0 fun i j=>.bl (decide (i < j))):=opB0 fun _ _ _ _ _ _ _ q=>lt_int q
theorem R1:OpR X (compareOp .Gt) (rI0 fun i j=>.bl (decide (j < i))):=opB0 fun _ _ _ _ _ _ _ q=>gt_int q
theorem B9f:OpR X (compareOp .GtE) (rI0 fun i j=>.bl (decide (j<=i))):=opB0 fun _ _ _ _ _ _ _ q=>ge_int q
theorem B7 (b:Expr) {op:CmpOp} (h:op≠.In:=by decide) (h2:op≠.NotIn:=by decide):behindInMarks op b=false:=by
  have e1:(op == CmpOp.In)=false:=by cases op <;> first | rfl | exact absurd rfl h
  have e2:(op == CmpOp.NotIn)=false:=by cases op <;> first | rfl | exact absurd rfl h2
  cases b <;> simp [behindInMarks,e1,e2]
theorem U3 {op:CmpOp} {r:R2} (ho:OpR X (compareOp op) r) (ha:PE X a ta) (hb:PE X b tb) (hm:behindInMarks op b=false):PE X (.Compare a [op] [b] pos) (tOp r ta tb):=by
  intro pins s σ H Q I h;exact wpAny_Compare1 (binT ha hb I h fun v u s2 x y H2 I2 rx ry q=>ho pins s2 σ H2 x y v u Q I2 rx ry q) hm
def A8g (t:TE):TT:=fun σ H Q=>t σ H fun x H'=>∃ k,x=.bl k/\Q k H'
theorem A2v {op:CmpOp} {r:R2} (ho:OpR X (compareOp op) r) (ha:PE X a ta) (hb:PE X b tb) (hm:behindInMarks op b=false):PT X (.Compare a [op] [b] pos) (A8g (tOp r ta tb)):=by
  intro pins s σ H Q I h;refine wpAny_isTrue_Compare1 (thn (ha pins s σ H _ I h) fun v s1 ⟨x,H1,I1,r1,q1⟩=>thn (hb pins s1 σ H1 _ I1 q1) fun u s2 ⟨y,H2,I2,r2,q2⟩ =>
    thn (ho pins s2 σ H2 x y v u _ I2 r1 r2 q2) fun c s3 ⟨z,H3,I3,r3,k,e,q3⟩=>?_) hm
  subst e;cases r3;exact wpAny_truthy_bool ⟨H3,I3,q3⟩
theorem S8:(sizeLine:Nat) < 2 ^ 63:=by rw [sizeLine_eq]; decide
theorem Z4 {x:V} {us:List Value} (r:Vals [x] us):∃ u,us=[u]/\RelV x u:=by
  cases r with
  | cons r1 r2=>cases r2; exact ⟨_,rfl,r1⟩
theorem B26 {x y:V} {us:List Value} (r:Vals [x,y] us):∃ u w',us=[u,w']/\RelV x u/\RelV y w':=by
  cases r with
  | cons r1 r2 =>
    cases r2 with
    | cons r3 r4=>cases r4; exact ⟨_,_,rfl,r1,r3⟩
theorem A6z:CallR X (.builtin "abs") (fun xs H Q=>∃ i,xs=[.int i]/\Q (.int (if i < 0 then -i else i)) H):=by
  intro pins s σ H xs us Q I r h;obtain ⟨i,rfl,q⟩:=h;obtain ⟨u,rfl,t,rfl⟩:=Z4 r;exact call_abs_int fun u tk=>⟨.int (if i < 0 then -i else i),H,I.tok _,⟨_,rfl⟩,q⟩
theorem A4w (hc:X.calm=true):CallR X (.builtin "max") (fun xs H Q=>∃ i j,xs=[.int i,.int j]/\Q (.int (if j > i then j else i)) H):=by
  intro pins s σ H xs us Q I r h;obtain ⟨i,j,rfl,q⟩:=h;obtain ⟨u,w',rfl,⟨t,rfl⟩,⟨t',rfl⟩⟩:=B26 r;refine max_two_ints (I.ok.hd hc) fun h' tk k=>⟨_,H,I.kept k,?_,q⟩;by_cases hj:j > i
  · rw [if_pos hj,if_pos hj]; exact ⟨_,rfl⟩
  · rw [if_neg hj,if_neg hj]; exact ⟨_,rfl⟩
theorem A4u (hc:X.calm=true):CallR X (.builtin "min") (fun xs H Q=>∃ i j,xs=[.int i,.int j]/\Q (.int (if j < i then j else i)) H):=by
  intro pins s σ H xs us Q I r h;obtain ⟨i,j,rfl,q⟩:=h;obtain ⟨u,w',rfl,⟨t,rfl⟩,⟨t',rfl⟩⟩:=B26 r;refine min_two_ints (I.ok.hd hc) fun h' tk k=>⟨_,H,I.kept k,?_,q⟩;by_cases hj:j < i
  · rw [if_pos hj,if_pos hj]; exact ⟨_,rfl⟩
  · rw [if_neg hj,if_neg hj]; exact ⟨_,rfl⟩
theorem Y3:CallR X (.type "int") (fun xs H Q=>(∃ i,xs=[.int i]/\Q (.int i) H)\/∃ k,xs=[.bl k]/\Q (.int (if k then 1 else 0)) H):=by
  intro pins s σ H xs us Q I r h;rcases h with ⟨i,rfl,q⟩ | ⟨k,rfl,q⟩
  · obtain ⟨u,rfl,t,rfl⟩:=Z4 r
    exact call_int_int ⟨.int i,H,I,⟨_,rfl⟩,q⟩
  · obtain ⟨u,rfl,r1⟩:=Z4 r
    cases r1;exact call_int_bool ⟨.int (if k then 1 else 0),H,I.tok _,⟨_,rfl⟩,q⟩
end
end L2
namespace L2
open PySem PySem.Spec PyProof.Rows
section
variable {prog:Program} {w:World} {A:Around} {E:Value->Shared->Prop} {s:Shared} {K:PySem.W.Frag} {x dx C f:Addr} {mA:Str->Option Value} {name:Str} {v:Value}
end
theorem RelO.none_of {o:Option Value} (r:RelO none o):o=none:=by
  cases o with
  | none=>rfl
  | some u=>exact (show False from r).elim
section
variable {P:Program} {w:World} {H H':Hp} {h h':Heap} {a C dx:Addr} {fs fs':List (Str × V)}
end
structure Cls (K:PySem.W.Frag) (C:Addr):Prop where
  pg:PySem.W.plainGet K C Str.empty=true
  hd:PySem.W.hasDictIn K C=true
  po:PySem.W.plainOver K C=true
  sa:PySem.W.findIn K (.ref C) "__setattr__"=some (some (.builtin "object.__setattr__"))
theorem Cls.get {K:PySem.W.Frag} {C:Addr} (c:Cls K C) (f:Str):PySem.W.plainGet K C f=true:=c.pg
section
variable {X:Cx} {pins:List (Addr × Obj)} {σ:St} {H:Hp} {s:Shared} {a C dx:Addr} {fs:List (Str × V)} {f:Str} {v:V} {A:Around} {E:Value->Shared->Prop}
end
section
variable {X:Cx} {o e value:Expr} {f:Str} {pos pos' tpos:Pos} {ta tv:TE}
end
section
variable {X:Cx} {pins:List (Addr × Obj)} {σ:St} {H:Hp} {s:Shared} {A:Around} {E:Value->Shared->Prop} {Q:Value->Shared->Prop} {c:Value} {b:Bool}
end
end L2
namespace L2
open PySem PySem.Spec PyProof.Rows
structure Room (k:Nat) (A:Around):Prop where
  hd:A.handled=none
  gd:A.guards=some []
  dp:A.depth + 3 * k + 5 < recursionLimit
  un:A.units + 16 * k + 200 < cLine
theorem Room.mono {j k:Nat} {A:Around} (r:Room k A) (h:j<=k):Room j A:=⟨r.hd,r.gd,by have:=r.dp; omega,by have:=r.un; omega⟩
theorem Room.mo {j k:Nat} {A:Around} (r:Room k A) (h:j<=k:=by first | decide | omega):Room j A:=r.mono h
theorem Room.deeper {k:Nat} {A:Around} (r:Room (k + 1) A) (env:Env):Room k (A.deeper env) :=
  ⟨r.hd,r.gd,by have:=r.dp; show A.depth + 1 + 3 * k + 5 < _; omega,by have:=r.un; show A.units + 3 + 16 * k + 200 < _; omega⟩
theorem Room.depth {k:Nat} {A:Around} (r:Room k A):A.depth < recursionLimit:=by have:=r.dp; omega
theorem Room.units {k:Nat} {A:Around} (r:Room k A):A.units + 64 < cLine:=by have:=r.un; omega
def tNil:TA:=fun _ H Q=>Q [] H
def E7 (ta:TE) (tr:TA):TA:=fun σ H Q=>ta σ H fun x H1=>tr σ H1 fun xs H2=>Q (x :: xs) H2
section
variable {X:Cx} {e:Expr} {es:List Expr} {te:TE} {t:TA} {pos:Pos}
theorem S5:PA X [] tNil:=fun _ _ _ _ H Q I h=>Calls.spliced_nil ⟨[],H,I,.nil,h⟩
theorem M4 (ha:PE X e te) (hr:PA X es t) (hs:starEach (e :: es) X.env=(false,eval e X.env) :: starEach es X.env:=by rfl):PA X (e :: es) (E7 te t):=by
  intro pos pins s σ H Q I h;rw [hs];show wpAny _ _ (spliced ((false,eval e X.env) :: backTo pos (starEach es X.env))) _ _ s;refine Calls.spliced_cons (thn (ha pins s σ H _ I h) fun u s1 ⟨x,H1,I1,r1,q1⟩=>?_);exact thn (hr pos pins s1 σ H1 _ I1 q1) fun us s2 ⟨xs,H2,I2,r2,q2⟩=>⟨x :: xs,H2,I2,.cons r1 r2,q2⟩
def tTup (t:TA):TE:=fun σ H Q=>t σ H fun xs H1=>xs.length<=sizeLine/\∀ p,H1 p=none->Q (.ref p) (upd H1 p (.tup xs))
def tLst (t:TA):TE:=fun σ H Q=>t σ H fun xs H1=>xs.length<=sizeLine/\∀ p,H1 p=none->Q (.ref p) (upd H1 p (.lst xs))
theorem B36 {x1} (h:PA X es t):PE X (.Tuple es x1 pos) (tTup t):=by
  intro pins s σ H Q I hq;refine wpAny_Tuple_spliced (thn (h pos pins s σ H _ I hq) fun us s1 ⟨xs,H1,I1,r,z,q⟩=>⟨by rw [<- r.length]; exact z,?_⟩);have hf:H1 s1.heap.objs.size=none:=I1.hok.fresh (Zv _);refine ⟨.ref s1.heap.objs.size,upd H1 s1.heap.objs.size (.tup xs),I1.laid (t':=s1.toks) (fun b u e=>Heap.get?_push_of_some _ e) (Zv _) ?_,rfl,q _ hf⟩;exact ⟨z,us,r,⟨_,Heap.get?_push_size _ rfl,rfl,_,rfl⟩⟩
theorem A29 (h:PA X es t):PE X (.List es pos) (tLst t):=by
  intro pins s σ H Q I hq;refine wpAny_List_spliced (thn (h pos pins s σ H _ I hq) fun us s1 ⟨xs,H1,I1,r,z,q⟩=>⟨by rw [<- r.length]; exact z,?_⟩);have hf:H1 s1.heap.objs.size=none:=I1.hok.fresh (Zv _);refine ⟨.ref s1.heap.objs.size,upd H1 s1.heap.objs.size (.lst xs),I1.laid (t':=s1.toks) (fun b u e=>Heap.get?_push_of_some _ e) (Zv _) ?_,rfl,q _ hf⟩;exact ⟨z,us,0,r,Heap.get?_push_size _ rfl⟩
end
abbrev Sp:=List V->Hp->VK->XK->Prop
abbrev CXT:=List Env->Hp->Shared->XK->Value->Shared->Prop
structure Env0 (P:Program) (w:World) (K:PySem.W.Frag) (mg:Str->Option Value) (base:Heap) (A:Around) (outer:List Env) (s:Shared) (H:Hp):Prop where
  frames:A.frames=some outer
  mod:Mod K mg base
  bs:∀ b o,base.get? b=some o->s.heap.get? b=some o/\H b=none
  bsz:base.objs.size<=s.heap.objs.size
  funs:s.heap.FunFrames base outer
  frf:∀ b ∈ frs outer,H b=none
  hok:HOk P w H s.heap
  bare:AllBare s.gens
def CE (outer:List Env) (P:Program) (w:World) (H:Hp) (s:Shared) (Q:VK) (u:Value) (s':Shared):Prop :=
  ∃ v H',s'.os=s.os/\AllBare s'.gens/\Un (frs outer) [] H H' s.heap s'.heap/\HOk P w H' s'.heap/\RelV v u/\Q v H'
def CR (CX:CXT) (outer:List Env) (P:Program) (w:World) (H:Hp) (s:Shared) (Q:VK) (E:XK) (r:Result) (s':Shared):Prop :=
  match r with
  | .ok (.ret u)=>CE outer P w H s Q u s'
  | .ok _=>False
  | .error e=>CX outer H s E e s'
structure FnOk (P:Program) (w:World) (K:PySem.W.Frag) (mg:Str->Option Value) (base:Heap) (CX:CXT) (k:Nat) (f:Addr) (fd:FuncData) (ps:List Str) (sp:Sp):Prop where
  len:∀ vs H Q E,sp vs H Q E->vs.length=ps.length
  run:∀ (A:Around) (outer:List Env) (s:Shared) (H:Hp) (args:Args) (us:List Value) (vs:List V) (Q:VK) (E:XK),Room k A->Env0 P w K mg base A outer s H->BindsTo s fd args (ps.zip us)->Vals vs us->sp vs H Q E ->
    codeAny (model P w) A (.call (.ref f) args) (CR CX outer P w H s Q E) s
theorem FnOk.imp {P:Program} {w:World} {K:PySem.W.Frag} {mg:Str->Option Value} {base:Heap} {CX:CXT} {k:Nat} {f:Addr} {fd:FuncData} {ps:List Str} {sp sp':Sp} (F:FnOk P w K mg base CX k f fd ps sp)
    (h:∀ vs H Q E,sp' vs H Q E->sp vs H Q E):FnOk P w K mg base CX k f fd ps sp' :=
  ⟨fun vs H Q E q=>F.len vs H Q E (h _ _ _ _ q),fun A outer s H args us vs Q E hr he hb hv hs=>F.run A outer s H args us vs Q E hr he hb hv (h _ _ _ _ hs)⟩
section
variable {X:Cx} {pins:List (Addr × Obj)} {σ:St} {H:Hp} {s s':Shared}
theorem Inv.env0 (I:Inv X pins σ H s):Env0 X.prog X.w X.K X.mg X.base X.A X.stack s H :=
  ⟨I.ok.frames,I.ok.mod,I.bs,Zx I.ok.bsz I.sz,I.stack,I.stkFree,I.hok,I.bare⟩
theorem Inv.after {Q:VK} {u:Value} (I:Inv X pins σ H s) (h:CE X.stack X.prog X.w H s Q u s'):EP X pins σ Q u s':=by
  obtain ⟨v,H',os,bare,un,hok,r,q⟩:=h;obtain ⟨hh,g,d,t,os'⟩:=s';obtain rfl:os'=s.os:=os;exact ⟨v,H',I.call (h':=hh) (g':=g) (d':=d) (t':=t) (ch:=[]) un hok bare (fun b z=>absurd z (by simp)),r,q⟩
end
def A1z (sp:Sp) (dvs:List V) (E:XK) (t:TA):TE:=fun σ H Q=>t σ H fun vs H1=>sp (vs++dvs) H1 Q E
def Binds (K:PySem.W.Frag) (fd:FuncData) (ps:List Str) (ds:List Value):Prop :=
  ∀ (s:Shared) (us:List Value),K.In s.heap->(us++ds).length=ps.length->BindsTo s fd ⟨us,[]⟩ (ps.zip (us++ds))
theorem Binds.all {K:PySem.W.Frag} {fd:FuncData} {ps:List Str} (h:∀ us:List Value,us.length=ps.length->bindArgs fd ⟨us,[]⟩=pure (ps.zip us)):Binds K fd ps []:=fun s us _ hl=>by
  rw [List.append_nil] at hl ⊢;exact .of_eq (h us hl)
def A1w (CX:CXT) (X:Cx) (E:XK):Prop:=∀ (pins:List (Addr × Obj)) (σ:St) (H:Hp) (s:Shared) (e:Value) (s':Shared),Inv X pins σ H s->CX X.stack H s E e s'->X.xe e s'
section
variable {X:Cx} {CX:CXT} {k:Nat} {f C:Addr} {fd:FuncData} {ps:List Str} {sp:Sp} {dvs:List V} {ds:List Value} {E:XK} {x m:Str} {p pos apos:Pos} {e o:Expr} {es:List Expr} {ta:TE} {t:TA}
theorem B3m {pins:List (Addr × Obj)} {σ:St} {H:Hp} {s:Shared} {Q:VK} {us:List Value} {vs:List V} (F:FnOk X.prog X.w X.K X.mg X.base CX k f fd ps sp) (hr:Room k X.A) (hb:Binds X.K fd ps ds) (hd:Vals dvs ds) (hx:A1w CX X E)
    (I:Inv X pins σ H s) (r:Vals vs us) (h:sp (vs++dvs) H Q E):wpAny (model X.prog X.w) X.A (call (.ref f) us) (EP X pins σ Q) X.xe s:=by
  have r2:Vals (vs++dvs) (us++ds):=r.append hd;have hl:(us++ds).length=ps.length:=by rw [<- r2.length]; exact F.len _ _ _ _ h
  refine wpAny_call (codeAny_mono (F.run X.A X.stack s H ⟨us,[]⟩ (us++ds) (vs++dvs) Q E hr I.env0 (hb s us I.kIn hl) r2 h) fun r s' hq=>?_);cases r with
  | error e=>exact hx pins σ H s e s' I hq
  | ok fl =>
    cases fl with
    | ret u=>exact I.after hq
    | next=>exact False.elim hq
    | brk=>exact False.elim hq
    | cont=>exact False.elim hq
theorem A9a (F:FnOk X.prog X.w X.K X.mg X.base CX k f fd ps sp) (hr:Room k X.A) (hg:Gl X x) (hm:X.mg x=some (.ref f)) (hk:PySem.W.keepIn X.K (.ref f)=true) (hb:Binds X.K fd ps ds) (hd:Vals dvs ds) (hx:A1w CX X E)
    (ha:PA X (e :: es) t) (hdb:(x == ("__debug__":Str))=false:=by decide) (he:starEach (e :: es) X.env=(false,eval e X.env) :: starEach es X.env:=by rfl) (hpl:(backTo pos (starEach es X.env)).any (·.1)=false:=by rfl) :
    PE X (.Call (.Name x p) (e :: es) [] pos) (A1z sp dvs E t):=by
  intro pins s σ H Q I h;refine wpAny_Call_Name_kw (B1i I hg hm ?_ hdb);refine PySem.W.callWith_K (h₀:=X.base) I.ok.mod.kin hk (thn (ha pos pins s σ H _ I h) fun us s1 ⟨vs,H1,I1,r,q⟩=>⟨I1.kIn,?_⟩) he hpl;exact B3m F hr hb hd hx I1 r q
end
section
variable {X:Cx} {CX:CXT} {k:Nat} {f C:Addr} {fd:FuncData} {ps ks:List Str} {sp:Sp} {E:XK} {x m:Str} {p pos apos kpos:Pos} {e o:Expr} {es:List Expr} {kws:List Keyword} {te ta:TE} {t tk:TA} {nm:Option Str}
variable {g:List Value->List Value->List Value} {gV:List V->List V->List V}
end
structure FnScope (N P:List Str) (sc:Scope):Prop where
  kind:sc.kind=.function
  co:sc.isCoroutine=false
  gen:sc.isGenerator=false
  nd:N.Nodup
  pre:N.take P.length=P
  par:∀ x ∈ P,sc.names.lookup x=some .local\/sc.names.lookup x=some .cell
  nofree:∀ y ∈ sc.names,y.2≠.free
theorem Y6 {kindOf:Str->Option NameKind} {x:Str}:∀ {binds:List (Str × Value)} {m:Str->Option Value},(∀ v,(x,v) ∉ binds)->bindL kindOf binds m x=m x
  | [],_,_=>rfl
  | (n,v) :: r,m,h=>by
    unfold bindL;rw [Y6 fun w hw=>h w (Zr _ hw)];split
    · have:x≠n:=by rintro rfl; exact h v Zy
      simp [this]
    · rfl
theorem Y8 {kindOf:Str->Option NameKind} {x:Str}:∀ {binds:List (Str × Value)} {m:Str->Option Value},(∀ v,(x,v) ∉ binds)->bindC kindOf binds m x=m x
  | [],_,_=>rfl
  | (n,v) :: r,m,h=>by
    unfold bindC;rw [Y8 fun w hw=>h w (Zr _ hw)];split
    · rfl
    · have:x≠n:=by rintro rfl; exact h v Zy
      simp [this]
theorem Y7 {kindOf:Str->Option NameKind} {x:Str} {v:Value}:∀ {P:List Str} {vs:List Value} {i:Nat} {m:Str->Option Value},P.Nodup->P[i]?=some x->vs[i]?=some v->kindOf x=some .local ->
    bindL kindOf (P.zip vs) m x=some v
  | [],_,_,_,_,h,_,_=>by simp at h
  | _ :: _,[],_,_,_,_,h,_=>by simp at h
  | p :: P,w :: vs,0,m,nd,h1,h2,hk=>by
    simp at h1 h2; subst h1; subst h2;show bindL kindOf ((p,w) :: P.zip vs) m p=_;unfold bindL;rw [Y6 fun v hv=>(List.nodup_cons.mp nd).1 (List.of_mem_zip hv).1,if_pos hk];simp
  | p :: P,w :: vs,i + 1,m,nd,h1,h2,hk=>by
    show bindL kindOf ((p,w) :: P.zip vs) m x=_;unfold bindL;exact Y7 (i:=i) (List.nodup_cons.mp nd).2 (by simpa using h1) (by simpa using h2) hk
theorem Y9 {kindOf:Str->Option NameKind} {x:Str} {v:Value}:∀ {P:List Str} {vs:List Value} {i:Nat} {m:Str->Option Value},P.Nodup->P[i]?=some x->vs[i]?=some v->kindOf x≠some .local ->
    bindC kindOf (P.zip vs) m x=some v
  | [],_,_,_,_,h,_,_=>by simp at h
  | _ :: _,[],_,_,_,_,h,_=>by simp at h
  | p :: P,w :: vs,0,m,nd,h1,h2,hk=>by
    simp at h1 h2; subst h1; subst h2;show bindC kindOf ((p,w) :: P.zip vs) m p=_;unfold bindC;rw [Y8 fun v hv=>(List.nodup_cons.mp nd).1 (List.of_mem_zip hv).1,if_neg hk];simp
  | p :: P,w :: vs,i + 1,m,nd,h1,h2,hk=>by
    show bindC kindOf ((p,w) :: P.zip vs) m x=_;unfold bindC;exact Y9 (i:=i) (List.nodup_cons.mp nd).2 (by simpa using h1) (by simpa using h2) hk
def O5 (N:List Str) (vs:List V):St:=vs.map some++List.replicate (N.length - vs.length) none
def cxOf (CX:CXT) (P:Program) (w:World) (K:PySem.W.Frag) (mg:Str->Option Value) (base:Heap) (N:List Str) (qual:Str) (scope:Scope) (f:Addr) (cd:Value) (A:Around) (outer:List Env) (s:Shared) (H:Hp) (E:XK):Cx where
  prog:=P
  w:=w
  K:=K
  mg:=mg
  base:=base
  A:=A.deeper (envOfC qual scope s.heap.objs.size f cd)
  N:=N
  s₀:=s
  H₀:=H
  env:=envOfC qual scope s.heap.objs.size f cd
  outer:=outer
  stack:=envOfC qual scope s.heap.objs.size f cd :: outer
  ex:=[]
  calm:=true
  fn:=fun _=>true
  pn:=[]
  xe:=fun e s'=>wpAny (model P w) (A.deeper (envOfC qual scope s.heap.objs.size f cd)) (leaving (envOfC qual scope s.heap.objs.size f cd) e) (fun _ s''=>CX outer H s E e s'') (fun e' s''=>CX outer H s E e' s'') s'
theorem A1s {sc:Scope} {n:Nat} {x:Str} (h:sc.names.lookup x=some .cell):∃ c,(cellsFrom n sc.names []).lookup x=some c:=by
  have q:=PySem.W.cellsFrom_some sc.names n [] (.inl h);exact Option.isSome_iff_exists.mp q
theorem A4d {CX:CXT} {P:Program} {w:World} {K:PySem.W.Frag} {mg:Str->Option Value} {base:Heap} {N ps:List Str} {qual:Str} {scope:Scope} {f:Addr} {cd:Value} {A:Around} {outer:List Env} {s s1:Shared} {H:Hp} {E:XK} {us:List Value} {vs:List V}
    (S:FnScope N ps scope) (hd:A.handled=none) (e0:Env0 P w K mg base A outer s H) (hl:vs.length=ps.length) (r:Vals vs us)
    (x:InCallC s s.heap.objs.size (bindL (envOfC qual scope s.heap.objs.size f cd).kindOf (ps.zip us) fun _=>none) (cellsFrom (s.heap.objs.size + 1) scope.names []) (bindC (envOfC qual scope s.heap.objs.size f cd).kindOf (ps.zip us) fun _=>none) s1) :
    Inv (cxOf CX P w K mg base N qual scope f cd A outer s H E) [] (O5 N vs) H s1:=by
  have hpl:ps.length<=N.length:=by have:=congrArg List.length S.pre; rw [List.length_take] at this; omega
  obtain ⟨h1,tk,rfl,hk⟩:=x.done;have noA:∀ b:Addr,b ∉ (cxOf CX P w K mg base N qual scope f cd A outer s H E).ex:=fun b z=>absurd (show b ∈ ([]:List Addr) from z) (by simp);refine ⟨⟨e0.mod,S.kind,rfl,rfl,Zv _,fun y z c h1 h2=>?_,fun y hy=>?_,fun y c _ h=>?_,fun _=>hd,Around.frames_deeper e0.frames,.inr ⟨rfl,rfl⟩,fun b z=>absurd z (noA b),e0.bs,e0.bsz,fun b _ _=>noA b,fun b z=>absurd z (noA b),e0.funs,e0.frf⟩,
    rfl,e0.bare,Un.kept hk,⟨_,x.toInCall.ns,fun i y v h1 h2 h3=>?_⟩,fun y c h=>⟨_,x.cell y c h⟩,e0.hok.fresh (Zv _),fun y c h=>?_,fun p hp=>absurd (show p ∈ ([]:List (Addr × Obj)) from hp) (by simp),e0.hok.kept hk,?_⟩
  · exact name_of_addr x.apart (PySem.mem_of_lookup h1) (PySem.mem_of_lookup h2)
  · have hy:scope.names.lookup y=some .cell\/scope.names.lookup y=some .free:=hy
    rcases hy with hy | hy
    · exact A1s hy
    · exact absurd rfl (S.nofree _ (PySem.mem_of_lookup hy))
  · exact Nat.le_of_lt (x.above y c (PySem.mem_of_lookup h))
  · have hi:i < vs.length:=by
      unfold O5 at h2;by_cases hi:i < vs.length
      · exact hi
      · rw [List.getElem?_append_right (by simpa using hi)] at h2
        rw [List.getElem?_replicate] at h2;split at h2 <;> cases h2
    have ha:vs[i]?=some v:=by
      unfold O5 at h2;rw [List.getElem?_append_left (by simpa using hi),Zh] at h2;cases e:vs[i]? with
      | none=>rw [e] at h2; cases h2
      | some a=>rw [e] at h2; cases h2; rfl
    obtain ⟨u,hu,rv⟩:=r.get ha;have hp:ps[i]?=some y:=by
      rw [<- S.pre,List.getElem?_take_of_lt (by omega)]; exact h1
    have ndP:ps.Nodup:=by rw [<- S.pre]; exact S.nd.sublist (List.take_sublist _ _)
    refine ⟨u,rv,?_⟩;rcases S.par y (Zm hp) with k | k
    · exact .inl ⟨k,Y7 ndP hp hu k⟩
    · obtain ⟨c,e⟩:=A1s (n:=s.heap.objs.size + 1) k
      refine .inr ⟨.inl k,c,e,?_⟩;have q:=x.cell y c e;rw [Y9 ndP hp hu (by show scope.names.lookup y≠_; rw [k]; decide)] at q;exact q
  · exact e0.hok.fresh (Nat.le_of_lt (x.above y c (PySem.mem_of_lookup h)))
  · unfold O5
    show _=N.length;rw [Ze,Zl,List.length_replicate];omega
theorem B9n {CX:CXT} {P:Program} {w:World} {K:PySem.W.Frag} {mg:Str->Option Value} {base:Heap} {k:Nat} {f:Addr} {name qual:Str} {params:Arguments} {body:List Stmt} {scope:Scope} {dV kV doc pm cdv ct oc:Value} {an od:Option Addr}
    {osl:Array (Option Value)} {N ps:List Str} {sp:Sp} (lk:K.lookup f=some ⟨oc,od,.func (PySem.W.fnOf name qual params body scope dV kV doc pm an cdv ct),osl⟩) (hcd:PySem.W.codeIn K cdv qual=true) (S:FnScope N ps scope)
    (len:∀ vs H Q E,sp vs H Q E->vs.length=ps.length)
    (hbody:∀ (A:Around) (outer:List Env) (s:Shared) (H:Hp) (vs:List V) (Q:VK) (E:XK),Room k (A.deeper (envOfC qual scope s.heap.objs.size f cdv))->sp vs H Q E ->
      ∃ t,PSs (cxOf CX P w K mg base N qual scope f cdv A outer s H E) body t/\t { nx:=fun _ H'=>Q .non H',rt:=Q } (O5 N vs) H) :
    FnOk P w K mg base CX (k + 1) f (PySem.W.fnOf name qual params body scope dV kV doc pm an cdv ct) ps sp:=by
  refine ⟨len,fun A outer s H args us vs Q E hr e0 hb r hsp=>?_⟩;have hl:=len _ _ _ _ hsp;have KX:K.In s.heap:=e0.mod.kin.keeps fun b o e=>(e0.bs b o e).1;have lim:s.heap.NoLimit:=e0.mod.nolimit.keeps fun b o e=>(e0.bs b o e).1;have hkind:∀ y ∈ ps.zip us,scope.names.lookup y.1=some .local\/(scope.names.lookup y.1=some .cell/\((cellsFrom (s.heap.objs.size + 1) scope.names []).lookup y.1).isSome=true):=fun ⟨n,v⟩ hy=>by
    rcases S.par n (List.of_mem_zip hy).1 with q | q
    · exact .inl q
    · exact .inr ⟨q,PySem.W.cellsFrom_some _ _ _ (.inl q)⟩
  refine codeAny_call_function hr.depth (KX _ _ lk) rfl S.co S.gen rfl (PySem.W.codeRec_of KX hcd) (hb _ _ _ _ ?_);refine wpAny_newFunctionEnv_cells S.kind hkind fun env he s1 x=>?_;subst he;refine ⟨lim.keeps x.toInCall.keep,codeAny_func ?_⟩;obtain ⟨t,ht,hq⟩:=hbody A outer s H vs Q E (hr.deeper _) hsp;have I:Inv (cxOf CX P w K mg base N qual scope f cdv A outer s H E) [] (O5 N vs) H s1:=A4d S hr.hd e0 hl r x;refine wpAny_mono (ht [] s1 (O5 N vs) H _ I hq) (fun fl s' hs=>?_) fun e s' hs=>hs;have fin:∀ {σ':St} {H':Hp} {v:V} {u:Value},Inv (cxOf CX P w K mg base N qual scope f cdv A outer s H E) [] σ' H' s'->RelV v u->Q v H'->CE outer P w H s Q u s' :=
    fun {σ' H' v u} J rv q=>⟨v,H',J.os,J.bare,J.base,J.hok,rv,q⟩
  cases fl with
  | ret u =>
    obtain ⟨v,σ',H',J,rv,q⟩:=hs;exact fin J rv q
  | next =>
    obtain ⟨σ',H',J,q⟩:=hs;exact fin (v:=V.non) (u:=Value.none) J rfl q
  | brk =>
    obtain ⟨_,_,_,q⟩:=hs;exact False.elim q
  | cont =>
    obtain ⟨_,_,_,q⟩:=hs;exact False.elim q
end L2
namespace L2
open PySem PySem.Spec PyProof.Rows
section
variable {X:Cx} {x:Str} {p pos:Pos} {e:Expr} {es:List Expr} {t:TA} {id T:String} {r:List V->Hp->VK->Prop}
def tCB (r:List V->Hp->VK->Prop) (t:TA):TE:=fun σ H Q=>t σ H fun vs H1=>r vs H1 Q
theorem A08 (hc:CallR X (.builtin id) r) (hg:Gl X x) (hm:X.mg x=none) (hv:bootBuiltins x=some (.builtin id)) (ha:PA X (e :: es) t) (hn:x≠"__name__":=by decide) (hdb:(x == ("__debug__":Str))=false:=by decide)
    (he:starEach (e :: es) X.env=(false,eval e X.env) :: starEach es X.env:=by rfl) (hpl:(backTo pos (starEach es X.env)).any (·.1)=false:=by rfl):PE X (.Call (.Name x p) (e :: es) [] pos) (tCB r t):=by
  intro pins s σ H Q I h;refine wpAny_Call_Name_kw (T1 I hg hm hv ?_ hn hdb);exact PyProof.Rows.callWith_builtin1 (thn (ha pos pins s σ H _ I h) fun us s1 ⟨vs,H1,I1,r1,q1⟩=>hc pins s1 σ H1 vs us Q I1 r1 q1) he hpl
theorem W9 (hc:CallR X (.type T) r) (hg:Gl X x) (hm:X.mg x=none) (hv:bootBuiltins x=some (.type T)) (ha:PA X (e :: es) t) (hn:x≠"__name__":=by decide) (hdb:(x == ("__debug__":Str))=false:=by decide)
    (he:starEach (e :: es) X.env=(false,eval e X.env) :: starEach es X.env:=by rfl) (hpl:(backTo pos (starEach es X.env)).any (·.1)=false:=by rfl):PE X (.Call (.Name x p) (e :: es) [] pos) (tCB r t):=by
  intro pins s σ H Q I h;refine wpAny_Call_Name_kw (T1 I hg hm hv ?_ hn hdb);exact PyProof.Rows.callWith_type1 (thn (ha pos pins s σ H _ I h) fun us s1 ⟨vs,H1,I1,r1,q1⟩=>hc pins s1 σ H1 vs us Q I1 r1 q1) he hpl
end
end L2
namespace HT
open PySem PyProof.Rows
section
open PySem.SeqAt
open PySem.AutoSeq1 (wpAny_loadPart')
open PySem.MeetsSeq PySem.MeetsSeq2 PySem.MeetsSeq3
end
section
variable {prog:Program} {w:World} {A:Around} {E:Value->Shared->Prop} {s:Shared}
def sIx (n d:Nat):Option Int->Nat
  | none=>d
  | some v=>if v < 0 then (v + (n:Int)).toNat else min v.toNat n
end
end HT
namespace L2
open PySem PySem.Spec PyProof.Rows
abbrev TO:=St->Hp->(Option Int->Hp->Prop)->Prop
def PO (X:Cx) (e:Option Expr) (t:TO):Prop :=
  ∀ (pins:List (Addr × Obj)) (s:Shared) (σ:St) (H:Hp) (Q:Option Int->Hp->Prop),Inv X pins σ H s->t σ H Q ->
    wpAny (model X.prog X.w) X.A (evalPart e X.env) (fun u s'=>∃ o H',Inv X pins σ H' s'/\IsPart u o/\Q o H') X.xe s
def Z5:TO:=fun _ H Q=>Q none H
def A8h (t:TE):TO:=fun σ H Q=>t σ H fun x H1=>∃ i,x=.int i/\Q (some i) H1
section
variable {X:Cx} {e:Expr} {te:TE} {lo hi:Option Expr} {tl th:TO} {pos p2:Pos}
theorem A84:PO X none Z5:=by
  intro pins s σ H Q I h;rw [evalPart_none];exact wpAny_pure ⟨none,H,I,.none,h⟩
theorem A83 (h:PE X e te):PO X (some e) (A8h te):=by
  intro pins s σ H Q I hw;rw [evalPart_some];refine thn (h pins s σ H _ I hw) fun u s1 ⟨x,H1,I1,r1,q1⟩=>?_;obtain ⟨i,rfl,q⟩:=q1;obtain ⟨t,rfl⟩:=r1;exact ⟨some i,H1,I1,.int i t,q⟩
def SlR (X:Cx) (r:V->Option Int->Option Int->Hp->VK->Prop):Prop :=
  ∀ (pins:List (Addr × Obj)) (s:Shared) (σ:St) (H:Hp) (x:V) (v vl vu:Value) (lo hi:Option Int) (sl:Addr) (Q:VK),Inv X pins σ H s->RelV x v->s.heap.IsSliceOf sl vl vu .none->IsPart vl lo->IsPart vu hi->r x lo hi H Q ->
    ∃ T id,typeLookup (.type T) "__getitem__"=pure (some (.builtin id))/\s.TypeIs v T/\wpAny (model X.prog X.w) X.A (getItem v (.ref sl)) (EP X pins σ Q) X.xe s
def tSl (r:V->Option Int->Option Int->Hp->VK->Prop) (te:TE) (tl th:TO):TE:=fun σ H Q=>te σ H fun x H1=>tl σ H1 fun l H2=>th σ H2 fun u H3=>r x l u H3 Q
theorem A5p {r:V->Option Int->Option Int->Hp->VK->Prop} (hr:SlR X r) (he:PE X e te) (hl:PO X lo tl) (hu:PO X hi th):PE X (.Subscript e (.Slice lo hi none p2) pos) (tSl r te tl th):=by
  intro pins s σ H Q I h;refine Subscript_ (thn (he pins s σ H _ I h) fun v s1 ⟨x,H1,I1,r1,q1⟩=>?_);refine wpAny_Slice (thn (hl pins s1 σ H1 _ I1 q1) fun vl s2 ⟨l,H2,I2,pl,q2⟩=>thn (hu pins s2 σ H2 _ I2 q2) fun vu s3 ⟨u,H3,I3,pu,q3⟩=>?_);rw [evalPart_none];refine wpAny_pure ?_;have I4:Inv X pins σ H3 { s3 with heap:=s3.heap.push { cls:=.type "slice",data:=.fields #[vl,vu,.none] } }:=I3.kept (t':=s3.toks) fun b ob q=>Heap.get?_push_of_some _ q;obtain ⟨T,id,hT,ht,hg⟩:=hr pins { s3 with heap:=s3.heap.push { cls:=.type "slice",data:=.fields #[vl,vu,.none] } } σ H3 x v vl vu l u s3.heap.objs.size Q I4 r1 (Heap.IsSliceOf.new ..) pl pu q3;show wpAny (model X.prog X.w) X.A (subscriptTail e (.Slice lo hi none p2) v (.ref s3.heap.objs.size)) (EP X pins σ Q) X.xe { s3 with heap:=s3.heap.push { cls:=.type "slice",data:=.fields #[vl,vu,.none] } };exact tail_any (ops:=[.ref s3.heap.objs.size,v]) ht hT hg (by with_unfolding_all rfl)
def cutV (xs:List V) (lo hi:Option Int):List V:=(xs.drop (HT.sIx xs.length 0 lo)).take (HT.sIx xs.length xs.length hi - HT.sIx xs.length 0 lo)
theorem A0m (xs:List V) (lo hi:Option Int):(cutV xs lo hi).length<=xs.length:=by
  unfold cutV;rw [List.length_take,List.length_drop];omega
theorem Vals.nil_iff {xs:List V} {us:List Value} (r:Vals xs us):us=[] ↔ xs=[]:=by
  cases r with
  | nil=>simp
  | cons _ _=>simp
end
end L2
namespace L2
open PySem PySem.Spec PyProof.Rows
def ixN (n:Nat) (i:Int):Option Nat:=if 0<=i then (if i < n then some i.toNat else none) else if -(n:Int)<=i then some (i + n).toNat else none
def atI {α:Type} (xs:List α) (i:Int):Option α:=(ixN xs.length i).bind fun j=>xs[j]?
theorem A39 {n:Nat} {i:Int} {j:Nat} (h:ixN n i=some j):seqIndex? i n=some j/\j < n/\-(n:Int)<=i/\i < n:=by
  unfold ixN at h;by_cases h0:0<=i
  · rw [if_pos h0] at h
    by_cases h1:i < n
    · rw [if_pos h1] at h
      have e:i.toNat=j:=Zj h;exact ⟨by rw [seqIndex_of h0 h1,e],by omega,by omega,h1⟩
    · rw [if_neg h1] at h; cases h
  · rw [if_neg h0] at h
    by_cases h1:-(n:Int)<=i
    · rw [if_pos h1] at h
      have e:(i + n).toNat=j:=Zj h;exact ⟨by rw [seqIndex_neg (by omega) h1,e],by omega,h1,by omega⟩
    · rw [if_neg h1] at h; cases h
theorem A0r {α:Type} {xs:List α} {i:Int} {v:α} (h:atI xs i=some v):∃ j,seqIndex? i xs.length=some j/\xs[j]?=some v/\j < xs.length/\-(xs.length:Int)<=i/\i < xs.length:=by
  unfold atI at h;cases e:ixN xs.length i with
  | none=>rw [e] at h; cases h
  | some j =>
    rw [e] at h;obtain ⟨h1,h2,h3,h4⟩:=A39 e;exact ⟨j,h1,h,h2,h3,h4⟩
theorem K6 {α:Type} {xs:List α} {j:Nat} {v:α} (h:xs[j]?=some v):atI xs (j:Int)=some v:=by
  have hj:j < xs.length:=(Zs h).1;have e:ixN xs.length (j:Int)=some j:=by
    unfold ixN;rw [if_pos (by omega),if_pos (by omega)]; simp
  unfold atI; rw [e]; exact h
def A0s (b:Expr):Prop:=∀ o i,subscripted b false o i=operate [o,i] (getItem o i)
def IxR (X:Cx) (r:R2):Prop :=
  ∀ (value slice:Expr) (pins:List (Addr × Obj)) (s:Shared) (σ:St) (H:Hp) (x y:V) (v u:Value) (Q:VK),Inv X pins σ H s->RelV x v->RelV y u->r x y H Q ->
    subscripted slice false v u=operate [v,u] (getItem v u)->wpAny (model X.prog X.w) X.A (subscriptTail value slice v u) (EP X pins σ Q) X.xe s
def MtR (X:Cx) (id:String) (r:V->List V->Hp->VK->Prop):Prop :=
  ∀ (pins:List (Addr × Obj)) (s:Shared) (σ:St) (H:Hp) (x:V) (xs:List V) (v:Value) (us:List Value) (Q:VK),Inv X pins σ H s->RelV x v->Vals xs us->r x xs H Q ->
    wpAny (model X.prog X.w) X.A (call (.builtin id) (v :: us)) (EP X pins σ Q) X.xe s
section
variable {X:Cx} {a b:Expr} {ta tb:TE} {pos:Pos}
theorem IxR.or {r r':R2} (h:IxR X r) (h':IxR X r'):IxR X (fun x y H Q=>r x y H Q\/r' x y H Q):=by
  intro value slice pins s σ H x y v u Q I rx ry q hs;rcases q with q | q
  · exact h value slice pins s σ H x y v u Q I rx ry q hs
  · exact h' value slice pins s σ H x y v u Q I rx ry q hs
theorem U2 {r:R2} (hr:IxR X r) (ha:PE X a ta) (hb:PE X b tb) (hs:A0s b):PE X (.Subscript a b pos) (tOp r ta tb):=by
  intro pins s σ H Q I h;exact Subscript_ (binT ha hb I h fun v u s2 x y H2 I2 rx ry q=>hr a b pins s2 σ H2 x y v u Q I2 rx ry q (hs _ _))
def rIxL (K:PySem.W.Frag):R2:=fun x y H Q=>∃ p xs i v,x=.ref p/\y=.int i/\SqL K H p xs/\atI xs i=some v/\Q v H
def rIxT (K:PySem.W.Frag):R2:=fun x y H Q=>∃ p xs i v,x=.ref p/\y=.int i/\SqT K H p xs/\atI xs i=some v/\Q v H
def rIxS:R2:=fun x y H Q=>∃ z i c,x=.str z/\y=.int i/\z.length<=sizeLine/\atI z.cps.toList i=some c/\Q (.str ⟨#[c]⟩) H
theorem ix_list:IxR X (rIxL X.K):=by
  intro value slice pins s σ H x y v u Q I rx ry h hs;obtain ⟨p,xs,i,z,rfl,rfl,hq,he,q⟩:=h;cases rx;obtain ⟨t,rfl⟩:=ry;obtain ⟨its,r,pl,hz⟩:=I.list hq;obtain ⟨j,h1,h2,h3,h4,h5⟩:=A0r he;obtain ⟨w,ew,rw'⟩:=r.get h2;have hl:=r.length;have hn:=S8;have fin:EP X pins σ Q w s:=⟨z,H,I,rw',q⟩;by_cases h0:0<=i
  · have hj:i.toNat=j:=by
      rw [seqIndex_of h0 h5] at h1;exact Zj h1
    exact item_listR pl.isList h0 (by omega) (by rw [hj]; simpa using ew) fin hs
  · have hj:(i + (its.toArray.size:Int)).toNat=j:=by
      rw [seqIndex_neg (by omega) h4] at h1;rw [List.size_toArray,<- hl];exact Zj h1
    exact subscriptTail_builtinR (x:=w) pl.isList.typeIs slot_list_getitem.lookup
      (wpAny_getItem_list_neg (Q:=fun r s'=>r=w/\EP X pins σ Q r s') pl.isList (by omega) (by rw [List.size_toArray] <;> omega) (by omega) (by rw [hj]; simpa using ew) ⟨rfl,fin⟩) hs
theorem ix_tup:IxR X (rIxT X.K):=by
  intro value slice pins s σ H x y v u Q I rx ry h hs;obtain ⟨p,xs,i,z,rfl,rfl,hq,he,q⟩:=h;cases rx;obtain ⟨t,rfl⟩:=ry;obtain ⟨its,r,pl,hz⟩:=I.tuple hq;obtain ⟨j,h1,h2,h3,h4,h5⟩:=A0r he;obtain ⟨w,ew,rw'⟩:=r.get h2;have hl:=r.length;have hn:=S8;have fin:EP X pins σ Q w s:=⟨z,H,I,rw',q⟩;exact subscriptTail_builtinR (x:=w) pl.typeIs slot_tuple_getitem.lookup
    (getItem_tuple (j:=j) (Q:=fun r s'=>r=w/\EP X pins σ Q r s') pl (by omega) (by omega) (by rw [List.size_toArray,<- hl]; exact h1) (by simpa using ew) ⟨rfl,fin⟩) hs
theorem B7n:IxR X rIxS:=by
  intro value slice pins s σ H x y v u Q I rx ry h hs;obtain ⟨z,i,c,rfl,rfl,hz,he,q⟩:=h;obtain ⟨t,rfl⟩:=rx;obtain ⟨t',rfl⟩:=ry;obtain ⟨j,h1,h2,h3,h4,h5⟩:=A0r he;have hl:z.cps.toList.length=z.length:=by simp [Str.length]
  rw [hl] at h1 h4 h5;have hn:=S8;exact tail_any (typeIs_str s z t) slot_str_getitem.lookup (getItem_str (c:=c) (by
    have e1:decide (i < -(2 ^ 63:Int))=false:=Zd (by omega);have e2:decide (i ≥ 2 ^ 63)=false:=Zd (by omega);rw [e1,e2,Bool.or_false]) (by rw [h1]; simpa using h2) ⟨.str ⟨#[c]⟩,H,I.tok _,⟨_,rfl⟩,q⟩) hs
def rIx (K:PySem.W.Frag):R2:=fun x y H Q=>rIxL K x y H Q\/rIxT K x y H Q\/rIxS x y H Q
theorem B7o:IxR X (rIx X.K):=ix_list.or (ix_tup.or B7n)
theorem A18 (its:List Value) (n j:Nat) (u:Value):Obj.mapSeq (·.setIfInBounds j u) { cls:=.type "list",data:=.seq its.toArray n }={ cls:=.type "list",data:=.seq (its.set j u).toArray n }:=by
  simp [Obj.mapSeq]
theorem Inv.lst {pins:List (Addr × Obj)} {σ:St} {H:Hp} {s:Shared} {p:Addr} {xs:List V} (I:Inv X pins σ H s) (h:H p=some (.lst xs)) :
    ∃ (its:List Value) (n:Nat),Vals xs its/\s.heap.get? p=some { cls:=.type "list",data:=.seq its.toArray n }/\xs.length<=sizeLine:=by
  obtain ⟨z,its,n,r,e⟩:=I.hok p _ h;exact ⟨its,n,r,e,z⟩
theorem Inv.lstUpd {pins:List (Addr × Obj)} {σ:St} {H:Hp} {s:Shared} {p:Addr} {xs ys:List V} {its its':List Value} {n n':Nat} {f:Obj->Obj} (I:Inv X pins σ H s) (h:H p=some (.lst xs))
    (ho:s.heap.get? p=some { cls:=.type "list",data:=.seq its.toArray n }) (hf:f { cls:=.type "list",data:=.seq its.toArray n }={ cls:=.type "list",data:=.seq its'.toArray n' }) (r:Vals ys its') (hz:ys.length<=sizeLine) (t:Nat) :
    Inv X pins σ (upd H p (.lst ys)) { s with heap:=s.heap.update p f,toks:=t }:=by
  have e:(s.heap.update p f).get? p=some { cls:=.type "list",data:=.seq its'.toArray n' }:=by
    rw [Heap.get?_update_self f ho (by rw [hf] <;> rfl),hf]
  refine I.write (x:=p) (e:=p) (by rw [h]; trivial) (.inl rfl) (fun b u hb q=>(Heap.get?_update_other _ _ (Ne.symm hb)).trans q) ⟨_,e⟩ ?_;exact ⟨hz,its',n',r,e⟩
def B3o:V->V->V->Hp->(Hp->Prop)->Prop:=fun o i v H Q=>∃ p xs k j,o=.ref p/\i=.int k/\H p=some (.lst xs)/\ixN xs.length k=some j/\Q (upd H p (.lst (xs.set j v)))
theorem N0:PSet X B3o:=by
  intro pins s σ H o i v ov iv u Q I ro ri rv h;obtain ⟨p,xs,k,j,rfl,rfl,hp,hj,q⟩:=h;cases ro;obtain ⟨t,rfl⟩:=ri;obtain ⟨its,n,r,ho,hz⟩:=I.lst hp;obtain ⟨h1,h2,h3,h4⟩:=A39 hj;have hl:=r.length;have hn:=S8;have I':Inv X pins σ (upd H p (.lst (xs.set j v))) { s with heap:=s.heap.update p (Obj.mapSeq (·.setIfInBounds j u)) } :=
    I.lstUpd hp ho (A18 its n j u) (r.set rv j) (by rw [List.length_set]; exact hz) s.toks
  by_cases h0:0<=k
  · have hk:k.toNat=j:=by
      rw [seqIndex_of h0 h4] at h1;exact Zj h1
    exact PySem.W.ki_setAt ho h0 (by omega) (by rw [List.size_toArray,<- hl]; exact h4) (by rw [hk]; exact ⟨_,I',q⟩)
  · have hk:(k + (its.toArray.size:Int)).toNat=j:=by
      rw [seqIndex_neg (by omega) h3] at h1;rw [List.size_toArray,<- hl];exact Zj h1
    exact PySem.W.ki_setBack ho (by omega) (by rw [List.size_toArray,<- hl]; exact h3) (by omega) (by rw [hk]; exact ⟨_,I',q⟩)
theorem W2 (lo hi:Option Int) (n:Nat):(sliceBounds lo hi none n).1=((HT.sIx n 0 lo:Nat):Int)/\(sliceBounds lo hi none n).2.1=((HT.sIx n n hi:Nat):Int)/\(sliceBounds lo hi none n).2.2=1:=by
  refine ⟨?_,?_,rfl⟩
  · cases lo with
    | none=>simp [sliceBounds,HT.sIx]
    | some i =>
      simp only [sliceBounds,HT.sIx,Option.getD_none,show (1:Int) > 0 by decide,if_true];by_cases h:i < 0
      · simp only [h,if_true] <;> omega
      · simp only [h,if_false] <;> omega
  · cases hi with
    | none=>simp [sliceBounds,HT.sIx]
    | some i =>
      simp only [sliceBounds,HT.sIx,Option.getD_none,show (1:Int) > 0 by decide,if_true];by_cases h:i < 0
      · simp only [h,if_true] <;> omega
      · simp only [h,if_false] <;> omega
theorem U0 (its:List Value) (lo hi:Option Int):slicePick its.toArray lo hi none=((its.drop (HT.sIx its.length 0 lo)).take (HT.sIx its.length its.length hi - HT.sIx its.length 0 lo)).toArray:=by
  obtain ⟨h1,h2,h3⟩:=W2 lo hi its.toArray.size;unfold slicePick;rw [h1,h2,h3];simp only [sliceRange_one,pick_run,List.size_toArray] <;> rfl
def rSlL (K:PySem.W.Frag):V->Option Int->Option Int->Hp->VK->Prop:=fun x lo hi H Q=>∃ a xs,x=.ref a/\SqL K H a xs/\∀ p,H p=none->Q (.ref p) (upd H p (.lst (cutV xs lo hi)))
theorem A8o:SlR X (rSlL X.K):=by
  intro pins s σ H x v vl vu lo hi sl Q I rx hs pl pu h;obtain ⟨a,xs,rfl,hx,q⟩:=h;cases rx;obtain ⟨its,r,ht,hz⟩:=I.list hx;have hlen:=r.length;refine ⟨"list",_,slot_list_getitem.lookup,ht.isList.typeIs,?_⟩;refine wpAny_getItem_list_slice ht.isList hs pl pu .none (by simp) ?_ (by rw [List.size_toArray] <;> omega)
  rw [U0,<- hlen];refine ⟨.ref s.heap.objs.size,_,I.laid (t':=s.toks) (o:=.lst (cutV xs lo hi)) (fun b ob q=>Heap.get?_push_of_some _ q) (Zv _) ?_,rfl,q _ (I.hok.fresh (Zv _))⟩;exact ⟨Zx (A0m xs lo hi) hz,_,0,(r.drop (HT.sIx xs.length 0 lo)).take (HT.sIx xs.length xs.length hi - HT.sIx xs.length 0 lo),Heap.get?_push_size _ rfl⟩
theorem call_len_seq:CallR X (.builtin "len") (fun xs H Q=>∃ p ys,xs=[.ref p]/\(SqL X.K H p ys\/SqT X.K H p ys)/\Q (.int ys.length) H):=by
  intro pins s σ H xs us Q I r h;obtain ⟨p,ys,rfl,hq,q⟩:=h;obtain ⟨u,rfl,rx⟩:=Z4 r;cases rx;have hn:=S8;rcases hq with hq | hq
  · obtain ⟨its,r',pl,hz⟩:=I.list hq
    have hlen:=r'.length;exact Calls.call_len_list pl.isList (by simp only [List.size_toArray] <;> omega) ⟨.int ys.length,H,I.tok _,⟨s.toks + 1,by rw [List.size_toArray,hlen]⟩,q⟩
  · obtain ⟨its,r',pl,hz⟩:=I.tuple hq
    have hlen:=r'.length;exact len_tuple pl (by simp only [List.size_toArray] <;> omega) ⟨.int ys.length,H,I.tok _,⟨s.toks + 1,by rw [List.size_toArray,hlen]⟩,q⟩
theorem Y2:CallR X (.builtin "len") (fun xs H Q=>∃ z,xs=[.str z]/\z.length<=sizeLine/\Q (.int z.length) H):=by
  intro pins s σ H xs us Q I r h;obtain ⟨z,rfl,hz,q⟩:=h;obtain ⟨u,rfl,t,rfl⟩:=Z4 r;have hn:=S8;exact len_str (by omega) ⟨.int z.length,H,I.tok _,⟨_,rfl⟩,q⟩
theorem CallR.or {f:Value} {r r':List V->Hp->VK->Prop} (h:CallR X f r) (h':CallR X f r'):CallR X f (fun xs H Q=>r xs H Q\/r' xs H Q):=by
  intro pins s σ H xs us Q I rs q;rcases q with q | q
  · exact h pins s σ H xs us Q I rs q
  · exact h' pins s σ H xs us Q I rs q
theorem Y1:CallR X (.type "list") (fun xs H Q=>∃ p ys,xs=[.ref p]/\(SqL X.K H p ys\/SqT X.K H p ys)/\∀ l,H l=none->Q (.ref l) (upd H l (.lst ys))):=by
  intro pins s σ H xs us Q I r h;obtain ⟨p,ys,rfl,hq,q⟩:=h;obtain ⟨u,rfl,rx⟩:=Z4 r;cases rx;have fin:∀ (its:List Value),Vals ys its->ys.length<=sizeLine->∀ (h':Heap) (c':Nat),(∀ b o',s.heap.get? b=some o'->h'.get? b=some o') ->
      h'.get? s.heap.objs.size=some { cls:=.type "list",dict:=none,data:=.seq its.toArray c',slots:=#[] }->EP X pins σ Q (.ref s.heap.objs.size) { s with heap:=h' }:=fun its r' hz h' c' kp e =>
    ⟨.ref s.heap.objs.size,_,I.laid (t':=s.toks) kp (Zv _) (show ObjOk X.prog X.w _ h' _ (.lst ys) from ⟨hz,its,c',r',e⟩),rfl,q _ (I.hok.fresh (Zv _))⟩
  rcases hq with hq | hq
  · obtain ⟨its,r',pl,hz⟩:=I.list hq
    have hlen:=r'.length;obtain ⟨o,ho,hc,n,hd⟩:=pl.isList;exact call_list_seq p (.inl rfl) ho hc hd (fun h' c' kp e=>fin its r' hz h' c' kp e) (by simp only [List.size_toArray] <;> omega)
  · obtain ⟨its,r',pl,hz⟩:=I.tuple hq
    have hlen:=r'.length;obtain ⟨o,ho,hc,n,hd⟩:=pl;exact call_list_seq p (.inr rfl) ho hc hd (fun h' c' kp e=>fin its r' hz h' c' kp e) (by simp only [List.size_toArray] <;> omega)
theorem V1:CallR X (.type "tuple") (fun xs H Q=>∃ p ys,xs=[.ref p]/\((SqL X.K H p ys/\∀ l,H l=none->Q (.ref l) (upd H l (.tup ys)))\/(SqT X.K H p ys/\Q (.ref p) H))):=by
  intro pins s σ H xs us Q I r h;obtain ⟨p,ys,rfl,h⟩:=h;obtain ⟨u,rfl,rx⟩:=Z4 r;cases rx;rcases h with ⟨hq,q⟩ | ⟨hq,q⟩
  · obtain ⟨its,r',pl,hz⟩:=I.list hq
    have hlen:=r'.length;refine call_tuple_list pl.isList (fun h' kp=>?_) (by simp only [List.size_toArray] <;> omega)
    have I1:Inv X pins σ H { s with heap:=h' }:=I.kept (t':=s.toks) kp;have I2:Inv X pins σ (upd H h'.objs.size (.tup ys)) { s with heap:=h'.push { cls:=.type "tuple",data:=.seq its.toArray } } :=
      I1.laid (t':=s.toks) (fun b o e=>Heap.get?_push_of_some _ e) (Zv _) (show ObjOk X.prog X.w _ _ _ (.tup ys) from ⟨hz,its,r',IsTup.new _ _⟩)
    exact ⟨.ref h'.objs.size,_,I2,rfl,q _ (I1.hok.fresh (Zv _))⟩
  · obtain ⟨its,r',pl,hz⟩:=I.tuple hq
    exact call_tuple_same pl ⟨.ref p,H,I,rfl,q⟩
def tyV (K:PySem.W.Frag) (T:String) (x:V) (H:Hp):Prop:=match x with
  | .str _=>T="str"
  | .int _=>T="int"
  | .ref p=>(T="list"/\∃ xs,SqL K H p xs)\/(T="tuple"/\∃ o,K.lookup p=some o/\o.cls=.type "tuple"/\o.dict=none) \/
      (T="dict"/\((∃ kvs,H p=some (.dK kvs))\/∃ kvs,H p=some (.dT kvs)))\/(T="set"/\∃ S n,H p=some (.set S n))
  | _=>False
theorem A7b {pins:List (Addr × Obj)} {σ:St} {H:Hp} {s:Shared} {T:String} {x:V} {v:Value} (I:Inv X pins σ H s) (r:RelV x v) (ty:tyV X.K T x H) :
    s.TypeIs v T/\∀ a,v=.ref a->∃ ob,s.heap.get? a=some ob/\ob.dict=none:=by
  cases x with
  | str z =>
    obtain ⟨t,rfl⟩:=r;cases (show T="str" from ty);exact ⟨typeIs_str s z t,fun _ e=>nomatch e⟩
  | int i =>
    obtain ⟨t,rfl⟩:=r;cases (show T="int" from ty);exact ⟨typeIs_int s i t,fun _ e=>nomatch e⟩
  | ref p =>
    cases r;rcases ty with ⟨rfl,xs,hq⟩ | ⟨rfl,o,hk,hc,hd⟩ | ⟨rfl,hk⟩ | ⟨rfl,S,n,hk⟩
    · obtain ⟨its,_,pl,_⟩:=I.list hq
      refine ⟨pl.isList.typeIs,fun a e=>?_⟩;cases e;obtain ⟨o,n,e,c,hd,_⟩:=pl;exact ⟨o,e,hd⟩
    · refine ⟨⟨o,I.kIn p o hk,hc⟩,fun a e=>?_⟩
      cases e;exact ⟨o,I.kIn _ o hk,hd⟩
    · have z:∃ o,s.heap.get? p=some o/\o.ExactDict:=by
        rcases hk with ⟨kvs,hk⟩ | ⟨kvs,hk⟩
        · obtain ⟨_,_,_,_,o,_,_,e,ex,_⟩:=I.hok p _ hk
          exact ⟨o,e,ex⟩
        · obtain ⟨_,_,_,_,o,_,_,e,ex,_⟩:=I.hok p _ hk
          exact ⟨o,e,ex⟩
      obtain ⟨o,e,ex⟩:=z;refine ⟨⟨o,e,ex.1⟩,fun a e2=>?_⟩;cases e2;exact ⟨o,e,ex.2.1⟩
    · obtain ⟨o,_,_,_,e,ex,_⟩:=I.hok p _ hk
      refine ⟨⟨o,e,ex.1⟩,fun a e2=>?_⟩;cases e2;exact ⟨o,e,ex.2.1⟩
  | _=>exact False.elim ty
def tBM0 (K:PySem.W.Frag) (T:String) (r:V->List V->Hp->VK->Prop) (to:TE):TE:=fun σ H Q=>to σ H fun x H1=>tyV K T x H1/\r x [] H1 Q
def tBM (K:PySem.W.Frag) (T:String) (r:V->List V->Hp->VK->Prop) (to:TE) (t:TA):TE:=fun σ H Q=>to σ H fun x H1=>tyV K T x H1/\t σ H1 fun xs H2=>r x xs H2 Q
variable {o e:Expr} {es:List Expr} {to:TE} {t:TA} {name:Str} {apos cpos:Pos} {T id:String} {r:V->List V->Hp->VK->Prop}
theorem B4b (pa:PlainAttrs T) (slot:Slot T name id) (hty:typeOf (.builtin id)=pure (.type "method_descriptor")) (hm:MtR X id r) (ho:PE X o to)
    (hbase:attributeBase o name X.env (eval o X.env)=eval o X.env:=by rfl) (hline:(apos.endLine == cpos.line)=true:=by rfl):PE X (.Call (.Attribute o name apos) [] [] cpos) (tBM0 X.K T r to):=by
  intro pins s σ H Q I h;refine wpAny_Call_method0_late hbase hline (thn (ho pins s σ H _ I h) fun v s1 ⟨x,H1,I1,r1,ty,q1⟩=>?_);obtain ⟨h1,h2⟩:=A7b I1 r1 ty;exact ⟨T,id,pa,slot,hty,h1,h2,Calls.callWith_builtin rfl (PySem.evalArgs_none (hm pins s1 σ H1 x [] v [] Q I1 r1 .nil q1))⟩
theorem B8l (pa:PlainAttrs T) (slot:Slot T name id) (hty:typeOf (.builtin id)=pure (.type "method_descriptor")) (hm:MtR X id r) (ho:PE X o to) (ha:PA X (e :: es) t)
    (hbase:attributeBase o name X.env (eval o X.env)=eval o X.env:=by rfl)
    (hfew:((backTo cpos (starEach (e :: es) X.env)).all (fun x=>!x.1) && (backToKw cpos (keywordEach [] X.env)).all (fun x=>x.1.isSome)
      && decide ((e :: es).length + ([]:List Keyword).length + (if ([]:List Keyword).isEmpty then 0 else 1) < 30))=true:=by rfl)
    (hline:(apos.endLine == cpos.line)=true:=by rfl) (hs:starEach (e :: es) X.env=(false,eval e X.env) :: starEach es X.env:=by rfl) (hplain:(backTo cpos (starEach es X.env)).any (·.1)=false:=by rfl) :
    PE X (.Call (.Attribute o name apos) (e :: es) [] cpos) (tBM X.K T r to t):=by
  intro pins s σ H Q I h;refine wpAny_Call_method_late hbase hfew hline rfl (thn (ho pins s σ H _ I h) fun v s1 ⟨x,H1,I1,r1,ty,q1⟩=>?_);obtain ⟨h1,h2⟩:=A7b I1 r1 ty;refine ⟨T,id,pa,slot,hty,h1,h2,?_⟩;have hA:=ha cpos pins s1 σ H1 _ I1 q1;rw [hs] at hA ⊢;refine Calls.callWith_builtin (by show (false || (backTo cpos (starEach es X.env)).any (·.1))=false; rw [hplain] <;> rfl) (Calls.evalArgs_plain ?_)
  exact thn hA fun us s2 ⟨vs,H2,I2,r2,q2⟩=>hm pins s2 σ H2 x vs v us Q I2 r1 r2 q2
end
end L2
namespace L2
open PySem PySem.Spec PyProof.Rows
def MtM (X:Cx) (id:String) (r:V->List V->Hp->VK->Prop):Prop :=
  ∀ (pins:List (Addr × Obj)) (s:Shared) (σ:St) (H:Hp) (x:V) (xs:List V) (v:Value) (us:List Value) (Q:VK),Inv X pins σ H s->RelV x v->Vals xs us->r x xs H Q ->
    wpAny (model X.prog X.w) X.A (call (.builtin id) (v :: us)) (EP X pins σ Q) X.xe s
theorem Vals.one:∀ {x:V} {us:List Value},Vals [x] us->∃ u,us=[u]/\RelV x u
  | _,_,.cons r .nil=>⟨_,rfl,r⟩
theorem Vals.two:∀ {x y:V} {us:List Value},Vals [x,y] us->∃ u v,us=[u,v]/\RelV x u/\RelV y v
  | _,_,_,.cons r (.cons q .nil)=>⟨_,_,rfl,r,q⟩
theorem Vals.zero:∀ {us:List Value},Vals [] us->us=[]
  | _,.nil=>rfl
theorem Vals.dropLast {xs:List V} {us:List Value} (h:Vals xs us):Vals xs.dropLast us.dropLast:=by
  induction h with
  | nil=>exact .nil
  | cons r t ih =>
    cases t with
    | nil=>exact .nil
    | cons q t'=>exact .cons r ih
theorem Vals.eraseIdx:∀ {xs:List V} {us:List Value} (i:Nat),Vals xs us->Vals (xs.eraseIdx i) (us.eraseIdx i)
  | _,_,_,.nil=>.nil
  | _,_,0,.cons _ t=>t
  | _,_,i + 1,.cons r t=>.cons r (Vals.eraseIdx i t)
theorem Vals.reverse {xs:List V} {us:List Value} (h:Vals xs us):Vals xs.reverse us.reverse:=by
  induction h with
  | nil=>exact .nil
  | cons r t ih=>rw [List.reverse_cons,List.reverse_cons]; exact Vals.append ih (.cons r .nil)
theorem Vals.rep {xs:List V} {us:List Value} (h:Vals xs us):∀ k:Nat,Vals (List.replicate k xs).flatten (List.replicate k us).flatten
  | 0=>.nil
  | k + 1=>by
    rw [List.replicate_succ,List.replicate_succ,List.flatten_cons,List.flatten_cons];exact Vals.append h (Vals.rep h k)
theorem A19 {α:Type} (l:List α):l.eraseIdx (l.length - 1)=l.dropLast:=by
  induction l with
  | nil=>rfl
  | cons a r ih =>
    cases r with
    | nil=>rfl
    | cons b r =>
      have e:(a :: b :: r).length - 1=((b :: r).length - 1) + 1:=by
        have h1:(a :: b :: r).length=r.length + 2:=rfl;have h2:(b :: r).length=r.length + 1:=rfl;omega
      rw [e,List.eraseIdx_cons_succ,ih];all_goals rfl
section
variable {X:Cx} {pins:List (Addr × Obj)} {σ:St} {H:Hp} {s:Shared} {l b:Addr} {xs ys zs:List V}
theorem Inv.lset {its its':List Value} {n:Nat} {f:Array Value->Array Value} {t':Nat} (I:Inv X pins σ H s) (hH:H l=some (.lst xs))
    (e:s.heap.get? l=some { cls:=.type "list",data:=.seq its.toArray n }) (hf:f its.toArray=its'.toArray) (hv:Vals ys its') (hz:ys.length<=sizeLine) :
    Inv X pins σ (upd H l (.lst ys)) { s with heap:=s.heap.update l (Obj.mapSeq f),toks:=t' }:=by
  have q:=PySem.IsL.update e f;rw [hf] at q;refine I.write (x:=l) (e:=l) (by rw [hH]; exact trivial) (.inl rfl) (fun b' u hb hu=>(Heap.get?_update_other s.heap (Obj.mapSeq f) (Ne.symm hb)).trans hu) ⟨_,q⟩ ?_;exact ⟨hz,its',_,hv,q⟩
theorem Inv.lnew {its:List Value} {t':Nat} (I:Inv X pins σ H s) (hv:Vals ys its) (hz:ys.length<=sizeLine) :
    Inv X pins σ (upd H s.heap.objs.size (.lst ys)) { s with heap:=s.heap.push { cls:=.type "list",data:=.seq its.toArray },toks:=t' } :=
  I.laid (fun _ _ q=>Heap.get?_push_of_some _ q) (Zv _) ⟨hz,its,0,hv,Heap.get?_push_size _ rfl⟩
theorem Inv.fresh (I:Inv X pins σ H s):H s.heap.objs.size=none:=I.hok.fresh (Zv _)
theorem Inv.lstM (I:Inv X pins σ H s) (hH:H l=some (.lst xs)):xs.length<=sizeLine/\∃ (its:List Value) (n:Nat),Vals xs its/\xs.length=its.length/\s.heap.get? l=some { cls:=.type "list",data:=.seq its.toArray n }:=by
  obtain ⟨z,its,n,r,e⟩:=I.hok l _ hH;exact ⟨z,its,n,r,r.length,e⟩
end
section
variable {X:Cx}
def U1:V->List V->Hp->VK->Prop:=fun x vs H Q=>∃ l xs y,x=.ref l/\vs=[y]/\H l=some (.lst xs)/\xs.length < sizeLine/\Q .non (upd H l (.lst (xs++[y])))
theorem C9:MtM X "list.append" U1:=by
  intro pins s σ H x vs v us Q I rx rv h;obtain ⟨l,xs,y,rfl,rfl,hH,hz,q⟩:=h;cases rx;obtain ⟨u,rfl,ru⟩:=rv.one;obtain ⟨z,its,n,r,hl,e⟩:=I.lstM hH;refine call_meets F.slot_list_append ⟨_,e,rfl⟩ F.entry_list_append (F.args_list_append_2 _ _) (PySem.list_append l its.toArray n u (by rw [List.size_toArray]; omega)) ⟨e,?_⟩;refine ⟨.non,_,I.lset (its':=its++[u]) hH e (by simp) (r.append (.cons ru .nil)) ?_,rfl,q⟩;rw [Ze,List.length_singleton];omega
def rPop:V->List V->Hp->VK->Prop:=fun x vs H Q=>∃ l xs y,x=.ref l/\vs=[]/\H l=some (.lst xs)/\xs[xs.length - 1]?=some y/\Q y (upd H l (.lst xs.dropLast))
theorem B93:MtM X "list.pop" rPop:=by
  intro pins s σ H x vs v us Q I rx rv h;obtain ⟨l,xs,y,rfl,rfl,hH,hy,q⟩:=h;cases rx;have hus:=rv.zero;subst hus;obtain ⟨z,its,n,r,hl,e⟩:=I.lstM hH;obtain ⟨u,hu,ru⟩:=r.get hy;have hy':its.toArray[its.toArray.size - 1]?=some u:=by
    show its.toArray[its.length - 1]?=some u;rw [<- Array.getElem?_toList,<- hl];exact hu
  refine call_meets F.slot_list_pop ⟨_,e,rfl⟩ F.entry_list_pop (F.args_list_pop_1 _) (MeetsSeq.list_pop_last l its.toArray n u hy' (by rw [List.size_toArray]; omega)) ⟨e,?_⟩;refine ⟨y,_,I.lset (its':=its.dropLast) hH e ?_ r.dropLast ?_,ru,q⟩
  · show its.toArray.eraseIdxIfInBounds (its.toArray.size - 1)=its.dropLast.toArray
    rw [List.size_toArray,List.eraseIdxIfInBounds_toArray,A19]
  · rw [List.length_dropLast]
    omega
def A7h:V->List V->Hp->VK->Prop:=fun x vs H Q=>∃ l xs,x=.ref l/\vs=[]/\H l=some (.lst xs)/\Q .non (upd H l (.lst []))
theorem A1i:MtM X "list.clear" A7h:=by
  intro pins s σ H x vs v us Q I rx rv h;obtain ⟨l,xs,rfl,rfl,hH,q⟩:=h;cases rx;have hus:=rv.zero;subst hus;obtain ⟨z,its,n,r,hl,e⟩:=I.lstM hH;refine call_meets F.slot_list_clear ⟨_,e,rfl⟩ F.entry_list_clear (F.args_list_clear_1 _) (AutoSeq1.list_clear_list_0 l its.toArray n (by rw [List.size_toArray]; omega)) ⟨e,?_⟩;exact ⟨.non,_,I.lset (its':=[]) (ys:=[]) hH e rfl .nil (Nat.zero_le _),rfl,q⟩
end
section
variable {prog:Program} {w:World} {A:Around} {E:Value->Shared->Prop} {s:Shared}
end
section
variable {X:Cx}
end
end L2
namespace Att
open PySem PySem.W PySem.Calls PyProof.Rows
theorem Q3 {P:Params} {h:Heap}:∀ (ns:List Int) (vs:List Value),WellAll P h vs (ns.map WData.int)->IntsAre vs ns:=by
  intro ns;induction ns with
  | nil =>
    intro vs w;rw [List.map_nil] at w;cases w;exact .nil
  | cons n ns ih =>
    intro vs w;rw [List.map_cons] at w;cases w with
    | cons a b =>
      cases a;exact .cons _ _ (ih _ b)
theorem A2o {l:OpenLaw} {n:Nat} (hn:l.most=some n) {P:Params} {h:Heap} {args:List WData} {vals:List Value}
    (hpre:l.row.toRowW.claim.pre args=true) (hwl:WellAll P h vals args) :
    ∃ a vs ns,vals=[Value.ref a]/\args=[WData.list (ns.map WData.int)]/\h.get? a=some { cls:=.type "list",data:=.seq vs.toArray }/\IntsAre vs ns/\ns.length<=n:=by
  have hsh:WShape.hasAll [] args [.list .int]=true:=(pre_splitW hpre).1;have hc:l.pre.holds [] { args:=args }=true:=(pre_splitW hpre).2;obtain ⟨d,r,rfl,h1,h2⟩:=hasAllW_cons hsh;obtain rfl:=hasAllW_nil h2;obtain ⟨xs,rfl,h3⟩:=hasW_list h1;obtain ⟨ns,rfl⟩:=items_int h3;have hlen:ns.length<=n:=by
    unfold OpenLaw.pre at hc;have h4:(WTm.not (.lt (.lit (.int (n:Int))) (.len (.arg 0)))).holds [] { args:=[.list (ns.map .int)] }=true:=by
      have h4:=(holds_andW hc).1;rw [hn] at h4;exact h4
    have h5:=condW_of h4 (w_not (w_lt w_lit (w_len_list (w_arg rfl))));rw [Zl] at h5;refine Nat.le_of_not_lt fun q=>?_;have q':(n:Int) < ((ns.length:Nat):Int):=by omega
    first
      | (rw [Zk q'] at h5; exact absurd h5 (by decide))
      | (simp at h5; omega)
  cases hwl with
  | cons w1 w2 =>
    cases w2;cases w1 with
    | list ho hall=>exact ⟨_,_,ns,rfl,rfl,ho,Q3 ns _ hall,hlen⟩
theorem A26 (l:OpenLaw) (args:List WData):l.row.toRowW.claim.post args (.bool true) args=true :=
  postW_of (r:=l.row.toRowW) (X:=(true == true))
    (show WShape.has [] (.bool true) .bool=true by first | rfl | decide | simp [WShape.has,WShape.arms,WShape.armsAll])
    (show (WTm.eq .res (.lit (.bool true))).value [] { args:=args,res:=some (.bool true),after:=args }=some (.bool (true == true)) from w_eq_bool (w_res rfl) w_lit) rfl
theorem attach_call {l:OpenLaw} {n:Nat} {q:Program} {loose:List Str} {XP:(Str->Option Value)->Heap->Prop} {YP:World->Heap->Prop} {d:DefRec}
    (hn:l.most=some n) (hdf:d.params.defaults=[])
    (call:∀ (w:World) (s₀ s₁:Shared) (mg mb:Str->Option Value) (fa:Addr) (o:Obj) (pm cd doc:Value) (a:Addr) (vs:List Value) (ns:List Int),
      Ground q loose [] XP w s₀ mg mb s₁.heap->YP w s₁.heap ->
      s₁.heap.get? fa=some o->o.data=.func (docDef d.name d.params d.body d.scope pm cd doc)->s₁.heap.CodeRec cd d.name->mg d.name=some (.ref fa) ->
      s₁.heap.get? a=some { cls:=.type "list",data:=.seq vs.toArray }->IntsAre vs ns->ns.length<=n->s₁.gens=#[] ->
      codeAny (model l.prog w) callerA (.call (.ref fa) ⟨[.ref a],[]⟩) (fun r s'=>r=.ok (.ret (.bool true))/\OldK s₁.heap s'.heap/\s'.os=s₁.os/\AllBare s'.gens) s₁) :
    WalkO q loose XP YP l.row.toRowW d [] (fun f vs=>PySem.call f vs):=by
  intro w s₀ s₁ mg mb G Y fa o pm cd doc dV kV ho hd hcd hD hmg hg args vals as hpre hlay hrd hwl hlo;obtain rfl:dV=.none:=Dflts.none hD hdf;obtain rfl:kV=.none:=Dflts.noKw hD;obtain ⟨a,vs,ns,rfl,rfl,hobj,hints,hlen⟩:=A2o hn hpre hwl;refine enter_call (codeAny_mono (call w s₀ s₁ mg mb fa o pm cd doc a vs ns G Y ho (fd_plain hd) hcd hmg hobj hints hlen hg) fun r s' hq=>?_);obtain ⟨rfl,h2,h3,h4⟩:=hq;exact ⟨.inl ⟨.bool true,.bool true,[],rfl,fun _=>rfl,.bool true,A26 l _,fun _=>⟨List.Pairwise.nil,fun _ hm=>(nomatch hm)⟩⟩,h2,h3,h4⟩
section
variable {prog:Program} {w:World} {A:Around} {E:Value->Shared->Prop} {s:Shared} {K:Frag}
end
end Att
namespace L2
open PySem PySem.Spec PyProof.Rows
theorem V8:∀ {vs:List Value} {ns:List Int},IntsAre vs ns->Vals (ns.map V.int) vs
  | _,_,.nil=>.nil
  | _,_,.cons n t h=>.cons ⟨t,rfl⟩ (V8 h)
def Only (H:Hp):Prop:=∀ b,H b=none\/∃ o xs,H b=some (.frz o (.lst xs))
theorem A6b {P:Program} {w:World} {K:PySem.W.Frag} {mg mb:Str->Option Value} {CX:CXT} {k:Nat} {fa a:Addr} {fd:FuncData} {x:Str} {sp:Sp} {s₁:Shared} {vs:List Value} {ns:List Int}
    (KX:K.In s₁.heap) (hns:s₁.heap.Ns mainGlobals mg) (hb:s₁.heap.Ns builtinsNs mb) (hbb:∀ x:Str,x≠"__name__"->mb x=bootBuiltins x) (hlim:s₁.heap.NoLimit) (hg:s₁.gens=#[])
    (ha:s₁.heap.get? a=some { cls:=.type "list",data:=.seq vs.toArray }) (hi:IntsAre vs ns) (hl:ns.length<=sizeLine) (hr:Room k callerA)
    (F:∀ base:Heap,K.In base->base.Ns mainGlobals mg->FnOk P w K mg base CX k fa fd [x] sp) (hbind:∀ (s:Shared) (u:Value),BindsTo s fd ⟨[u],[]⟩ [(x,u)])
    (hsp:∀ H:Hp,Only H->SqL K H a (ns.map V.int)->sp [.ref a] H (fun v _=>v=.bl true) fun _ _ _=>False)
    (hCX:∀ H e s',CX [] H s₁ (fun _ _ _=>False) e s'->False) :
    codeAny (model P w) callerA (.call (.ref fa) ⟨[.ref a],[]⟩) (fun r s'=>r=.ok (.ret (.bool true))/\OldK s₁.heap s'.heap/\s'.os=s₁.os/\AllBare s'.gens) s₁:=by
  have rv:=V8 hi;have lenV:=hi.length;have core:∀ H:Hp,Only H->SqL K H a (ns.map V.int)->HOk P w H s₁.heap->(∀ b,H b≠none->b=a)->(H a≠none->K.lookup a=none) ->
      codeAny (model P w) callerA (.call (.ref fa) ⟨[.ref a],[]⟩) (fun r s'=>r=.ok (.ret (.bool true))/\OldK s₁.heap s'.heap/\s'.os=s₁.os/\AllBare s'.gens) s₁:=by
    intro H hO hS hok hA hK;have base_of:∀ {b:Addr} {o:Obj},s₁.heap.get? b=some o->H b=none->(hidT s₁.heap H).get? b=some o:=fun e n=>A6p e n;have noA:∀ {b:Addr} {o:Obj} {es:Array DictEntry} {ep:Nat},s₁.heap.get? b=some o->o.data=.dict es ep->H b=none:=fun {b o es ep} e d=>by
      cases q:H b with
      | none=>rfl
      | some u =>
        have e':b=a:=hA b (by rw [q]; simp);subst e';rw [ha] at e; cases e;have d':Data.seq vs.toArray _=Data.dict es ep:=d;cases d'
    have nsK:∀ {b:Addr} {m:Str->Option Value},s₁.heap.Ns b m->(hidT s₁.heap H).Ns b m:=fun {b m} ⟨o,es,ep,e,d,r⟩=>⟨o,es,ep,base_of e (noA e d),d,r⟩;have hKb:K.In (hidT s₁.heap H):=fun b o e=>base_of (KX b o e) (by
      cases q:H b with
      | none=>rfl
      | some u =>
        have e':b=a:=hA b (by rw [q]; simp);subst e';rw [hK (by rw [q]; simp)] at e; cases e)
    have hM:Mod K mg (hidT s₁.heap H):=⟨hKb,nsK hns,⟨mb,nsK hb,hbb⟩,let ⟨mc,h1,h2⟩:=hlim; ⟨mc,nsK h1,h2⟩⟩;have e0:Env0 P w K mg (hidT s₁.heap H) callerA [] s₁ H:=⟨rfl,hM,fun b o e=>B0k e,Nat.le_of_eq (A4h _ _),trivial,fun b hb=>absurd (show b ∈ ([]:List Addr) from hb) (by simp),hok,.of_eq hg⟩;refine codeAny_mono ((F _ hKb (nsK hns)).run callerA [] s₁ H ⟨[.ref a],[]⟩ [.ref a] [.ref a] _ _ hr e0 (hbind s₁ (.ref a)) (.cons rfl .nil) (hsp H hO hS)) fun r s' h=>?_;cases r with
    | error e=>exact (hCX H e s' h).elim
    | ok fl =>
      cases fl with
      | next=>exact False.elim h
      | brk=>exact False.elim h
      | cont=>exact False.elim h
      | ret u =>
        obtain ⟨v,H',os,bare,un,hok',r',q⟩:=h;have q':v=.bl true:=q;subst q';obtain rfl:u=Value.bool true:=r';refine ⟨rfl,OldK.of_keep fun b o e=>?_,os,bare⟩;cases q:H b with
        | none=>exact un.keep b o e q (by intro z; exact absurd (show b ∈ ([]:List Addr) from z) (by simp)) (by simp)
        | some u =>
          rcases hO b with z | ⟨ob,xs,z⟩
          · rw [q] at z; cases z
          · have z2:=un.frzs b ob _ z
            obtain ⟨e1,_⟩:=hok b _ z;obtain ⟨e2,_⟩:=hok' b _ z2;rw [e] at e1; cases e1;exact e2
  cases hk:K.lookup a with
  | some o =>
    have e:=KX a o hk;rw [ha] at e;cases e;refine core (fun _=>none) (fun _=>.inl rfl) (.inr ⟨_,vs.toArray,_,hk,rfl,rfl,rfl,by rw [List.size_toArray,lenV]; exact hl,by simpa using rv⟩) (fun b u z=>by have z':(none:Option HO)=some u:=z; cases z') (fun b z=>absurd rfl z) fun z=>absurd rfl z
  | none =>
    refine core (fun b=>if b=a then some (.frz { cls:=.type "list",data:=.seq vs.toArray } (.lst (ns.map V.int))) else none) (fun b=>?_) (.inl (.inr ⟨{ cls:=.type "list",data:=.seq vs.toArray },if_pos rfl⟩)) (fun b u z=>?_) (fun b z=>?_) fun _=>hk
    · by_cases hb:b=a
      · exact .inr ⟨_,_,if_pos hb⟩
      · exact .inl (if_neg hb)
    · by_cases hb:b=a
      · have z':=(if_pos hb).symm.trans z
        cases z';subst hb;exact ⟨ha,by rw [Zl]; exact hl,vs,_,rv,ha⟩
      · have z':=(if_neg hb).symm.trans z
        cases z'
    · by_cases hb:b=a
      · exact hb
      · exact absurd (if_neg hb) z
end L2
namespace L2
open PySem PySem.Spec PyProof.Rows
theorem A77 {l:PySem.W.OpenLaw} {n k:Nat} {q:Program} {loose:List Str} {XP:(Str->Option Value)->Heap->Prop} {YP:World->Heap->Prop} {d:DefRec} {K:Params->PySem.W.Frag} {CX:World->CXT} {sp:World->Sp} {x:Str}
    (hn:l.most=some n) (hn2:n<=sizeLine) (hdf:d.params.defaults=[]) (hr:Room k callerA)
    (hY:∀ (w:World) (h:Heap),YP w h->(K w.params).In h)
    (F:∀ (w:World) (mg:Str->Option Value) (fa:Addr) (h:Heap),(K w.params).In h->h.Ns mainGlobals mg->mg d.name=some (.ref fa) ->
      ∃ fd:FuncData,(∀ (s:Shared) (u:Value),BindsTo s fd ⟨[u],[]⟩ [(x,u)]) /\
        ∀ base:Heap,(K w.params).In base->base.Ns mainGlobals mg->FnOk l.prog w (K w.params) mg base (CX w) k fa fd [x] (sp w))
    (hsp:∀ (w:World) (H:Hp) (a:Addr) (ns:List Int),ns.length<=n->Only H->SqL (K w.params) H a (ns.map V.int)->sp w [.ref a] H (fun v _=>v=.bl true) fun _ _ _=>False)
    (hCX:∀ (w:World) (H:Hp) (s:Shared) (e:Value) (s':Shared),CX w [] H s (fun _ _ _=>False) e s'->False) :
    PySem.W.WalkO q loose XP YP l.row.toRowW d [] (fun f vs=>PySem.call f vs):=by
  refine Att.attach_call hn hdf fun w s₀ s₁ mg mb fa o pm cd doc a vs ns G Y ho hd hcd hmg hobj hints hlen hg=>?_;have KX:=hY w _ Y;obtain ⟨fd,hb,hF⟩:=F w mg fa _ KX G.T.g hmg;exact A6b KX G.T.g G.T.b G.T.builtins G.T.nolimit hg hobj hints (Zx hlen hn2) hr hF hb (fun H hO hS=>hsp w H a ns hlen hO hS) fun H e s'=>hCX w H s₁ e s'
end L2
namespace L2
open PySem PySem.Spec PyProof.Rows
abbrev CX0:CXT:=fun _ _ _ _ _ _=>False
abbrev E0:XK:=fun _ _ _=>False
theorem B8n {X:Cx}:A1w CX0 X E0:=fun _ _ _ _ _ _ _ h=>h.elim
structure Fun (K:PySem.W.Frag) (x qual:Str) (st:Stmt) (f:Addr) (fd:FuncData):Prop where
  ex:∃ (oc:Value) (od:Option Addr) (kV doc pm:Value) (an:Option Addr) (cdv ct:Value) (osl:Array (Option Value)),
    fd=PySem.W.fnOf x qual (G3 st) (F6 st) (A8 st) .none kV doc pm an cdv ct/\K.lookup f=some ⟨oc,od,.func fd,osl⟩/\PySem.W.codeIn K cdv qual=true
  kp:PySem.W.keepIn K (.ref f)=true
section
variable {P:Program} {w:World} {K:PySem.W.Frag} {mg:Str->Option Value} {base:Heap}
theorem Fun.ok {x qual:Str} {st:Stmt} {f:Addr} {fd:FuncData} {N ps:List Str} {k:Nat} {sp:Sp} (F:Fun K x qual st f fd) (S:FnScope N ps (A8 st)) (len:∀ vs H Q E,sp vs H Q E->vs.length=ps.length)
    (hbody:∀ (cdv:Value) (A:Around) (outer:List Env) (s:Shared) (H:Hp) (vs:List V) (Q:VK) (E:XK),Room k (A.deeper (envOfC qual (A8 st) s.heap.objs.size f cdv))->sp vs H Q E ->
      ∃ t,PSs (cxOf CX0 P w K mg base N qual (A8 st) f cdv A outer s H E).nox (F6 st) t/\t { nx:=fun _ H'=>Q .non H',rt:=Q } (O5 N vs) H):FnOk P w K mg base CX0 (k + 1) f fd ps sp:=by
  obtain ⟨oc,od,kV,doc,pm,an,cdv,ct,osl,rfl,lk,hcd⟩:=F.ex;refine B9n lk hcd S len fun A outer s H vs Q E hr hsp=>?_;obtain ⟨t,h,q⟩:=hbody cdv A outer s H vs Q E hr hsp;exact ⟨t,h.nox,q⟩
theorem Fun.binds {x qual:Str} {st:Stmt} {f:Addr} {fd:FuncData} {ps:List Str} (F:Fun K x qual st f fd)
    (h:∀ (kV doc pm:Value) (an:Option Addr) (cdv ct:Value) (us:List Value),us.length=ps.length->bindArgs (PySem.W.fnOf x qual (G3 st) (F6 st) (A8 st) .none kV doc pm an cdv ct) ⟨us,[]⟩=pure (ps.zip us)):Binds K fd ps []:=by
  obtain ⟨oc,od,kV,doc,pm,an,cdv,ct,osl,rfl,lk,hcd⟩:=F.ex;exact .all (h kV doc pm an cdv ct)
theorem A72 {x qual:Str} {st:Stmt} {f:Addr} {oc:Value} {od an:Option Addr} {osl:Array (Option Value)} {kV doc pm cdv ct:Value} (l:K.lookup f=some ⟨oc,od,.func (PySem.W.fnOf x qual (G3 st) (F6 st) (A8 st) .none kV doc pm an cdv ct),osl⟩)
    (c:PySem.W.codeIn K cdv qual=true) (k:PySem.W.keepIn K (.ref f)=true):Fun K x qual st f (PySem.W.fnOf x qual (G3 st) (F6 st) (A8 st) .none kV doc pm an cdv ct):=⟨⟨oc,od,kV,doc,pm,an,cdv,ct,osl,rfl,l,c⟩,k⟩
end
theorem M9 {n:Nat} (h:n<=1000):n < sizeLine:=Nat.lt_of_le_of_lt h (by decide)
section
variable {X:Cx}
theorem pv (i:Nat) {x:Str} {pos:Pos} (hN:X.N[i]?=some x:=by rfl) (hv:Vis X.env.scope x:=by first | exact Or.inl rfl | exact Or.inr (Or.inl rfl) | exact Or.inr (Or.inr rfl)) (hd:(x == ("__debug__":Str))=false:=by decide)
    (hcd:(x == ("__classdict__":Str))=false:=by decide):PE X (.Name x pos) (tVar i):=B35 hN hv hd hcd
end
theorem iteF {A B:Prop} (h:B):if false=true then A else B:=by
  rw [if_neg Bool.false_ne_true];exact h
theorem iteT {A B:Prop} (h:A):if true=true then A else B:=by
  rw [if_pos rfl];exact h
theorem ite2 {c A B:Prop} [Decidable c] (h1:c->A) (h2:¬ c->B):if c then A else B:=by
  by_cases h:c
  · rw [if_pos h]
    exact h1 h
  · rw [if_neg h]
    exact h2 h
def Same (H H':Hp):Prop:=∀ b o,H b=some o->H' b=some o
theorem Same.refl (H:Hp):Same H H:=fun _ _ h=>h
theorem Same.trans {H H1 H2:Hp} (a:Same H H1) (b:Same H1 H2):Same H H2:=fun c o h=>b c o (a c o h)
theorem Same.seq {K:PySem.W.Frag} {H H':Hp} {a:Addr} {xs:List V} (e:Same H H') (h:SqL K H a xs):SqL K H' a xs:=by
  rcases h with (h | ⟨o,h⟩) | h
  · exact .inl (.inl (e _ _ h))
  · exact .inl (.inr ⟨o,e _ _ h⟩)
  · exact .inr h
end L2
namespace My
def Sm (k:Nat) (x:Int):Prop:=x.natAbs < 2 ^ k
theorem Sm.mono {k l:Nat} {x:Int} (h:Sm k x) (e:k<=l):Sm l x:=Nat.lt_of_lt_of_le h (Zp (by decide) e)
theorem Sm.mul {k l:Nat} {x y:Int} (h:Sm k x) (g:Sm l y):Sm (k + l) (x * y):=by
  unfold Sm at *;rw [Int.natAbs_mul,Nat.pow_add];rcases Nat.eq_zero_or_pos y.natAbs with e | e
  · rw [e,Nat.mul_zero]; exact Nat.mul_pos (Nat.two_pow_pos _) (Nat.two_pow_pos _)
  · exact Nat.lt_of_lt_of_le (Nat.mul_lt_mul_of_pos_right h e) (Nat.mul_le_mul_left _ (Nat.le_of_lt g))
theorem Sm.add {k:Nat} {x y:Int} (h:Sm k x) (g:Sm k y):Sm (k + 1) (x + y):=by
  unfold Sm at *;rw [Nat.pow_succ];have:=Int.natAbs_add_le x y;omega
theorem Sm.neg {k:Nat} {x:Int} (h:Sm k x):Sm k (-x):=by
  unfold Sm at *;rw [Int.natAbs_neg]; exact h
theorem Sm.sub {k:Nat} {x y:Int} (h:Sm k x) (g:Sm k y):Sm (k + 1) (x - y):=by
  rw [Int.sub_eq_add_neg]; exact h.add g.neg
theorem Sm.le {k:Nat} {x y:Int} (h:Sm k x) (g:y.natAbs<=x.natAbs):Sm k y:=Nat.lt_of_le_of_lt g h
theorem Sm.log {k:Nat} {x:Int} (h:Sm k x) (hk:0 < k):x.natAbs.log2 < k:=by
  by_cases h0:x.natAbs=0
  · rw [h0]; exact hk
  · exact (Nat.log2_lt h0).mpr h
theorem A4i (a b:Int):Int.gcd b (a % b)=Int.gcd a b:=by
  have h:a % b=a + b * (-(a / b)):=by
    have:=Int.emod_def a b;rw [this,Int.mul_neg]; omega
  rw [h,Int.gcd_add_mul_left_right,Int.gcd_comm]
theorem B2l (a b:Int):Int.gcd (if a < 0 then -a else a) (if b < 0 then -b else b)=Int.gcd a b:=by
  unfold Int.gcd;congr 1
  · split <;> omega
  · split <;> omega
theorem A1o (a:Int) (h:0<=a):((Int.gcd a 0:Nat):Int)=a:=by
  rw [Int.gcd_zero_right]; omega
def sh (t b:Int):Int:=if b < 0 then -((Int.gcd t b:Nat):Int) else ((Int.gcd t b:Nat):Int)
theorem B3j {t b:Int} (h:b≠0):sh t b≠0:=by
  have:Int.gcd t b≠0:=fun e=>h (Int.gcd_eq_zero_iff.mp e).2;unfold sh; split <;> omega
theorem B3k (t b:Int):(sh t b).natAbs=Int.gcd t b:=by
  unfold sh; split <;> omega
theorem A0x (t b:Int):sh t b ∣ t:=by
  unfold sh; split
  · exact Int.neg_dvd.mpr (Int.gcd_dvd_left ..)
  · exact Int.gcd_dvd_left ..
theorem A5f (t b:Int):sh t b ∣ b:=by
  unfold sh; split
  · exact Int.neg_dvd.mpr (Int.gcd_dvd_right ..)
  · exact Int.gcd_dvd_right ..
theorem A32 {t b:Int} (h:b≠0):t.fdiv (sh t b)=(Rat.divInt t b).num:=by
  rw [Int.fdiv_eq_ediv_of_dvd (A0x t b),Rat.num_divInt,Int.gcd_comm b t];unfold sh;split
  · rename_i h1
    rw [Int.sign_eq_neg_one_of_neg h1,Int.ediv_neg,Int.neg_one_mul,Int.neg_ediv_of_dvd (Int.gcd_dvd_left ..)]
  · rename_i h1
    rw [Int.sign_eq_one_of_pos (by omega),Int.one_mul]
theorem B1f {t b:Int} (h:b≠0):b.fdiv (sh t b)=((Rat.divInt t b).den:Int):=by
  rw [Int.fdiv_eq_ediv_of_dvd (A5f t b),Rat.den_divInt,if_neg h,Int.gcd_comm b t];unfold sh;split
  · rename_i h1
    rw [Int.ediv_neg,Int.natCast_ediv];have e:(b.natAbs:Int)=-b:=by omega
    rw [e,Int.neg_ediv_of_dvd (Int.gcd_dvd_right ..)]
  · rename_i h1
    rw [Int.natCast_ediv];have e:(b.natAbs:Int)=b:=by omega
    rw [e]
theorem B6r (t b:Int):(Rat.divInt t b).num.natAbs<=t.natAbs:=by
  by_cases h:b=0
  · subst h; simp [Rat.divInt_zero]
  · rw [<- A32 h,Int.fdiv_eq_ediv_of_dvd (A0x t b)]
    have:=Int.natAbs_ediv_le_natAbs t (sh t b);exact this
theorem B75 {t b:Int} (h:b≠0):(Rat.divInt t b).den<=b.natAbs:=by
  rw [Rat.den_divInt,if_neg h];exact Nat.div_le_self _ _
def SmQ (k:Nat) (q:Rat):Prop:=Sm k q.num/\Sm k (q.den:Int)
theorem den0 (q:Rat):(q.den:Int)≠0:=by have:=q.den_nz; omega
theorem denp (q:Rat):0 < (q.den:Int):=by have:=q.den_nz; omega
theorem den2 (p q:Rat):(p.den:Int) * (q.den:Int)≠0:=Int.mul_ne_zero (den0 p) (den0 q)
theorem B3u (p q:Rat):Rat.divInt (p.num * q.den + q.num * p.den) ((p.den:Int) * q.den)=p + q:=by
  rw [<- Rat.divInt_add_divInt _ _ (den0 p) (den0 q),Rat.num_divInt_den,Rat.num_divInt_den]
theorem B3r (p q:Rat):Rat.divInt (p.num * q.den - q.num * p.den) ((p.den:Int) * q.den)=p - q:=by
  rw [<- Rat.divInt_sub_divInt _ _ (den0 p) (den0 q),Rat.num_divInt_den,Rat.num_divInt_den]
theorem B3s (p q:Rat):Rat.divInt (p.num * q.num) ((p.den:Int) * q.den)=p * q:=by
  rw [<- Rat.divInt_mul_divInt,Rat.num_divInt_den,Rat.num_divInt_den]
theorem B3t (p q:Rat):Rat.divInt (p.num * q.den) ((p.den:Int) * q.num)=p / q:=by
  rw [Rat.div_def,Rat.inv_def,<- Rat.divInt_mul_divInt,Rat.num_divInt_den]
def W:List Rat->Nat
  | []=>1
  | q :: r=>q.den * W r
def S:List Rat->Rat
  | []=>0
  | q :: r=>q + S r
end My
namespace My
def SmR (n d:Nat) (q:Rat):Prop:=Sm n q.num/\Sm d (q.den:Int)
theorem SmR.mono {n d n' d':Nat} {q:Rat} (h:SmR n d q) (h1:n<=n') (h2:d<=d'):SmR n' d' q:=⟨h.1.mono h1,h.2.mono h2⟩
theorem SmR.q {n d:Nat} {q:Rat} (h:SmR n d q) (h1:n<=3900) (h2:d<=3900):SmQ 3900 q:=⟨h.1.mono h1,h.2.mono h2⟩
theorem SmR.low {n d:Nat} {t b:Int} (h:Sm n t) (g:Sm d b) (hb:b≠0):SmR n d (Rat.divInt t b) :=
  ⟨h.le (B6r t b),g.le (by simpa using B75 hb)⟩
theorem SmR.add {a b c e:Nat} {p q:Rat} (h:SmR a b p) (g:SmR c e q):SmR (max (a + e) (c + b) + 1) (b + e) (p + q):=by
  rw [<- B3u];exact SmR.low (((h.1.mul g.2).mono (Nat.le_max_left ..)).add ((g.1.mul h.2).mono (Nat.le_max_right ..))) (h.2.mul g.2) (den2 p q)
theorem SmR.sub {a b c e:Nat} {p q:Rat} (h:SmR a b p) (g:SmR c e q):SmR (max (a + e) (c + b) + 1) (b + e) (p - q):=by
  rw [<- B3r];exact SmR.low (((h.1.mul g.2).mono (Nat.le_max_left ..)).sub ((g.1.mul h.2).mono (Nat.le_max_right ..))) (h.2.mul g.2) (den2 p q)
theorem SmR.mul {a b c e:Nat} {p q:Rat} (h:SmR a b p) (g:SmR c e q):SmR (a + c) (b + e) (p * q):=by
  rw [<- B3s];exact SmR.low (h.1.mul g.1) (h.2.mul g.2) (den2 p q)
theorem A3y {q:Rat} (h:q≠0):q.num≠0:=fun e=>h (Rat.num_eq_zero.mp e)
theorem B1a {q:Rat} (h:0 < q):0 < q.num:=by
  have:=(Rat.lt_iff 0 q).mp h;simpa using this
theorem SmR.div {a b c e:Nat} {p q:Rat} (h:SmR a b p) (g:SmR c e q) (hq:q≠0):SmR (a + e) (b + c) (p / q):=by
  rw [<- B3t];exact SmR.low (h.1.mul g.2) (h.2.mul g.1) (Int.mul_ne_zero (den0 p) (A3y hq))
theorem P2 {t b:Int} (h:0<=t) (hb:0 < b):0<=Rat.divInt t b:=(Rat.divInt_nonneg_iff_of_pos_right hb).mpr h
theorem B8h {t b:Int} (h:0 < t) (hb:0 < b):0 < Rat.divInt t b:=by
  refine Rat.lt_of_le_of_ne (P2 (by omega) hb) fun e=>?_;have h1:Rat.divInt 0 b=Rat.divInt t b:=by rw [Rat.zero_divInt]; exact e
  have:=(Rat.divInt_eq_divInt_iff (by omega) (by omega)).mp h1;have h2:t * b=0:=by simpa using this.symm
  rcases Int.mul_eq_zero.mp h2 with z | z <;> omega
theorem A1k (p q:Rat):decide (p.num * q.den < q.num * p.den)=decide (p < q):=by
  rw [Bool.eq_iff_iff,decide_eq_true_iff,decide_eq_true_iff,Rat.lt_iff]
def Dec:List (Rat × Rat)->Prop
  | []=>True
  | [_]=>True
  | c :: d :: r=>d.1 < c.1/\Dec (d :: r)
theorem Dec.tail {c:Rat × Rat} {r:List (Rat × Rat)} (h:Dec (c :: r)):Dec r:=by
  cases r with
  | nil=>trivial
  | cons d r=>exact h.2
theorem Dec.lt {c:Rat × Rat} {r:List (Rat × Rat)} (h:Dec (c :: r)):∀ d ∈ r,d.1 < c.1:=by
  induction r generalizing c with
  | nil=>intro d hd; exact absurd hd (by simp)
  | cons e r ih =>
    intro d hd;rcases List.mem_cons.mp hd with rfl | hd
    · exact h.1
    · have h3:=ih h.2 d hd
      have h4:e.1 < c.1:=h.1;grind
theorem Dec.snoc:∀ {r:List (Rat × Rat)} {c d:Rat × Rat},Dec (r++[c])->d.1 < c.1->Dec (r++[c]++[d])
  | [],c,d,_,h=>⟨h,trivial⟩
  | [e],c,d,hd,h=>⟨hd.1,h,trivial⟩
  | e :: f :: r,c,d,hd,h=>⟨hd.1,Dec.snoc (r:=f :: r) hd.2 h⟩
theorem Dec.get:∀ {l:List (Rat × Rat)} {i j:Nat} {c d:Rat × Rat},Dec l->l[i]?=some c->l[j]?=some d->i < j->d.1 < c.1
  | [],i,j,c,d,_,h,_,_=>by simp at h
  | e :: r,0,j + 1,c,d,hd,h,g,_=>by
    have h':e=c:=by simpa using h
    subst h';exact hd.lt d (Zm (by simpa using g))
  | e :: r,i + 1,j + 1,c,d,hd,h,g,hij=>Dec.get (l:=r) hd.tail (by simpa using h) (by simpa using g) (by omega)
end My
namespace L2
open PySem PySem.Spec PyProof.Rows
section
variable {X:Cx}
theorem T4 {x:Int} (h:My.Sm 8000 x):Builtin.Int.intBits x<=2 ^ 20:=by
  have e:(2:Nat) ^ 20=1048576:=by decide
  have h2:=h.log (by decide);unfold Builtin.Int.intBits;split <;> omega
def B25 (i j:Int):Prop:=My.Sm 8000 i/\My.Sm 8000 j
def B91 (_ j:Int):Prop:=j≠0/\My.Sm 8000 j
theorem C3:OpR X (binaryOp .Mult) (rI B25 fun i j=>.int (i * j)):=opI fun _ _ _ _ _ _ _ hc q=>mul_int q (.of_bits (T4 hc.1) (T4 hc.2))
theorem D6:OpR X (binaryOp .FloorDiv) (rI B91 fun i j=>.int (i.fdiv j)):=opI fun _ _ _ _ _ _ _ hc q =>
  floordiv_int hc.1 q (.inl (PyProof.noPylong_of_log2 (Nat.lt_of_lt_of_le (hc.2.log (by decide)) (by decide))))
def kitB (T c:String):Option Bool:=if (Value.type T == Value.type c)=true then some true else if PySem.W.kitMeta c=true then (fastBuiltinMro T).map (·.contains (Value.type c)) else none
theorem A6i (K:PySem.W.Frag) {T c:String} {b:Bool} (h:kitB T c=some b):PySem.W.kitOne K (.type T) (.type c)=some b:=h
def TyV (K:PySem.W.Frag) (H:Hp) (x:V) (T:String):Prop:=match x with
  | .non=>T="NoneType"
  | .bl _=>T="bool"
  | .int _=>T="int"
  | .str _=>T="str"
  | .ref a=>(T="list"/\∃ xs,SqL K H a xs)\/(T="tuple"/\∃ xs,SqT K H a xs)\/(T="dict"/\∃ kvs,H a=some (.dK kvs))
  | _=>False
theorem A0n:CallR X (.builtin "isinstance") (fun xs H Q=>∃ x c T b,xs=[x,.ty c]/\TyV X.K H x T/\kitB T c=some b/\Q (.bl b) H):=by
  intro pins s σ H xs us Q I r h;obtain ⟨x,c,T,b,rfl,ty,e,q⟩:=h;obtain ⟨u,v,rfl,ru,rv⟩:=Vals.two r;cases (show v=Value.type c from rv);have fin:∀ tk,EP X pins σ Q (.bool b) { s with toks:=tk }:=fun tk=>⟨.bl b,H,I.tok tk,rfl,q⟩;have e':=A6i X.K e;cases x with
  | non=>cases (show T=_ from ty); cases (show u=Value.none from ru); exact PySem.W.kia_one PySem.W.kitx_none I.kIn True.intro e' (fun z=>nomatch z) fin
  | bl y=>cases (show T=_ from ty); cases (show u=Value.bool y from ru); exact PySem.W.kia_one PySem.W.kitx_bool I.kIn True.intro e' (fun z=>nomatch z) fin
  | int i=>cases (show T=_ from ty); obtain ⟨t,q'⟩:=(show ∃ t,u=Value.int i t from ru); cases q'; exact PySem.W.kia_one PySem.W.kitx_int I.kIn True.intro e' (fun z=>nomatch z) fin
  | str y=>cases (show T=_ from ty); obtain ⟨t,q'⟩:=(show ∃ t,u=Value.str y t from ru); cases q'; exact PySem.W.kia_one PySem.W.kitx_str I.kIn True.intro e' (fun z=>nomatch z) fin
  | ref a =>
    cases (show u=Value.ref a from ru);rcases (show _\/_\/_ from ty) with ⟨rfl,xs,h⟩ | ⟨rfl,xs,h⟩ | ⟨rfl,kvs,h⟩
    · obtain ⟨its,_,⟨o,n,h1,h2,_⟩,_⟩:=I.list h
      exact PySem.W.kia_one PySem.W.kitx_list I.kIn ⟨o,h1,h2⟩ e' (fun z=>nomatch z) fin
    · obtain ⟨its,_,⟨o,h1,h2,_⟩,_⟩:=I.tuple h
      exact PySem.W.kia_one PySem.W.kitx_tuple I.kIn ⟨o,h1,h2⟩ e' (fun z=>nomatch z) fin
    · obtain ⟨_,_,vs,_,p⟩:=(show ObjOk X.prog X.w H s.heap a (.dK kvs) from I.hok a _ h)
      obtain ⟨o,es,ep,h1,h2,_⟩:=p;exact PySem.W.kia_one PySem.W.kitx_dict I.kIn ⟨o,h1,h2.1⟩ e' (fun z=>nomatch z) fin
  | byt _=>exact (show False from ty).elim
  | flt _=>exact (show False from ty).elim
  | ty _=>exact (show False from ty).elim
end
def encV:V->PyData
  | .int i=>.int i
  | .str x=>.str x
  | _=>.none
def encK:Key->PyData
  | .inl i=>.int i
  | .inr x=>.str x
def B2t (p:Key × V):PyData × PyData:=(encK p.1,encV p.2)
def NSI (xs:List V):Prop:=∀ c i,xs≠[V.str c,V.int i]
def SqD (K:PySem.W.Frag) (H:Hp) (a:Addr) (xs:List V):Prop:=SqT K H a xs/\(H a=some (.tup xs)\/NSI xs)
theorem SqD.of {K:PySem.W.Frag} {H:Hp} {a:Addr} {xs:List V} (h:H a=some (.tup xs)):SqD K H a xs:=⟨SqT.of h,.inl h⟩
mutual
inductive Den (K:PySem.W.Frag) (H:Hp):V->PyData->Prop
  | non:Den K H .non .none
  | bl (b:Bool):Den K H (.bl b) (.bool b)
  | int (i:Int):Den K H (.int i) (.int i)
  | str (x:Str):Den K H (.str x) (.str x)
  | lst {a:Addr} {xs:List V} {ds:List PyData}:SqL K H a xs->DenAll K H xs ds->Den K H (.ref a) (.list ds)
  | tup {a:Addr} {xs:List V} {ds:List PyData}:SqD K H a xs->DenAll K H xs ds->Den K H (.ref a) (.tuple ds)
  | dct {a:Addr} {kvs:List (Key × V)}:H a=some (.dK kvs)->Den K H (.ref a) (.dict (kvs.map B2t))
inductive DenAll (K:PySem.W.Frag) (H:Hp):List V->List PyData->Prop
  | nil:DenAll K H [] []
  | cons {x:V} {xs:List V} {d:PyData} {ds:List PyData}:Den K H x d->DenAll K H xs ds->DenAll K H (x :: xs) (d :: ds)
end
section
variable {X:Cx} {pins:List (Addr × Obj)} {σ:St} {H:Hp} {s:Shared}
mutual
theorem Den.reads (I:Inv X pins σ H s):∀ {x:V} {d:PyData} {u:Value},Den X.K H x d->RelV x u->d.canLay0=true->∃ as,Reads s.heap u d as
  | _,_,u,.non,r,_=>by cases (show u=Value.none from r); exact ⟨_,.none⟩
  | _,_,u,.bl b,r,_=>by cases (show u=Value.bool b from r); exact ⟨_,.bool b⟩
  | _,_,u,.int i,r,_=>by obtain ⟨t,q⟩:=(show ∃ t,u=Value.int i t from r); cases q; exact ⟨_,.int i t⟩
  | _,_,u,.str x,r,_=>by obtain ⟨t,q⟩:=(show ∃ t,u=Value.str x t from r); cases q; exact ⟨_,.str x t⟩
  | _,_,u,.lst (a:=a) h ds,r,cl=>by
    cases (show u=Value.ref a from r);obtain ⟨its,rv,⟨o,n,h1,h2,_,h3⟩,_⟩:=I.list h;obtain ⟨as,q⟩:=DenAll.reads I ds rv cl;exact ⟨_,.list h1 h2 h3 (by simpa using q)⟩
  | _,_,u,.tup (a:=a) h ds,r,cl=>by
    cases (show u=Value.ref a from r);obtain ⟨its,rv,⟨o,h1,h2,n,h3⟩,_⟩:=I.tuple h.1;obtain ⟨as,q⟩:=DenAll.reads I ds rv cl;exact ⟨_,.tuple h1 h2 h3 (by simpa using q)⟩
  | _,_,_,.dct _,_,cl=>absurd (show false=true from cl) Bool.false_ne_true
theorem DenAll.reads (I:Inv X pins σ H s):∀ {xs:List V} {ds:List PyData} {us:List Value},DenAll X.K H xs ds->Vals xs us->PyData.canLayAll0 ds=true->∃ as,ReadsAll s.heap us ds as
  | _,_,_,.nil,.nil,_=>⟨_,.nil⟩
  | _,d :: ds,_,.cons h t,.cons r rs,cl=>by
    have cl':(d.canLay0 && PyData.canLayAll0 ds)=true:=cl;rw [Bool.and_eq_true] at cl';obtain ⟨as,q⟩:=Den.reads I h r cl'.1;obtain ⟨bs,q'⟩:=DenAll.reads I t rs cl'.2;exact ⟨_,.cons q q'⟩
end
end
section
variable {X:Cx}
def rEqD (K:PySem.W.Frag):R2:=fun x y H Q=>∃ dx dy,Den K H x dx/\Den K H y dy/\dx.canLay0=true/\dy.canLay0=true/\dx.depth<=60/\Q (.bl (PyData.eqv dx dy)) H
def rNeD (K:PySem.W.Frag):R2:=fun x y H Q=>∃ dx dy,Den K H x dx/\Den K H y dy/\dx.canLay0=true/\dy.canLay0=true/\dx.depth<=60/\Q (.bl (!PyData.eqv dx dy)) H
theorem B5y (hu:X.A.units + 64 < cLine):OpR X (compareOp .Eq) (rEqD X.K):=by
  intro pins s σ H x y v u Q I rx ry h;obtain ⟨dx,dy,h1,h2,c1,c2,hd,q⟩:=h;obtain ⟨as,r1⟩:=h1.reads I rx c1;obtain ⟨bs,r2⟩:=h2.reads I ry c2;exact PySem.SeqAt.compareEq_reads r1 r2 c1 c2 (by omega) ⟨.bl _,H,I,rfl,q⟩
theorem B5w (hu:X.A.units + 64 < cLine):OpR X (compareOp .NotEq) (rNeD X.K):=by
  intro pins s σ H x y v u Q I rx ry h;obtain ⟨dx,dy,h1,h2,c1,c2,hd,q⟩:=h;obtain ⟨as,r1⟩:=h1.reads I rx c1;obtain ⟨bs,r2⟩:=h2.reads I ry c2;exact PySem.SeqAt.compareNe_reads r1 r2 c1 c2 (by omega) ⟨.bl _,H,I,rfl,q⟩
end
def Kp (p:Addr) (H H':Hp):Prop:=∀ b o,b≠p->H b=some o->H' b=some o
theorem Kp.upd {p:Addr} {H:Hp} {o:HO}:Kp p H (upd H p o):=fun b u n e=>by rw [C1 n]; exact e
theorem Kp.trans {p:Addr} {H H1 H2:Hp} (a:Kp p H H1) (b:Kp p H1 H2):Kp p H H2:=fun c o n e=>b c o n (a c o n e)
theorem Kp.refl {p:Addr} {H:Hp}:Kp p H H:=fun _ _ _ e=>e
theorem Same.kp {p:Addr} {H H':Hp} (a:Same H H'):Kp p H H':=fun b o _ e=>a b o e
theorem Same.upd {p:Addr} {H:Hp} {o:HO} (h:H p=none):Same H (upd H p o):=fun b u e=>by rw [C1 (C5 e h)]; exact e
theorem SqT.same {K:PySem.W.Frag} {H H':Hp} {a:Addr} {xs:List V} (e:Same H H') (h:SqT K H a xs):SqT K H' a xs:=by
  rcases h with (h | ⟨o,h⟩) | h
  · exact .inl (.inl (e _ _ h))
  · exact .inl (.inr ⟨o,e _ _ h⟩)
  · exact .inr h
theorem at0 {α:Type} {x:α} {xs:List α}:atI (x :: xs) 0=some x:=K6 (j:=0) rfl
theorem at1 {α:Type} {x y:α} {xs:List α}:atI (x :: y :: xs) 1=some y:=K6 (j:=1) rfl
theorem at2 {α:Type} {x y z:α} {xs:List α}:atI (x :: y :: z :: xs) 2=some z:=K6 (j:=2) rfl
theorem at3 {α:Type} {x y z w:α} {xs:List α}:atI (x :: y :: z :: w :: xs) 3=some w:=K6 (j:=3) rfl
end L2
namespace L2
open PySem PySem.Spec PyProof.Rows
theorem X7 {prog:Program} {w:World} {A:Around} {R:Result->Shared->Prop} {s:Shared} {elt target iter:Expr} {ifs:List Expr} {scope:Scope} {pos:Pos} {it acc:Value} {env:Env} (I:Nat->Shared->Prop)
    (turn:∀ n s,I n s->wpAny (model prog w) A (pyNext it) (fun r s₁=>match r with
      | none=>R (.ok .next) s₁
      | some v=>wpAny (model prog w) A (letOwnedTupleGo target it v) (fun _ s₁'=>wpAny (model prog w) A (assign target env v) (fun _ s₂ =>
          wpAny (model prog w) A (forIn ifs true fun c r=>if r=true then do let ok <- isTrue c env (eval c env); pure (ForInStep.yield ok) else pure (ForInStep.yield r)) (fun ok s₃ =>
            if ok=true then wpAny (model prog w) A (eval elt env) (fun x s₄ =>
              wpAny (model prog w) A (call (.builtin "list.append") [acc,x]) (fun _ s₅=>∃ m,m < n/\I m s₅) (fun _ _=>False) s₄) (fun _ _=>False) s₃
            else ∃ m,m < n/\I m s₃) (fun _ _=>False) s₂) (fun _ _=>False) s₁') (fun _ _=>False) s₁) (fun _ _=>False) s)
    (n:Nat) (h:I n s):codeAny (model prog w) A (.compLoop (.ListComp elt [⟨target,iter,ifs,0⟩] scope pos) 0 it acc env) R s:=by
  refine codeAny_loop rfl I (fun n s hI=>?_) n h;show wpAny _ A ((compTurn (.ListComp elt [⟨target,iter,ifs,0⟩] scope pos) 0 it acc env).onRaise (fun x=>do noteFrame x env; theTreesLotGoes x)) _ _ s;refine wpAny_noted ?_;rw [compTurn_list];refine wpAny_bind (wpAny_standAt (wpAny_bind (wpAny_mono (turn n s hI) (fun r s₁ h₁=>?_) fun _ _ h'=>h'.elim)));cases r with
  | none=>exact wpAny_pure h₁
  | some v =>
    refine wpAny_bind (wpAny_mono h₁ (fun _ s₁' h₁'=>?_) fun _ _ h'=>h'.elim);refine wpAny_bind (wpAny_mono h₁' (fun _ s₂ h₂=>wpAny_bind (wpAny_mono h₂ (fun ok s₃ h₃=>?_) fun _ _ h'=>h'.elim)) fun _ _ h'=>h'.elim);cases ok with
    | false=>exact wpAny_pure ⟨rfl,h₃⟩
    | true =>
      exact wpAny_bind (wpAny_bind (wpAny_mono h₃ (fun x s₄ h₄=>wpAny_bind (wpAny_mono h₄ (fun _ s₅ h₅=>wpAny_pure (wpAny_pure ⟨rfl,h₅⟩)) fun _ _ h'=>h'.elim)) fun _ _ h'=>h'.elim))
def PTs (X:Cx) (ifs:List Expr) (t:TT):Prop :=
  ∀ (pins:List (Addr × Obj)) (s:Shared) (σ:St) (H:Hp) (Q:Bool->Hp->Prop),Inv X pins σ H s->t σ H Q ->
    wpAny (model X.prog X.w) X.A (forIn ifs true fun c r=>if r=true then do let ok <- isTrue c X.env (eval c X.env); pure (ForInStep.yield ok) else pure (ForInStep.yield r)) (TP X pins σ Q) X.xe s
def tYes:TT:=fun _ H Q=>Q true H
theorem A8z {X:Cx}:PTs X [] tYes:=fun pins s σ H Q I h=>wpAny_tests_nil ⟨H,I,h⟩
theorem A8y {X:Cx} {c:Expr} {t:TT} (h:PT X c t):PTs X [c] t:=fun pins s σ H Q I hw=>wpAny_tests_one (h pins s σ H Q I hw)
def Cx.block (X:Cx) (scope:Scope) (cl:List (Str × Addr)) (N':List Str) (s2:Shared) (H2:Hp) (fp:List Addr):Cx where
  prog:=X.prog
  w:=X.w
  K:=X.K
  mg:=X.mg
  base:=X.base
  A:=X.A
  N:=N'
  s₀:=s2
  H₀:=H2
  env:=compEnvC scope cl s2.heap.objs.size X.env
  outer:=X.stack
  stack:=X.stack
  ex:=fp
  fn:=fun _=>false
  calm:=X.calm
  pn:=[]
  xe:=fun _ _=>False
structure CompSc (X:Cx) (scope:Scope) (cl:List (Str × Addr)) (N':List Str) (cap:List (Option Nat)):Prop where
  clos:closureFor scope X.env=pure cl
  sub:∀ x c,cl.lookup x=some c->X.env.cells.lookup x=some c
  has:∀ x,((relabel scope X.env).names.lookup x=some .cell\/(relabel scope X.env).names.lookup x=some .free)->∃ c,cl.lookup x=some c
  kind:scope.kind=.function
  cell:∀ y ∈ scope.names,y.2≠.cell
  names:∀ y ∈ scope.names,y.2=.local->scope.names.lookup y.1=some .local
  nd:N'.Nodup
  len:cap.length=N'.length
  noloc:∀ x c,cl.lookup x=some c->X.env.kindOf x≠some .local
  capt:∀ (i:Nat) (x:Str) (j:Nat),N'[i]?=some x->cap[i]?=some (some j)->X.N[j]?=some x/\((relabel scope X.env).names.lookup x=some .cell\/(relabel scope X.env).names.lookup x=some .free)/\Vis X.env.scope x/\∃ c,cl.lookup x=some c
def capσ (cap:List (Option Nat)) (σ:St):St:=cap.map fun o=>o.bind fun j=>(σ[j]?).join
section
variable {X:Cx} {pins:List (Addr × Obj)} {σ:St} {H:Hp} {s:Shared} {scope:Scope} {cl:List (Str × Addr)} {N':List Str} {cap:List (Option Nat)} {fp:List Addr}
theorem A63 (I:Inv X pins σ H s) (C:CompSc X scope cl N' cap) (hf:∀ b ∈ fp,FpOk X pins H b) (ho:∀ b ∈ fp,∃ o,s.heap.get? b=some o):(X.block scope cl N' s H fp).Ok where
  mod:=I.ok.mod
  kind:=C.kind
  glob:=I.ok.glob
  blt:=I.ok.blt
  above:=Zv _
  inj:=fun x y c h1 h2=>I.ok.inj x y c (C.sub x c h1) (C.sub y c h2)
  has:=fun x h=>C.has x h
  cab:=fun x c h _=>absurd (show false=true from h) Bool.false_ne_true
  hd:=I.ok.hd
  frames:=I.ok.frames
  stk:=.inl rfl
  exf:=fun b hb=>⟨fun z=>by
    obtain ⟨o,e⟩:=ho b hb;exact absurd (Heap.lt_size e) (by rw [z]; exact Nat.lt_irrefl _),fun x c h=>(hf b hb).2.2.2.2.1 x c (C.sub x c h)⟩
  bs:=I.bs
  bsz:=Zx I.ok.bsz I.sz
  noex:=fun b o e hb=>by
    rcases (hf b hb).2.2.2.1 with z | z
    · exact I.ok.noex b o e z
    · exact absurd (Nat.lt_of_lt_of_le (Heap.lt_size e) (Zx I.ok.bsz z)) (Nat.lt_irrefl _)
  exfs:=fun b hb z=>by
    rcases List.mem_cons.mp (I.stkSub b z) with e | e
    · exact (hf b hb).2.1 e
    · exact (hf b hb).2.2.1 e
  funs:=I.stack
  frf:=I.stkFree
theorem A40 {h1:Heap} {tk:Nat} {m:Str->Option Value} (I:Inv X pins σ H s) (C:CompSc X scope cl N' cap) (hf:∀ b ∈ fp,FpOk X pins H b) (ho:∀ b ∈ fp,∃ o,s.heap.get? b=some o)
    (hn:h1.Ns s.heap.objs.size m) (hk:∀ b o,s.heap.get? b=some o->h1.get? b=some o):Inv (X.block scope cl N' s H fp) [] (capσ cap σ) H { s with heap:=h1,toks:=tk } where
  ok:=A63 I C hf ho
  os:=rfl
  bare:=I.bare
  base:=Un.kept hk
  loc:=⟨m,hn,fun i x v h1' h2 h3=>by
    unfold capσ at h2;rw [Zh] at h2;cases e:cap[i]? with
    | none=>rw [e] at h2; cases h2
    | some o =>
      rw [e] at h2;cases o with
      | none=>cases h2
      | some j =>
        obtain ⟨q1,q2,q3,c,q4⟩:=C.capt i x j h1' e;have hv:(σ[j]?).join=some v:=Zj h2;have hσ:σ[j]?=some (some v):=by
          cases z:σ[j]? with
          | none=>rw [z] at hv; cases hv
          | some y=>rw [z] at hv; cases (show y=some v from hv); rfl
        obtain ⟨m0,hn0,hl0⟩:=I.loc;obtain ⟨u,r,l⟩:=hl0 j x v q1 hσ q3;refine ⟨u,r,.inr ⟨q2,c,q4,?_⟩⟩;rcases l with ⟨l1,_⟩ | ⟨_,c',l2,l3⟩
        · exact absurd l1 (C.noloc x c q4)
        · have:=C.sub x c q4
          rw [l2] at this;cases this;exact l3.keeps hk⟩
  cell:=fun x c h=>by
    obtain ⟨v,z⟩:=I.cell x c (C.sub x c h);exact ⟨v,z.keeps hk⟩
  free:=I.hok.fresh (Zv _)
  freeC:=fun x c h=>I.freeC x c (C.sub x c h)
  pin:=fun p hp=>absurd (show p ∈ ([]:List (Addr × Obj)) from hp) (by simp)
  hok:=I.hok.kept hk
  len:=by unfold capσ; rw [Zl]; exact C.len
theorem A4z {H':Hp} {s':Shared} {h':Heap} {σ':St} {pl:List (Addr × Obj)} (I:Inv X pins σ H s) (J:Inv (X.block scope cl N' s H fp) pl σ' H' s') (hf:∀ b ∈ fp,FpOk X pins H b) (hs:Heap.SameBut s.heap.objs.size s'.heap h') :
    Inv X pins σ H' { s' with heap:=h' }:=by
  have ne:∀ b o,s.heap.get? b=some o->b≠s.heap.objs.size:=fun b o e=>Nat.ne_of_lt (Heap.lt_size e);have B:Un (frs X.stack) fp H H' s.heap s'.heap:=J.base;refine I.call' (s':={ s' with heap:=h' }) (ch:=fp) J.os ⟨fun b o e n h1 h2=>?_,fun b o e n h1 h2=>?_,B.free,fun b o e h2=>?_,B.tups,B.frzs,B.tbls⟩ ?_ J.bare (fun b hb=>?_)
  · show h'.get? b=some o
    rw [hs.2 b (ne b o e)]; exact B.keep b o e n h1 h2
  · show ∃ sl,h'.get? b=_
    rw [hs.2 b (ne b o e)]; exact B.slot b o e n h1 h2
  · show ∃ o',h'.get? b=_
    rw [hs.2 b (ne b o e)]; exact B.there b o e h2
  · intro b u e
    have hfree:H' s.heap.objs.size=none:=J.free;have nC:∀ c v,H' c=some v->c≠s.heap.objs.size:=fun c v q z=>by rw [z,hfree] at q; cases q
    refine (J.hok b u e).stay (fun c v hc q=>?_) (fun _ q=>q) fun _ _ q=>q;show h'.get? c=some v;have:c≠s.heap.objs.size:=by
      rcases hc with z | z
      · rw [z]; exact nC b u e
      · exact nC c _ z
    rw [hs.2 c this]; exact q
  · obtain ⟨f0,f1,f2,f3,f4,f5⟩:=hf b hb
    exact ⟨f3,f1,f4,f5⟩
end
def X8 (J:It) (g:TG) (tt:TT) (te:TE) (D:Addr) (Fin:Hp->Prop) (σ0:St) (H1:Hp):Prop :=
  ∃ W:Nat->Nat->St->Hp->List V->Prop,(∃ m,W 0 m σ0 (upd H1 D (.lst [])) [])/\∀ i m σ' H' ys,W i m σ' H' ys->H' D=some (.lst ys)/\ys.length < sizeLine /\
    ((J.stop i H'/\Fin H')\/(J.go i H'/\∀ x H2,J.yld i H' x H2->g x σ' H2 fun σ2 H3=>tt σ2 H3 fun b H4=>if b=true then
      te σ2 H4 fun y H5=>∃ zs,H5 D=some (.lst zs)/\zs.length < sizeLine/\∃ m',m' < m/\W (i + 1) m' σ2 (upd H5 D (.lst (zs++[y]))) (zs++[y])
      else ∃ m',m' < m/\W (i + 1) m' σ2 H4 ys))
def A5c (wi:TI) (g:TG) (tt:TT) (te:TE) (cap:List (Option Nat)):TE:=fun σ H Q=>wi σ H fun J H1=>∀ D,H1 D=none->X8 J g tt te D (fun H'=>Q (.ref D) H') (capσ cap σ) H1
section
variable {X:Cx} {scope:Scope} {cl:List (Str × Addr)} {N':List Str} {cap:List (Option Nat)} {elt tg iter:Expr} {ifs:List Expr} {wi:TI} {g:TG} {tt:TT} {te:TE} {pos:Pos}
theorem Y5 {pins:List (Addr × Obj)} {σ:St} {H2:Hp} {s2:Shared} {it:Addr} {fp:List Addr} {tn:Nat->Heap->Prop} {J:It} {E:Value->Shared->Prop} {RR:Value->Addr->Result->Shared->Prop} {Fin:Addr->Hp->Prop}
    (hc:X.calm=true) (C:CompSc X scope cl N' cap) (I2:Inv X pins σ H2 s2) (T:Turn X.prog X.w X.K tg J fp it tn) (st2:tn 0 s2.heap) (f2:∀ b ∈ fp,FpOk X pins H2 b)
    (hg:∀ s3 H3 fp,PG (X.block scope cl N' s3 H3 fp) tg g) (ht:∀ s3 H3 fp,PTs (X.block scope cl N' s3 H3 fp) ifs tt) (he:∀ s3 H3 fp,PE (X.block scope cl N' s3 H3 fp) elt te)
    (go:∀ D,H2 D=none->X8 J g tt te D (Fin D) (capσ cap σ) H2)
    (out:∀ (D C:Addr) (s':Shared) (m:Str->Option Value) (H':Hp),s'.heap.Ns C m->C≠X.env.locals->H' C=none->X.s₀.heap.objs.size<=C->(∀ x c,X.env.cells.lookup x=some c->c≠C)->(∀ p ∈ X.pn++pins,p.1≠C)->Fin D H'->Inv X pins σ H' s'->RR (.ref D) C (.ok .next) s') :
    wpAny (model X.prog X.w) X.A (newList []) (fun acc s₃=>wpAny (model X.prog X.w) X.A (newFunctionEnv scope X.env.globals cl [] X.env.qual none .none (some X.env)) (fun cenv s₄ =>
      codeAny (model X.prog X.w) X.A (.compStart (.ListComp elt [⟨tg,iter,ifs,0⟩] scope pos) 0 (.ref it) acc { cenv with scope:=relabel scope X.env }) (RR acc cenv.locals) s₄) E s₃) E s2:=by
  refine wpAny_newObj_type (wpAny_newFunctionEnv C.cell (by intro y hy; simp at hy) (fun h₁ hns₁ hsb₁=>?_) C.kind);have hD:H2 s2.heap.objs.size=none:=I2.hok.fresh (Zv _);obtain ⟨W,⟨m0,w0⟩,turn⟩:=go _ hD;have I3:Inv X pins σ (upd H2 s2.heap.objs.size (.lst [])) { s2 with heap:=s2.heap.push { cls:=.type "list",dict:=none,data:=.seq ([]:List Value).toArray } } :=
    I2.laid (t':=s2.toks) (o:=.lst []) (fun b u e=>Heap.get?_push_of_some _ e) (Zv _) ⟨Nat.zero_le _,[],0,.nil,Heap.get?_push_size _ rfl⟩
  have f3:∀ b ∈ fp,FpOk X pins (upd H2 s2.heap.objs.size (.lst [])) b:=fun b hb=>by
    obtain ⟨f0,fr⟩:=f2 b hb;obtain ⟨o,e,_⟩:=T.obj _ _ st2 b hb;exact ⟨by rw [C1 (Nat.ne_of_lt (Heap.lt_size e))]; exact f0,fr⟩
  generalize hs3:({ s2 with heap:=s2.heap.push { cls:=.type "list",dict:=none,data:=.seq ([]:List Value).toArray } }:Shared)=s3 at hns₁ hsb₁ I3 ⊢;have o3:∀ b o,s2.heap.get? b=some o->s3.heap.get? b=some o:=fun b o e=>by rw [<- hs3]; exact Heap.get?_push_of_some _ e
  have hk:∀ b o,s3.heap.get? b=some o->h₁.get? b=some o:=fun b o e=>by
    rw [hsb₁.2 b (Nat.ne_of_lt (Heap.lt_size e))]; exact Heap.get?_push_of_some _ e
  have st3:tn 0 s3.heap:=T.keep _ _ _ st2 fun b _ o e=>o3 b o e;have ho:∀ b ∈ fp,∃ o,s3.heap.get? b=some o:=fun b hb=>let ⟨o,e,_⟩:=T.obj _ _ st3 b hb; ⟨o,e⟩;have I4:=A40 (tk:=s3.toks + ([]:List (Str × Value)).length) I3 C f3 ho hns₁ hk;have st4:tn 0 h₁:=T.keep _ _ _ st3 fun b _ o e=>hk b o e;have hX:∀ {H':Hp} {pl:List (Addr × Obj)},(∀ b ∈ fp,H' b=none)->(∀ p ∈ pl,p.1 ∉ fp)->∀ b ∈ fp,FpOk (X.block scope cl N' s3 (upd H2 s2.heap.objs.size (.lst [])) fp) pl H' b:=fun {H' pl} hn hp b hb=>by
    refine ⟨hn b hb,I4.ok.exf b hb |>.1,I4.ok.exfs b hb,.inl hb,(I4.ok.exf b hb).2,fun p hp' z=>?_⟩;have hp'':p ∈ pl:=by simpa [Cx.block] using hp'
    exact hp p hp'' (by rw [z]; exact hb)
  have fr3:∀ b ∈ fp,(upd H2 s2.heap.objs.size (.lst [])) b=none:=fun b hb=>(f3 b hb).1;have loop:∀ s₅:Shared,s₅={ s3 with heap:=h₁,toks:=s3.toks + ([]:List (Str × Value)).length } ->
      codeAny (model X.prog X.w) X.A (.compLoop (.ListComp elt [⟨tg,iter,ifs,0⟩] scope pos) 0 (.ref it) (.ref s2.heap.objs.size) (compEnvC scope cl s3.heap.objs.size X.env)) (RR (.ref s2.heap.objs.size) s3.heap.objs.size) s₅:=by
    rintro s₅ rfl;refine X7 (fun n s'=>∃ i σ' H' ys,Inv (X.block scope cl N' s3 (upd H2 s2.heap.objs.size (.lst [])) fp) [] σ' H' s'/\tn i s'.heap/\(∀ b ∈ fp,H' b=none)/\W i n σ' H' ys) ?_ m0 ⟨0,_,_,[],I4,st4,fr3,w0⟩;rintro n s6 ⟨i,σ6,H6,ys,I6,st6,fr6,w6⟩;obtain ⟨hl6,hz6,hgo⟩:=turn i n σ6 H6 ys w6;rcases hgo with ⟨stop,fin⟩ | ⟨go',step⟩
    · refine wpAny_mono (T.done (X.block scope cl N' s3 (upd H2 s2.heap.objs.size (.lst [])) fp) rfl rfl rfl hc i [] s6 σ6 H6 (fun _ _=>False) I6 (hX fr6 (fun _ z=>nomatch z)) st6 stop) (fun r s7 ⟨hr,I7⟩=>?_) fun _ _ z=>z.elim
      subst hr;obtain ⟨m7,hn7,_⟩:=id I7.loc;refine out _ _ s7 m7 H6 hn7 (Nat.ne_of_gt I3.lt) I7.free I3.sz (fun x c e z=>?_) (fun p hp z=>?_) fin (A4z I3 I7 f3 (.refl ..))
      · obtain ⟨v,q⟩:=I3.cell x c e
        exact absurd q.lt (by rw [z]; exact Nat.lt_irrefl _)
      · exact absurd (Heap.lt_size (I3.pin p hp).1) (by rw [z]; exact Nat.lt_irrefl _)
    · refine wpAny_mono (T.item (X.block scope cl N' s3 (upd H2 s2.heap.objs.size (.lst [])) fp) rfl rfl rfl hc i [] s6 σ6 H6 (fun _ _=>False) I6 (hX fr6 (fun _ z=>nomatch z)) st6 go') (fun r s7 ⟨u,hr,h7⟩=>?_) fun _ _ z=>z.elim
      subst hr;refine wpAny_mono h7 (fun _ s8 ⟨x,H8,I8,r8,y8,st8,fr8⟩=>?_) fun _ _ z=>z.elim;have I8':=I8.pinned (hX fr8 (fun _ z=>nomatch z)) (T.obj _ _ st8);have again:∀ {s9:Shared} {σ9:St} {H9:Hp},Inv (X.block scope cl N' s3 (upd H2 s2.heap.objs.size (.lst [])) fp) ([]++W7 fp s8.heap) σ9 H9 s9->∀ {zs:List V},(∃ m',m' < n/\W (i + 1) m' σ9 H9 zs) ->
          ∃ m,m < n/\∃ i σ' H' ys,Inv (X.block scope cl N' s3 (upd H2 s2.heap.objs.size (.lst [])) fp) [] σ' H' s9/\tn i s9.heap/\(∀ b ∈ fp,H' b=none)/\W i m σ' H' ys:=fun {s9 σ9 H9} I9 {zs} ⟨m',hm,w9⟩=>by
        refine ⟨m',hm,i + 1,σ9,H9,zs,I9.unpinned,T.keep _ _ _ st8 fun b hb o e=>(I9.pin (b,o) (Zw _ (Zw _ (L9 hb e)))).1,fun b hb=>?_,w9⟩;obtain ⟨o,e,d⟩:=T.obj _ _ st8 b hb;exact (I9.pin (b,o) (Zw _ (Zw _ (L9 hb e)))).2.1
      refine wpAny_mono (hg _ _ _ _ s8 σ6 H8 x u _ I8' r8 (step x H8 y8)) (fun _ s9 ⟨σ9,H9,I9,q9⟩=>?_) fun _ _ z=>z.elim;refine wpAny_mono (ht _ _ _ _ s9 σ9 H9 _ I9 q9) (fun ok s10 ⟨H10,I10,q10⟩=>?_) fun _ _ z=>z.elim;cases ok with
      | false=>exact again I10 q10
      | true =>
        rw [if_pos rfl];refine wpAny_mono (he _ _ _ _ s10 σ9 H10 _ I10 q10) (fun yv s11 ⟨y,H11,I11,r11,zs,hz,hlen,q11⟩=>?_) fun _ _ z=>z.elim;refine wpAny_mono (C9 (X:=X.block scope cl N' s3 (upd H2 s2.heap.objs.size (.lst [])) fp) _ s11 σ9 H11 (.ref s2.heap.objs.size) [y] (.ref s2.heap.objs.size) [yv] (fun _ H'=>∃ m',m' < n/\W (i + 1) m' σ9 H' (zs++[y])) I11 rfl (.cons r11 .nil) ⟨_,zs,y,rfl,rfl,hz,hlen,q11⟩) (fun _ s12 ⟨_,H12,I12,_,q12⟩=>?_) fun _ _ z=>z.elim;exact again I12 q12
  exact codeAny_compStart_list (loop _ rfl) (T.self _ 0 _ _ _ st4 (loop _ rfl))
theorem A89 (hc:X.calm=true) (C:CompSc X scope cl N' cap) (hi:PI X tg iter wi) (hg:∀ s3 H3 fp,PG (X.block scope cl N' s3 H3 fp) tg g) (ht:∀ s3 H3 fp,PTs (X.block scope cl N' s3 H3 fp) ifs tt)
    (he:∀ s3 H3 fp,PE (X.block scope cl N' s3 H3 fp) elt te) (hs:∀ x,foldedSetIterable iter X.env x=pure x:=by intro _; rfl):PE X (.ListComp elt [⟨tg,iter,ifs,0⟩] scope pos) (A5c wi g tt te cap):=by
  intro pins s σ H Q I h;rw [eval_ListComp];refine wpAny_comprehension_free (use:=none) rfl hs C.clos C.kind C.names (thn (hi pins s σ H _ I h) fun v s1 h1=>thn h1 fun itv s2 h2=>?_);obtain ⟨it,fp,tn,J,H2,e,I2,T,st2,f2,go⟩:=h2;subst e;refine Y5 (RR:=fun acc C=>compPost (model X.prog X.w) X.A X.xe none (EP X pins σ Q) acc C) (Fin:=fun D H'=>Q (.ref D) H') hc C I2 T st2 f2 hg ht he go ?_;intro D C' s' m H' hn n1 n2 n3 n4 n5 fin inv;exact ⟨m,hn,fun h' hs'=>⟨.ref D,H',inv.turned (t':=s'.toks) (fun b o hb e=>(hs'.2 b hb).trans e) n2 n1 (.inr n3) n4 n5,rfl,fin⟩⟩
end
end L2
namespace L2
open PySem PySem.Spec PyProof.Rows
def Y0 (env:Env):List (Str × NameKind)->List (Str × Addr)->List (Str × Addr)
  | [],acc=>acc
  | (n,k) :: r,acc=>Y0 env r (if (k == .free)=true then (n,(env.cells.lookup n).getD 0) :: acc else acc)
theorem V0 {env:Env}:∀ (l:List (Str × NameKind)) (acc:List (Str × Addr)),(∀ p ∈ l,p.2=.free->(env.cells.lookup p.1).isSome=true) ->
    (forIn l acc (fun x s=>match x with
      | (name,kind)=>if (kind == NameKind.free)=true then do
          let a <- cellOf env name
          pure (ForInStep.yield ((name,a) :: s))
        else pure (ForInStep.yield s)):Sem (List (Str × Addr)))=pure (Y0 env l acc)
  | [],acc,_=>rfl
  | (n,k) :: r,acc,h=>by
    rw [List.forIn_cons];have hr:=fun p hp=>h p (Zr _ hp);by_cases hk:(k == NameKind.free)=true
    · have h1:=h (n,k) Zy (by simpa using hk)
      obtain ⟨c,hc⟩:=Option.isSome_iff_exists.mp h1;have hc:env.cells.lookup n=some c:=hc;have e1:cellOf env n=pure c:=by unfold cellOf; rw [hc]
      simp only [hk,if_true,e1,pure_bind];rw [V0 r _ hr];show _=pure (Y0 env r (if (k == .free)=true then (n,(env.cells.lookup n).getD 0) :: acc else acc));rw [if_pos hk,hc];rfl
    · simp only [hk,Bool.false_eq_true,if_false,pure_bind]
      rw [V0 r _ hr];show _=pure (Y0 env r (if (k == .free)=true then (n,(env.cells.lookup n).getD 0) :: acc else acc));rw [if_neg hk]
theorem X9 {env:Env}:∀ (l:List (Str × NameKind)) (acc:List (Str × Addr)) (p:Str × Addr),p ∈ Y0 env l acc->p ∈ acc\/((p.1,NameKind.free) ∈ l/\p.2=(env.cells.lookup p.1).getD 0)
  | [],acc,p,h=>.inl h
  | (n,k) :: r,acc,p,h=>by
    rcases X9 r _ p h with z | ⟨z,e⟩
    · by_cases hk:(k == NameKind.free)=true
      · rw [if_pos hk] at z
        rcases List.mem_cons.mp z with rfl | z
        · right
          have:k=.free:=by simpa using hk
          subst this;exact ⟨Zy,rfl⟩
        · exact .inl z
      · rw [if_neg hk] at z
        exact .inl z
    · exact .inr ⟨Zr _ z,e⟩
theorem Q5 {env:Env}:∀ (l:List (Str × NameKind)) (acc:List (Str × Addr)) (x:Str),((∃ c,(x,c) ∈ acc)\/(x,NameKind.free) ∈ l)->∃ c,(x,c) ∈ Y0 env l acc
  | [],acc,x,h=>by
    rcases h with h | h
    · exact h
    · exact absurd h (by simp)
  | (n,k) :: r,acc,x,h=>by
    refine Q5 r _ x ?_;rcases h with ⟨c,h⟩ | h
    · left
      by_cases hk:(k == NameKind.free)=true
      · rw [if_pos hk]; exact ⟨c,Zr _ h⟩
      · rw [if_neg hk]; exact ⟨c,h⟩
    · rcases List.mem_cons.mp h with e | h
      · left
        cases e;rw [if_pos (by rfl)];exact ⟨_,Zy⟩
      · exact .inr h
theorem K4 {β:Type} {x:Str}:∀ {l:List (Str × β)} {c:β},(x,c) ∈ l->∃ c',l.lookup x=some c'
  | (n,d) :: r,c,h=>by
    by_cases e:x=n
    · subst e; exact ⟨d,by simp [List.lookup_cons]⟩
    · rcases List.mem_cons.mp h with z | z
      · cases z; exact absurd rfl e
      · obtain ⟨c',q⟩:=K4 z
        refine ⟨c',?_⟩;rw [List.lookup_cons];have:(x == n)=false:=by simpa using e
        rw [this]; exact q
theorem M0 {scope:Scope} {env:Env} {x:Str} {k:NameKind} (hcell:∀ y ∈ scope.names,y.2≠.cell) (h:(relabel scope env).names.lookup x=some k) (hk:k=.cell\/k=.free):(x,NameKind.free) ∈ scope.names:=by
  have h1:=PySem.mem_of_lookup h;obtain ⟨⟨n,k'⟩,hm,e⟩:=List.mem_map.mp (show (x,k) ∈ scope.names.map _ from h1);dsimp only at e;split at e
  · rename_i q
    cases e;simp only [Bool.and_eq_true] at q;have:k'=.free:=by simpa using q.1.1
    subst this;exact hm
  · cases e
    rcases hk with rfl | rfl
    · exact absurd rfl (hcell _ hm)
    · exact hm
theorem L1 {env:Env} {x:Str}:∀ {l:List (Str × NameKind)},l.lookup x=some .free ->
    (l.map fun (n,k)=>if (k == NameKind.free && env.scope.kind == .function && env.kindOf n == some .cell) then (n,NameKind.cell) else (n,k)).lookup x=some .cell \/
    (l.map fun (n,k)=>if (k == NameKind.free && env.scope.kind == .function && env.kindOf n == some .cell) then (n,NameKind.cell) else (n,k)).lookup x=some .free
  | [],h=>by simp at h
  | (n,k) :: r,h=>by
    rw [List.lookup_cons] at h;rw [List.map_cons];dsimp only;by_cases e:(x == n)=true
    · rw [e] at h
      have hk:k=.free:=by simpa using h
      subst hk;by_cases q:(NameKind.free == NameKind.free && env.scope.kind == .function && env.kindOf n == some .cell)=true
      · left; rw [if_pos q,List.lookup_cons,e]
      · right; rw [if_neg q,List.lookup_cons,e]
    · have e':(x == n)=false:=by simpa using e
      rw [e'] at h;have:=L1 (env:=env) h;by_cases q:(k == NameKind.free && env.scope.kind == .function && env.kindOf n == some .cell)=true
      · rw [if_pos q,List.lookup_cons,e']; exact this
      · rw [if_neg q,List.lookup_cons,e']; exact this
theorem W3 {scope:Scope} {env:Env} {x:Str} (h:scope.names.lookup x=some .free):(relabel scope env).names.lookup x=some .cell\/(relabel scope env).names.lookup x=some .free:=L1 h
theorem F2 {X:Cx} {scope:Scope} (N':List Str) (cap:List (Option Nat))
    (h1:scope.names.all (fun p=>!(p.2 == .free) || ((X.env.cells.lookup p.1).isSome && !(X.env.kindOf p.1 == some .local)))=true:=by exact rfl)
    (hk:scope.kind=.function:=by exact rfl) (h2:scope.names.all (fun p=>!(p.2 == .cell))=true:=by exact rfl) (h3:scope.names.all (fun p=>!(p.2 == .local) || scope.names.lookup p.1 == some .local)=true:=by exact rfl)
    (nd:N'.Nodup:=by decide +kernel) (len:cap.length=N'.length:=by exact rfl)
    (h4:(N'.zip cap).all (fun q=>match q.2 with | none=>true | some j=>(X.N[j]? == some q.1) && (scope.names.lookup q.1 == some .free) && (X.env.scope.names.lookup q.1 == some .cell || X.env.scope.names.lookup q.1 == some .free))=true:=by exact rfl) :
    CompSc X scope (Y0 X.env scope.names []) N' cap:=by
  have hfree:∀ p ∈ scope.names,p.2=.free->(X.env.cells.lookup p.1).isSome=true/\X.env.kindOf p.1≠some .local:=fun p hp e=>by
    have:=List.all_eq_true.mp h1 p hp;rw [e] at this;have this:((X.env.cells.lookup p.1).isSome && !(X.env.kindOf p.1 == some .local))=true:=this;rw [Bool.and_eq_true] at this;refine ⟨this.1,fun z=>?_⟩;rw [z] at this;exact absurd this.2 (by decide)
  have hcell:∀ y ∈ scope.names,y.2≠.cell:=fun y hy e=>by
    have:=List.all_eq_true.mp h2 y hy;rw [e] at this;exact absurd this (by decide)
  have memsub:∀ x c,(Y0 X.env scope.names []).lookup x=some c->(x,NameKind.free) ∈ scope.names/\X.env.cells.lookup x=some c:=fun x c h=>by
    rcases X9 _ _ _ (PySem.mem_of_lookup h) with z | ⟨z,e⟩
    · exact absurd z (by simp)
    · refine ⟨z,?_⟩
      obtain ⟨c',hc'⟩:=Option.isSome_iff_exists.mp (hfree _ z rfl).1;have hc':X.env.cells.lookup x=some c':=hc';have e:c=(X.env.cells.lookup x).getD 0:=e;rw [hc'] at e ⊢;exact congrArg some e.symm
  refine ⟨?_,fun x c h=>(memsub x c h).2,fun x h=>?_,hk,hcell,fun y hy e=>?_,nd,len,fun x c h=>(hfree _ (memsub x c h).1 rfl).2,fun i x j hi hc=>?_⟩
  · unfold closureFor
    show (forIn scope.names [] _ >>= fun r=>pure r)=_;rw [V0 scope.names [] fun p hp e=>(hfree p hp e).1];rfl
  · have hm:(x,NameKind.free) ∈ scope.names:=by
      rcases h with h | h
      · exact M0 hcell h (.inl rfl)
      · exact M0 hcell h (.inr rfl)
    obtain ⟨c,hc⟩:=Q5 (env:=X.env) scope.names [] x (.inr hm);exact K4 hc
  · have:=List.all_eq_true.mp h3 y hy
    rw [e] at this;simpa using this
  · have hz:(x,some j) ∈ N'.zip cap:=by
      refine List.mem_iff_getElem?.mpr ⟨i,?_⟩;rw [List.getElem?_zip_eq_some];exact ⟨hi,hc⟩
    have:=List.all_eq_true.mp h4 _ hz;simp only [Bool.and_eq_true,Bool.or_eq_true,beq_iff_eq] at this;obtain ⟨⟨q1,q2⟩,q3⟩:=this;refine ⟨q1,W3 q2,?_,?_⟩
    · rcases q3 with q | q
      · exact .inr (.inl q)
      · exact .inr (.inr q)
    · obtain ⟨c,hc⟩:=Q5 (env:=X.env) scope.names [] x (.inr (PySem.mem_of_lookup q2))
      exact K4 hc
def T8 (wi:TI) (g:TG) (tt:TT) (te:TE) (cap:List (Option Nat)) (i:Nat):TS:=fun D σ H=>wi σ H fun J H1=>∀ l,H1 l=none->X8 J g tt te l (fun H'=>D.nx (σ.set i (some (.ref l))) H') (capσ cap σ) H1
section
variable {X:Cx} {scope:Scope} {cl:List (Str × Addr)} {N':List Str} {cap:List (Option Nat)} {elt tg iter:Expr} {ifs:List Expr} {wi:TI} {g:TG} {tt:TT} {te:TE} {pos spos py:Pos} {y:Str} {i:Nat}
theorem A11 (hc:X.calm=true) (hN:X.N.Nodup) (hi:X.N[i]?=some y) (hy:X.env.scope.names.lookup y=some .local) (C:CompSc X scope cl N' cap) (hit:PI X tg iter wi) (hg:∀ s3 H3 fp,PG (X.block scope cl N' s3 H3 fp) tg g)
    (ht:∀ s3 H3 fp,PTs (X.block scope cl N' s3 H3 fp) ifs tt) (he:∀ s3 H3 fp,PE (X.block scope cl N' s3 H3 fp) elt te)
    (hsw:swapsWith (.ListComp elt [⟨tg,iter,ifs,0⟩] scope pos) (some (.Name y py)) spos.line X.env=pure true) (hs:∀ x,foldedSetIterable iter X.env x=pure x:=by intro _; rfl) :
    PS X (.Assign [.Name y py] (.ListComp elt [⟨tg,iter,ifs,0⟩] scope pos) spos) (T8 wi g tt te cap i):=by
  intro pins s σ H D I h;rw [exec_Assign_Name_used _ _ _ _ hsw];refine wpAny_bind (wpAny_standAt (wpAny_bind ?_));show wpAny _ X.A (do let _ <- comprehension (.ListComp elt [⟨tg,iter,ifs,0⟩] scope pos) scope X.env _ (newList []) false (eval iter X.env) (some (assign (.Name y py) X.env))) _ _ s;refine wpAny_bind (wpAny_mono (wpAny_comprehension_free (use:=some (assign (.Name y py) X.env)) (Q:=fun _ s'=>SP X pins D .next s') rfl hs C.clos C.kind C.names
    (thn (hit pins s σ H _ I h) fun v s1 h1=>thn h1 fun itv s2 h2=>?_)) (fun _ s' hq=>wpAny_pure (wpAny_pure hq)) fun _ _ e=>e)
  obtain ⟨it,fp,tn,J,H2,e,I2,T,st2,f2,go⟩:=h2;subst e;refine Y5 (RR:=fun acc C=>compPost (model X.prog X.w) X.A X.xe (some (assign (.Name y py) X.env)) (fun _ s'=>SP X pins D .next s') acc C) (Fin:=fun l H'=>D.nx (σ.set i (some (.ref l))) H') hc C I2 T st2 f2 hg ht he go ?_;intro l C' s' m H' hn n1 n2 n3 n4 n5 fin inv;show wpAny _ X.A (assign (.Name y py) X.env (.ref l)) _ _ _;refine wpAny_assign_Name (W0 (v:=.ref l) inv hN hi (.inl hy) rfl (fun s'' I'' ⟨a,sb,ha⟩=>?_) (.inr hy));have na:C'≠a:=by
    rcases ha with e | e
    · rw [e]; exact n1
    · exact (n4 _ _ e).symm
  exact ⟨m,hn.sameBut sb na,fun h' hs'=>⟨_,H',I''.turned (t':=s''.toks) (fun b o hb e=>(hs'.2 b hb).trans e) n2 n1 (.inr n3) n4 n5,fin⟩⟩
end
section
variable {X:Cx} {K:PySem.W.Frag}
theorem A6j (h:X.K=K):IxR X (rIxL K):=by subst h; exact ix_list
theorem A88 {pos:Pos} {es:List Expr} {k:Nat} {t:TGs} {n:Nat} (h:X.K=K) (hc:X.calm=true) (hg:PGs X es t)
    (hn:(assignEach es X.env).length=n:=by rfl) (hst:(assignEach es X.env).findIdx? (·.1)=none:=by rfl):PG X (.Tuple es k pos) (gTup K n t):=by subst h; exact B34 hc hg hn hst
end
end L2
namespace Prf
open PySem L2 My
abbrev Hpp:=L2.Hp
structure StAt (H:Hpp) (p:Addr):Prop where
  ex:∃ (c m:Int) (f:Bool),H p=some (.lst [.int c,.int m,.bl f])/\0<=m/\m < 2147483648
theorem StAt.same {H H':Hpp} {p:Addr} (h:StAt H p) (e:Same H H'):StAt H' p:=by
  obtain ⟨c,m,f,h,r⟩:=h.ex; exact ⟨c,m,f,e _ _ h,r⟩
theorem StAt.kp {H H':Hpp} {p l:Addr} (h:StAt H p) (n:p≠l) (e:Kp l H H'):StAt H' p:=by
  obtain ⟨c,m,f,h,r⟩:=h.ex; exact ⟨c,m,f,e _ _ n h,r⟩
def A2k:Sp:=fun vs H Q _=>∃ (p:Addr) (n:Int),vs=[.ref p,.int n]/\StAt H p/\0 < n/\Sm 4000 n/\∀ d H',0<=d->d < n->StAt H' p->Kp p H H'->Q (.int d) H'
def A8l (K:PySem.W.Frag):Sp:=fun vs H Q _=>∃ (a:Addr) (ns:List Int),vs=[.ref a]/\SqL K H a (ns.map V.int)/\ns.length<=63/\∀ H',Q (.bl true) H'
theorem sm32 {m:Int} (h0:0<=m) (h1:m < 2147483648):Sm 8000 m:=Sm.mono (k:=32) (by unfold Sm; omega) (by decide)
theorem R9 {m:Int} (n:Nat) (h:m.natAbs < 2 ^ 64:=by decide):Sm 8000 m:=Sm.mono (k:=64) h (by decide)
theorem W1 {k:Nat} {t b:Int} (h:Sm k b) (hb:b≠0):Sm k ((Int.gcd t b:Nat):Int):=by
  have h1:Int.gcd t b ∣ b.natAbs:=Nat.gcd_dvd_right _ _;have h2:=Nat.le_of_dvd (by omega) h1;exact h.le (by simpa using h2)
theorem B3g {k:Nat} {t b:Int} (h:Sm k b) (hb:b≠0):Sm k (sh t b):=by
  have h1:Int.gcd t b ∣ b.natAbs:=Nat.gcd_dvd_right _ _;have h2:=Nat.le_of_dvd (by omega) h1;exact h.le (by rw [B3k]; exact h2)
end Prf
namespace Prf
open PySem L2 My
theorem T3 (n:Nat) (h:(n:Int)<=1000000:=by decide):CPow 10 (n:Int):=⟨by omega,h,by decide⟩
theorem sm4 (n:Int) (h:n.natAbs < 2 ^ 64:=by decide):Sm 4000 n:=Sm.mono (k:=64) h (by decide)
theorem B3h (b:Bool):Sm 8000 (if b=true then (1:Int) else 0):=by cases b <;> exact R9 0
theorem B64:kitB "tuple" "tuple"=some true:=by decide +kernel
theorem B7e:kitB "int" "bool"=some false:=by decide +kernel
end Prf
namespace Prf
open PySem L2 My
inductive R2L {α:Type} (P:Addr->α->Prop):List V->List α->Prop
  | nil:R2L P [] []
  | cons {a:Addr} {q:α} {rs:List V} {qs:List α}:P a q->R2L P rs qs->R2L P (.ref a :: rs) (q :: qs)
section
variable {α:Type} {P P':Addr->α->Prop}
theorem R2L.get:∀ {rs qs} {i:Nat} {x:V},R2L P rs qs->rs[i]?=some x->∃ a q,x=.ref a/\qs[i]?=some q/\P a q
  | _,_,_,_,.nil,e=>by simp at e
  | _,_,0,_,.cons h _,e=>by simp at e; subst e; exact ⟨_,_,rfl,rfl,h⟩
  | _,_,i + 1,x,.cons _ t,e=>by
    obtain ⟨a,q,h1,h2,h3⟩:=R2L.get (i:=i) (x:=x) t (by simpa using e);exact ⟨a,q,h1,by simpa using h2,h3⟩
end
structure OfOk (cs:List (Rat × Rat)) (a b c d:Nat):Prop where
  ne:1<=cs.length
  le:cs.length<=5
  dec:Dec cs
  sm:∀ x ∈ cs,SmR a b x.1/\SmR c d x.2
def dq (q:Rat):PyData:=.tuple [.int q.num,.int q.den]
theorem B72 (q:Rat):(dq q).canLay0=true:=rfl
def dcn (c:Rat × Rat):PyData:=.tuple [dq c.1,dq c.2]
theorem K8 {k:Nat} {z:Int} {B:Nat} (h0:-(B:Int)<=z) (h1:z<=B) (hB:B < 2 ^ k):Sm k z:=by
  unfold Sm; omega
end Prf
set_option maxHeartbeats 4000000
namespace L2
open PySem
theorem SqD.same {K:PySem.W.Frag} {F F':Hp} {a:Addr} {xs:List V} (e:Same F F') (h:SqD K F a xs):SqD K F' a xs:=⟨SqT.same e h.1,h.2.imp (e _ _) id⟩
mutual
theorem Den.same {K:PySem.W.Frag} {F F':Hp} (e:Same F F'):∀ {v:V} {x:PyData},Den K F v x->Den K F' v x
  | _,_,.non=>.non
  | _,_,.bl b=>.bl b
  | _,_,.int i=>.int i
  | _,_,.str x=>.str x
  | _,_,.lst h t=>.lst (e.seq h) (DenAll.same e t)
  | _,_,.tup h t=>.tup (SqD.same e h) (DenAll.same e t)
  | _,_,.dct h=>.dct (e _ _ h)
theorem DenAll.same {K:PySem.W.Frag} {F F':Hp} (e:Same F F'):∀ {vs:List V} {xs:List PyData},DenAll K F vs xs->DenAll K F' vs xs
  | _,_,.nil=>.nil
  | _,_,.cons h t=>.cons (Den.same e h) (DenAll.same e t)
end
section
variable {K:PySem.W.Frag} {F:Hp}
theorem Den.intE {v:V} {i:Int} (h:Den K F v (.int i)):v=.int i:=by cases h; rfl
theorem Den.blE {v:V} {b:Bool} (h:Den K F v (.bool b)):v=.bl b:=by cases h; rfl
theorem Den.tupE {v:V} {xs:List PyData} (h:Den K F v (.tuple xs)):∃ a vs,v=.ref a/\SqT K F a vs/\DenAll K F vs xs:=by cases h with | tup h t=>exact ⟨_,_,rfl,h.1,t⟩
theorem Den.lstE {v:V} {xs:List PyData} (h:Den K F v (.list xs)):∃ a vs,v=.ref a/\SqL K F a vs/\DenAll K F vs xs:=by cases h; exact ⟨_,_,rfl,‹_›,‹_›⟩
theorem DenAll.len:∀ {vs:List V} {xs:List PyData},DenAll K F vs xs->vs.length=xs.length
  | _,_,.nil=>rfl
  | _,_,.cons _ t=>congrArg (· + 1) (DenAll.len t)
theorem DenAll.get:∀ {vs:List V} {xs:List PyData} {i:Nat} {v:V},DenAll K F vs xs->vs[i]?=some v->∃ x,xs[i]?=some x/\Den K F v x
  | _,_,_,_,.nil,e=>by simp at e
  | _,_,0,_,.cons h _,e=>by simp at e; subst e; exact ⟨_,rfl,h⟩
  | _,_,i + 1,v,.cons _ t,e=>by
    obtain ⟨x,h1,h2⟩:=DenAll.get (i:=i) (v:=v) t (by simpa using e);exact ⟨x,by simpa using h1,h2⟩
theorem DenAll.at:∀ {vs:List V} {xs:List PyData} {i:Nat} {x:PyData},DenAll K F vs xs->xs[i]?=some x->∃ v,vs[i]?=some v/\Den K F v x
  | _,_,_,_,.nil,e=>by simp at e
  | _,_,0,_,.cons h _,e=>by simp at e; subst e; exact ⟨_,rfl,h⟩
  | _,_,i + 1,x,.cons _ t,e=>by
    obtain ⟨v,h1,h2⟩:=DenAll.at (i:=i) (x:=x) t (by simpa using e);exact ⟨v,by simpa using h1,h2⟩
theorem DenAll.app:∀ {vs us:List V} {xs ys:List PyData},DenAll K F vs xs->DenAll K F us ys->DenAll K F (vs++us) (xs++ys)
  | _,_,_,_,.nil,h=>h
  | _,_,_,_,.cons h t,h'=>.cons h (DenAll.app t h')
theorem DenAll.drop:∀ {vs:List V} {xs:List PyData} (n:Nat),DenAll K F vs xs->DenAll K F (vs.drop n) (xs.drop n)
  | _,_,0,h=>by simpa using h
  | _,_,_ + 1,.nil=>by simpa using DenAll.nil
  | _,_,n + 1,.cons _ t=>by simpa using DenAll.drop n t
theorem DenAll.take:∀ {vs:List V} {xs:List PyData} (n:Nat),DenAll K F vs xs->DenAll K F (vs.take n) (xs.take n)
  | _,_,0,_=>by simpa using DenAll.nil
  | _,_,_ + 1,.nil=>by simpa using DenAll.nil
  | _,_,n + 1,.cons h t=>by simpa using DenAll.cons h (DenAll.take n t)
theorem DenAll.dropLast {vs:List V} {xs:List PyData} (h:DenAll K F vs xs):DenAll K F vs.dropLast xs.dropLast:=by
  rw [List.dropLast_eq_take,List.dropLast_eq_take,h.len]; exact h.take _
theorem DenAll.atIE {vs:List V} {xs:List PyData} {i:Int} {x:PyData} (h:DenAll K F vs xs) (e:L2.atI xs i=some x):∃ v,L2.atI vs i=some v/\Den K F v x:=by
  unfold L2.atI at *;rw [h.len];cases q:ixN xs.length i with
  | none=>rw [q] at e; cases e
  | some j=>rw [q] at e; exact DenAll.at h e
end
end L2
namespace Pu
open PySem L2 My Prf
abbrev Frag:=PySem.W.Frag
inductive OT where
  | leaf (x:PyData) | nd (b:Bool) (a:Addr) (k:OT) | nil | cons (h t:OT)
def OT.fp:OT->List Addr
  | .leaf _=>[]
  | .nd _ a k=>a :: k.fp
  | .nil=>[]
  | .cons h t=>h.fp++t.fp
def OT.dat:OT->List PyData
  | .leaf x=>[x]
  | .nd true _ k=>[.list k.dat]
  | .nd false _ k=>[.tuple k.dat]
  | .nil=>[]
  | .cons h t=>h.dat++t.dat
def OT.put (a:Addr) (n:OT):OT->OT
  | .leaf x=>.leaf x
  | .nd b a' k=>.nd b a' (if a'=a then n else OT.put a n k)
  | .nil=>.nil
  | .cons h t=>.cons (OT.put a n h) (OT.put a n t)
inductive SV where
  | d (x:PyData) | own (xs:List PyData) | bor (xs:List PyData) | st | tr (t:OT) | bt (t:OT) | al (a:Addr) | dk (ks:List (Str × Int))
def SV.foot (v:V):SV->Addr->Prop
  | .own _,a=>v=.ref a
  | .dk _,a=>v=.ref a
  | .tr t,a=>a ∈ t.fp
  | _,_=>False
def SV.isRes:SV->Bool
  | .bor _=>false
  | .bt _=>false
  | .al _=>false
  | _=>true
abbrev PEnv:=List (Option SV)
structure Wd where
  M:Addr->Prop
  H:Hpp
  F:Hpp
structure Wd.Ok (w:Wd):Prop where
  sub:Same w.F w.H
  st:∀ p,w.M p->StAt w.H p
  nf:∀ p,w.M p->w.F p=none
structure Lw (w w':Wd):Prop where
  f:Same w.F w'.F
  h:∀ b o,w.H b=some o->¬ w.M b->w'.H b=some o
  m:∀ b,w.M b->w'.M b
  mn:∀ b,w'.M b->w.M b\/w.H b=none
  dom:∀ b,w'.H b=none->w.H b=none
structure Le (w w':Wd):Prop extends Lw w w' where
  n:∀ a o,w'.F a=some o->w.F a=some o\/w.H a=none
theorem Lw.refl (w:Wd):Lw w w:=⟨Same.refl _,fun _ _ h _=>h,fun _ h=>h,fun _ h=>.inl h,fun _ h=>h⟩
theorem Le.refl (w:Wd):Le w w:=⟨Lw.refl w,fun _ _ h=>.inl h⟩
theorem Lw.nm {w w':Wd} (a:Lw w w') {b:Addr} (h:w.H b≠none) (n:¬ w.M b):¬ w'.M b:=fun z=>(a.mn b z).elim n h
theorem Lw.trans {w w1 w2:Wd} (a:Lw w w1) (b:Lw w1 w2):Lw w w2 :=
  ⟨a.f.trans b.f,fun c o h n=>b.h c o (a.h c o h n) (a.nm (by rw [h]; simp) n),fun c h=>b.m c (a.m c h),
   fun c h=>(b.mn c h).elim (a.mn c) fun z=>.inr (a.dom c z),fun c h=>a.dom c (b.dom c h)⟩
theorem Le.trans {w w1 w2:Wd} (a:Le w w1) (b:Le w1 w2):Le w w2 :=
  ⟨a.toLw.trans b.toLw,fun c o h=>(b.n c o h).elim (a.n c o) fun z=>.inr (a.dom c z)⟩
theorem Le.fnone {w w':Wd} (a:Le w w') {l:Addr} (h:w.F l=none) (h':w.H l≠none):w'.F l=none:=by
  cases q:w'.F l with
  | none=>rfl
  | some o =>
    rcases a.n l o q with z | z
    · rw [h] at z; cases z
    · exact absurd z h'
structure Ct where
  K:Frag
  w0:Wd
  Z:Addr->Prop
def VV (K:Frag) (w:Wd) (v:V) (x:PyData):Prop:=Den K w.F v x\/∃ l vs xs,v=.ref l/\x=.list xs/\w.H l=some (.lst vs)/\¬ w.M l/\DenAll K w.F vs xs
def ho:Bool->List V->HO
  | true,vs=>.lst vs
  | false,vs=>.tup vs
def Tre (K:Frag) (w:Wd):OT->List V->Prop
  | .leaf x,vs=>∃ v,vs=[v]/\Den K w.F v x
  | .nd b a k,vs=>vs=[.ref a]/\∃ us,w.H a=some (ho b us)/\Tre K w k us
  | .nil,vs=>vs=[]
  | .cons h t,vs=>∃ v r,vs=v :: r/\Tre K w h [v]/\Tre K w t r
theorem Tre.mono {K:Frag} {w w':Wd} (a:Lw w w'):∀ {t:OT} {vs:List V},Tre K w t vs->(∀ a ∈ t.fp,¬ w.M a)->Tre K w' t vs
  | .leaf _,_,⟨v,e,h⟩,_=>⟨v,e,Den.same a.f h⟩
  | .nd _ p _,_,⟨e,us,h,k⟩,n=>⟨e,us,a.h _ _ h (n p (by simp [OT.fp])),Tre.mono a k fun q hq=>n q (by simp [OT.fp,hq])⟩
  | .nil,_,e,_=>e
  | .cons _ _,_,⟨v,r,e,h,t⟩,n=>⟨v,r,e,Tre.mono a h fun q hq=>n q (by simp [OT.fp,hq]),Tre.mono a t fun q hq=>n q (by simp [OT.fp,hq])⟩
theorem Tre.sameF {K:Frag} {M:Addr->Prop} {H F F':Hpp} (e:Same F F'):∀ {t:OT} {vs:List V},Tre K ⟨M,H,F⟩ t vs->Tre K ⟨M,H,F'⟩ t vs
  | .leaf _,_,⟨v,q,h⟩=>⟨v,q,Den.same e h⟩
  | .nd _ _ _,_,⟨q,us,h,k⟩=>⟨q,us,h,Tre.sameF e k⟩
  | .nil,_,q=>q
  | .cons _ _,_,⟨v,r,q,h,t⟩=>⟨v,r,q,Tre.sameF e h,Tre.sameF e t⟩
def VR (c:Ct) (w:Wd) (v:V):SV->Prop
  | .d x=>Den c.K w.F v x
  | .own xs=>∃ l vs,v=.ref l/\w.H l=some (.lst vs)/\w.F l=none/\¬ w.M l/\c.w0.H l=none/\DenAll c.K w.F vs xs
  | .bor xs=>Den c.K w.F v (.list xs)\/∃ l vs,v=.ref l/\c.w0.H l=some (.lst vs)/\¬ c.w0.M l/\DenAll c.K w.F vs xs
  | .st=>∃ p,v=.ref p/\w.M p
  | .tr t=>Tre c.K w t [v]/\(∀ a ∈ t.fp,w.H a≠none/\w.F a=none/\¬ w.M a/\c.w0.H a=none)/\t.fp.Nodup
  | .bt t=>Tre c.K ⟨c.w0.M,c.w0.H,w.F⟩ t [v]/\∀ a ∈ t.fp,¬ c.w0.M a
  | .al a=>v=.ref a
  | .dk ks=>∃ l,v=.ref l/\w.H l=some (.dT (ks.map fun k=>([Sum.inr k.1,Sum.inl k.2],V.bl true)))/\w.F l=none/\¬ w.M l/\c.w0.H l=none
theorem A46 {H:Hpp} {p b:Addr} {o:HO} (h:upd H p o b=none):H b=none:=by
  unfold upd at h; split at h
  · cases h
  · exact h
theorem VR.foot {c:Ct} {w:Wd} {v:V} {a:Addr}:∀ {s:SV},VR c w v s->s.foot v a->w.H a≠none/\w.F a=none/\¬ w.M a/\c.w0.H a=none
  | .own _,⟨l,vs,e,h1,h2,h3,h4,_⟩,f=>by
    have:V.ref l=.ref a:=e.symm.trans f;cases this;exact ⟨by rw [h1]; simp,h2,h3,h4⟩
  | .dk _,⟨l,e,h1,h2,h3,h4⟩,f=>by
    have:V.ref l=.ref a:=e.symm.trans f;cases this;exact ⟨by rw [h1]; simp,h2,h3,h4⟩
  | .tr _,h,f=>h.2.1 a f
theorem VV.mono {K:Frag} {w w':Wd} {v:V} {x:PyData} (a:Lw w w') (h:VV K w v x):VV K w' v x:=by
  rcases h with h | ⟨l,vs,xs,e,e',h1,h2,h3⟩
  · exact .inl (Den.same a.f h)
  · exact .inr ⟨l,vs,xs,e,e',a.h _ _ h1 h2,a.nm (by rw [h1]; simp) h2,DenAll.same a.f h3⟩
theorem VV.den {K:Frag} {w:Wd} {v:V} {x:PyData} (o:w.Ok) (h:VV K w v x):Den K w.H v x:=by
  rcases h with h | ⟨l,vs,xs,e,e',h1,h2,h3⟩
  · exact Den.same o.sub h
  · rw [e,e']; exact .lst (SqL.of h1) (DenAll.same o.sub h3)
theorem VR.mono {c:Ct} {w w':Wd} {v:V} (a:Le w w'):∀ {s:SV},VR c w v s->VR c w' v s
  | .d _,h=>Den.same a.f h
  | .own xs,⟨l,vs,e,h1,h2,h3,h4,h5⟩=>⟨l,vs,e,a.h _ _ h1 h3,a.fnone h2 (by rw [h1]; simp),a.nm (by rw [h1]; simp) h3,h4,DenAll.same a.f h5⟩
  | .bor xs,.inl h=>.inl (Den.same a.f h)
  | .bor xs,.inr ⟨l,vs,e,h1,h2,h3⟩=>.inr ⟨l,vs,e,h1,h2,DenAll.same a.f h3⟩
  | .st,⟨p,e,h⟩=>⟨p,e,a.m p h⟩
  | .bt t,⟨h,o⟩=>⟨h.sameF a.f,o⟩
  | .al _,h=>h
  | .dk _,⟨l,e,h1,h2,h3,h4⟩=>⟨l,e,a.h _ _ h1 h3,a.fnone h2 (by rw [h1]; simp),a.nm (by rw [h1]; simp) h3,h4⟩
  | .tr t,⟨h,o,d⟩=>⟨h.mono a.toLw fun q hq=>(o q hq).2.2.1,fun q hq=>let ⟨h1,h2,h3,h4⟩:=o q hq; ⟨fun z=>h1 (a.dom q z),a.fnone h2 h1,a.nm h1 h3,h4⟩,d⟩
theorem Tre.writ {K:Frag} {w:Wd} {l:Addr} {wo:HO}:∀ {t:OT} {vs:List V},Tre K w t vs->l ∉ t.fp->Tre K ⟨w.M,upd w.H l wo,w.F⟩ t vs
  | .leaf _,_,h,_=>h
  | .nd _ p _,_,⟨e,ys,h,k⟩,n=>⟨e,ys,by show upd w.H l _ p=_; rw [C1 (fun z=>n (by simp [OT.fp,z]))]; exact h,Tre.writ k fun q=>n (by simp [OT.fp,q])⟩
  | .nil,_,e,_=>e
  | .cons _ _,_,⟨v,r,e,h,t⟩,n=>⟨v,r,e,Tre.writ h fun q=>n (by simp [OT.fp,q]),Tre.writ t fun q=>n (by simp [OT.fp,q])⟩
theorem VR.writ {c:Ct} {w:Wd} {v:V} {l:Addr} {wo:HO} (hl:w.H l≠none):∀ {s:SV},VR c w v s->¬ s.foot v l->VR c ⟨w.M,upd w.H l wo,w.F⟩ v s
  | .d _,h,_=>h
  | .own _,⟨l',vs,e,k1,k2,k3,k4,k5⟩,n=>⟨l',vs,e,by show upd w.H l _ l'=_; rw [C1 (fun z=>n (by rw [<- z]; exact e))]; exact k1,k2,k3,k4,k5⟩
  | .bor _,h,_=>h
  | .st,h,_=>h
  | .bt _,h,_=>h
  | .al _,h,_=>h
  | .dk _,⟨l',e,k1,k2,k3,k4⟩,n=>⟨l',e,by show upd w.H l _ l'=_; rw [C1 (fun z=>n (by rw [<- z]; exact e))]; exact k1,k2,k3,k4⟩
  | .tr _,⟨h,o,d⟩,n=>⟨h.writ n,fun a ha=>⟨fun z=>(o a ha).1 (A46 z),(o a ha).2⟩,d⟩
structure EnvOk (c:Ct) (w:Wd) (env:PEnv) (σ:St):Prop where
  wok:w.Ok
  le0:Le c.w0 w
  len:env.length=σ.length
  at':∀ (i:Nat) s,env[i]?=some (some s)->∃ v,σ[i]?=some (some v)/\VR c w v s
  own:∀ (i j:Nat) s t v u a,env[i]?=some (some s)->env[j]?=some (some t)->σ[i]?=some (some v)->σ[j]?=some (some u)->s.foot v a->t.foot u a->i=j
  zf:∀ a,c.Z a->w.F a=none/\w.H a≠none/\¬ w.M a
  zo:∀ a (j:Nat) t u,c.Z a->env[j]?=some (some t)->σ[j]?=some (some u)->¬ t.foot u a
def New (c:Ct) (env:PEnv) (σ:St) (v:V) (s:SV):Prop:=∀ a,s.foot v a->(∀ (j:Nat) t u,env[j]?=some (some t)->σ[j]?=some (some u)->¬ t.foot u a)/\¬ c.Z a
theorem EnvOk.look {c:Ct} {w:Wd} {env:PEnv} {σ:St} (E:EnvOk c w env σ) {j:Nat} {t:SV} {u:V} (h:env[j]?=some (some t)) (hu:σ[j]?=some (some u)):VR c w u t:=by
  obtain ⟨v,h1,h2⟩:=E.at' j t h;rw [hu] at h1; cases h1; exact h2
theorem EnvOk.fresh {c:Ct} {w:Wd} {env:PEnv} {σ:St} (E:EnvOk c w env σ) {p:Addr} (hp:w.H p=none):(∀ (j:Nat) t u,env[j]?=some (some t)->σ[j]?=some (some u)->¬ t.foot u p)/\¬ c.Z p :=
  ⟨fun _ _ _ h hu f=>((E.look h hu).foot f).1 hp,fun z=>(E.zf p z).2.1 hp⟩
theorem Lw.hsome {w w':Wd} (a:Lw w w') {l:Addr} (h:w.H l≠none):w'.H l≠none:=fun z=>h (a.dom l z)
theorem EnvOk.mono {c:Ct} {w w':Wd} {env:PEnv} {σ:St} (E:EnvOk c w env σ) (ok:w'.Ok) (a:Le w w'):EnvOk c w' env σ :=
  ⟨ok,E.le0.trans a,E.len,fun i s e=>let ⟨v,h1,h2⟩:=E.at' i s e; ⟨v,h1,h2.mono a⟩,E.own,fun b z=>let ⟨h1,h2,h3⟩:=E.zf b z; ⟨a.fnone h1 h2,a.hsome h2,a.nm h2 h3⟩,E.zo⟩
structure Res (c:Ct) (w:Wd) (env:PEnv) (σ:St) (w':Wd) (v:V) (s:SV):Prop where
  ev:EnvOk c w' env σ
  lw:Lw w w'
  val:VR c w' v s
  new:New c env σ v s
  res:s.isRes=true
theorem Res.data {c:Ct} {w:Wd} {env:PEnv} {σ:St} {v:V} {x:PyData} (E:EnvOk c w env σ) (h:Den c.K w.F v x):Res c w env σ w v (.d x) :=
  ⟨E,Lw.refl w,h,fun _ e=>(nomatch e),rfl⟩
def Wd.tup (w:Wd) (p:Addr) (o:HO):Wd:=⟨w.M,upd w.H p o,upd w.F p o⟩
def Wd.lay (w:Wd) (p:Addr) (o:HO):Wd:=⟨w.M,upd w.H p o,w.F⟩
theorem Wd.Ok.fnone {w:Wd} (o:w.Ok) {p:Addr} (h:w.H p=none):w.F p=none:=by
  cases q:w.F p with
  | none=>rfl
  | some u=>have:=o.sub p u q; rw [h] at this; cases this
theorem Wd.Ok.mne {w:Wd} (o:w.Ok) {p q:Addr} (h:w.H p=none) (hq:w.M q):q≠p:=by
  obtain ⟨c,m,f,e,_⟩:=(o.st q hq).ex;exact C5 e h
theorem G7 {H:Hpp} {p b:Addr} {o:HO} (h:upd H p o b=none):H b=none:=by
  unfold upd at h; split at h
  · cases h
  · exact h
theorem Wd.tup_ok {w:Wd} {p:Addr} {o:HO} (ok:w.Ok) (h:w.H p=none):(w.tup p o).Ok :=
  ⟨fun b u e=>by
    show upd w.H p o b=some u;have e':upd w.F p o b=some u:=e;unfold upd at e' ⊢;split at e'
    · rename_i z; rw [if_pos z]; exact e'
    · rename_i z; rw [if_neg z]; exact ok.sub b u e',
   fun q hq=>(ok.st q hq).same (Same.upd h),fun q hq=>by
    show upd w.F p o q=none;rw [C1 (ok.mne h hq)]; exact ok.nf q hq⟩
theorem Wd.lay_ok {w:Wd} {p:Addr} {o:HO} (ok:w.Ok) (h:w.H p=none):(w.lay p o).Ok :=
  ⟨ok.sub.trans (Same.upd h),fun q hq=>(ok.st q hq).same (Same.upd h),ok.nf⟩
theorem Wd.tup_le {w:Wd} {p:Addr} {o:HO} (ok:w.Ok) (h:w.H p=none):Le w (w.tup p o) :=
  ⟨⟨Same.upd (ok.fnone h),fun b u e _=>Same.upd h b u e,fun _ z=>z,fun _ z=>.inl z,fun b z=>G7 z⟩,fun a u e=>by
    have e':upd w.F p o a=some u:=e;unfold upd at e';split at e'
    · rename_i z; rw [z]; exact .inr h
    · exact .inl e'⟩
theorem Wd.lay_le {w:Wd} {p:Addr} {o:HO} (h:w.H p=none):Le w (w.lay p o) :=
  ⟨⟨Same.refl _,fun b u e _=>Same.upd h b u e,fun _ z=>z,fun _ z=>.inl z,fun b z=>G7 z⟩,fun a u e=>.inl e⟩
theorem Res.tup {c:Ct} {w:Wd} {env:PEnv} {σ:St} {p:Addr} {vs:List V} {xs:List PyData} (E:EnvOk c w env σ) (h:w.H p=none) (hd:DenAll c.K w.F vs xs):Res c w env σ (w.tup p (.tup vs)) (.ref p) (.d (.tuple xs)) :=
  ⟨E.mono (Wd.tup_ok E.wok h) (Wd.tup_le E.wok h),(Wd.tup_le E.wok h).toLw,.tup (SqD.of B8) (DenAll.same (Wd.tup_le E.wok h).f hd),fun _ e=>(nomatch e),rfl⟩
theorem Res.lst {c:Ct} {w:Wd} {env:PEnv} {σ:St} {p:Addr} {vs:List V} {xs:List PyData} (E:EnvOk c w env σ) (h:w.H p=none) (hd:DenAll c.K w.F vs xs):Res c w env σ (w.lay p (.lst vs)) (.ref p) (.own xs) :=
  ⟨E.mono (Wd.lay_ok E.wok h) (Wd.lay_le h),(Wd.lay_le h).toLw,⟨p,vs,rfl,B8,E.wok.fnone h,fun z=>E.wok.mne h z rfl,E.le0.dom p h,hd⟩,
   fun a f=>(by
    have:V.ref p=.ref a:=f;cases this;exact E.fresh h),rfl⟩
theorem Res.frz {c:Ct} {w w1:Wd} {env:PEnv} {σ:St} {v:V} {xs:List PyData} (R:Res c w env σ w1 v (.own xs)):∃ w',w'.H=w1.H/\EnvOk c w' env σ/\Lw w w'/\Den c.K w'.F v (.list xs):=by
  obtain ⟨E,lw,⟨l,vs,e,h1,h2,h3,h4,h5⟩,new,_⟩:=R;subst e;obtain ⟨n1,n2⟩:=new l rfl;have up:Same w1.F (upd w1.F l (.lst vs)):=Same.upd h2;have lw':Lw w1 ⟨w1.M,w1.H,upd w1.F l (.lst vs)⟩:=⟨up,fun _ _ h _=>h,fun _ h=>h,fun _ h=>.inl h,fun _ h=>h⟩;refine ⟨⟨w1.M,w1.H,upd w1.F l (.lst vs)⟩,rfl,⟨⟨fun b u q=>?_,E.wok.st,fun p hp=>?_⟩,⟨E.le0.toLw.trans lw',fun a u q=>?_⟩,E.len,fun i s q=>?_,E.own,fun a za=>?_,E.zo⟩,lw.trans lw',.lst (SqL.of B8) (DenAll.same up h5)⟩
  · have q':upd w1.F l (.lst vs) b=some u:=q
    unfold upd at q';split at q'
    · rename_i z; rw [z]; exact h1.trans q'
    · exact E.wok.sub b u q'
  · show upd w1.F l (.lst vs) p=none
    rw [C1 (fun z=>h3 (by rw [<- z]; exact hp))]; exact E.wok.nf p hp
  · have q':upd w1.F l (.lst vs) a=some u:=q
    unfold upd at q';split at q'
    · rename_i z; rw [z]; exact .inr h4
    · exact E.le0.n a u q'
  · obtain ⟨v,g1,g2⟩:=E.at' i s q
    refine ⟨v,g1,?_⟩;cases s with
    | d x=>exact Den.same up g2
    | own ys =>
      obtain ⟨l',us,e',k1,k2,k3,k4,k5⟩:=g2;subst e';refine ⟨l',us,rfl,k1,?_,k3,k4,DenAll.same up k5⟩;show upd w1.F l (.lst vs) l'=none;rw [C1 (fun z=>n1 i _ _ q g1 (by subst z; rfl))]; exact k2
    | bor ys =>
      rcases g2 with g | ⟨l',us,e',k1,k2,k3⟩
      · exact .inl (Den.same up g)
      · exact .inr ⟨l',us,e',k1,k2,DenAll.same up k3⟩
    | st=>exact g2
    | bt t=>exact ⟨g2.1.sameF up,g2.2⟩
    | al a=>exact g2
    | dk ks =>
      obtain ⟨l',e',k1,k2,k3,k4⟩:=g2;subst e';refine ⟨l',rfl,k1,?_,k3,k4⟩;show upd w1.F l (.lst vs) l'=none;rw [C1 (fun z=>n1 i _ _ q g1 (by subst z; rfl))]; exact k2
    | tr t =>
      obtain ⟨k1,k2,k3⟩:=g2;refine ⟨k1.mono lw' fun p hp=>(k2 p hp).2.2.1,fun p hp=>⟨(k2 p hp).1,?_,(k2 p hp).2.2⟩,k3⟩;show upd w1.F l (.lst vs) p=none;rw [C1 (fun z=>n1 i _ _ q g1 (by subst z; exact hp))]; exact (k2 p hp).2.1
  · obtain ⟨z1,z2,z3⟩:=E.zf a za
    refine ⟨?_,z2,z3⟩;show upd w1.F l (.lst vs) a=none;rw [C1 (fun z=>n2 (by subst z; exact za))]; exact z1
theorem EnvOk.set {c:Ct} {w:Wd} {env:PEnv} {σ:St} {v:V} {s:SV} {i:Nat} (E:EnvOk c w env σ) (h:VR c w v s) (new:New c env σ v s) :
    EnvOk c w (env.set i (some s)) (σ.set i (some v)):=by
  have hl:=E.len;have hd:∀ {j:Nat} {t:SV} {u:V},(env.set i (some s))[j]?=some (some t)->(σ.set i (some v))[j]?=some (some u)->(i=j/\t=s/\u=v)\/(i≠j/\env[j]?=some (some t)/\σ[j]?=some (some u)):=by
    intro j t u q q';rw [List.getElem?_set] at q q';by_cases e:i=j
    · subst e
      rw [if_pos rfl] at q q';split at q
      · rename_i z
        rw [if_pos (by omega)] at q';cases q; cases q'; exact .inl ⟨rfl,rfl,rfl⟩
      · cases q
    · rw [if_neg e] at q q'
      exact .inr ⟨e,q,q'⟩
  refine ⟨E.wok,E.le0,by simpa using hl,fun j t q=>?_,fun j k s1 t1 v1 u1 a q1 q2 q3 q4 f1 f2=>?_,E.zf,fun a j t u za q q'=>?_⟩
  · rw [List.getElem?_set] at q ⊢
    by_cases e:i=j
    · subst e
      rw [if_pos rfl] at q ⊢;split at q
      · rename_i z
        rw [if_pos (by omega)];cases q;exact ⟨v,rfl,h⟩
      · cases q
    · rw [if_neg e] at q ⊢
      exact E.at' j t q
  · rcases hd q1 q3 with ⟨e1,rfl,rfl⟩ | ⟨e1,p1,p3⟩
    · rcases hd q2 q4 with ⟨e2,rfl,rfl⟩ | ⟨e2,q2,q4⟩
      · exact e1.symm.trans e2
      · exact absurd f2 ((new a f1).1 k _ _ q2 q4)
    · rcases hd q2 q4 with ⟨e2,rfl,rfl⟩ | ⟨e2,p2,p4⟩
      · exact absurd f1 ((new a f2).1 j _ _ p1 p3)
      · exact E.own j k _ _ _ _ a p1 p2 p3 p4 f1 f2
  · rcases hd q q' with ⟨_,rfl,rfl⟩ | ⟨_,q,q'⟩
    · exact fun f=>(new a f).2 za
    · exact E.zo a j t u za q q'
end Pu
namespace Pu
open PySem L2 My Prf
abbrev PX:=PEnv->(SV->PEnv->Prop)->Prop
abbrev PDt:=PEnv->(PyData->PEnv->Prop)->Prop
abbrev PTt:=PEnv->(Bool->PEnv->Prop)->Prop
abbrev PAr:=PEnv->(List PyData->PEnv->Prop)->Prop
abbrev PAs:=PEnv->(List SV->PEnv->Prop)->Prop
theorem Res.pre {c:Ct} {w w1 w2:Wd} {env:PEnv} {σ:St} {v:V} {s:SV} (a:Lw w w1) (R:Res c w1 env σ w2 v s):Res c w env σ w2 v s:=⟨R.ev,a.trans R.lw,R.val,R.new,R.res⟩
class RE (K:Frag) (te:TE) (pe:outParam PX):Prop where
  ok:∀ (c:Ct) (w:Wd) (env:PEnv) (σ:St) (Qp:SV->PEnv->Prop) (Q:VK),c.K=K->EnvOk c w env σ->pe env Qp->(∀ v s env' w',Res c w env' σ w' v s->Qp s env'->Q v w'.H)->te σ w.H Q
class RD (K:Frag) (te:TE) (pd:outParam PDt):Prop where
  ok:∀ (c:Ct) (w:Wd) (env:PEnv) (σ:St) (Qp:PyData->PEnv->Prop) (Q:VK),c.K=K->EnvOk c w env σ->pd env Qp->(∀ v x env' w',EnvOk c w' env' σ->Lw w w'->Den K w'.F v x->Qp x env'->Q v w'.H)->te σ w.H Q
class RW (K:Frag) (te:TE) (pd:outParam PDt):Prop where
  ok:∀ (c:Ct) (w:Wd) (env:PEnv) (σ:St) (Qp:PyData->PEnv->Prop) (Q:VK),c.K=K->EnvOk c w env σ->pd env Qp->(∀ v x env' w',EnvOk c w' env' σ->Lw w w'->VV K w' v x->Qp x env'->Q v w'.H)->te σ w.H Q
def SV.asD (s:SV) (k:PyData->Prop):Prop:=match s with
  | .d x=>k x
  | .own xs=>k (.list xs)
  | _=>False
def pdat (pe:PX) (env:PEnv) (Q:PyData->PEnv->Prop):Prop:=pe env fun s e=>s.asD fun x=>Q x e
instance B8g {K:Frag} {te:TE} {pe:PX} [h:RE K te pe]:RD K te (pdat pe) where
  ok:=by
    rintro c w env σ Qp Q rfl E p k;refine h.ok c w env σ _ Q rfl E p fun v s env' w' R q=>?_;cases s with
    | d x=>exact k v x env' w' R.ev R.lw R.val q
    | own xs =>
      obtain ⟨w2,e,E2,l2,d2⟩:=R.frz;rw [<- e];exact k v _ env' w2 E2 l2 d2 q
    | bor xs=>exact (show False from q).elim
    | st=>exact (show False from q).elim
    | tr t=>exact (show False from q).elim
    | bt t=>exact (show False from q).elim
    | al t=>exact (show False from q).elim
    | dk t=>exact (show False from q).elim
instance (priority:=low) rw_of {K:Frag} {te:TE} {pd:PDt} [h:RD K te pd]:RW K te pd where
  ok:=fun c w env σ Qp Q e E p k=>h.ok c w env σ Qp Q e E p fun v x env' w' E' l d q=>k v x env' w' E' l (.inl d) q
def pVar (i:Nat) (env:PEnv) (Q:SV->PEnv->Prop):Prop:=match env[i]? with
  | some (some (.d x))=>Q (.d x) env
  | some (some (.own xs))=>Q (.d (.list xs)) (env.set i (some (.d (.list xs))))
  | some (some .st)=>Q .st env
  | _=>False
def A9e (i:Nat) (env:PEnv) (Q:PyData->PEnv->Prop):Prop:=match env[i]? with
  | some (some (.d x))=>Q x env
  | some (some (.own xs))=>Q (.list xs) env
  | some (some (.bor xs))=>Q (.list xs) env
  | _=>False
theorem EnvOk.frz {c:Ct} {w:Wd} {env:PEnv} {σ:St} {i:Nat} {xs:List PyData} (E:EnvOk c w env σ) (h:env[i]?=some (some (.own xs))) :
    ∃ w' v,w'.H=w.H/\σ[i]?=some (some v)/\EnvOk c w' (env.set i (some (.d (.list xs)))) σ/\Lw w w'/\Den c.K w'.F v (.list xs):=by
  obtain ⟨v,hv,hV⟩:=E.at' i _ h;have hV':=hV;obtain ⟨l,vs,e,h1,h2,h3,h4,h5⟩:=hV';have up:∀ {j:Nat} {t:SV},(env.set i none)[j]?=some (some t)->i≠j/\env[j]?=some (some t):=by
    intro j t q;rw [List.getElem?_set] at q;split at q
    · split at q <;> cases q
    · rename_i z; exact ⟨z,q⟩
  have E':EnvOk c w (env.set i none) σ:=⟨E.wok,E.le0,by simpa using E.len,fun j s q=>E.at' j s (up q).2,fun j k s t v u a q1 q2=>E.own j k s t v u a (up q1).2 (up q2).2,E.zf,fun a j t u za q=>E.zo a j t u za (up q).2⟩;have R:Res c w (env.set i none) σ w v (.own xs):=⟨E',Lw.refl w,hV,fun a f=>⟨fun j t u q z g=>(up q).1 (E.own i j _ _ _ _ a h (up q).2 hv z f g),fun za=>E.zo a i _ _ za h hv f⟩,rfl⟩;obtain ⟨w',e',E2,l2,d2⟩:=R.frz;refine ⟨w',v,e',hv,?_,l2,d2⟩;have E3:=E2.set (i:=i) (v:=v) (s:=.d (.list xs)) d2 (fun _ z=>nomatch z);rw [List.set_set] at E3;have hi:i < σ.length:=(Zs hv).1
  rwa [show σ.set i (some v)=σ by
    refine List.ext_getElem? fun j=>?_;rw [List.getElem?_set];split
    · rename_i z; subst z; simp [hv]
    · rfl] at E3
instance re_var {K:Frag} {i:Nat}:RE K (tVar i) (pVar i) where
  ok:=by
    rintro c w env σ Qp Q rfl E p k;unfold pVar at p;split at p
    · rename_i x e
      obtain ⟨v,h1,h2⟩:=E.at' i _ e;exact ⟨v,h1,k v _ env w (Res.data E h2) p⟩
    · rename_i xs e
      obtain ⟨w',v,e',hv,E',l,d⟩:=E.frz e;refine ⟨v,hv,?_⟩;rw [<- e'];exact k v (.d (.list xs)) _ w' ⟨E',l,d,fun _ z=>(nomatch z),rfl⟩ p
    · rename_i e
      obtain ⟨v,h1,h2⟩:=E.at' i _ e;exact ⟨v,h1,k v _ env w ⟨E,Lw.refl w,h2,fun _ z=>(nomatch z),rfl⟩ p⟩
    · exact p.elim
theorem VR.vv {c:Ct} {w:Wd} {v:V} {xs:List PyData} (l:Le c.w0 w) (h:VR c w v (.bor xs)):VV c.K w v (.list xs):=by
  rcases h with h | ⟨l',vs,e,h1,h2,h3⟩
  · exact .inl h
  · exact .inr ⟨l',vs,xs,e,rfl,l.h _ _ h1 h2,l.nm (by rw [h1]; simp) h2,h3⟩
instance rw_var {K:Frag} {i:Nat}:RW K (tVar i) (A9e i) where
  ok:=by
    rintro c w env σ Qp Q rfl E p k;unfold A9e at p;split at p
    · rename_i x e
      obtain ⟨v,h1,h2⟩:=E.at' i _ e;exact ⟨v,h1,k v _ env w E (Lw.refl w) (.inl h2) p⟩
    · rename_i xs e
      obtain ⟨v,h1,l,vs,e',g1,g2,g3,g4,g5⟩:=E.at' i _ e;exact ⟨v,h1,k v _ env w E (Lw.refl w) (.inr ⟨l,vs,xs,e',rfl,g1,g3,g5⟩) p⟩
    · rename_i xs e
      obtain ⟨v,h1,h2⟩:=E.at' i _ e;exact ⟨v,h1,k v _ env w E (Lw.refl w) (h2.vv E.le0) p⟩
    · exact p.elim
def pC (x:PyData) (env:PEnv) (Q:SV->PEnv->Prop):Prop:=Q (.d x) env
theorem O8 {K:Frag} {v:V} {x:PyData} (h:∀ F,Den K F v x):RE K (tC v) (pC x) where
  ok:=by
    rintro c w env σ Qp Q rfl E p k;exact k _ _ env w (Res.data E (h _)) p
instance re_int {K:Frag} {i:Int}:RE K (tC (.int i)) (pC (.int i)):=O8 fun _=>.int i
instance re_bl {K:Frag} {b:Bool}:RE K (tC (.bl b)) (pC (.bool b)):=O8 fun _=>.bl b
instance re_non {K:Frag}:RE K (tC .non) (pC .none):=O8 fun _=>.non
instance re_str {K:Frag} {x:Str}:RE K (tC (.str x)) (pC (.str x)):=O8 fun _=>.str x
class RO (K:Frag) (r:R2) (pr:outParam (PyData->PyData->(SV->Prop)->Prop)):Prop where
  ok:∀ (c:Ct) (w:Wd) (env:PEnv) (σ:St) (x y:V) (dx dy:PyData) (Qp:SV->Prop) (Q:VK),c.K=K->EnvOk c w env σ->VV K w x dx->VV K w y dy->pr dx dy Qp->(∀ v s w',Res c w env σ w' v s->Qp s->Q v w'.H)->r x y w.H Q
def pOp (pr:PyData->PyData->(SV->Prop)->Prop) (pa pb:PDt) (env:PEnv) (Q:SV->PEnv->Prop):Prop:=pa env fun x e1=>pb e1 fun y e2=>pr x y fun s=>Q s e2
instance re_op {K:Frag} {r:R2} {ta tb:TE} {pr:PyData->PyData->(SV->Prop)->Prop} {pa pb:PDt} [h:RO K r pr] [ha:RW K ta pa] [hb:RW K tb pb]:RE K (tOp r ta tb) (pOp pr pa pb) where
  ok:=by
    rintro c w env σ Qp Q rfl E p k;refine ha.ok c w env σ _ _ rfl E p fun x dx e1 w1 E1 l1 v1 q1=>?_;refine hb.ok c w1 e1 σ _ _ rfl E1 q1 fun y dy e2 w2 E2 l2 v2 q2=>?_;exact h.ok c w2 e2 σ x y dx dy _ _ rfl E2 (v1.mono l2) v2 q2 fun v s w' R q=>k v s e2 w' (R.pre (l1.trans l2)) q
class SG (g:Int->Int->V) (gd:outParam (Int->Int->PyData)):Prop where
  ok:∀ i j K F,Den K F (g i j) (gd i j)
instance sg_int {f:Int->Int->Int}:SG (fun i j=>.int (f i j)) (fun i j=>.int (f i j)):=⟨fun _ _ _ _=>.int _⟩
instance sg_bl {f:Int->Int->Bool}:SG (fun i j=>.bl (f i j)) (fun i j=>.bool (f i j)):=⟨fun _ _ _ _=>.bl _⟩
def pI (C:Int->Int->Prop) (gd:Int->Int->PyData) (x y:PyData) (Q:SV->Prop):Prop:=match x,y with
  | .int i,.int j=>C i j/\Q (.d (gd i j))
  | _,_=>False
def pI0 (gd:Int->Int->PyData) (x y:PyData) (Q:SV->Prop):Prop:=match x,y with
  | .int i,.int j=>Q (.d (gd i j))
  | _,_=>False
theorem VV.intE {K:Frag} {w:Wd} {v:V} {i:Int} (h:VV K w v (.int i)):v=.int i:=by
  rcases h with h | ⟨l,vs,xs,e,e',_⟩
  · exact h.intE
  · cases e'
theorem VV.blE {K:Frag} {w:Wd} {v:V} {b:Bool} (h:VV K w v (.bool b)):v=.bl b:=by
  rcases h with h | ⟨l,vs,xs,e,e',_⟩
  · exact h.blE
  · cases e'
instance ro_I {K:Frag} {C:Int->Int->Prop} {g:Int->Int->V} {gd:Int->Int->PyData} [s:SG g gd]:RO K (rI C g) (pI C gd) where
  ok:=by
    rintro c w env σ x y dx dy Qp Q rfl E vx vy p k;unfold pI at p;split at p
    · rename_i i j
      exact ⟨i,j,vx.intE,vy.intE,p.1,k _ _ w (Res.data E (s.ok i j _ _)) p.2⟩
    · exact p.elim
instance ro_I0 {K:Frag} {g:Int->Int->V} {gd:Int->Int->PyData} [s:SG g gd]:RO K (rI0 g) (pI0 gd) where
  ok:=by
    rintro c w env σ x y dx dy Qp Q rfl E vx vy p k;unfold pI0 at p;split at p
    · rename_i i j
      exact ⟨i,j,vx.intE,vy.intE,k _ _ w (Res.data E (s.ok i j _ _)) p⟩
    · exact p.elim
def pEqD (x y:PyData) (Q:SV->Prop):Prop:=x.canLay0=true/\y.canLay0=true/\x.depth<=60/\Q (.d (.bool (PyData.eqv x y)))
def pNeD (x y:PyData) (Q:SV->Prop):Prop:=x.canLay0=true/\y.canLay0=true/\x.depth<=60/\Q (.d (.bool (!PyData.eqv x y)))
def isNo:PyData->Bool
  | .none=>true
  | _=>false
def pIsN (x y:PyData) (Q:SV->Prop):Prop:=y=.none/\Q (.d (.bool (isNo x)))
def B80 (x y:PyData) (Q:SV->Prop):Prop:=y=.none/\Q (.d (.bool (!isNo x)))
def pGet (xs:List PyData) (i:Int) (Q:SV->Prop):Prop:=match atI xs i with
  | some z=>Q (.d z)
  | none=>False
def pIx (x y:PyData) (Q:SV->Prop):Prop:=match x,y with
  | .list xs,.int i=>pGet xs i Q
  | .tuple xs,.int i=>pGet xs i Q
  | _,_=>False
theorem VV.lst {K:Frag} {w:Wd} {v:V} {xs:List PyData} (o:w.Ok) (h:VV K w v (.list xs)):∃ a vs,v=.ref a/\SqL K w.H a vs/\DenAll K w.F vs xs:=by
  rcases h with h | ⟨l,vs,ys,e,e',h1,h2,h3⟩
  · obtain ⟨a,vs,e,h1,h2⟩:=h.lstE
    exact ⟨a,vs,e,o.sub.seq h1,h2⟩
  · cases e'; exact ⟨l,vs,e,SqL.of h1,h3⟩
theorem VV.tup {K:Frag} {w:Wd} {v:V} {xs:List PyData} (o:w.Ok) (h:VV K w v (.tuple xs)):∃ a vs,v=.ref a/\SqT K w.H a vs/\DenAll K w.F vs xs:=by
  rcases h with h | ⟨l,vs,ys,e,e',h1,h2,h3⟩
  · obtain ⟨a,vs,e,h1,h2⟩:=h.tupE
    exact ⟨a,vs,e,SqT.same o.sub h1,h2⟩
  · cases e'
instance ro_ix {K:Frag}:RO K (rIx K) pIx where
  ok:=by
    rintro c w env σ x y dx dy Qp Q rfl E vx vy p k;unfold pIx at p;split at p
    · rename_i xs i
      unfold pGet at p;split at p
      · rename_i z hz
        obtain ⟨a,vs,e,h1,h2⟩:=vx.lst E.wok;obtain ⟨v,g1,g2⟩:=h2.atIE hz;exact .inl ⟨a,vs,i,v,e,vy.intE,h1,g1,k _ _ w (Res.data E g2) p⟩
      · exact p.elim
    · rename_i xs i
      unfold pGet at p;split at p
      · rename_i z hz
        obtain ⟨a,vs,e,h1,h2⟩:=vx.tup E.wok;obtain ⟨v,g1,g2⟩:=h2.atIE hz;exact .inr (.inl ⟨a,vs,i,v,e,vy.intE,h1,g1,k _ _ w (Res.data E g2) p⟩)
      · exact p.elim
    · exact p.elim
theorem B2e {X:Cx} {K:Frag} (h:X.K=K):IxR X (rIx K):=by subst h; exact B7o
def pU (gd:Int->PyData) (x:PyData) (Q:SV->Prop):Prop:=match x with
  | .int i=>Q (.d (gd i))
  | _=>False
def pUn (f:PyData->(SV->Prop)->Prop) (pa:PDt) (env:PEnv) (Q:SV->PEnv->Prop):Prop:=pa env fun x e=>f x fun s=>Q s e
instance re_neg {K:Frag} {ta:TE} {pa:PDt} {f:Int->Int} [ha:RW K ta pa]:RE K (tUn (rU fun i=>.int (f i)) ta) (pUn (pU fun i=>.int (f i)) pa) where
  ok:=by
    rintro c w env σ Qp Q rfl E p k;refine ha.ok c w env σ _ _ rfl E p fun x dx e1 w1 E1 l1 v1 q1=>?_;unfold pU at q1;split at q1
    · rename_i i
      exact ⟨i,v1.intE,k _ _ e1 w1 ((Res.data E1 (.int _)).pre l1) q1⟩
    · exact q1.elim
inductive VVs (K:Frag) (w:Wd):List V->List PyData->Prop
  | nil:VVs K w [] []
  | cons {v:V} {x:PyData} {vs:List V} {xs:List PyData}:VV K w v x->VVs K w vs xs->VVs K w (v :: vs) (x :: xs)
class RAv (K:Frag) (ta:TA) (pa:outParam PAr):Prop where
  ok:∀ (c:Ct) (w:Wd) (env:PEnv) (σ:St) (Qp:List PyData->PEnv->Prop) (Q:List V->Hpp->Prop),c.K=K->EnvOk c w env σ->pa env Qp->(∀ vs xs env' w',EnvOk c w' env' σ->Lw w w'->VVs K w' vs xs->Qp xs env'->Q vs w'.H)->ta σ w.H Q
class RAd (K:Frag) (ta:TA) (pa:outParam PAr):Prop where
  ok:∀ (c:Ct) (w:Wd) (env:PEnv) (σ:St) (Qp:List PyData->PEnv->Prop) (Q:List V->Hpp->Prop),c.K=K->EnvOk c w env σ->pa env Qp->(∀ vs xs env' w',EnvOk c w' env' σ->Lw w w'->DenAll K w'.F vs xs->Qp xs env'->Q vs w'.H)->ta σ w.H Q
def pNil (env:PEnv) (Q:List PyData->PEnv->Prop):Prop:=Q [] env
def F5 (pa:PDt) (pr:PAr) (env:PEnv) (Q:List PyData->PEnv->Prop):Prop:=pa env fun x e1=>pr e1 fun xs e2=>Q (x :: xs) e2
instance rav_nil {K:Frag}:RAv K tNil pNil:=⟨fun c w env σ Qp Q _ E p k=>k [] [] env w E (Lw.refl w) .nil p⟩
instance rad_nil {K:Frag}:RAd K tNil pNil:=⟨fun c w env σ Qp Q _ E p k=>k [] [] env w E (Lw.refl w) .nil p⟩
instance rav_cons {K:Frag} {ta:TE} {tr:TA} {pa:PDt} {pr:PAr} [ha:RW K ta pa] [hr:RAv K tr pr]:RAv K (E7 ta tr) (F5 pa pr) where
  ok:=by
    rintro c w env σ Qp Q rfl E p k;refine ha.ok c w env σ _ _ rfl E p fun x dx e1 w1 E1 l1 v1 q1=>?_;refine hr.ok c w1 e1 σ _ _ rfl E1 q1 fun vs xs e2 w2 E2 l2 v2 q2=>?_;exact k _ _ e2 w2 E2 (l1.trans l2) (.cons (v1.mono l2) v2) q2
instance rad_cons {K:Frag} {ta:TE} {tr:TA} {pa:PDt} {pr:PAr} [ha:RD K ta pa] [hr:RAd K tr pr]:RAd K (E7 ta tr) (F5 pa pr) where
  ok:=by
    rintro c w env σ Qp Q rfl E p k;refine ha.ok c w env σ _ _ rfl E p fun x dx e1 w1 E1 l1 v1 q1=>?_;refine hr.ok c w1 e1 σ _ _ rfl E1 q1 fun vs xs e2 w2 E2 l2 v2 q2=>?_;exact k _ _ e2 w2 E2 (l1.trans l2) (.cons (Den.same l2.f v1) v2) q2
def pTup (pa:PAr) (env:PEnv) (Q:SV->PEnv->Prop):Prop:=pa env fun xs e=>xs.length<=1000/\Q (.d (.tuple xs)) e
def pLst (pa:PAr) (env:PEnv) (Q:SV->PEnv->Prop):Prop:=pa env fun xs e=>xs.length<=1000/\Q (.own xs) e
instance re_tup {K:Frag} {ta:TA} {pa:PAr} [ha:RAd K ta pa]:RE K (tTup ta) (pTup pa) where
  ok:=by
    rintro c w env σ Qp Q rfl E p k;refine ha.ok c w env σ _ _ rfl E p fun vs xs e1 w1 E1 l1 v1 q1=>⟨?_,fun p hp=>?_⟩
    · rw [v1.len]; exact Nat.le_of_lt (M9 q1.1)
    · exact k _ _ e1 _ ((Res.tup E1 hp v1).pre l1) q1.2
instance re_lst {K:Frag} {ta:TA} {pa:PAr} [ha:RAd K ta pa]:RE K (tLst ta) (pLst pa) where
  ok:=by
    rintro c w env σ Qp Q rfl E p k;refine ha.ok c w env σ _ _ rfl E p fun vs xs e1 w1 E1 l1 v1 q1=>⟨?_,fun p hp=>?_⟩
    · rw [v1.len]; exact Nat.le_of_lt (M9 q1.1)
    · exact k _ _ e1 _ ((Res.lst E1 hp v1).pre l1) q1.2
class RB (K:Frag) (r:List V->Hpp->VK->Prop) (pr:outParam (List PyData->(SV->Prop)->Prop)):Prop where
  ok:∀ (c:Ct) (w:Wd) (env:PEnv) (σ:St) (vs:List V) (xs:List PyData) (Qp:SV->Prop) (Q:VK),c.K=K->EnvOk c w env σ->VVs K w vs xs->pr xs Qp->(∀ v s w',Res c w env σ w' v s->Qp s->Q v w'.H)->r vs w.H Q
def pCB (pr:List PyData->(SV->Prop)->Prop) (pa:PAr) (env:PEnv) (Q:SV->PEnv->Prop):Prop:=pa env fun xs e=>pr xs fun s=>Q s e
instance re_cb {K:Frag} {r:List V->Hpp->VK->Prop} {ta:TA} {pr:List PyData->(SV->Prop)->Prop} {pa:PAr} [h:RB K r pr] [ha:RAv K ta pa]:RE K (tCB r ta) (pCB pr pa) where
  ok:=by
    rintro c w env σ Qp Q rfl E p k;refine ha.ok c w env σ _ _ rfl E p fun vs xs e1 w1 E1 l1 v1 q1=>?_;exact h.ok c w1 e1 σ vs xs _ _ rfl E1 v1 q1 fun v s w' R q=>k v s e1 w' (R.pre l1) q
def rAbs:List V->Hpp->VK->Prop:=fun xs H Q=>∃ i,xs=[.int i]/\Q (.int (if i < 0 then -i else i)) H
def rMax:List V->Hpp->VK->Prop:=fun xs H Q=>∃ i j,xs=[.int i,.int j]/\Q (.int (if j > i then j else i)) H
def rMin:List V->Hpp->VK->Prop:=fun xs H Q=>∃ i j,xs=[.int i,.int j]/\Q (.int (if j < i then j else i)) H
def rInt:List V->Hpp->VK->Prop:=fun xs H Q=>(∃ i,xs=[.int i]/\Q (.int i) H)\/∃ k,xs=[.bl k]/\Q (.int (if k then 1 else 0)) H
def A7g (K:Frag):List V->Hpp->VK->Prop:=fun xs H Q=>∃ p ys,xs=[.ref p]/\(SqL K H p ys\/SqT K H p ys)/\∀ l,H l=none->Q (.ref l) (upd H l (.lst ys))
def rIsi (K:Frag):List V->Hpp->VK->Prop:=fun xs H Q=>∃ x c T b,xs=[x,.ty c]/\TyV K H x T/\kitB T c=some b/\Q (.bl b) H
section
variable {X:Cx}
theorem Y4:CallR X (.builtin "abs") rAbs:=A6z
theorem A4v (hc:X.calm=true):CallR X (.builtin "max") rMax:=A4w hc
theorem A4t (hc:X.calm=true):CallR X (.builtin "min") rMin:=A4u hc
theorem A4x:CallR X (.type "int") rInt:=Y3
theorem Q6 {K:Frag} (h:X.K=K):CallR X (.type "list") (A7g K):=by subst h; exact Y1
theorem G4 {K:Frag} (h:X.K=K):CallR X (.builtin "isinstance") (rIsi K):=by subst h; exact A0n
end
def pLen (xs:List PyData) (Q:SV->Prop):Prop:=match xs with
  | [.list ys]=>Q (.d (.int ys.length))
  | [.tuple ys]=>Q (.d (.int ys.length))
  | _=>False
def pAbs (xs:List PyData) (Q:SV->Prop):Prop:=match xs with
  | [.int i]=>Q (.d (.int (if i < 0 then -i else i)))
  | _=>False
def pMax (xs:List PyData) (Q:SV->Prop):Prop:=match xs with
  | [.int i,.int j]=>Q (.d (.int (if j > i then j else i)))
  | _=>False
def pMin (xs:List PyData) (Q:SV->Prop):Prop:=match xs with
  | [.int i,.int j]=>Q (.d (.int (if j < i then j else i)))
  | _=>False
def pInt (xs:List PyData) (Q:SV->Prop):Prop:=match xs with
  | [.int i]=>Q (.d (.int i))
  | [.bool k]=>Q (.d (.int (if k then 1 else 0)))
  | _=>False
def A1a (xs:List PyData) (Q:SV->Prop):Prop:=match xs with
  | [.list ys]=>Q (.own ys)
  | [.tuple ys]=>Q (.own ys)
  | _=>False
instance rb_abs {K:Frag}:RB K rAbs pAbs where
  ok:=by
    rintro c w env σ vs xs Qp Q rfl E vv p k;unfold pAbs at p;split at p
    · cases vv with | cons h t=>cases t; exact ⟨_,by rw [h.intE],k _ _ w (Res.data E (.int _)) p⟩
    · exact p.elim
instance rb_max {K:Frag}:RB K rMax pMax where
  ok:=by
    rintro c w env σ vs xs Qp Q rfl E vv p k;unfold pMax at p;split at p
    · cases vv with | cons h t=>cases t with | cons h' t=>cases t; exact ⟨_,_,by rw [h.intE,h'.intE],k _ _ w (Res.data E (.int _)) p⟩
    · exact p.elim
instance rb_min {K:Frag}:RB K rMin pMin where
  ok:=by
    rintro c w env σ vs xs Qp Q rfl E vv p k;unfold pMin at p;split at p
    · cases vv with | cons h t=>cases t with | cons h' t=>cases t; exact ⟨_,_,by rw [h.intE,h'.intE],k _ _ w (Res.data E (.int _)) p⟩
    · exact p.elim
instance rb_int {K:Frag}:RB K rInt pInt where
  ok:=by
    rintro c w env σ vs xs Qp Q rfl E vv p k;unfold pInt at p;split at p
    · cases vv with | cons h t=>cases t; exact .inl ⟨_,by rw [h.intE],k _ _ w (Res.data E (.int _)) p⟩
    · cases vv with | cons h t=>cases t; exact .inr ⟨_,by rw [h.blE],k _ _ w (Res.data E (.int _)) p⟩
    · exact p.elim
instance rb_lst {K:Frag}:RB K (A7g K) A1a where
  ok:=by
    rintro c w env σ vs xs Qp Q rfl E vv p k;unfold A1a at p;split at p
    · cases vv with | cons h t=>cases t; obtain ⟨a,us,e,h1,h2⟩:=h.lst E.wok; exact ⟨a,us,by rw [e],.inl h1,fun l hl=>k _ _ _ (Res.lst E hl h2) p⟩
    · cases vv with | cons h t=>cases t; obtain ⟨a,us,e,h1,h2⟩:=h.tup E.wok; exact ⟨a,us,by rw [e],.inr h1,fun l hl=>k _ _ _ (Res.lst E hl h2) p⟩
    · exact p.elim
def tyD:PyData->String
  | .none=>"NoneType"
  | .bool _=>"bool"
  | .int _=>"int"
  | .str _=>"str"
  | .list _=>"list"
  | .tuple _=>"tuple"
  | .dict _=>"dict"
theorem Den.ty {K:Frag} {H:Hpp} {v:V} {x:PyData} (h:Den K H v x):TyV K H v (tyD x):=by
  cases h with
  | non=>rfl
  | bl=>rfl
  | int=>rfl
  | str=>rfl
  | lst h _=>exact .inl ⟨rfl,_,h⟩
  | tup h _=>exact .inr (.inl ⟨rfl,_,h.1⟩)
  | dct h=>exact .inr (.inr ⟨rfl,_,h⟩)
def pIsi (c:String) (pa:PDt) (env:PEnv) (Q:SV->PEnv->Prop):Prop:=pa env fun x e=>match kitB (tyD x) c with
  | some b=>Q (.d (.bool b)) e
  | none=>False
instance (priority:=high) re_isi {K:Frag} {ta:TE} {pa:PDt} {c:String} [ha:RW K ta pa]:RE K (tCB (rIsi K) (E7 ta (E7 (tC (.ty c)) tNil))) (pIsi c pa) where
  ok:=by
    rintro ct w env σ Qp Q rfl E p k;refine ha.ok ct w env σ _ _ rfl E p fun x dx e1 w1 E1 l1 v1 q1=>?_;split at q1
    · rename_i b hb
      exact ⟨x,c,_,b,rfl,Den.ty (v1.den E1.wok),hb,k _ _ e1 w1 ((Res.data E1 (.bl _)).pre l1) q1⟩
    · exact q1.elim
end Pu
namespace Pu
open PySem L2 My Prf
class RT (K:Frag) (tt:TT) (pt:outParam PTt):Prop where
  ok:∀ (c:Ct) (w:Wd) (env:PEnv) (σ:St) (Qp:Bool->PEnv->Prop) (Q:Bool->Hpp->Prop),c.K=K->EnvOk c w env σ->pt env Qp->(∀ b env' w',EnvOk c w' env' σ->Lw w w'->Qp b env'->Q b w'.H)->tt σ w.H Q
def asB (x:PyData) (k:Bool->Prop):Prop:=match x with
  | .bool b=>k b
  | _=>False
def A9h (pa:PDt) (env:PEnv) (Q:Bool->PEnv->Prop):Prop:=pa env fun x e=>asB x fun b=>Q b e
instance rt_test {K:Frag} {ta:TE} {pa:PDt} [ha:RW K ta pa]:RT K (A8g ta) (A9h pa) where
  ok:=by
    rintro c w env σ Qp Q rfl E p k;refine ha.ok c w env σ _ _ rfl E p fun x dx e1 w1 E1 l1 v1 q1=>?_;unfold asB at q1;split at q1
    · exact ⟨_,v1.blE,k _ e1 w1 E1 l1 q1⟩
    · exact q1.elim
instance rt_B {K:Frag} {ta:TE} {pa:PDt} [ha:RW K ta pa]:RT K (tB ta) (A9h pa) where
  ok:=by
    rintro c w env σ Qp Q rfl E p k;refine ha.ok c w env σ _ _ rfl E p fun x dx e1 w1 E1 l1 v1 q1=>?_;unfold asB at q1;split at q1
    · exact ⟨_,v1.blE,k _ e1 w1 E1 l1 q1⟩
    · exact q1.elim
def pYes (env:PEnv) (Q:Bool->PEnv->Prop):Prop:=Q true env
instance rt_yes {K:Frag}:RT K tYes pYes:=⟨fun c w env σ Qp Q _ E p k=>k true env w E (Lw.refl w) p⟩
def pNot (pa:PTt) (env:PEnv) (Q:Bool->PEnv->Prop):Prop:=pa env fun b e=>Q (!b) e
def pAnd (pa pb:PTt) (env:PEnv) (Q:Bool->PEnv->Prop):Prop:=pa env fun b e=>if b=true then pb e Q else Q false e
def pOr (pa pb:PTt) (env:PEnv) (Q:Bool->PEnv->Prop):Prop:=pa env fun b e=>if b=true then Q true e else pb e Q
instance rt_not {K:Frag} {ta:TT} {pa:PTt} [ha:RT K ta pa]:RT K (tNot ta) (pNot pa) where
  ok:=by
    rintro c w env σ Qp Q rfl E p k;exact ha.ok c w env σ _ _ rfl E p fun b e1 w1 E1 l1 q1=>k _ e1 w1 E1 l1 q1
instance rt_and {K:Frag} {ta tb:TT} {pa pb:PTt} [ha:RT K ta pa] [hb:RT K tb pb]:RT K (tAnd ta tb) (pAnd pa pb) where
  ok:=by
    rintro c w env σ Qp Q rfl E p k;refine ha.ok c w env σ _ _ rfl E p fun b e1 w1 E1 l1 q1=>?_;cases b with
    | true=>exact hb.ok c w1 e1 σ _ _ rfl E1 q1 fun b e2 w2 E2 l2 q2=>k _ e2 w2 E2 (l1.trans l2) q2
    | false=>exact k _ e1 w1 E1 l1 q1
instance rt_or {K:Frag} {ta tb:TT} {pa pb:PTt} [ha:RT K ta pa] [hb:RT K tb pb]:RT K (tOr ta tb) (pOr pa pb) where
  ok:=by
    rintro c w env σ Qp Q rfl E p k;refine ha.ok c w env σ _ _ rfl E p fun b e1 w1 E1 l1 q1=>?_;cases b with
    | false=>exact hb.ok c w1 e1 σ _ _ rfl E1 q1 fun b e2 w2 E2 l2 q2=>k _ e2 w2 E2 (l1.trans l2) q2
    | true=>exact k _ e1 w1 E1 l1 q1
def B4s (pa:PDt) (env:PEnv) (Q:SV->PEnv->Prop):Prop:=pa env fun x e=>asB x fun b=>Q (.d (.bool (!b))) e
def B5s (pa:PDt) (pb:PX) (env:PEnv) (Q:SV->PEnv->Prop):Prop:=pa env fun x e=>asB x fun b=>if b=true then pb e Q else Q (.d (.bool false)) e
def pOrV (pa:PDt) (pb:PX) (env:PEnv) (Q:SV->PEnv->Prop):Prop:=pa env fun x e=>asB x fun b=>if b=true then Q (.d (.bool true)) e else pb e Q
instance re_notV {K:Frag} {ta:TE} {pa:PDt} [ha:RW K ta pa]:RE K (A8i ta) (B4s pa) where
  ok:=by
    rintro c w env σ Qp Q rfl E p k;refine ha.ok c w env σ _ _ rfl E p fun x dx e1 w1 E1 l1 v1 q1=>?_;unfold asB at q1;split at q1
    · exact ⟨_,v1.blE,k _ _ e1 w1 ((Res.data E1 (.bl _)).pre l1) q1⟩
    · exact q1.elim
instance re_andV {K:Frag} {ta tb:TE} {pa:PDt} {pb:PX} [ha:RW K ta pa] [hb:RE K tb pb]:RE K (A8k ta tb) (B5s pa pb) where
  ok:=by
    rintro c w env σ Qp Q rfl E p k;refine ha.ok c w env σ _ _ rfl E p fun x dx e1 w1 E1 l1 v1 q1=>?_;unfold asB at q1;split at q1
    · rename_i b
      refine ⟨_,v1.blE,?_⟩;cases b with
      | true=>exact hb.ok c w1 e1 σ _ _ rfl E1 q1 fun v s e2 w2 R q2=>k _ _ e2 w2 (R.pre l1) q2
      | false=>exact k _ _ e1 w1 ((Res.data E1 (.bl _)).pre l1) q1
    · exact q1.elim
def pIfE (pt:PTt) (pa pb:PX) (env:PEnv) (Q:SV->PEnv->Prop):Prop:=pt env fun b e=>if b=true then pa e Q else pb e Q
instance re_if {K:Frag} {tt:TT} {ta tb:TE} {pt:PTt} {pa pb:PX} [ht:RT K tt pt] [ha:RE K ta pa] [hb:RE K tb pb]:RE K (tIf tt ta tb) (pIfE pt pa pb) where
  ok:=by
    rintro c w env σ Qp Q rfl E p k;refine ht.ok c w env σ _ _ rfl E p fun b e1 w1 E1 l1 q1=>?_;cases b with
    | true=>exact ha.ok c w1 e1 σ _ _ rfl E1 q1 fun v s e2 w2 R q2=>k _ _ e2 w2 (R.pre l1) q2
    | false=>exact hb.ok c w1 e1 σ _ _ rfl E1 q1 fun v s e2 w2 R q2=>k _ _ e2 w2 (R.pre l1) q2
inductive Md where
  | dat | vw | st | bt
def TV (K:Frag) (w:Wd) (v:V) (t:OT):Prop:=Tre K w t [v]/\∀ a ∈ t.fp,¬ w.M a
theorem TV.mono {K:Frag} {w w':Wd} {v:V} {t:OT} (a:Lw w w') (h:TV K w v t) (hs:∀ a ∈ t.fp,w.H a≠none):TV K w' v t :=
  ⟨h.1.mono a h.2,fun b hb=>a.nm (hs b hb) (h.2 b hb)⟩
theorem Tre.has {K:Frag} {w:Wd}:∀ {t:OT} {vs:List V},Tre K w t vs->∀ a ∈ t.fp,w.H a≠none
  | .leaf _,_,_,_,z=>nomatch z
  | .nd _ p _,_,⟨_,_,h,k⟩,a,z=>(List.mem_cons.mp z).elim (fun e=>by rw [e,h]; simp) (Tre.has k a)
  | .nil,_,_,_,z=>nomatch z
  | .cons _ _,_,⟨_,_,_,h,t⟩,a,z=>(Za z).elim (Tre.has h a) (Tre.has t a)
inductive Args (K:Frag) (w:Wd):List Md->List V->List SV->Prop
  | nil:Args K w [] [] []
  | dat {v:V} {x:PyData} {md:List Md} {vs:List V} {as:List SV}:Den K w.F v x->Args K w md vs as->Args K w (.dat :: md) (v :: vs) (.d x :: as)
  | vw {v:V} {xs:List PyData} {md:List Md} {vs:List V} {as:List SV}:VV K w v (.list xs)->Args K w md vs as->Args K w (.vw :: md) (v :: vs) (.bor xs :: as)
  | bt {v:V} {t:OT} {md:List Md} {vs:List V} {as:List SV}:TV K w v t->Args K w md vs as->Args K w (.bt :: md) (v :: vs) (.bt t :: as)
  | st {v:V} {md:List Md} {vs:List V} {as:List SV}:(∃ p,v=.ref p/\w.M p)->Args K w md vs as->Args K w (.st :: md) (v :: vs) (.st :: as)
theorem Args.len {K:Frag} {w:Wd}:∀ {md vs as},Args K w md vs as->vs.length=md.length
  | _,_,_,.nil=>rfl
  | _,_,_,.dat _ t=>congrArg (· + 1) (Args.len t)
  | _,_,_,.vw _ t=>congrArg (· + 1) (Args.len t)
  | _,_,_,.st _ t=>congrArg (· + 1) (Args.len t)
  | _,_,_,.bt _ t=>congrArg (· + 1) (Args.len t)
abbrev PSp:=List SV->(SV->Prop)->Prop
def noZ:Addr->Prop:=fun _=>False
def spOf (K:Frag) (md:List Md) (psp:PSp):Sp:=fun vs H Q _=>∃ (w:Wd) (as:List SV) (Qp:SV->Prop),w.H=H/\w.Ok/\Args K w md vs as/\psp as Qp /\
  ∀ v s w',w'.Ok->Le w w'->VR ⟨K,w,noZ⟩ w' v s->s.isRes=true->Qp s->Q v w'.H
theorem spOf.len {K:Frag} {md:List Md} {psp:PSp} {n:Nat} (h:md.length=n):∀ vs H Q E,spOf K md psp vs H Q E->vs.length=n:=by
  rintro vs H Q E ⟨w,as,Qp,_,_,a,_⟩;exact a.len.trans h
class RAm (K:Frag) (md:List Md) (ta:TA) (pa:outParam PAs):Prop where
  ok:∀ (c:Ct) (w:Wd) (env:PEnv) (σ:St) (Qp:List SV->PEnv->Prop) (Q:List V->Hpp->Prop),c.K=K->EnvOk c w env σ->pa env Qp->(∀ vs as env' w',EnvOk c w' env' σ->Lw w w'->Args K w' md vs as->Qp as env'->Q vs w'.H)->ta σ w.H Q
def B4u (env:PEnv) (Q:List SV->PEnv->Prop):Prop:=Q [] env
def A7r (pa:PDt) (pr:PAs) (env:PEnv) (Q:List SV->PEnv->Prop):Prop:=pa env fun x e1=>pr e1 fun as e2=>Q (.d x :: as) e2
def asL (x:PyData) (k:List PyData->Prop):Prop:=match x with
  | .list xs=>k xs
  | _=>False
def A7p (pa:PDt) (pr:PAs) (env:PEnv) (Q:List SV->PEnv->Prop):Prop:=pa env fun x e1=>asL x fun xs=>pr e1 fun as e2=>Q (.bor xs :: as) e2
def isSt (o:Option (Option SV)) (k:Prop):Prop:=match o with
  | some (some .st)=>k
  | _=>False
def A3h (i:Nat) (pr:PAs) (env:PEnv) (Q:List SV->PEnv->Prop):Prop:=isSt env[i]? (pr env fun as e2=>Q (.st :: as) e2)
instance ram_nil {K:Frag}:RAm K [] tNil B4u:=⟨fun c w env σ Qp Q _ E p k=>k [] [] env w E (Lw.refl w) .nil p⟩
instance ram_dat {K:Frag} {md:List Md} {ta:TE} {tr:TA} {pa:PDt} {pr:PAs} [ha:RD K ta pa] [hr:RAm K md tr pr]:RAm K (.dat :: md) (E7 ta tr) (A7r pa pr) where
  ok:=by
    rintro c w env σ Qp Q rfl E p k;refine ha.ok c w env σ _ _ rfl E p fun x dx e1 w1 E1 l1 v1 q1=>?_;refine hr.ok c w1 e1 σ _ _ rfl E1 q1 fun vs xs e2 w2 E2 l2 v2 q2=>?_;exact k _ _ e2 w2 E2 (l1.trans l2) (.dat (Den.same l2.f v1) v2) q2
instance ram_vw {K:Frag} {md:List Md} {ta:TE} {tr:TA} {pa:PDt} {pr:PAs} [ha:RW K ta pa] [hr:RAm K md tr pr]:RAm K (.vw :: md) (E7 ta tr) (A7p pa pr) where
  ok:=by
    rintro c w env σ Qp Q rfl E p k;refine ha.ok c w env σ _ _ rfl E p fun x dx e1 w1 E1 l1 v1 q1=>?_;unfold asL at q1;split at q1
    · refine hr.ok c w1 e1 σ _ _ rfl E1 q1 fun vs xs e2 w2 E2 l2 v2 q2=>?_
      exact k _ _ e2 w2 E2 (l1.trans l2) (.vw (v1.mono l2) v2) q2
    · exact q1.elim
instance ram_st {K:Frag} {md:List Md} {i:Nat} {tr:TA} {pr:PAs} [hr:RAm K md tr pr]:RAm K (.st :: md) (E7 (tVar i) tr) (A3h i pr) where
  ok:=by
    rintro c w env σ Qp Q rfl E p k;unfold A3h isSt at p;split at p
    · rename_i e
      obtain ⟨v,h1,h2⟩:=E.at' i _ e;refine ⟨v,h1,?_⟩;refine hr.ok c w env σ _ _ rfl E p fun vs xs e2 w2 E2 l2 v2 q2=>?_;obtain ⟨q,e',hm⟩:=h2;exact k _ _ e2 w2 E2 l2 (.st ⟨q,e',l2.m _ hm⟩ v2) q2
    · exact p.elim
def B5m (psp:PSp) (pa:PAs) (env:PEnv) (Q:SV->PEnv->Prop):Prop:=pa env fun as e=>psp as fun s=>Q s e
theorem Res.called {c:Ct} {w w':Wd} {env:PEnv} {σ:St} {v:V} {s:SV} (E:EnvOk c w env σ) (ok:w'.Ok) (l:Le w w') (h:VR ⟨c.K,w,noZ⟩ w' v s) (r:s.isRes=true):Res c w env σ w' v s:=by
  refine ⟨E.mono ok l,l.toLw,?_,fun a f=>E.fresh (h.foot f).2.2.2,r⟩;cases s with
  | d x=>exact h
  | own xs=>obtain ⟨a,vs,e,h1,h2,h3,h4,h5⟩:=h; exact ⟨a,vs,e,h1,h2,h3,E.le0.dom _ h4,h5⟩
  | bor xs=>cases r
  | bt t=>cases r
  | al t=>cases r
  | dk ks=>obtain ⟨l',e,h1,h2,h3,h4⟩:=h; exact ⟨l',e,h1,h2,h3,E.le0.dom _ h4⟩
  | st=>exact h
  | tr t=>exact ⟨h.1,fun a f=>⟨(h.2.1 a f).1,(h.2.1 a f).2.1,(h.2.1 a f).2.2.1,E.le0.dom _ (h.2.1 a f).2.2.2⟩,h.2.2⟩
instance re_call {K:Frag} {md:List Md} {psp:PSp} {E0':XK} {ta:TA} {pa:PAs} [ha:RAm K md ta pa]:RE K (A1z (spOf K md psp) [] E0' ta) (B5m psp pa) where
  ok:=by
    rintro c w env σ Qp Q rfl E p k;refine ha.ok c w env σ _ _ rfl E p fun vs as e1 w1 E1 l1 a1 q1=>?_;rw [List.append_nil];exact ⟨w1,as,_,rfl,E1.wok,a1,q1,fun v s w' ok l h r q=>k v s e1 w' ((Res.called E1 ok l h r).pre l1) q⟩
structure PEnds where
  nx:PEnv->Prop
  rt:SV->PEnv->Prop
  bk:PEnv->Prop
  ct:PEnv->Prop
abbrev PSt:=PEnds->PEnv->Prop
structure EndsOk (c:Ct) (w:Wd) (Dp:PEnds) (D:Ends):Prop where
  nx:∀ env σ w',EnvOk c w' env σ->Same w.F w'.F->Dp.nx env->D.nx σ w'.H
  rt:∀ v s env σ w',EnvOk c w' env σ->VR c w' v s->s.isRes=true->Dp.rt s env->D.rt v w'.H
  bk:∀ env σ w',EnvOk c w' env σ->Same w.F w'.F->Dp.bk env->D.bk σ w'.H
  ct:∀ env σ w',EnvOk c w' env σ->Same w.F w'.F->Dp.ct env->D.ct σ w'.H
theorem EndsOk.on {c:Ct} {w w1:Wd} {Dp:PEnds} {D:Ends} (h:EndsOk c w Dp D) (s:Same w.F w1.F):EndsOk c w1 Dp D :=
  ⟨fun e σ w' E s'=>h.nx e σ w' E (s.trans s'),h.rt,fun e σ w' E s'=>h.bk e σ w' E (s.trans s'),fun e σ w' E s'=>h.ct e σ w' E (s.trans s')⟩
class RS (K:Frag) (ts:TS) (ps:outParam PSt):Prop where
  ok:∀ (c:Ct) (w:Wd) (env:PEnv) (σ:St) (Dp:PEnds) (D:Ends),c.K=K->EnvOk c w env σ->EndsOk c w Dp D->ps Dp env->ts D σ w.H
def B4v (D:PEnds) (env:PEnv):Prop:=D.nx env
def B5n (D:PEnds) (env:PEnv):Prop:=D.bk env
def B9a (D:PEnds) (env:PEnv):Prop:=D.ct env
def A7o (_:PEnds) (_:PEnv):Prop:=False
def pSeq (p q:PSt) (D:PEnds) (env:PEnv):Prop:=p { D with nx:=q D } env
instance rs_next {K:Frag}:RS K A8j B4v:=⟨fun c w env σ Dp D _ E h p=>h.nx env σ w E (Same.refl _) p⟩
instance rs_never {K:Frag}:RS K A2i A7o:=⟨fun c w env σ Dp D _ E h p=>p.elim⟩
instance rs_seq {K:Frag} {t u:TS} {p q:PSt} [ht:RS K t p] [hu:RS K u q]:RS K (tSeq t u) (pSeq p q) where
  ok:=by
    rintro c w env σ Dp D rfl E h pr;refine ht.ok c w env σ { Dp with nx:=q Dp } _ rfl E ⟨fun e1 σ1 w1 E1 s1 n1=>?_,h.rt,h.bk,h.ct⟩ pr;exact hu.ok c w1 e1 σ1 Dp D rfl E1 (h.on s1) n1
def B5d (pe:PX) (D:PEnds) (env:PEnv):Prop:=pe env fun _ e=>D.nx e
instance (priority:=low) rs_drop {K:Frag} {te:TE} {pe:PX} [he:RE K te pe]:RS K (Z6 te) (B5d pe) where
  ok:=by
    rintro c w env σ Dp D rfl E h p;exact he.ok c w env σ _ _ rfl E p fun v s e1 w1 R q=>h.nx e1 σ w1 R.ev R.lw.f q
def pRet (pe:PX) (D:PEnds) (env:PEnv):Prop:=pe env fun s e=>D.rt s e
instance (priority:=low) rs_ret {K:Frag} {te:TE} {pe:PX} [he:RE K te pe]:RS K (tRet te) (pRet pe) where
  ok:=by
    rintro c w env σ Dp D rfl E h p;exact he.ok c w env σ _ _ rfl E p fun v s e1 w1 R q=>h.rt v s e1 σ w1 R.ev R.val R.res q
def A9n (i:Nat) (D:PEnds) (env:PEnv):Prop:=match env[i]? with
  | some (some (.bor _))=>False
  | some (some (.bt _))=>False
  | some (some (.al _))=>False
  | some (some s)=>D.rt s env
  | _=>False
instance rs_retV {K:Frag} {i:Nat}:RS K (tRet (tVar i)) (A9n i) where
  ok:=by
    rintro c w env σ Dp D rfl E h p;unfold A9n at p;split at p
    · exact p.elim
    · exact p.elim
    · exact p.elim
    · rename_i s hn hn2 hn3 e
      obtain ⟨v,h1,h2⟩:=E.at' i _ e;refine ⟨v,h1,h.rt v s env σ w E h2 ?_ p⟩;cases s with
      | bor xs=>exact absurd rfl (hn xs)
      | bt t=>exact absurd rfl (hn2 t)
      | al t=>exact absurd rfl (hn3 t)
      | _=>rfl
    · exact p.elim
def B8v (D:PEnds) (env:PEnv):Prop:=D.rt (.d .none) env
def pIf (pt:PTt) (p q:PSt) (D:PEnds) (env:PEnv):Prop:=pt env fun b e=>if b=true then p D e else q D e
instance rs_if {K:Frag} {tt:TT} {t u:TS} {pt:PTt} {p q:PSt} [hc:RT K tt pt] [ht:RS K t p] [hu:RS K u q]:RS K (tIfS tt t u) (pIf pt p q) where
  ok:=by
    rintro c w env σ Dp D rfl E h pr;refine hc.ok c w env σ _ _ rfl E pr fun b e1 w1 E1 l1 q1=>?_;cases b with
    | true=>exact ht.ok c w1 e1 σ Dp D rfl E1 (h.on l1.f) q1
    | false=>exact hu.ok c w1 e1 σ Dp D rfl E1 (h.on l1.f) q1
def pAsg (pe:PX) (i:Nat) (D:PEnds) (env:PEnv):Prop:=pe env fun s e=>D.nx (e.set i (some s))
instance rs_asg {K:Frag} {te:TE} {pe:PX} {i:Nat} [he:RE K te pe]:RS K (tAsg te (O1 i)) (pAsg pe i) where
  ok:=by
    rintro c w env σ Dp D rfl E h p;exact he.ok c w env σ _ _ rfl E p fun v s e1 w1 R q=>h.nx _ _ w1 (R.ev.set R.val R.new) R.lw.f q
class RG (K:Frag) (g:TG) (pg:outParam (PyData->PEnv->(PEnv->Prop)->Prop)):Prop where
  ok:∀ (c:Ct) (w:Wd) (env:PEnv) (σ:St) (v:V) (x:PyData) (Qp:PEnv->Prop) (Q:St->Hpp->Prop),c.K=K->EnvOk c w env σ->Den K w.F v x->pg x env Qp->(∀ env' σ',EnvOk c w env' σ'->Qp env'->Q σ' w.H)->g v σ w.H Q
class RGs (K:Frag) (g:TGs) (pg:outParam (List PyData->PEnv->(PEnv->Prop)->Prop)):Prop where
  ok:∀ (c:Ct) (w:Wd) (env:PEnv) (σ:St) (vs:List V) (xs:List PyData) (Qp:PEnv->Prop) (Q:St->Hpp->Prop),c.K=K->EnvOk c w env σ->DenAll K w.F vs xs->pg xs env Qp->(∀ env' σ',EnvOk c w env' σ'->Qp env'->Q σ' w.H)->g vs σ w.H Q
def B3w (i:Nat) (x:PyData) (env:PEnv) (Q:PEnv->Prop):Prop:=Q (env.set i (some (.d x)))
instance rg_name {K:Frag} {i:Nat}:RG K (O1 i) (B3w i) where
  ok:=by
    rintro c w env σ v x Qp Q rfl E d p k;exact k _ _ (E.set (s:=.d x) d (fun _ z=>nomatch z)) p
def qNil (xs:List PyData) (env:PEnv) (Q:PEnv->Prop):Prop:=match xs with
  | []=>Q env
  | _=>False
def A8w (pg:PyData->PEnv->(PEnv->Prop)->Prop) (pr:List PyData->PEnv->(PEnv->Prop)->Prop) (xs:List PyData) (env:PEnv) (Q:PEnv->Prop):Prop:=match xs with
  | x :: r=>pg x env fun e=>pr r e Q
  | []=>False
def qTup (n:Nat) (pr:List PyData->PEnv->(PEnv->Prop)->Prop) (x:PyData) (env:PEnv) (Q:PEnv->Prop):Prop:=match x with
  | .tuple xs=>xs.length=n/\pr xs env Q
  | _=>False
instance rgs_nil {K:Frag}:RGs K gNil qNil where
  ok:=by
    rintro c w env σ vs xs Qp Q rfl E d p k;unfold qNil at p;split at p
    · cases d; exact ⟨rfl,k env σ E p⟩
    · exact p.elim
instance rgs_cons {K:Frag} {g:TG} {gs:TGs} {pg:PyData->PEnv->(PEnv->Prop)->Prop} {pr:List PyData->PEnv->(PEnv->Prop)->Prop} [hg:RG K g pg] [hr:RGs K gs pr]:RGs K (A0i g gs) (A8w pg pr) where
  ok:=by
    rintro c w env σ vs xs Qp Q rfl E d p k;unfold A8w at p;split at p
    · cases d with
      | cons h t =>
        refine ⟨_,_,rfl,hg.ok c w env σ _ _ _ _ rfl E h p fun e1 σ1 E1 q1=>?_⟩;exact hr.ok c w e1 σ1 _ _ _ _ rfl E1 t q1 k
    · exact p.elim
instance rg_tup {K:Frag} {n:Nat} {gs:TGs} {pr:List PyData->PEnv->(PEnv->Prop)->Prop} [hr:RGs K gs pr]:RG K (gTup K n gs) (qTup n pr) where
  ok:=by
    rintro c w env σ v x Qp Q rfl E d p k;unfold qTup at p;split at p
    · obtain ⟨a,vs,e,h1,h2⟩:=d.tupE
      exact ⟨a,vs,e,SqT.same E.wok.sub h1,h2.len.trans p.1,hr.ok c w env σ _ _ _ _ rfl E h2 p.2 k⟩
    · exact p.elim
def B5o (pd:PDt) (n:Nat) (pr:List PyData->PEnv->(PEnv->Prop)->Prop) (D:PEnds) (env:PEnv):Prop:=pd env fun x e=>qTup n pr x e D.nx
instance rs_asgT {K:Frag} {te:TE} {pd:PDt} {n:Nat} {gs:TGs} {pr:List PyData->PEnv->(PEnv->Prop)->Prop} [he:RD K te pd] [hr:RGs K gs pr]:RS K (tAsg te (gTup K n gs)) (B5o pd n pr) where
  ok:=by
    rintro c w env σ Dp D rfl E h p;refine he.ok c w env σ _ _ rfl E p fun v x e1 w1 E1 l1 d1 q1=>?_;exact rg_tup.ok c w1 e1 σ v x _ _ rfl E1 d1 q1 fun e2 σ2 E2 q2=>h.nx e2 σ2 w1 E2 l1.f q2
def pPar (i j:Nat) (pa:PAr) (D:PEnds) (env:PEnv):Prop:=pa env fun xs e=>match xs with
  | [x,y]=>D.nx ((e.set i (some (.d x))).set j (some (.d y)))
  | _=>False
instance rs_par {K:Frag} {ta:TA} {pa:PAr} {i j:Nat} [ha:RAd K ta pa]:RS K (tPar i j ta) (pPar i j pa) where
  ok:=by
    rintro c w env σ Dp D rfl E h p;refine ha.ok c w env σ _ _ rfl E p fun vs xs e1 w1 E1 l1 d1 q1=>?_;split at q1
    · cases d1 with
      | cons a t=>cases t with
        | cons b t =>
          cases t;exact ⟨_,_,rfl,h.nx _ _ w1 ((E1.set (s:=.d _) a (fun _ z=>nomatch z)).set (s:=.d _) b (fun _ z=>nomatch z)) l1.f q1⟩
    · exact q1.elim
def K9 (o:Option (Option SV)) (k:List PyData->Prop):Prop:=match o with
  | some (some (.own xs))=>k xs
  | _=>False
theorem EnvOk.writeAt {c:Ct} {w:Wd} {env:PEnv} {σ:St} {i:Nat} {s s':SV} {l:Addr} {wo:HO} {v:V} (E:EnvOk c w env σ) (e:env[i]?=some (some s)) (hσ:σ[i]?=some (some v)) (hf:s.foot v l) (hf':∀ a,s'.foot v a->s.foot v a)
    (hd:VR c ⟨w.M,upd w.H l wo,w.F⟩ v s'):EnvOk c ⟨w.M,upd w.H l wo,w.F⟩ (env.set i (some s')) σ:=by
  obtain ⟨h1,h2,h3,h4⟩:=(E.look e hσ).foot hf;have ne:∀ b,w.M b->b≠l:=fun b hb z=>h3 (z ▸ hb);have hd':∀ {j:Nat} {t:SV},(env.set i (some s'))[j]?=some (some t)->(i=j/\t=s')\/(i≠j/\env[j]?=some (some t)):=by
    intro j t q;rw [List.getElem?_set] at q;split at q
    · rename_i z
      split at q
      · cases q; exact .inl ⟨z,rfl⟩
      · cases q
    · rename_i z; exact .inr ⟨z,q⟩
  have ft:∀ {j:Nat} {t:SV} {u:V} {a:Addr},(env.set i (some s'))[j]?=some (some t)->σ[j]?=some (some u)->t.foot u a->∃ t',env[j]?=some (some t')/\t'.foot u a:=by
    intro j t u a q qu f;rcases hd' q with ⟨rfl,rfl⟩ | ⟨_,q⟩
    · rw [hσ] at qu; cases qu; exact ⟨s,e,hf' a f⟩
    · exact ⟨t,q,f⟩
  refine ⟨⟨fun b o q=>?_,fun p hp=>(E.wok.st p hp).kp (ne p hp) Kp.upd,E.wok.nf⟩,⟨⟨E.le0.f,fun b o q n=>?_,E.le0.m,E.le0.mn,fun b q=>E.le0.dom b (G7 q)⟩,E.le0.n⟩,by simpa using E.len,fun j t q=>?_,fun j k s1 t1 v1 u1 a q1 q2 q3 q4 f1 f2=>?_,fun a za=>?_,fun a j t u za q q' f=>?_⟩
  · show upd w.H l wo b=some o
    rw [C1 (fun z=>by rw [z,h2] at q; cases q)]; exact E.wok.sub b o q
  · show upd w.H l wo b=some o
    rw [C1 (fun z=>by rw [z,h4] at q; cases q)]; exact E.le0.h b o q n
  · rcases hd' q with ⟨rfl,rfl⟩ | ⟨z,q⟩
    · exact ⟨v,hσ,hd⟩
    · obtain ⟨u,g1,g2⟩:=E.at' j t q
      exact ⟨u,g1,g2.writ h1 fun f=>z (E.own i j _ _ _ _ l e q hσ g1 hf f)⟩
  · obtain ⟨_,p1,g1⟩:=ft q1 q3 f1
    obtain ⟨_,p2,g2⟩:=ft q2 q4 f2;exact E.own j k _ _ _ _ a p1 p2 q3 q4 g1 g2
  · obtain ⟨z1,z2,z3⟩:=E.zf a za
    exact ⟨z1,fun q=>z2 (G7 q),z3⟩
  · obtain ⟨_,p,g⟩:=ft q q' f
    exact E.zo a j _ _ za p q' g
theorem EnvOk.write {c:Ct} {w:Wd} {env:PEnv} {σ:St} {i:Nat} {xs ys:List PyData} {l:Addr} {vs us:List V} (E:EnvOk c w env σ) (e:env[i]?=some (some (.own xs))) (hσ:σ[i]?=some (some (.ref l))) (h1:w.H l=some (.lst vs)) (h2:w.F l=none) (h3:¬ w.M l) (h4:c.w0.H l=none)
    (hd:DenAll c.K w.F us ys):EnvOk c ⟨w.M,upd w.H l (.lst us),w.F⟩ (env.set i (some (.own ys))) σ :=
  E.writeAt e hσ rfl (fun _ f=>f) ⟨l,us,rfl,B8,h2,h3,h4,hd⟩
def pApp (i:Nat) (pd:PDt) (D:PEnds) (env:PEnv):Prop:=K9 env[i]? fun _=>pd env fun x e=>K9 e[i]? fun xs=>xs.length < 1000000/\D.nx (e.set i (some (.own (xs++[x]))))
theorem P4 {n:Nat} (h:n < 1000000):n < sizeLine:=Nat.lt_of_lt_of_le h (by decide)
instance rs_app {K:Frag} {i:Nat} {te:TE} {pd:PDt} [he:RD K te pd]:RS K (Z6 (tBM K "list" U1 (tVar i) (E7 te tNil))) (pApp i pd) where
  ok:=by
    rintro c w env σ Dp D rfl E h p;unfold pApp K9 at p;split at p
    · rename_i xs0 e0
      obtain ⟨v,g0,l,vs,ev,h1,h2,h3,h4,h5⟩:=E.at' i _ e0;subst ev;refine ⟨_,g0,.inl ⟨rfl,_,SqL.of h1⟩,?_⟩;refine he.ok c w env σ _ _ rfl E p fun y x e1 w1 E1 l1 d1 q1=>?_;split at q1
      · rename_i xs e
        obtain ⟨v',g0',l',vs',ev',k1,k2,k3,k4,k5⟩:=E1.at' i _ e;rw [g0] at g0'; cases g0'; cases ev';refine ⟨l,vs',y,rfl,rfl,k1,by rw [k5.len]; exact P4 q1.1,?_⟩;exact h.nx _ σ ⟨w1.M,upd w1.H l (.lst (vs'++[y])),w1.F⟩ (E1.write e g0 k1 k2 k3 k4 (k5.app (.cons d1 .nil))) l1.f q1.2
      · exact q1.elim
    · exact p.elim
def B5h (i:Nat) (D:PEnds) (env:PEnv):Prop:=K9 env[i]? fun _=>D.nx (env.set i (some (.own [])))
def B8x (i:Nat) (D:PEnds) (env:PEnv):Prop:=K9 env[i]? fun xs=>0 < xs.length/\D.nx (env.set i (some (.own xs.dropLast)))
end Pu
namespace L2
open PySem PySem.Spec PyProof.Rows
section
variable {X:Cx} {tg:Expr}
def iSq (K:PySem.W.Frag) (tl:TE):TI:=fun σ H R=>tl σ H fun x H1=>(∃ a,x=.ref a/\(∃ xs,SqL K H1 a xs)/\R (Itl K a) H1)\/∃ a,x=.ref a/\(∃ xs,SqT K H1 a xs)/\R (Itt K a) H1
theorem B8j {l:Expr} {tl:TE} (hl:PE X l tl):PI X tg l (iSq X.K tl):=by
  intro pins s σ H R I h;refine thn (hl pins s σ H _ I h) fun v s1 ⟨x,H1,I1,r1,q1⟩=>?_;rcases q1 with ⟨a,e,⟨xs,hq⟩,q⟩ | ⟨a,e,⟨xs,hq⟩,q⟩
  · subst e
    cases r1;obtain ⟨its,rv,p,hz⟩:=I1.list hq;refine wpAny_pyIter_list p.isList ?_;refine ⟨s1.heap.objs.size,[s1.heap.objs.size],_,_,H1,rfl,I1.kept (t':=s1.toks) fun b o e=>Heap.get?_push_of_some _ e,A2g a _,⟨_,Heap.get?_push_size _ rfl,rfl,rfl⟩,fun b hb=>?_,q⟩;have e:b=s1.heap.objs.size:=by simpa using hb
    subst e;exact I1.fpOk (Zv _) (I1.hok.fresh (Zv _))
  · subst e
    cases r1;obtain ⟨its,rv,p,hz⟩:=I1.tuple hq;refine wpAny_pyIter_tuple (show s1.heap.IsTuple a its.toArray from p) ?_;refine ⟨s1.heap.objs.size,[s1.heap.objs.size],_,_,H1,rfl,I1.kept (t':=s1.toks) fun b o e=>Heap.get?_push_of_some _ e,A1x a _,⟨_,Heap.get?_push_size _ rfl,rfl,rfl⟩,fun b hb=>?_,q⟩;have e:b=s1.heap.objs.size:=by simpa using hb
    subst e;exact I1.fpOk (Zv _) (I1.hok.fresh (Zv _))
theorem B33 {K:PySem.W.Frag} {l:Expr} {tl:TE} (h:X.K=K) (hl:PE X l tl):PI X tg l (iSq K tl):=by subst h; exact B8j hl
theorem D4 {K:PySem.W.Frag} (h:X.K=K) (hu:X.A.units + 64 < cLine):OpR X (compareOp .Eq) (rEqD K):=by subst h; exact B5y hu
theorem I0 {K:PySem.W.Frag} (h:X.K=K) (hu:X.A.units + 64 < cLine):OpR X (compareOp .NotEq) (rNeD K):=by subst h; exact B5w hu
theorem O7 {K:PySem.W.Frag} (h:X.K=K):SlR X (rSlL K):=by subst h; exact A8o
end
end L2
namespace Pu
open PySem L2 My Prf
def A7m (pt:PTt) (pb:PSt) (D:PEnds) (env:PEnv):Prop:=∃ Inv:Nat->PEnv->Prop,(∃ m,Inv m env)/\∀ m e,Inv m e->pt e fun b e2=>if b=true then pb ⟨fun e3=>∃ m',m' < m/\Inv m' e3,D.rt,D.nx,fun e3=>∃ m',m' < m/\Inv m' e3⟩ e2 else D.nx e2
instance rs_while {K:Frag} {tt:TT} {tb:TS} {pt:PTt} {pb:PSt} [ht:RT K tt pt] [hb:RS K tb pb]:RS K (A2h tt tb) (A7m pt pb) where
  ok:=by
    rintro c w env σ Dp D rfl E h ⟨Inv,⟨m0,i0⟩,step⟩;refine ⟨fun m σ' H'=>∃ e w',w'.H=H'/\EnvOk c w' e σ'/\Same w.F w'.F/\Inv m e,⟨m0,env,w,rfl,E,Same.refl _,i0⟩,?_⟩;rintro m σ1 _ ⟨e1,w1,rfl,E1,s1,i1⟩;refine ht.ok c w1 e1 σ1 _ _ rfl E1 (step m e1 i1) fun b e2 w2 E2 l2 q2=>?_;cases b with
    | true =>
      refine ⟨fun σ' H'=>∃ e w',w'.H=H'/\EnvOk c w' e σ'/\Same w.F w'.F/\∃ m',m' < m/\Inv m' e,fun σ' H' ⟨e,w',e1,E',s',m',hm,i'⟩=>⟨m',hm,e,w',e1,E',s',i'⟩,?_⟩;refine hb.ok c w2 e2 σ1 ⟨fun e3=>∃ m',m' < m/\Inv m' e3,Dp.rt,Dp.nx,fun e3=>∃ m',m' < m/\Inv m' e3⟩ _ rfl E2 ⟨fun e3 σ3 w3 E3 s3 n3=>⟨e3,w3,rfl,E3,s1.trans (l2.f.trans s3),n3⟩,h.rt,fun e3 σ3 w3 E3 s3 n3=>h.nx e3 σ3 w3 E3 (s1.trans (l2.f.trans s3)) n3,fun e3 σ3 w3 E3 s3 n3=>⟨e3,w3,rfl,E3,s1.trans (l2.f.trans s3),n3⟩⟩ q2
    | false=>exact h.nx e2 σ1 w2 E2 (s1.trans l2.f) q2
def Walk (c:Ct) (w1:Wd) (J:It) (xs:List PyData):Prop :=
  ∀ w',w'.Ok->Le c.w0 w'->Same w1.F w'.F->(∀ i,i < xs.length->J.go i w'.H)/\J.stop xs.length w'.H/\∀ i v H',J.yld i w'.H v H'->i < xs.length->∃ w2 x,w2.H=H'/\w2.Ok/\Le w' w2/\xs[i]?=some x/\Den c.K w2.F v x
class RI (K:Frag) (wi:TI) (pi:outParam PAr):Prop where
  ok:∀ (c:Ct) (w:Wd) (env:PEnv) (σ:St) (Qp:List PyData->PEnv->Prop) (R:It->Hpp->Prop),c.K=K->EnvOk c w env σ->pi env Qp->(∀ J xs env' w',EnvOk c w' env' σ->Lw w w'->Walk c w' J xs->Qp xs env'->R J w'.H)->wi σ w.H R
theorem L0 {c:Ct} {w1:Wd} {a:Addr} {vs:List V} {xs:List PyData} (d:DenAll c.K w1.F vs xs) (h:∀ w',w'.Ok->Le c.w0 w'->Same w1.F w'.F->SqL c.K w'.H a vs):Walk c w1 (Itl c.K a) xs:=by
  intro w' ok l s;have q:=h w' ok l s;have hl:=d.len;refine ⟨fun i hi=>⟨vs,vs[i]'(by omega),q,Zg _⟩,⟨vs,q,by omega⟩,fun i v H' y hi=>?_⟩;obtain ⟨e,y⟩:=y;obtain ⟨x,g1,g2⟩:=d.get (y vs q);exact ⟨w',x,e.symm,ok,Le.refl w',g1,Den.same s g2⟩
theorem A0u {c:Ct} {w1:Wd} {a:Addr} {vs:List V} {xs:List PyData} (d:DenAll c.K w1.F vs xs) (h:∀ w',w'.Ok->Le c.w0 w'->Same w1.F w'.F->SqT c.K w'.H a vs):Walk c w1 (Itt c.K a) xs:=by
  intro w' ok l s;have q:=h w' ok l s;have hl:=d.len;refine ⟨fun i hi=>⟨vs,vs[i]'(by omega),q,Zg _⟩,⟨vs,q,by omega⟩,fun i v H' y hi=>?_⟩;obtain ⟨e,y⟩:=y;obtain ⟨x,g1,g2⟩:=d.get (y vs q);exact ⟨w',x,e.symm,ok,Le.refl w',g1,Den.same s g2⟩
def O6 (x:PyData) (k:List PyData->Prop):Prop:=match x with
  | .list xs=>k xs
  | .tuple xs=>k xs
  | _=>False
def B47 (pd:PDt) (env:PEnv) (Q:List PyData->PEnv->Prop):Prop:=pd env fun x e=>O6 x fun xs=>Q xs e
instance (priority:=low) ri_sq {K:Frag} {tl:TE} {pd:PDt} [hl:RD K tl pd]:RI K (iSq K tl) (B47 pd) where
  ok:=by
    rintro c w env σ Qp R rfl E p k;refine hl.ok c w env σ _ _ rfl E p fun v x e1 w1 E1 l1 d1 q1=>?_;unfold O6 at q1;split at q1
    · obtain ⟨a,vs,e,h1,h2⟩:=d1.lstE
      exact .inl ⟨a,e,⟨vs,E1.wok.sub.seq h1⟩,k _ _ e1 w1 E1 l1 (L0 h2 fun w' ok l s=>(s.trans ok.sub).seq h1) q1⟩
    · obtain ⟨a,vs,e,h1,h2⟩:=d1.tupE
      exact .inr ⟨a,e,⟨vs,SqT.same E1.wok.sub h1⟩,k _ _ e1 w1 E1 l1 (A0u h2 fun w' ok l s=>SqT.same (s.trans ok.sub) h1) q1⟩
    · exact q1.elim
def A3e (i:Nat) (env:PEnv) (Q:List PyData->PEnv->Prop):Prop:=match env[i]? with
  | some (some (.d x))=>O6 x fun xs=>Q xs env
  | some (some (.own xs))=>Q xs (env.set i (some (.d (.list xs))))
  | some (some (.bor xs))=>Q xs env
  | _=>False
instance ri_var {K:Frag} {i:Nat}:RI K (iSq K (tVar i)) (A3e i) where
  ok:=by
    rintro c w env σ Qp R rfl E p k;unfold A3e at p;split at p
    · rename_i x e
      obtain ⟨v,h1,h2⟩:=E.at' i _ e;refine ⟨v,h1,?_⟩;unfold O6 at p;split at p
      · obtain ⟨a,vs,e,g1,g2⟩:=Den.lstE h2
        exact .inl ⟨a,e,⟨vs,E.wok.sub.seq g1⟩,k _ _ env w E (Lw.refl w) (L0 g2 fun w' ok l s=>(s.trans ok.sub).seq g1) p⟩
      · obtain ⟨a,vs,e,g1,g2⟩:=Den.tupE h2
        exact .inr ⟨a,e,⟨vs,SqT.same E.wok.sub g1⟩,k _ _ env w E (Lw.refl w) (A0u g2 fun w' ok l s=>SqT.same (s.trans ok.sub) g1) p⟩
      · exact p.elim
    · rename_i xs e
      obtain ⟨w',v,e',hv,E',l,d⟩:=E.frz e;refine ⟨v,hv,?_⟩;obtain ⟨a,vs,e,g1,g2⟩:=d.lstE;have:=k _ _ _ w' E' l (L0 g2 fun w' ok l s=>(s.trans ok.sub).seq g1) p;rw [e'] at this;exact .inl ⟨a,e,⟨vs,by rw [<- e']; exact E'.wok.sub.seq g1⟩,this⟩
    · rename_i xs e
      obtain ⟨v,h1,h2⟩:=E.at' i _ e;refine ⟨v,h1,?_⟩;rcases h2 with h2 | ⟨l,vs,ev,g1,g2,g3⟩
      · obtain ⟨a,vs,e,g1,g2⟩:=Den.lstE h2
        exact .inl ⟨a,e,⟨vs,E.wok.sub.seq g1⟩,k _ _ env w E (Lw.refl w) (L0 g2 fun w' ok l s=>(s.trans ok.sub).seq g1) p⟩
      · exact .inl ⟨l,ev,⟨vs,SqL.of (E.le0.h _ _ g1 g2)⟩,k _ _ env w E (Lw.refl w) (L0 g3 fun w' ok l' s=>SqL.of (l'.h _ _ g1 g2)) p⟩
    · exact p.elim
def rngD (lo:Int) (n:Nat):List PyData:=(List.range n).map fun k:Nat=>PyData.int (lo + (k:Int))
theorem L6 (lo:Int) (n:Nat):(rngD lo n).length=n:=by simp [rngD]
theorem A0y {lo:Int} {n i:Nat} {x:PyData} (h:(rngD lo n)[i]?=some x):i < n/\x=.int (lo + (i:Int)):=by
  unfold rngD at h;rw [Zh] at h;by_cases hi:i < n
  · rw [List.getElem?_range hi] at h; cases h; exact ⟨hi,rfl⟩
  · rw [List.getElem?_eq_none (by simpa using hi)] at h; cases h
theorem A0v {c:Ct} {w1:Wd} {lo:Int} {n:Nat}:Walk c w1 (Itr lo n) (rngD lo n):=by
  intro w' ok l s;refine ⟨fun i hi=>by rw [L6] at hi; exact hi,by rw [L6]; exact Zv _,fun i v H' y hi=>?_⟩;obtain ⟨e,y⟩:=y;subst y;rw [L6] at hi;refine ⟨w',.int (lo + i),e.symm,ok,Le.refl w',?_,.int _⟩;unfold rngD;rw [Zh,List.getElem?_range hi]; rfl
def B4o (pa:PAr) (env:PEnv) (Q:List PyData->PEnv->Prop):Prop:=pa env fun xs e=>match xs with
  | [.int j]=>(-(2 ^ 62)<=j/\j < 2 ^ 62)/\Q (rngD 0 j.toNat) e
  | _=>False
def B4n (pa:PAr) (env:PEnv) (Q:List PyData->PEnv->Prop):Prop:=pa env fun xs e=>match xs with
  | [.int i,.int j]=>(-(2 ^ 62)<=i/\i < 2 ^ 62/\-(2 ^ 62)<=j/\j < 2 ^ 62)/\Q (rngD i (j - i).toNat) e
  | _=>False
instance ri_rng1 {K:Frag} {ta:TA} {pa:PAr} [ha:RAv K ta pa]:RI K (B2h ta) (B4o pa) where
  ok:=by
    rintro c w env σ Qp R rfl E p k;refine ha.ok c w env σ _ _ rfl E p fun vs xs e1 w1 E1 l1 v1 q1=>?_;split at q1
    · cases v1 with | cons h t=>cases t; exact ⟨_,by rw [h.intE],q1.1.1,q1.1.2,k _ _ e1 w1 E1 l1 A0v q1.2⟩
    · exact q1.elim
instance ri_rng2 {K:Frag} {ta:TA} {pa:PAr} [ha:RAv K ta pa]:RI K (B2g ta) (B4n pa) where
  ok:=by
    rintro c w env σ Qp R rfl E p k;refine ha.ok c w env σ _ _ rfl E p fun vs xs e1 w1 E1 l1 v1 q1=>?_;split at q1
    · cases v1 with | cons h t=>cases t with | cons h' t=>cases t; exact ⟨_,_,by rw [h.intE,h'.intE],q1.1,k _ _ e1 w1 E1 l1 A0v q1.2⟩
    · exact q1.elim
def A1b (xs:List PyData) (pg:PyData->PEnv->(PEnv->Prop)->Prop) (pb:PSt) (D:PEnds) (env:PEnv):Prop :=
  ∃ Inv:Nat->PEnv->Prop,Inv 0 env/\(∀ i x e,xs[i]?=some x->Inv i e->pg x e fun e2=>pb ⟨Inv (i + 1),D.rt,D.nx,Inv (i + 1)⟩ e2)/\∀ e,Inv xs.length e->D.nx e
def pFor (pi:PAr) (pg:PyData->PEnv->(PEnv->Prop)->Prop) (pb:PSt) (D:PEnds) (env:PEnv):Prop:=pi env fun xs e=>A1b xs pg pb D e
instance rs_for {K:Frag} {wi:TI} {g:TG} {tb:TS} {pi:PAr} {pg:PyData->PEnv->(PEnv->Prop)->Prop} {pb:PSt} [hi:RI K wi pi] [hg:RG K g pg] [hb:RS K tb pb]:RS K (tFor wi g tb) (pFor pi pg pb) where
  ok:=by
    rintro c w env σ Dp D rfl E h p;refine hi.ok c w env σ _ _ rfl E p fun J xs e1 w1 E1 l1 wk ⟨Iv,i0,step,fin⟩=>?_;refine ⟨fun i m σ' H'=>m=xs.length - i/\i<=xs.length/\∃ e w',w'.H=H'/\EnvOk c w' e σ'/\Same w1.F w'.F/\Iv i e,⟨xs.length,rfl,Nat.zero_le _,e1,w1,rfl,E1,Same.refl _,i0⟩,?_⟩;rintro i m σ2 _ ⟨rfl,hle,e2,w2,rfl,E2,s2,i2⟩;obtain ⟨go,stop,yld⟩:=wk w2 E2.wok E2.le0 s2;by_cases hlt:i < xs.length
    · refine .inr ⟨go i hlt,fun σ' H'=>i + 1<=xs.length/\∃ e w',w'.H=H'/\EnvOk c w' e σ'/\Same w1.F w'.F/\Iv (i + 1) e,fun σ' H' ⟨q0,q⟩=>⟨xs.length - (i + 1),by omega,rfl,q0,q⟩,fun v H' y=>?_⟩
      obtain ⟨w2',x,rfl,ok2,le2,hx,dx⟩:=yld i v H' y hlt;replace E2:=E2.mono ok2 le2;replace s2:=s2.trans le2.f;clear yld go stop y le2 ok2;generalize w2'=w2 at E2 s2 dx;refine hg.ok c w2 e2 σ2 v x _ _ rfl E2 dx (step i x e2 hx i2) fun e3 σ3 E3 q3=>?_;refine hb.ok c w2 e3 σ3 ⟨Iv (i + 1),Dp.rt,Dp.nx,Iv (i + 1)⟩ _ rfl E3 ⟨fun e4 σ4 w4 E4 s4 n4=>⟨hlt,e4,w4,rfl,E4,s2.trans s4,n4⟩,h.rt,fun e4 σ4 w4 E4 s4 n4=>h.nx e4 σ4 w4 E4 (l1.f.trans (s2.trans s4)) n4,fun e4 σ4 w4 E4 s4 n4=>⟨hlt,e4,w4,rfl,E4,s2.trans s4,n4⟩⟩ q3
    · have e:i=xs.length:=by omega
      subst e;exact .inl ⟨stop,h.nx e2 σ2 w2 E2 (l1.f.trans s2) (fin e2 i2)⟩
theorem M5 {lo:Int} {n:Nat} {pg:PyData->PEnv->(PEnv->Prop)->Prop} {pb:PSt} {D:PEnds} {env:PEnv} (Inv:Nat->PEnv->Prop) (h0:Inv 0 env)
    (hs:∀ (i:Nat) e,i < n->Inv i e->pg (.int (lo + (i:Int))) e fun e2=>pb ⟨Inv (i + 1),D.rt,D.nx,Inv (i + 1)⟩ e2) (hd:∀ e,Inv n e->D.nx e):A1b (rngD lo n) pg pb D env :=
  ⟨Inv,h0,fun i x e hx hi=>by obtain ⟨h1,rfl⟩:=A0y hx; exact hs i e h1 hi,fun e h=>hd e (by rwa [L6] at h)⟩
def SV.lent:SV->Option SV
  | .own xs=>some (.bor xs)
  | .tr _=>none
  | .bt _=>none
  | .dk _=>none
  | s=>some s
def F3 (cap:List (Option Nat)) (env:PEnv):PEnv:=cap.map fun o=>o.bind fun j=>(env[j]?).join.bind SV.lent
theorem EnvOk.writeZ {c:Ct} {w:Wd} {env:PEnv} {σ:St} {l:Addr} {us:List V} (E:EnvOk c w env σ) (z:c.Z l) (h4:c.w0.H l=none):EnvOk c ⟨w.M,upd w.H l (.lst us),w.F⟩ env σ:=by
  obtain ⟨h2,h1,h3⟩:=E.zf l z;have ne:∀ b,w.M b->b≠l:=fun b hb z=>h3 (z ▸ hb);refine ⟨⟨fun b o q=>?_,fun p hp=>(E.wok.st p hp).kp (ne p hp) Kp.upd,E.wok.nf⟩,⟨⟨E.le0.f,fun b o q n=>?_,E.le0.m,E.le0.mn,fun b q=>E.le0.dom b (G7 q)⟩,E.le0.n⟩,E.len,fun j s q=>?_,E.own,fun a za=>?_,E.zo⟩
  · show upd w.H l (.lst us) b=some o
    rw [C1 (fun z=>by rw [z,h2] at q; cases q)]; exact E.wok.sub b o q
  · show upd w.H l (.lst us) b=some o
    rw [C1 (fun z=>by rw [z,h4] at q; cases q)]; exact E.le0.h b o q n
  · obtain ⟨v,g1,g2⟩:=E.at' j s q
    exact ⟨v,g1,g2.writ h1 (E.zo l j s v z q g1)⟩
  · obtain ⟨z1,z2,z3⟩:=E.zf a za
    exact ⟨z1,fun q=>z2 (G7 q),z3⟩
theorem EnvOk.cap {c:Ct} {w:Wd} {env:PEnv} {σ:St} {D:Addr} (cap:List (Option Nat)) (E:EnvOk c w env σ) (hD:w.H D=none):EnvOk ⟨c.K,w,fun a=>a=D⟩ (w.lay D (.lst [])) (F3 cap env) (capσ cap σ):=by
  have nown:∀ (i:Nat) s v a,(F3 cap env)[i]?=some (some s)->¬ s.foot v a:=fun i s0 v a q f=>by
    unfold F3 at q;rw [Zh] at q;cases hc:cap[i]? with
    | none=>rw [hc] at q; cases q
    | some o =>
      rw [hc] at q;cases o with
      | none=>cases q
      | some j =>
        have q':((env[j]?).join.bind SV.lent)=some s0:=Zj q;cases hj:(env[j]?).join with
        | none=>rw [hj] at q'; cases q'
        | some s=>rw [hj] at q'; cases s <;> cases q' <;> exact f
  refine ⟨Wd.lay_ok E.wok hD,Wd.lay_le hD,by simp [F3,capσ],fun i s q=>?_,fun i j s t v u a q _ _ _ f=>absurd f (nown i s v a q),fun a za=>?_,fun a j t u _ q _=>nown j t u a q⟩
  · unfold F3 at q
    unfold capσ;rw [Zh] at q ⊢;cases hc:cap[i]? with
    | none=>rw [hc] at q; cases q
    | some o =>
      rw [hc] at q;cases o with
      | none=>cases q
      | some j =>
        have q':((env[j]?).join.bind SV.lent)=some s:=Zj q;cases hj:env[j]? with
        | none=>rw [hj] at q'; cases q'
        | some t =>
          rw [hj] at q';cases t with
          | none=>cases q'
          | some s0 =>
            have q2:s0.lent=some s:=q';obtain ⟨v,h1,h2⟩:=E.at' j s0 hj;refine ⟨v,by simp [h1],?_⟩;cases s0 with
            | d x=>cases q2; exact h2
            | own xs=>cases q2; obtain ⟨l,vs,e,g1,g2,g3,g4,g5⟩:=h2; exact .inr ⟨l,vs,e,g1,g3,g5⟩
            | bor xs =>
              cases q2;rcases h2.vv E.le0 with g | ⟨l,vs,ys,e,e',g1,g2,g3⟩
              · exact .inl g
              · cases e'; exact .inr ⟨l,vs,e,g1,g2,g3⟩
            | st=>cases q2; exact h2
            | tr t=>cases q2
            | bt t=>cases q2
            | al t=>cases q2; exact h2
            | dk t=>cases q2
  · have e:a=D:=za
    subst e;exact ⟨E.wok.fnone hD,by show upd w.H a (.lst []) a≠none; rw [B8]; simp,fun z=>E.wok.mne hD z rfl⟩
theorem Walk.up {c:Ct} {w:Wd} {J:It} {xs:List PyData} (h:Walk c w J xs) (l:Le c.w0 w):Walk ⟨c.K,w,c.Z⟩ w J xs:=fun w' ok l' s=>h w' ok (l.trans l') s
def K2 (xs:List PyData) (pg:PyData->PEnv->(PEnv->Prop)->Prop) (pt:PTt) (pd:PDt) (e0:PEnv) (Fin:List PyData->Prop):Prop :=
  ∃ Pv:Nat->PEnv->List PyData->Prop,Pv 0 e0 []/\(∀ i x e ys,xs[i]?=some x->Pv i e ys->pg x e fun e2=>pt e2 fun b e3=>if b=true then pd e3 fun y e4=>Pv (i + 1) e4 (ys++[y]) else Pv (i + 1) e3 ys)/\∀ e ys,Pv xs.length e ys->Fin ys
theorem A4r {K:Frag} {g:TG} {tt:TT} {te:TE} {pg:PyData->PEnv->(PEnv->Prop)->Prop} {pt:PTt} {pd:PDt} [hg:RG K g pg] [ht:RT K tt pt] [he:RD K te pd] {c:Ct} {w:Wd} {env:PEnv} {σ:St} {J:It} {xs:List PyData} {cap:List (Option Nat)} {D:Addr} {Fp:List PyData->Prop} {Fin:Hpp->Prop}
    (hK:c.K=K) (E:EnvOk c w env σ) (wk:Walk ⟨c.K,w,c.Z⟩ w J xs) (hn:xs.length < 1000000) (p:K2 xs pg pt pd (F3 cap env) Fp) (hD:w.H D=none) (k:∀ w' ys,Res c w env σ w' (.ref D) (.own ys)->Fp ys->Fin w'.H):X8 J g tt te D Fin (capσ cap σ) w.H:=by
  subst hK;obtain ⟨Pv,p0,step,fin⟩:=p;have hw0:c.w0.H D=none:=E.le0.dom D hD;refine ⟨fun i m σ' H' vs=>m=xs.length - i/\i<=xs.length/\∃ e w' ys,w'.H=H'/\EnvOk ⟨c.K,w,fun a=>a=D⟩ w' e σ'/\w'.H D=some (.lst vs)/\vs.length<=i/\DenAll c.K w'.F vs ys/\Pv i e ys,
    ⟨xs.length,rfl,Nat.zero_le _,F3 cap env,w.lay D (.lst []),[],rfl,E.cap cap hD,B8,Zv _,.nil,p0⟩,?_⟩
  rintro i m σ1 _ vs ⟨rfl,hle,e1,w1,ys,rfl,E1,h1,hvl,d1,q1⟩;refine ⟨h1,P4 (by omega),?_⟩;obtain ⟨go,stop,yld⟩:=wk w1 E1.wok E1.le0 E1.le0.f;by_cases hlt:i < xs.length
  · refine .inr ⟨go i hlt,fun v H' y=>?_⟩
    obtain ⟨w1',x,rfl,ok1',le1,hx,dx⟩:=yld i v H' y hlt;replace h1:=le1.h _ _ h1 (E1.zf D rfl).2.2;replace E1:=E1.mono ok1' le1;replace d1:=DenAll.same le1.f d1;clear yld go stop y le1 ok1';generalize w1'=w1 at E1 h1 d1 dx;refine hg.ok ⟨c.K,w,fun a=>a=D⟩ w1 e1 σ1 v x _ _ rfl E1 dx (step i x e1 ys hx q1) fun e2 σ2 E2 q2=>?_;refine ht.ok ⟨c.K,w,fun a=>a=D⟩ w1 e2 σ2 _ _ rfl E2 q2 fun b e3 w3 E3 l3 q3=>?_;have nm:=(E2.zf D rfl).2.2;have h3:=l3.h _ _ h1 nm;cases b with
    | true =>
      refine he.ok ⟨c.K,w,fun a=>a=D⟩ w3 e3 σ2 _ _ rfl E3 q3 fun y' y e4 w4 E4 l4 d4 q4=>?_;have h4:=l4.h _ _ h3 (E3.zf D rfl).2.2;refine ⟨vs,h4,P4 (by omega),xs.length - (i + 1),by omega,rfl,hlt,e4,⟨w4.M,upd w4.H D (.lst (vs++[y'])),w4.F⟩,ys++[y],rfl,E4.writeZ rfl hD,B8,by rw [Ze]; simp; exact hvl,(DenAll.same (l3.f.trans l4.f) d1).app (.cons d4 .nil),q4⟩
    | false =>
      exact ⟨xs.length - (i + 1),by omega,rfl,hlt,e3,w3,ys,rfl,E3,h3,by omega,DenAll.same l3.f d1,q3⟩
  · have e:i=xs.length:=by omega
    subst e;obtain ⟨z1,z2,z3⟩:=E1.zf D rfl;refine .inl ⟨stop,k w1 ys ⟨E.mono E1.wok E1.le0,E1.le0.toLw,⟨D,vs,rfl,h1,z1,z3,hw0,d1⟩,fun a f=>?_,rfl⟩ (fin e1 ys q1)⟩;have:V.ref D=.ref a:=f;cases this;exact E.fresh hD
def B5g (pi:PAr) (pg:PyData->PEnv->(PEnv->Prop)->Prop) (pt:PTt) (pd:PDt) (cap:List (Option Nat)) (env:PEnv) (Q:SV->PEnv->Prop):Prop:=pi env fun xs e=>xs.length < 1000000/\K2 xs pg pt pd (F3 cap e) fun ys=>Q (.own ys) e
instance re_comp {K:Frag} {wi:TI} {g:TG} {tt:TT} {te:TE} {cap:List (Option Nat)} {pi:PAr} {pg:PyData->PEnv->(PEnv->Prop)->Prop} {pt:PTt} {pd:PDt} [hi:RI K wi pi] [hg:RG K g pg] [ht:RT K tt pt] [he:RD K te pd]:RE K (A5c wi g tt te cap) (B5g pi pg pt pd cap) where
  ok:=by
    rintro c w env σ Qp Q rfl E p k;refine hi.ok c w env σ _ _ rfl E p fun J xs e1 w1 E1 l1 wk ⟨hn,q⟩ D hD=>?_;exact A4r (pg:=pg) (pt:=pt) (pd:=pd) rfl E1 (wk.up E1.le0) hn q hD fun w' ys R q'=>k _ _ e1 w' (R.pre l1) q'
def A09 (pi:PAr) (pg:PyData->PEnv->(PEnv->Prop)->Prop) (pt:PTt) (pd:PDt) (cap:List (Option Nat)) (i:Nat) (D:PEnds) (env:PEnv):Prop:=pi env fun xs e=>xs.length < 1000000/\K2 xs pg pt pd (F3 cap e) fun ys=>D.nx (e.set i (some (.own ys)))
instance rs_setComp {K:Frag} {wi:TI} {g:TG} {tt:TT} {te:TE} {cap:List (Option Nat)} {i:Nat} {pi:PAr} {pg:PyData->PEnv->(PEnv->Prop)->Prop} {pt:PTt} {pd:PDt} [hi:RI K wi pi] [hg:RG K g pg] [ht:RT K tt pt] [he:RD K te pd]:RS K (T8 wi g tt te cap i) (A09 pi pg pt pd cap i) where
  ok:=by
    rintro c w env σ Dp D rfl E h p;refine hi.ok c w env σ _ _ rfl E p fun J xs e1 w1 E1 l1 wk ⟨hn,q⟩ l hl=>?_;exact A4r (pg:=pg) (pt:=pt) (pd:=pd) rfl E1 (wk.up E1.le0) hn q hl fun w' ys R q'=>h.nx _ _ w' (R.ev.set R.val R.new) (l1.f.trans R.lw.f) q'
class RP (K:Frag) (to:TO) (po:outParam (PEnv->(Option Int->PEnv->Prop)->Prop)):Prop where
  ok:∀ (c:Ct) (w:Wd) (env:PEnv) (σ:St) (Qp:Option Int->PEnv->Prop) (Q:Option Int->Hpp->Prop),c.K=K->EnvOk c w env σ->po env Qp->(∀ o env' w',EnvOk c w' env' σ->Lw w w'->Qp o env'->Q o w'.H)->to σ w.H Q
def A3c (env:PEnv) (Q:Option Int->PEnv->Prop):Prop:=Q none env
def asI (x:PyData) (k:Int->Prop):Prop:=match x with
  | .int i=>k i
  | _=>False
def B4q (pa:PDt) (env:PEnv) (Q:Option Int->PEnv->Prop):Prop:=pa env fun x e=>asI x fun i=>Q (some i) e
instance rp_no {K:Frag}:RP K Z5 A3c:=⟨fun c w env σ Qp Q _ E p k=>k none env w E (Lw.refl w) p⟩
instance rp_part {K:Frag} {te:TE} {pa:PDt} [ha:RW K te pa]:RP K (A8h te) (B4q pa) where
  ok:=by
    rintro c w env σ Qp Q rfl E p k;refine ha.ok c w env σ _ _ rfl E p fun x dx e1 w1 E1 l1 v1 q1=>?_;unfold asI at q1;split at q1
    · exact ⟨_,v1.intE,k _ e1 w1 E1 l1 q1⟩
    · exact q1.elim
def cutD (xs:List PyData) (lo hi:Option Int):List PyData:=(xs.drop (HT.sIx xs.length 0 lo)).take (HT.sIx xs.length xs.length hi - HT.sIx xs.length 0 lo)
def pSlL (pa:PDt) (pl ph:PEnv->(Option Int->PEnv->Prop)->Prop) (env:PEnv) (Q:SV->PEnv->Prop):Prop:=pa env fun x e=>asL x fun xs=>pl e fun lo e1=>ph e1 fun hi e2=>Q (.own (cutD xs lo hi)) e2
instance re_sl {K:Frag} {te:TE} {tl th:TO} {pa:PDt} {pl ph:PEnv->(Option Int->PEnv->Prop)->Prop} [ha:RW K te pa] [hl:RP K tl pl] [hh:RP K th ph]:RE K (tSl (rSlL K) te tl th) (pSlL pa pl ph) where
  ok:=by
    rintro c w env σ Qp Q rfl E p k;refine ha.ok c w env σ _ _ rfl E p fun x dx e1 w1 E1 l1 v1 q1=>?_;unfold asL at q1;split at q1
    · rename_i xs
      refine hl.ok c w1 e1 σ _ _ rfl E1 q1 fun lo e2 w2 E2 l2 q2=>?_;refine hh.ok c w2 e2 σ _ _ rfl E2 q2 fun hi e3 w3 E3 l3 q3=>?_;obtain ⟨a,vs,e,g1,g2⟩:=((v1.mono l2).mono l3).lst E3.wok;refine ⟨a,vs,e,g1,fun p hp=>k _ _ e3 _ ((Res.lst E3 hp (xs:=cutD xs lo hi) ?_).pre (l1.trans (l2.trans l3))) q3⟩;unfold cutV cutD;rw [g2.len];exact (g2.drop _).take _
    · exact q1.elim
def pRev (pa pb:PDt) (env:PEnv) (Q:SV->PEnv->Prop):Prop:=pa env fun x e=>asL x fun xs=>pb e fun k e2=>k=.int (-1)/\Q (.own xs.reverse) e2
theorem K7 {K:Frag} {w:Wd}:∀ {md:List Md} {vs:List V} {as:List SV},Args K w md vs as->as.length=vs.length/\∀ (i:Nat) s,as[i]?=some s->(∃ v,vs[i]?=some v/\VR ⟨K,w,noZ⟩ w v s)/\∀ u a,¬ s.foot u a
  | _,_,_,.nil=>⟨rfl,fun i s h=>by simp at h⟩
  | _,_,_,.dat h t=>⟨by simp [(K7 t).1],fun i s e=>match i,e with
    | 0,e=>by simp at e; subst e; exact ⟨⟨_,rfl,h⟩,fun _ _ z=>z⟩
    | i + 1,e=>by simpa using (K7 t).2 i s (by simpa using e)⟩
  | _,_,_,.vw h t=>⟨by simp [(K7 t).1],fun i s e=>match i,e with
    | 0,e=>by
      simp at e; subst e;refine ⟨⟨_,rfl,?_⟩,fun _ _ z=>z⟩;rcases h with h | ⟨l,vs,ys,e1,e2,h1,h2,h3⟩
      · exact .inl h
      · cases e2; exact .inr ⟨l,vs,e1,h1,h2,h3⟩
    | i + 1,e=>by simpa using (K7 t).2 i s (by simpa using e)⟩
  | _,_,_,.bt h t=>⟨by simp [(K7 t).1],fun i s e=>match i,e with
    | 0,e=>by simp at e; subst e; exact ⟨⟨_,rfl,h⟩,fun _ _ z=>z⟩
    | i + 1,e=>by simpa using (K7 t).2 i s (by simpa using e)⟩
  | _,_,_,.st h t=>⟨by simp [(K7 t).1],fun i s e=>match i,e with
    | 0,e=>by simp at e; subst e; exact ⟨⟨_,rfl,h⟩,fun _ _ z=>z⟩
    | i + 1,e=>by simpa using (K7 t).2 i s (by simpa using e)⟩
theorem F1 {K:Frag} {ts:TS} {ps:PSt} [hs:RS K ts ps] {md:List Md} {psp:PSp} {vs:List V} {H:Hpp} {Q:VK} {E:XK} {N:List Str} (h:spOf K md psp vs H Q E)
    (hb:∀ as Qp,psp as Qp->ps ⟨fun _=>Qp (.d .none),fun s _=>Qp s,fun _=>False,fun _=>False⟩ (as.map some++List.replicate (N.length - md.length) none)):ts { nx:=fun _ H'=>Q .non H',rt:=Q } (L2.O5 N vs) H:=by
  obtain ⟨w,as,Qp,rfl,ok,a,p,k⟩:=h;obtain ⟨hl,hat⟩:=K7 a;have look:∀ (i:Nat) s,(as.map some++List.replicate (N.length - md.length) none)[i]?=some (some s)->as[i]?=some s:=fun i s e=>by
    rw [List.getElem?_append] at e;split at e
    · rw [Zh] at e
      cases q:as[i]? with
      | none=>rw [q] at e; cases e
      | some t=>rw [q] at e; cases e; rfl
    · rw [List.getElem?_replicate] at e
      split at e <;> cases e
  refine hs.ok ⟨K,w,noZ⟩ w (as.map some++List.replicate (N.length - md.length) none) (L2.O5 N vs) _ _ rfl ⟨ok,Le.refl w,by simp [L2.O5,hl,a.len],fun i s e=>?_,fun i j s t v u a e _ _ _ f=>absurd f ((hat i _ (look i _ e)).2 v a),fun a z=>z.elim,fun a j t u z=>z.elim⟩ ⟨fun env σ w' E' _ q=>?_,fun v s _ _ w' E' h r q=>k v s w' E'.wok E'.le0 h r q,fun _ _ _ _ _ z=>z,fun _ _ _ _ _ z=>z⟩ (hb as Qp p)
  · obtain ⟨⟨v,h1,h2⟩,_⟩:=hat i s (look i s e)
    refine ⟨v,?_,h2⟩;unfold L2.O5;rw [List.getElem?_append_left (by rw [Zl]; exact (Zs h1).1),Zh,h1]; rfl
  · exact k .non (.d .none) w' E'.wok E'.le0 (show Den _ _ _ _ from .non) rfl q
def pLaw:PSp:=fun as Q=>∃ ns:List Int,as=[.bor (ns.map .int)]/\ns.length<=63/\Q (.d (.bool true))
theorem A4p {K:Frag} {F:Hpp}:∀ ns:List Int,DenAll K F (ns.map V.int) (ns.map .int)
  | []=>.nil
  | n :: r=>.cons (.int n) (A4p r)
theorem B63 {K:Frag}:∀ vs H Q E,A8l K vs H Q E->spOf K [.vw] pLaw vs H Q E:=by
  rintro vs H Q E ⟨a,ns,rfl,hS,hl,k⟩;refine ⟨⟨fun _=>False,H,fun b=>if b=a then H a else none⟩,[.bor (ns.map .int)],fun s=>s=.d (.bool true),rfl,⟨fun b o e=>?_,fun _ z=>z.elim,fun _ z=>z.elim⟩,.vw (.inl (.lst ?_ (A4p ns))) .nil,⟨ns,rfl,hl,rfl⟩,fun v s w' ok l h r e=>?_⟩
  · dsimp only at e
    split at e
    · rename_i z; rw [z]; exact e
    · cases e
  · rcases hS with (h | ⟨o,h⟩) | h
    · exact .inl (.inl (by dsimp only; rw [if_pos rfl]; exact h))
    · exact .inl (.inr ⟨o,by dsimp only; rw [if_pos rfl]; exact h⟩)
    · exact .inr h
  · subst e
    have:v=.bl true:=Den.blE h;subst this;exact k _
end Pu
namespace L2
open PySem PySem.Spec PyProof.Rows
end L2
namespace Pu
open PySem L2 My Prf
theorem A91 {q:Rat} {Q:SV->Prop}:pIx (dq q) (.int 0) Q=Q (.d (.int q.num)):=rfl
theorem A90 {q:Rat} {Q:SV->Prop}:pIx (dq q) (.int 1) Q=Q (.d (.int (q.den:Int))):=rfl
theorem B1k {i:Int}:(PyData.int i).canLay0=true:=rfl
theorem A6a {b:Bool}:(PyData.bool b).canLay0=true:=rfl
theorem A59:PyData.none.canLay0=true:=rfl
theorem B2w {i:Int}:(PyData.int i).depth=0:=rfl
theorem A6u {b:Bool}:(PyData.bool b).depth=0:=rfl
theorem B2u {s:Str}:(PyData.str s).depth=0:=rfl
theorem A6t:PyData.none.depth=0:=rfl
theorem B62 {q:Rat}:(dq q).canLay0=true:=rfl
theorem B74 {q:Rat}:(dq q).depth=1:=rfl
theorem A0k {i j:Int}:PyData.eqv (.int i) (.int j)=decide (i=j):=by
  show (i == j)=_;by_cases h:i=j <;> simp [h]
theorem A8q {p q:Rat} (h1:p.num=q.num) (h2:(p.den:Int)=q.den):p=q:=Rat.ext h1 (by omega)
theorem A74 {p q:Rat}:PyData.eqv (dq p) (dq q)=decide (p=q):=by
  show (PyData.eqv (.int p.num) (.int q.num) && (PyData.eqv (.int (p.den:Int)) (.int (q.den:Int)) && true))=_;rw [A0k,A0k,Bool.and_true];by_cases h:p=q
  · subst h; simp
  · rw [Zd h]
    by_cases h1:p.num=q.num
    · have h2:¬ (p.den:Int)=(q.den:Int):=fun z=>h (A8q h1 z)
      rw [Zd h2,Bool.and_false]
    · rw [Zd h1,Bool.false_and]
theorem A4n {q:Rat}:PyData.eqv .none (dq q)=false:=rfl
theorem A4m {q:Rat}:PyData.eqv (dq q) .none=false:=rfl
theorem B2f {q:Rat}:isNo (dq q)=false:=rfl
theorem A76:PyData.tuple [.int 0,.int 1]=dq 0:=rfl
theorem B5z:PyData.tuple [.int 1,.int 1]=dq 1:=rfl
theorem B27 {q:Rat}:tyD (dq q)="tuple":=rfl
theorem B7h:kitB "bool" "bool"=some true:=by decide +kernel
theorem B7d:kitB "int" "int"=some true:=by decide +kernel
theorem B7g:kitB "bool" "int"=some true:=by decide +kernel
theorem B67:kitB "str" "str"=some true:=by decide +kernel
theorem B7b:kitB "list" "list"=some true:=by decide +kernel
theorem B7a:kitB "list" "tuple"=some false:=by decide +kernel
theorem B65:kitB "tuple" "list"=some false:=by decide +kernel
theorem B66:kitB "tuple" "bool"=some false:=by decide +kernel
theorem B68:kitB "NoneType" "tuple"=some false:=by decide +kernel
theorem A4f {K:Frag} {F:Hpp}:∀ {vs:List V} {ns:List Int},DenAll K F vs (ns.map .int)->vs=ns.map V.int
  | _,[],.nil=>rfl
  | _,n :: r,.cons h t=>by rw [h.intE,A4f t]; rfl
def A2w:PSp:=fun as Q=>∃ n:Int,as=[.st,.d (.int n)]/\0 < n/\Sm 4000 n/\∀ d:Int,0<=d->d < n->Q (.d (.int d))
theorem A8f {K:Frag}:∀ vs H Q E,spOf K [.st,.dat] A2w vs H Q E->A2k vs H Q E:=by
  rintro vs H Q E ⟨w,as,Qp,rfl,ok,a,⟨n,rfl,n0,sn,q⟩,k⟩;cases a with
  | st h t=>cases t with
    | dat h' t =>
      cases t;obtain ⟨p,e,hm⟩:=h;subst e;rw [Den.intE h'];refine ⟨p,n,rfl,ok.st p hm,n0,sn,fun d H' d0 d1 S' kp=>?_⟩;have out:∀ b o,w.H b=some o->b≠p->H' b=some o:=fun b o e ne=>kp b o ne e;have pn:=ok.nf p hm;refine k (.int d) (.d (.int d)) ⟨w.M,H',w.F⟩ ⟨fun b o e=>out b o (ok.sub b o e) (fun z=>by rw [z,pn] at e; cases e),fun r hr=>?_,ok.nf⟩ ⟨⟨Same.refl _,fun b o e nb=>out b o e (fun z=>nb (z ▸ hm)),fun _ z=>z,fun _ z=>.inl z,fun b e=>?_⟩,fun _ _ z=>.inl z⟩ (Den.int d) rfl (q d d0 d1)
      · by_cases z:r=p
        · subst z; exact S'
        · exact (ok.st r hr).kp z kp
      · cases hb:w.H b with
        | none=>rfl
        | some o =>
          by_cases z:b=p
          · subst z; obtain ⟨_,_,_,hp,_⟩:=S'.ex; rw [show H' b=none from e] at hp; cases hp
          · have:=out b o hb z; rw [show H' b=none from e] at this; cases this
def B32:PSp:=fun as Q=>∃ a b:Int,as=[.d (.int a),.d (.int b)]/\Q (.d (.int ((Int.gcd a b:Nat):Int)))
def A80:PSp:=fun as Q=>∃ t b:Int,as=[.d (.int t),.d (.int b)]/\0 < b/\Sm 8000 t/\Sm 8000 b/\Q (.d (dq (Rat.divInt t b)))
def S4 (f:Rat->Rat->Rat):PSp:=fun as Q=>∃ p q:Rat,as=[.d (dq p),.d (dq q)]/\SmQ 3900 p/\SmQ 3900 q/\Q (.d (dq (f p q)))
def A2x:PSp:=fun as Q=>∃ p q:Rat,as=[.d (dq p),.d (dq q)]/\SmQ 3900 p/\SmQ 3900 q/\q≠0/\Q (.d (dq (p / q)))
def A2y:PSp:=fun as Q=>∃ p q:Rat,as=[.d (dq p),.d (dq q)]/\SmQ 3900 p/\SmQ 3900 q/\Q (.d (.bool (decide (p < q))))
def A20:PSp:=fun as Q=>∃ (pl:Bool) (le:Int),as=[.st,.d (.bool pl),.d (.int le)]/\(le=0\/le=1)/\∀ q:Rat,0<=q->(le=1->0 < q)->SmR 41 6 q->(pl=true->SmR 3 1 q/\q.den=1)->Q (.d (dq q))
end Pu
namespace L2
open PySem PySem.Spec PyProof.Rows
section
variable {X:Cx} {tg:Expr}
def B3p (K:PySem.W.Frag):R2:=fun x y H Q=>∃ l b xs zs,x=.ref l/\y=.ref b/\SqL K H l xs/\SqL K H b zs/\xs.length + zs.length<=sizeLine/\∀ p,H p=none->Q (.ref p) (upd H p (.lst (xs++zs)))
theorem B0h {K:PySem.W.Frag} (hK:X.K=K):OpR X (binaryOp .Add) (B3p K):=by
  subst hK;intro pins s σ H x y v u Q I rx ry h;obtain ⟨l,b,xs,zs,rfl,rfl,hH,hB,hz,q⟩:=h;cases rx;cases ry;obtain ⟨its,r,hl,z⟩:=I.list hH;obtain ⟨its2,r2,hl2,z2⟩:=I.list hB;have n1:=r.length;have n2:=r2.length;obtain ⟨⟨k1,dd,da,sl⟩,m1,ho,e1,e2,e3⟩:=hl;obtain ⟨⟨k2,dd2,da2,sl2⟩,m2,ho2,e4,e5,e6⟩:=hl2;dsimp only at e1 e2 e3 e4 e5 e6;subst e1 e2 e3 e4 e5 e6;refine concat_meets ⟨_,ho,rfl⟩ ⟨_,ho2,rfl⟩ noFill_list_add seq_list_add F.slot_list_add F.entry_list_add (F.args_list_add_2 _ _) (list_addW l b its.toArray its2.toArray m1 m2 none none sl sl2 (by rw [List.size_toArray,List.size_toArray]; omega)) ⟨ho,ho2,?_⟩;rw [show its.toArray++its2.toArray=(its++its2).toArray by simp];exact ⟨.ref _,_,I.lnew (t':=s.toks) (r.append r2) (by rw [Ze]; omega),rfl,q _ I.fresh⟩
def rAll (K:PySem.W.Frag):List V->Hp->VK->Prop:=fun xs H Q=>∃ (p:Addr) (bs:List Bool),xs=[.ref p]/\SqL K H p (bs.map V.bl)/\Q (.bl (bs.all id)) H
theorem B2z {bs:List Bool}:∀ {us:List Value},Vals (bs.map V.bl) us->us=bs.map Value.bool:=by
  induction bs with
  | nil=>intro us h; cases h; rfl
  | cons b r ih =>
    intro us h;cases h with
    | cons h t=>rw [ih t,show _=Value.bool b from h]; rfl
theorem A2p (bs:List Bool):(List.range bs.length).all (fun i=>bs.getD i false)=bs.all id:=by
  rw [Bool.eq_iff_iff,List.all_eq_true,List.all_eq_true];constructor
  · intro h b hb
    obtain ⟨i,hi,e⟩:=List.mem_iff_getElem.mp hb;have:=h i (List.mem_range.mpr hi);rw [List.getD_eq_getElem?_getD,Zg hi,e] at this;exact this
  · intro h i hi
    have hi:=List.mem_range.mp hi;rw [List.getD_eq_getElem?_getD,Zg hi];exact h _ (List.getElem_mem hi)
theorem A78 {pins:List (Addr × Obj)} {σ:St} {H:Hp} {s:Shared} {p:Addr} {bs:List Bool} (hc:X.calm=true) (I:Inv X pins σ H s) (hS:SqL X.K H p (bs.map V.bl)) {A:Around} (hA:A.handled=none) {Qf:Bool->Value->Shared->Prop} {E:Value->Shared->Prop} {g:(Nat->Bool)->Nat->Bool}
    (hQ:∀ h' tk,Inv X pins σ H { s with heap:=h',toks:=tk }->Qf (g (fun i=>bs.getD i false) bs.length) (.bool (g (fun i=>bs.getD i false) bs.length)) { s with heap:=h',toks:=tk }) :
    wpAny (model X.prog X.w) A (pyIter (.ref p)) (fun it s₂=>∃ J fp wr n P St tr,it=.ref J/\Walks X.prog X.w A J fp wr n P St/\St 0 s₂.heap/\TruthOf X.prog X.w A P tr /\
      ∀ h' tk,(∀ b o,b ∉ wr->s₂.heap.get? b=some o->h'.get? b=some o)->Qf (g tr n) (.bool (g tr n)) { s₂ with heap:=h',toks:=tk }) E s:=by
  obtain ⟨its,r,hl,z⟩:=I.list hS;have e:=B2z r;refine wpAny_pyIter_list hl.isList ?_;have hne:p≠s.heap.objs.size:=by
    obtain ⟨o,_,ho,_⟩:=hl;exact Nat.ne_of_lt (Heap.lt_size ho)
  have W:=Walks.list (prog:=X.prog) (w:=X.w) (A:=A) hA s.heap.objs.size p hne its.toArray;have hn:its.toArray.size=bs.length:=by rw [List.size_toArray,e,Zl]
  rw [hn] at W;refine ⟨s.heap.objs.size,_,_,_,_,_,fun i=>bs.getD i false,rfl,W,⟨⟨_,Heap.get?_push_size _ rfl,rfl,rfl⟩,hl.isList.push _⟩,fun i v s' Q' E' hP q=>?_,fun h' tk hk=>hQ h' tk ?_⟩
  · dsimp only at hP
    rw [List.getElem?_toArray,e,Zh] at hP;cases hb:bs[i]? with
    | none=>rw [hb] at hP; cases hP
    | some b =>
      rw [hb] at hP; cases hP;refine wpAny_truthy_bool ?_;dsimp only at q;rw [List.getD_eq_getElem?_getD,hb] at q;exact q
  · have I1:Inv X pins σ H { s with heap:=s.heap.push { cls:=.type "list_iterator",data:=.fields #[.ref p,.int 0 0] } }:=I.kept (t':=s.toks) fun b o e=>Heap.get?_push_of_some _ e
    have f:=I.fpOk (H':=H) (Zv s.heap.objs.size) I.fresh;exact I1.turned (t':=tk) (fun b o hb e=>hk b o (fun z=>hb (Zn z)) e) f.1 f.2.1 f.2.2.2.1 f.2.2.2.2.1 f.2.2.2.2.2
theorem A4y {K:PySem.W.Frag} (hK:X.K=K) (hc:X.calm=true:=by rfl):CallR X (.builtin "all") (rAll K):=by
  subst hK;intro pins s σ H xs us Q I r h;obtain ⟨p,bs,rfl,hS,q⟩:=h;cases r with
  | cons r rr =>
    cases rr;cases r;refine call_all_walk (A78 hc I hS (A:=X.A.in1) (I.ok.hd hc) (g:=fun tr n=>(List.range n).all tr) (Qf:=fun _=>EP X pins σ Q) fun h' tk I'=>⟨.bl _,H,I',rfl,?_⟩);rw [A2p]; exact q
end
end L2
namespace L2
open PySem PySem.Spec PyProof.Rows
section
variable {X:Cx}
def U7 (T:String):List String->Option Bool
  | []=>some false
  | c :: r=>match kitB T c with
    | some true=>some true
    | some false=>U7 T r
    | none=>none
end
end L2
namespace Pu
open PySem L2 My Prf
def dwnD (lo:Int) (n:Nat):List PyData:=(List.range n).map fun k:Nat=>PyData.int (lo - (k:Int))
def B8u (pa:PAr) (env:PEnv) (Q:List PyData->PEnv->Prop):Prop:=pa env fun xs e=>match xs with
  | [.int i,.int j,.int k]=>k=-1/\((-(2 ^ 61)<=i/\i < 2 ^ 61)/\-(2 ^ 61)<=j/\j < 2 ^ 61)/\Q (dwnD i (i - j).toNat) e
  | _=>False
def pCat (x y:PyData) (Q:SV->Prop):Prop:=match x,y with
  | .list xs,.list ys=>xs.length + ys.length<=1000000/\Q (.own (xs++ys))
  | _,_=>False
instance ro_cat {K:Frag}:RO K (B3p K) pCat where
  ok:=by
    rintro c w env σ x y dx dy Qp Q rfl E vx vy p k;unfold pCat at p;split at p
    · obtain ⟨a,vs,e,h1,h2⟩:=vx.lst E.wok
      obtain ⟨b,us,e',g1,g2⟩:=vy.lst E.wok;exact ⟨a,b,vs,us,e,e',h1,g1,by rw [h2.len,g2.len]; exact Zx p.1 (by decide),fun q hq=>k _ _ _ (Res.lst E hq (h2.app g2)) p.2⟩
    · exact p.elim
def blsD:List PyData->Option (List Bool)
  | []=>some []
  | .bool b :: r=>(blsD r).map (b :: ·)
  | _=>none
theorem A1u {K:Frag} {F:Hpp}:∀ {vs:List V} {xs:List PyData} {bs:List Bool},DenAll K F vs xs->blsD xs=some bs->vs=bs.map V.bl
  | _,_,bs,.nil,h=>by cases h; rfl
  | _,_,bs,.cons (x:=x) (xs:=vs) (d:=d) (ds:=ds) h t,e=>by
    cases d with
    | bool b =>
      have e':(blsD ds).map (b :: ·)=some bs:=e;cases q:blsD ds with
      | none=>rw [q] at e'; cases e'
      | some r =>
        rw [q] at e'; cases e';rw [h.blE,A1u t q]; rfl
    | _=>cases e
def pAll (xs:List PyData) (Q:SV->Prop):Prop:=match xs with
  | [.list ys]=>∃ bs,blsD ys=some bs/\Q (.d (.bool (bs.all id)))
  | _=>False
def pAny (xs:List PyData) (Q:SV->Prop):Prop:=match xs with
  | [.list ys]=>∃ bs,blsD ys=some bs/\Q (.d (.bool (bs.any id)))
  | _=>False
instance rb_all {K:Frag}:RB K (rAll K) pAll where
  ok:=by
    rintro c w env σ vs xs Qp Q rfl E vv p k;unfold pAll at p;split at p
    · obtain ⟨bs,e,q⟩:=p
      cases vv with | cons h t=>cases t; obtain ⟨a,us,e',h1,h2⟩:=h.lst E.wok; exact ⟨a,bs,by rw [e'],by rw [<- A1u h2 e]; exact h1,k _ _ w (Res.data E (.bl _)) q⟩
    · exact p.elim
def B84 (cs:List String) (pa:PDt) (env:PEnv) (Q:SV->PEnv->Prop):Prop:=pa env fun x e=>cs.length<=1000/\match U7 (tyD x) cs with
  | some b=>Q (.d (.bool b)) e
  | none=>False
theorem A6h:U7 "bool" ["list","tuple"]=some false:=by decide +kernel
theorem A6e:U7 "NoneType" ["list","tuple"]=some false:=by decide +kernel
theorem A6g:U7 "int" ["list","tuple"]=some false:=by decide +kernel
theorem A6d:U7 "str" ["list","tuple"]=some false:=by decide +kernel
theorem A6f:U7 "list" ["list","tuple"]=some true:=by decide +kernel
theorem A6c:U7 "tuple" ["list","tuple"]=some true:=by decide +kernel
theorem B5c {x:PyData} {xs:List PyData} {Q:SV->Prop}:pGet (x :: xs) 0 Q=Q (.d x):=by unfold pGet; rw [at0]
theorem B5b {x y:PyData} {xs:List PyData} {Q:SV->Prop}:pGet (x :: y :: xs) 1 Q=Q (.d y):=by unfold pGet; rw [at1]
theorem B87 {x y z:PyData} {xs:List PyData} {Q:SV->Prop}:pGet (x :: y :: z :: xs) 2 Q=Q (.d z):=by unfold pGet; rw [at2]
theorem B86 {x y z u:PyData} {xs:List PyData} {Q:SV->Prop}:pGet (x :: y :: z :: u :: xs) 3 Q=Q (.d u):=by unfold pGet; rw [at3]
theorem K1 {xs:List PyData} {i:Int} {z:PyData} {Q:SV->Prop} (h:atI xs i=some z) (q:Q (.d z)):pGet xs i Q:=by unfold pGet; rw [h]; exact q
theorem B1c {xs:List Int} {d:Int} (h0:0<=d) (h1:d < xs.length):∃ z,z ∈ xs/\atI (xs.map PyData.int) d=some (.int z):=by
  obtain ⟨n,rfl⟩:=Zi h0;have hn:n < xs.length:=by omega
  refine ⟨xs[n],List.getElem_mem hn,K6 ?_⟩;rw [Zh,Zg hn]; rfl
theorem A9 {α:Type} {f:α->PyData} {xs:List α} {n:Nat} {a:α} {Q:SV->Prop} (h:xs[n]?=some a) (q:Q (.d (f a))):pGet (xs.map f) (n:Int) Q :=
  K1 (K6 (by rw [Zh,h]; rfl)) q
theorem A3f {α:Type} {f:α->PyData} {xs:List α} {a:α} {Q:SV->Prop} (h:xs[xs.length - 1]?=some a) (h1:1<=xs.length) (q:Q (.d (f a))):pGet (xs.map f) (-1) Q:=by
  refine K1 (z:=f a) ?_ q;unfold L2.atI ixN;rw [if_neg (by decide),if_pos (by rw [Zl]; omega)];show (xs.map f)[((-1:Int) + ((xs.map f).length:Int)).toNat]?=_;rw [show ((-1:Int) + ((xs.map f).length:Int)).toNat=xs.length - 1 by rw [Zl]; omega,Zh,h]; rfl
theorem pIxT {xs:List PyData} {i:Int} {Q:SV->Prop}:pIx (.tuple xs) (.int i) Q=pGet xs i Q:=rfl
end Pu
namespace L2
open PySem PySem.Spec PyProof.Rows
structure QE (X:Cx) (e:Expr) (t:TE):Prop where
  out:PE X e  t
structure QT (X:Cx) (e:Expr) (t:TT):Prop where
  out:PT X e  t
structure QW (X:Cx) (e:Expr) (t:TT):Prop where
  out:PW X e  t
structure QA (X:Cx) (e:List Expr) (t:TA):Prop where
  out:PA X e  t
structure QSs (X:Cx) (e:List Stmt) (t:TS):Prop where
  out:PSs X e  t
structure QS (X:Cx) (e:Stmt) (t:TS):Prop where
  out:PS X e  t
structure QGs (X:Cx) (e:List Expr) (t:TGs):Prop where
  out:PGs X e  t
structure QG (X:Cx) (e:Expr) (t:TG):Prop where
  out:PG X e  t
structure QI (X:Cx) (e e2:Expr) (t:TI):Prop where
  out:PI X e e2  t
structure QTs (X:Cx) (e:List Expr) (t:TT):Prop where
  out:PTs X e  t
structure QO (X:Cx) (e:Option Expr) (t:TO):Prop where
  out:PO X e  t
section
variable {X:Cx}
theorem qpv (i: Nat) {x:Str} {pos:Pos} (hN: X.N[i]?=some x:=by rfl) (hv: Vis X.env.scope x:=by first | exact Or.inl rfl | exact Or.inr (Or.inl rfl) | exact Or.inr (Or.inr rfl)) (hd: (x == ("__debug__":Str))=false:=by decide) (hcd: (x == ("__classdict__":Str))=false:=by decide):QE X (.Name x pos) (tVar i):=⟨pv i hN hv hd hcd⟩
theorem A3 {i j pos}:QE X (.Constant (.int i) j pos) (tC (.int i)):=⟨C8 ⟩
theorem O3 {b j pos}:QE X (.Constant (.bool b) j pos) (tC (.bl b)):=⟨B8m ⟩
theorem N6 {j pos}:QE X (.Constant .none j pos) (tC .non):=⟨B4a ⟩
theorem D7 {x j pos}:QE X (.Constant (.str x) j pos) (tC (.str x)):=⟨B37 ⟩
theorem K0 {x:Str} {v:V} {u:Value} {pos:Pos} (hg: Gl X x) (hm: X.mg x=none) (hv: bootBuiltins x=some u) (r: RelV v u) (hn: x≠"__name__":=by decide) (hd: (x == ("__debug__":Str))=false:=by decide):QE X (.Name x pos) (tC v):=⟨A9b hg hm hv r hn hd⟩
theorem B0 {op:Operator} {r:R2} (ho: OpR X (binaryOp op) r) (ha: QE X a ta) (hb: QE X b tb):QE X (.BinOp a op b pos) (tOp r ta tb):=⟨G1 ho ha.out hb.out⟩
theorem S2 {op:UnaryOp} {r:V->Hp->VK->Prop} (ho: UnR X (unaryOp op) r) (ha: QE X a ta):QE X (.UnaryOp op a pos) (tUn r ta):=⟨B8k ho ha.out⟩
theorem A2t (ha: QE X a ta):QE X (.UnaryOp .Not a pos) (A8i ta):=⟨B39 ha.out⟩
theorem J9 {op:CmpOp} {r:R2} (ho: OpR X (compareOp op) r) (ha: QE X a ta) (hb: QE X b tb) (hm: behindInMarks op b=false):QE X (.Compare a [op] [b] pos) (tOp r ta tb):=⟨U3 ho ha.out hb.out hm⟩
theorem B1 {op:CmpOp} {r:R2} (ho: OpR X (compareOp op) r) (ha: QE X a ta) (hb: QE X b tb) (hm: behindInMarks op b=false):QT X (.Compare a [op] [b] pos) (A8g (tOp r ta tb)):=⟨A2v ho ha.out hb.out hm⟩
theorem A0c {rest:List Expr} (ha: QE X a ta) (hb: QE X (.BoolOp .And (b :: rest) pos) tb):QE X (.BoolOp .And (a :: b :: rest) pos) (A8k ta tb):=⟨B4c ha.out hb.out⟩
theorem A2s {op} {t:TE} (h: QE X a t):QE X (.BoolOp op [a] pos) t:=⟨B38 h.out⟩
theorem G8 {rest:List Expr} (ha: QT X a tA) (hb: QW X (.BoolOp .And (b :: rest) pos) tB'):QW X (.BoolOp .And (a :: b :: rest) pos) (tAnd tA tB'):=⟨B3z ha.out hb.out⟩
theorem S1 {rest:List Expr} (ha: QT X a tA) (hb: QW X (.BoolOp .Or (b :: rest) pos) tB'):QW X (.BoolOp .Or (a :: b :: rest) pos) (tOr tA tB'):=⟨B8i ha.out hb.out⟩
theorem L7 (ha: QT X a tA):QW X (.BoolOp .And [a] pos) tA:=⟨A8x ha.out⟩
theorem A0a (ha: QT X a tA):QW X (.BoolOp .Or [a] pos) tA:=⟨B3y ha.out⟩
theorem M2 (ha: QT X a tA):QT X (.UnaryOp .Not a pos) (tNot tA):=⟨B30 ha.out⟩
theorem F4 {e:Expr} {t:TE} (h: QE X e t) (he: ∀ whole,isTrue e X.env whole=(do let v <- whole; standAt e.pos; holding [v] (truthy v)):=by intro _; rfl):QT X e (tB t):=⟨A7j h.out he⟩
theorem A2u {c:Expr} (hc: QT X c tA) (ha: QE X a ta) (hb: QE X b tb):QE X (.IfExp c a b pos) (tIf tA ta tb):=⟨A5q hc.out ha.out hb.out⟩
theorem J8 (hc: X.calm=true) (C: CompSc X scope cl N' cap) (hi: QI X tg iter wi) (hg: ∀ s3 H3 fp,QG (X.block scope cl N' s3 H3 fp) tg g) (ht: ∀ s3 H3 fp,QTs (X.block scope cl N' s3 H3 fp) ifs tt) (he: ∀ s3 H3 fp,QE (X.block scope cl N' s3 H3 fp) elt te) (hs: ∀ x,foldedSetIterable iter X.env x=pure x:=by intro _; rfl):QE X (.ListComp elt [⟨tg,iter,ifs,0⟩] scope pos) (A5c wi g tt te cap):=⟨A89 hc C hi.out (fun a b c=>(hg a b c).out) (fun a b c=>(ht a b c).out) (fun a b c=>(he a b c).out) hs⟩
theorem A0b (hc: X.calm=true) (hN: X.N.Nodup) (hi: X.N[i]?=some y) (hy: X.env.scope.names.lookup y=some .local) (C: CompSc X scope cl N' cap) (hit: QI X tg iter wi) (hg: ∀ s3 H3 fp,QG (X.block scope cl N' s3 H3 fp) tg g) (ht: ∀ s3 H3 fp,QTs (X.block scope cl N' s3 H3 fp) ifs tt) (he: ∀ s3 H3 fp,QE (X.block scope cl N' s3 H3 fp) elt te) (hsw: swapsWith (.ListComp elt [⟨tg,iter,ifs,0⟩] scope pos) (some (.Name y py)) spos.line X.env=pure true) (hs: ∀ x,foldedSetIterable iter X.env x=pure x:=by intro _; rfl):QS X (.Assign [.Name y py] (.ListComp elt [⟨tg,iter,ifs,0⟩] scope pos) spos) (T8 wi g tt te cap i):=⟨A11 hc hN hi hy C hit.out (fun a b c=>(hg a b c).out) (fun a b c=>(ht a b c).out) (fun a b c=>(he a b c).out) hsw hs⟩
theorem B3 {x1} (h: QA X es t):QE X (.Tuple es x1 pos) (tTup t):=⟨B36 h.out⟩
theorem C0 (h: QA X es t):QE X (.List es pos) (tLst t):=⟨A29 h.out⟩
theorem N1 {lo hi:Option Expr} {r:V->Option Int->Option Int->Hp->VK->Prop} (hr: SlR X r) (he: QE X e te) (hl: QO X lo tl) (hu: QO X hi th):QE X (.Subscript e (.Slice lo hi none p2) pos) (tSl r te tl th):=⟨A5p hr he.out hl.out hu.out⟩
theorem P1 :QO X none Z5:=⟨A84 ⟩
theorem O9 (h: QE X e te):QO X (some e) (A8h te):=⟨A83 h.out⟩
theorem B3q {r:R2} (hr: IxR X r) (ha: QE X a ta) (hb: QE X b tb) (hs: A0s b):QE X (.Subscript a b pos) (tOp r ta tb):=⟨U2 hr ha.out hb.out hs⟩
theorem A5i (F: FnOk X.prog X.w X.K X.mg X.base CX k f fd ps sp) (hr: Room k X.A) (hg: Gl X x) (hm: X.mg x=some (.ref f)) (hk: PySem.W.keepIn X.K (.ref f)=true) (hb: Binds X.K fd ps ds) (hd: Vals dvs ds) (hx: A1w CX X E) (ha: QA X (e :: es) t) (hdb: (x == ("__debug__":Str))=false:=by decide) (he: starEach (e :: es) X.env=(false,eval e X.env) :: starEach es X.env:=by rfl) (hpl: (backTo pos (starEach es X.env)).any (·.1)=false:=by rfl):QE X (.Call (.Name x p) (e :: es) [] pos) (A1z sp dvs E t):=⟨A9a F hr hg hm hk hb hd hx ha.out hdb he hpl⟩
theorem D0 {id:String} (hc: CallR X (.builtin id) r) (hg: Gl X x) (hm: X.mg x=none) (hv: bootBuiltins x=some (.builtin id)) (ha: QA X (e :: es) t) (hn: x≠"__name__":=by decide) (hdb: (x == ("__debug__":Str))=false:=by decide) (he: starEach (e :: es) X.env=(false,eval e X.env) :: starEach es X.env:=by rfl) (hpl: (backTo pos (starEach es X.env)).any (·.1)=false:=by rfl):QE X (.Call (.Name x p) (e :: es) [] pos) (tCB r t):=⟨A08 hc hg hm hv ha.out hn hdb he hpl⟩
theorem J0 (hc: CallR X (.type T) r) (hg: Gl X x) (hm: X.mg x=none) (hv: bootBuiltins x=some (.type T)) (ha: QA X (e :: es) t) (hn: x≠"__name__":=by decide) (hdb: (x == ("__debug__":Str))=false:=by decide) (he: starEach (e :: es) X.env=(false,eval e X.env) :: starEach es X.env:=by rfl) (hpl: (backTo pos (starEach es X.env)).any (·.1)=false:=by rfl):QE X (.Call (.Name x p) (e :: es) [] pos) (tCB r t):=⟨W9 hc hg hm hv ha.out hn hdb he hpl⟩
theorem E6 {K : PySem.W.Frag} (hK : X.K = K) {id : String} (pa: PlainAttrs T) (slot: Slot T name id) (hty: typeOf (.builtin id) = pure (.type "method_descriptor")) (hm: MtR X id r) (ho: QE X o to) (ha: QA X (e :: es) t) (hbase: attributeBase o name X.env (eval o X.env) = eval o X.env := by rfl) (hfew: ((backTo cpos (starEach (e :: es) X.env)).all (fun x => !x.1) && (backToKw cpos (keywordEach [] X.env)).all (fun x => x.1.isSome)
      && decide ((e :: es).length + ([]:List Keyword).length + (if ([]:List Keyword).isEmpty then 0 else 1) < 30))=true:=by rfl) (hline: (apos.endLine == cpos.line)=true:=by rfl) (hs: starEach (e :: es) X.env=(false,eval e X.env) :: starEach es X.env:=by rfl) (hplain: (backTo cpos (starEach es X.env)).any (·.1)=false:=by rfl):QE X (.Call (.Attribute o name apos) (e :: es) [] cpos) (tBM K T r to t):=by subst hK; exact ⟨B8l pa slot hty hm ho.out ha.out hbase hfew hline hs hplain⟩
theorem A02 {K:PySem.W.Frag} (hK:X.K=K) {id:String} (pa: PlainAttrs T) (slot: Slot T name id) (hty: typeOf (.builtin id)=pure (.type "method_descriptor")) (hm: MtR X id r) (ho: QE X o to) (hbase: attributeBase o name X.env (eval o X.env)=eval o X.env:=by rfl) (hline: (apos.endLine == cpos.line)=true:=by rfl):QE X (.Call (.Attribute o name apos) [] [] cpos) (tBM0 K T r to):=by subst hK; exact ⟨B4b pa slot hty hm ho.out hbase hline⟩
theorem A4 :QA X [] tNil:=⟨S5 ⟩
theorem A0 (ha: QE X e te) (hr: QA X es t) (hs: starEach (e :: es) X.env=(false,eval e X.env) :: starEach es X.env:=by rfl):QA X (e :: es) (E7 te t):=⟨M4 ha.out hr.out hs⟩
theorem C2 :QSs X [] A8j:=⟨A0d ⟩
theorem A6 {st:Stmt} (h1: QS X st t):QSs X [st] t:=⟨N7 h1.out⟩
theorem A5 {st:Stmt} {rest:List Stmt} (h1: QS X st t) (h2: QSs X rest u):QSs X (st :: rest) (tSeq t u):=⟨E9 h1.out h2.out⟩
theorem W5 {st:Stmt}:QS X st A2i:=⟨A5n ⟩
theorem B2 (he: QE X e te):QS X (.Return (some e) pos) (tRet te):=⟨A04 he.out⟩
theorem C7 (he: QE X e te) (hs: swapsWith e none pos.line X.env=pure false:=by rfl):QS X (.Expr e pos) (Z6 te):=⟨A82 he.out hs⟩
theorem D2 {c:Expr} {a b:List Stmt} {tc:TT} (hc: QT X c tc) (ha: QSs X a t) (hb: QSs X b u):QS X (.If c a b pos) (tIfS tc t u):=⟨A81 hc.out ha.out hb.out⟩
theorem W4 {c:Expr} {body:List Stmt} {tc:TT} {tb:TS} (hp: PassesOwn (model X.prog X.w) X.A X.env X.xe) (hc: QT X c tc) (hb: QSs X body tb):QS X (.While c body [] pos) (A2h tc tb):=⟨A5l hp hc.out hb.out⟩
theorem G0 {iter:Expr} {body:List Stmt} {wi:TI} {g:TG} {tb:TS} {pos:Pos} (hp: PassesOwn (model X.prog X.w) X.A X.env X.xe) (hc: X.calm=true) (hi: QI X tg iter wi) (hg: QG X tg g) (hb: QSs X body tb) (hs: ∀ x,foldedSetIterable iter X.env x=pure x:=by intro _; rfl):QS X (.For tg iter body [] pos) (tFor wi g tb):=⟨A7k hp hc hi.out hg.out hb.out hs⟩
theorem A8s {i:Nat} {x:Str} {e:Expr} {te:TE} {pos':Pos} (hN: X.N.Nodup) (hi: X.N[i]?=some x) (hx: Loc X.env.scope x) (he: QE X e te) (hs: swapsWith e (some (.Name x pos')) pos.line X.env=pure false:=by rfl) (hf: X.fn x=true\/X.env.scope.names.lookup x=some .local:=by first | exact .inl rfl | exact .inr rfl | assumption):QS X (.Assign [.Name x pos'] e pos) (tAsg te (O1 i)):=⟨S3 hN hi hx he.out hs hf⟩
theorem P6 {i j:Nat} {x y:Str} {a b:Expr} {ta:TA} {px py pt:Pos} {kt k2 pt2} (hc: X.calm=true) (hN: X.N.Nodup) (hi: X.N[i]?=some x) (hj: X.N[j]?=some y) (hij: i≠j) (hx: X.env.scope.names.lookup x=some .local) (hy: X.env.scope.names.lookup y=some .local) (ha: QA X [a,b] ta) (hw: swappedStores [.Tuple [.Name x px,.Name y py] kt pt] (.Tuple [a,b] k2 pt2) X.env=pure (some [x,y])) (hs: swapsWithSole [.Tuple [.Name x px,.Name y py] kt pt] (.Tuple [a,b] k2 pt2) pos.line X.env=pure false:=by rfl):QS X (.Assign [.Tuple [.Name x px,.Name y py] kt pt] (.Tuple [a,b] k2 pt2) pos) (tPar i j ta):=⟨B31 hc hN hi hj hij hx hy ha.out hw hs⟩
theorem M3 {tg e:Expr} {te:TE} {g:TG} (he: QE X e te) (hg: QG X tg g) (hs: swapsWithSole [tg] e pos.line X.env=pure false:=by rfl) (hw: swappedStores [tg] e X.env=pure none:=by rfl) (h1: (assignEach [tg] X.env).map (·.2)=[assign tg X.env]:=by rfl):QS X (.Assign [tg] e pos) (tAsg te g):=⟨A05 he.out hg.out hs hw h1⟩
theorem A01 {i:Nat} {x:Str} (hN: X.N.Nodup) (hi: X.N[i]?=some x) (hx: Loc X.env.scope x) (hf: X.fn x=true\/X.env.scope.names.lookup x=some .local:=by first | exact .inl rfl | exact .inr rfl | assumption):QG X (.Name x pos) (O1 i):=⟨A28 hN hi hx hf⟩
theorem J6 :QGs X [] gNil:=⟨A87 ⟩
theorem C6 {e:Expr} {es:List Expr} {t:TG} {u:TGs} (h1: QG X e t) (h2: QGs X es u) (hs: (assignEach (e :: es) X.env).map (·.2)=assign e X.env :: (assignEach es X.env).map (·.2):=by rfl):QGs X (e :: es) (A0i t u):=⟨A5o h1.out h2.out hs⟩
theorem J7 {K:PySem.W.Frag} {pos:Pos} {es:List Expr} {k:Nat} {t:TGs} {n:Nat} (h: X.K=K) (hc: X.calm=true) (hg: QGs X es t) (hn: (assignEach es X.env).length=n:=by rfl) (hst: (assignEach es X.env).findIdx? (·.1)=none:=by rfl):QG X (.Tuple es k pos) (gTup K n t):=⟨A88 h hc hg.out hn hst⟩
theorem E8 {a:Expr} {ta:TA} {p pos:Pos} (hg: Gl X "range") (hm: X.mg "range"=none) (ha: QA X [a] ta) (hs: starEach [a] X.env=[(false,eval a X.env)]:=by rfl):QI X tg (.Call (.Name "range" p) [a] [] pos) (B2h ta):=⟨W8 hg hm ha.out hs⟩
theorem A10 {a b:Expr} {ta:TA} {p pos:Pos} (hg: Gl X "range") (hm: X.mg "range"=none) (ha: QA X [a,b] ta) (hs: starEach [a,b] X.env=[(false,eval a X.env),(false,eval b X.env)]:=by rfl) (hs2: starEach [b] X.env=[(false,eval b X.env)]:=by rfl):QI X tg (.Call (.Name "range" p) [a,b] [] pos) (B2g ta):=⟨A27 hg hm ha.out hs hs2⟩
theorem G9 {K:PySem.W.Frag} {l:Expr} {tl:TE} (h: X.K=K) (hl: QE X l tl):QI X tg l (iSq K tl):=⟨B33 h hl.out⟩
theorem L8 {X:Cx}:QTs X [] tYes:=⟨A8z ⟩
theorem A00 {X:Cx} {c:Expr} {t:TT} (h: QT X c t):QTs X [c] t:=⟨A8y h.out⟩
theorem QW.pt {X:Cx} {e:Expr} {t:TT} (h:QW X e t):QT X e t:=⟨h.out.pt⟩
end
end L2
namespace Pu
open PySem L2 My Prf
theorem B73 (n:Int):PyData.tuple [.int n,.int 1]=dq (n:Rat):=by
  unfold dq; rw [Rat.num_intCast,Rat.den_intCast]; rfl
theorem Z8 {k:Nat} {n:Int} (h:Sm k n):SmR k 1 (n:Rat):=⟨by rw [Rat.num_intCast]; exact h,by rw [Rat.den_intCast]; unfold Sm; decide⟩
theorem A8m {k:Nat} {q:Rat} (h:SmR k 1 q):q.den=1:=by
  have h1:(q.den:Int).natAbs < 2 ^ 1:=h.2;have h2:=q.den_nz;omega
theorem B7t {n:Int} (h:0<=n):(0:Rat)<=(n:Rat):=Rat.intCast_nonneg.mpr h
theorem B7s {n:Int} (h:0 < n):(0:Rat) < (n:Rat):=Rat.intCast_pos.mpr h
theorem A2m {z:Int} (h0:0<=z) (h1:z<=1000000000000000000):Sm 4000 z:=Sm.mono (k:=64) (K8 (B:=1000000000000000000) (by omega) (by omega) (by decide)) (by decide)
theorem A5v {c:Rat × Rat} {Q:SV->Prop}:pIx (dcn c) (.int 0) Q=Q (.d (dq c.1)):=by unfold dcn; rw [pIxT,B5c]
theorem A5u {c:Rat × Rat} {Q:SV->Prop}:pIx (dcn c) (.int 1) Q=Q (.d (dq c.2)):=by unfold dcn; rw [pIxT,B5b]
theorem A6x {lo:Int} {n:Nat} {pg:PyData->PEnv->(PEnv->Prop)->Prop} {pt:PTt} {pd:PDt} {e0:PEnv} {Fin:List PyData->Prop} (Pv:Nat->PEnv->List PyData->Prop) (h0:Pv 0 e0 [])
    (hs:∀ (i:Nat) e ys,i < n->Pv i e ys->pg (.int (lo + (i:Int))) e fun e2=>pt e2 fun b e3=>if b=true then pd e3 fun y e4=>Pv (i + 1) e4 (ys++[y]) else Pv (i + 1) e3 ys) (hd:∀ e ys,Pv n e ys->Fin ys):K2 (rngD lo n) pg pt pd e0 Fin :=
  ⟨Pv,h0,fun i x e ys hx hi=>by obtain ⟨h1,rfl⟩:=A0y hx; exact hs i e ys h1 hi,fun e ys h=>hd e ys (by rwa [L6] at h)⟩
theorem P3 {α:Type} {f:α->PyData} {xs:List α} {pg:PyData->PEnv->(PEnv->Prop)->Prop} {pt:PTt} {pd:PDt} {e0:PEnv} {Fin:List PyData->Prop} (Pv:Nat->PEnv->List PyData->Prop) (h0:Pv 0 e0 [])
    (hs:∀ (i:Nat) a e ys,xs[i]?=some a->Pv i e ys->pg (f a) e fun e2=>pt e2 fun b e3=>if b=true then pd e3 fun y e4=>Pv (i + 1) e4 (ys++[y]) else Pv (i + 1) e3 ys) (hd:∀ e ys,Pv xs.length e ys->Fin ys):K2 (xs.map f) pg pt pd e0 Fin:=by
  refine ⟨Pv,h0,fun i x e ys hx hi=>?_,fun e ys h=>hd e ys (by rwa [List.length_map] at h)⟩;rw [Zh] at hx;cases ha:xs[i]? with
  | none=>rw [ha] at hx; cases hx
  | some a=>rw [ha] at hx; cases hx; exact hs i a e ys ha hi
theorem A0j {α:Type} {f:α->PyData} {xs:List α} {pg:PyData->PEnv->(PEnv->Prop)->Prop} {pb:PSt} {D:PEnds} {env:PEnv} (Iv:Nat->PEnv->Prop) (h0:Iv 0 env)
    (hs:∀ (i:Nat) a e,xs[i]?=some a->Iv i e->pg (f a) e fun e2=>pb ⟨Iv (i + 1),D.rt,D.nx,Iv (i + 1)⟩ e2) (hd:∀ e,Iv xs.length e->D.nx e):A1b (xs.map f) pg pb D env:=by
  refine ⟨Iv,h0,fun i x e hx hi=>?_,fun e h=>hd e (by rwa [List.length_map] at h)⟩;rw [Zh] at hx;cases ha:xs[i]? with
  | none=>rw [ha] at hx; cases hx
  | some a=>rw [ha] at hx; cases hx; exact hs i a e ha hi
theorem A8e:PyData.tuple [.int 2,.int 3]=dq (Rat.divInt 2 3):=by
  unfold dq;rw [show (Rat.divInt 2 3).num=2 by decide +kernel,show (Rat.divInt 2 3).den=3 by decide +kernel]; rfl
theorem B2j:PyData.tuple [.int 1,.int 2]=dq (Rat.divInt 1 2):=by
  unfold dq;rw [show (Rat.divInt 1 2).num=1 by decide +kernel,show (Rat.divInt 1 2).den=2 by decide +kernel]; rfl
end Pu
namespace Pu
open PySem L2 My Prf
theorem sm_zero:SmR 1 1 (0:Rat):=⟨by unfold Sm; decide,by unfold Sm; decide⟩
theorem A7a {q:Rat} {k:List PyData->Prop}:O6 (dq q) k=k [.int q.num,.int (q.den:Int)]:=rfl
theorem A9v {q:Rat} {Q:SV->Prop}:pLen [dq q] Q=Q (.d (.int 2)):=rfl
theorem A3d {xs:List PyData} {Q:SV->Prop}:pLen [.list xs] Q=Q (.d (.int xs.length)):=rfl
theorem A5t {xs:List PyData} {Q:SV->Prop}:pLen [.tuple xs] Q=Q (.d (.int xs.length)):=rfl
theorem B2q:PyData.eqv (.list []) (.list [])=true:=rfl
theorem B1j:(PyData.list []).canLay0=true:=rfl
theorem B2v:(PyData.list []).depth=1:=rfl
theorem A8c {i:Int}:tyD (.int i)="int":=rfl
theorem A5a {b:Bool}:tyD (.bool b)="bool":=rfl
theorem A8b {s:Str}:tyD (.str s)="str":=rfl
theorem A47:tyD .none="NoneType":=rfl
theorem A48 {xs:List PyData}:tyD (.list xs)="list":=rfl
theorem A8a {xs:List PyData}:tyD (.tuple xs)="tuple":=rfl
theorem A8d {c:Rat × Rat}:tyD (dcn c)="tuple":=rfl
theorem A2f {xs:List PyData} {k:List PyData->Prop}:O6 (.list xs) k=k xs:=rfl
theorem A43 {xs:List PyData} {k:List PyData->Prop}:O6 (.tuple xs) k=k xs:=rfl
theorem A44 {c:Rat × Rat} {k:List PyData->Prop}:O6 (dcn c) k=k [dq c.1,dq c.2]:=rfl
theorem A4a:isNo .none=true:=rfl
theorem A6m {i:Int}:isNo (.int i)=false:=rfl
theorem A4c {b:Bool}:isNo (.bool b)=false:=rfl
theorem A6l {s:Str}:isNo (.str s)=false:=rfl
theorem A4b {xs:List PyData}:isNo (.list xs)=false:=rfl
theorem A6k {xs:List PyData}:isNo (.tuple xs)=false:=rfl
end Pu
namespace L2
open PySem PySem.Spec PyProof.Rows
section
variable {X:Cx} {pins:List (Addr × Obj)} {σ:St} {H:Hp} {s:Shared} {h':Heap}
theorem Inv.turnL {t':Nat} {wr:List Addr} (I:Inv X pins σ H s) (k:∀ b o,b ∉ wr->s.heap.get? b=some o->h'.get? b=some o) (hf:∀ b ∈ wr,FpOk X pins H b):Inv X pins σ H { s with heap:=h',toks:=t' }:=by
  have nw:∀ b u,H b=some u->b ∉ wr:=fun b u e z=>by have:=(hf b z).1; rw [e] at this; cases this
  refine I.call (g':=s.gens) (d':=s.drawn) (ch:=wr) ⟨fun b o e _ _ hb=>k b o hb e,fun b o e _ _ hb=>⟨o.slots,k b o hb e⟩,fun _ _ _ n _=>n,fun b o e hb=>⟨o,k b o hb e⟩,fun _ _ e=>e,fun _ _ _ e=>e,fun b ps e=>⟨#[],by rw [e]; simp⟩⟩ (fun b u e=>?_) I.bare fun b hb=>?_
  · refine (I.hok b u e).stay (fun c v hc q=>k c v ?_ q) (fun _ q=>q) fun _ _ q=>q
    rcases hc with z | z
    · rw [z]; exact nw b u e
    · exact nw c _ z
  · have f:=hf b hb
    exact ⟨f.2.2.2.1,f.2.1,f.2.2.2.2.1,f.2.2.2.2.2⟩
theorem Inv.laidL {t':Nat} {wr:List Addr} {T:Addr} {o:HO} (I:Inv X pins σ H s) (k:∀ b u,b ∉ wr->s.heap.get? b=some u->h'.get? b=some u) (hf:∀ b ∈ wr,FpOk X pins H b) (hp:s.heap.objs.size<=T) (new:ObjOk X.prog X.w (upd H T o) h' T o) :
    Inv X pins σ (upd H T o) { s with heap:=h',toks:=t' }:=by
  have hn:=I.hok.fresh hp;have nw:∀ b u,H b=some u->b ∉ wr:=fun b u e z=>by have:=(hf b z).1; rw [e] at this; cases this
  refine I.call (g':=s.gens) (d':=s.drawn) (ch:=wr) ⟨fun b u e _ _ hb=>k b u hb e,fun b u e _ _ hb=>⟨u.slots,k b u hb e⟩,fun b u e n _=>by rw [C1 (Nat.ne_of_lt (Nat.lt_of_lt_of_le (Heap.lt_size e) hp))]; exact n,fun b u e hb=>⟨u,k b u hb e⟩,
    fun b xs e=>by rw [C1 (C5 e hn)]; exact e,fun b u xs e=>by rw [C1 (C5 e hn)]; exact e,fun b ps e=>⟨#[],by rw [C1 (C5 e hn),e]; simp⟩⟩ (fun b u e=>?_) I.bare fun b hb=>?_
  · by_cases hb:b=T
    · subst hb; rw [B8] at e; cases e; exact new
    · rw [C1 hb] at e
      refine (I.hok b u e).stay (fun c v hc q=>k c v ?_ q) (fun c q=>by rw [C1 (C5 q hn)]; exact q) fun c xs q=>by rw [C1 (C5 q hn)]; exact q
      rcases hc with z | z
      · rw [z]; exact nw b u e
      · exact nw c _ z
  · have f:=hf b hb
    exact ⟨f.2.2.2.1,f.2.1,f.2.2.2.2.1,f.2.2.2.2.2⟩
end
def Itz (K:PySem.W.Frag) (l1 l2:Addr):It :=
  ⟨fun i H=>∃ xs ys x y,SqL K H l1 xs/\SqL K H l2 ys/\xs[i]?=some x/\ys[i]?=some y,
   fun i H v H'=>∃ T x y,v=.ref T/\H T=none/\H'=upd H T (.tup [x,y])/\(∀ xs,SqL K H l1 xs->xs[i]?=some x)/\∀ ys,SqL K H l2 ys->ys[i]?=some y,
   fun i H=>∃ xs ys,SqL K H l1 xs/\SqL K H l2 ys/\(xs.length<=i\/ys.length<=i)⟩
theorem T7:∀ {xs:List V} {us:List Value} {i:Nat} {x:V},Vals xs us->xs[i]?=some x->∃ u,us[i]?=some u/\RelV x u
  | _,_,_,_,.nil,e=>by simp at e
  | _,_,0,_,.cons h _,e=>by simp at e; subst e; exact ⟨_,rfl,h⟩
  | _,_,i + 1,x,.cons _ t,e=>by
    obtain ⟨u,h1,h2⟩:=T7 (i:=i) (x:=x) t (by simpa using e);exact ⟨u,by simpa using h1,h2⟩
theorem A5b {P:Program} {w:World} {K:PySem.W.Frag} {es:List Expr} {kk:Nat} {tp:Pos} {z TI TO i1 i2 l1 l2:Addr} (D:ZipApart z TI TO i1 i2 l1 l2) :
    Turn P w K (.Tuple es kk tp) (Itz K l1 l2) [z,TI,TO,i1,i2] z (fun i h=>IsZip h z TI TO .none/\IsPair h TI (.ref i1) (.ref i2)/\(∃ a b,IsPair h TO a b)/\h.IsListIter i1 l1 i/\h.IsListIter i2 l2 i) where
  mem:=Zy
  obj:=fun i h st b hb=>by
    obtain ⟨hz,hTI,⟨a,c,hTO⟩,⟨o1,g1,k1,d1⟩,⟨o2,g2,k2,d2⟩⟩:=st;simp only [List.mem_cons,List.mem_nil_iff,or_false] at hb;rcases hb with rfl | rfl | rfl | rfl | rfl
    · exact ⟨_,hz,fun v q=>Data.noConfusion (show Data.fields _=Data.cell v from q)⟩
    · exact ⟨_,hTI,fun v q=>Data.noConfusion (show Data.seq _ _=Data.cell v from q)⟩
    · exact ⟨_,hTO,fun v q=>Data.noConfusion (show Data.seq _ _=Data.cell v from q)⟩
    · exact ⟨_,g1,fun v q=>by rw [d1] at q; cases q⟩
    · exact ⟨_,g2,fun v q=>by rw [d2] at q; cases q⟩
  keep:=fun i h h' st k=>by
    obtain ⟨hz,hTI,⟨a,c,hTO⟩,h1,h2⟩:=st;exact ⟨k z (by simp) _ hz,k TI (by simp) _ hTI,⟨a,c,k TO (by simp) _ hTO⟩,h1.at fun o e=>k i1 (by simp) o e,h2.at fun o e=>k i2 (by simp) o e⟩
  item:=by
    intro X hP hw hK hc i pins s σ H E I hf st hg;subst hP hw hK;obtain ⟨hz,hTI,⟨a,c,hTO⟩,h1,h2⟩:=st;obtain ⟨xs,ys,x,y,q1,q2,ex,ey⟩:=hg;obtain ⟨its1,r1,p1,_⟩:=I.list q1;obtain ⟨its2,r2,p2,_⟩:=I.list q2;obtain ⟨u1,e1,ru1⟩:=T7 r1 ex;obtain ⟨u2,e2,ru2⟩:=T7 r2 ey;refine wpAny_pyNext_zip_item D hz hTI hTO h1 h2 p1.isList p2.isList (by simpa using e1) (by simpa using e2) fun h' a1 a2 a3 a4 a5 a6 hk=>⟨_,rfl,?_⟩;refine wpAny_letOwnedTupleGo_zip a1 fun h'' b1 sb=>?_;have lt:∀ {b o},s.heap.get? b=some o->s.heap.objs.size≠b:=fun e=>Nat.ne_of_gt (Heap.lt_size e);have k2:∀ b o,b ∉ [z,TO,i1,i2]->s.heap.get? b=some o->h''.get? b=some o:=fun b o hb e=>by
      simp only [List.mem_cons,List.mem_nil_iff,or_false,not_or] at hb;exact (sb.2 b hb.1).trans (hk b o hb.1 hb.2.1 hb.2.2.1 hb.2.2.2 e)
    have I2:Inv X pins σ (upd H s.heap.objs.size (.tup [x,y])) { s with heap:=h'',toks:=s.toks }:=by
      refine I.laidL (wr:=[z,TO,i1,i2]) k2 (fun b hb=>hf b ?_) (Zv _) ⟨by show 2<=sizeLine; decide,[u1,u2],.cons ru1 (.cons ru2 .nil),?_⟩
      · simp only [List.mem_cons,List.mem_nil_iff,or_false] at hb ⊢
        rcases hb with q | q | q | q <;> simp [q]
      · exact ⟨_,(sb.2 _ (lt hz)).trans a5,rfl,_,rfl⟩
    refine ⟨.ref s.heap.objs.size,_,I2,rfl,⟨_,x,y,rfl,I.fresh,rfl,fun zs hzs=>by rw [I.list_inj hzs q1]; exact ex,fun zs hzs=>by rw [I.list_inj hzs q2]; exact ey⟩,⟨b1,(sb.2 _ D.TIz).trans (hk _ _ D.TIz D.TITO D.TIi1 D.TIi2 hTI),⟨_,_,(sb.2 _ D.TOz).trans a2⟩,a3.at fun o e=>(sb.2 _ D.i1z).trans e,a4.at fun o e=>(sb.2 _ D.i2z).trans e⟩,fun b hb=>?_⟩;have:b≠s.heap.objs.size:=by
      simp only [List.mem_cons,List.mem_nil_iff,or_false] at hb;obtain ⟨_,g1,_⟩:=h1;obtain ⟨_,g2,_⟩:=h2;rcases hb with rfl | rfl | rfl | rfl | rfl
      · exact (lt hz).symm
      · exact (lt hTI).symm
      · exact (lt hTO).symm
      · exact (lt g1).symm
      · exact (lt g2).symm
    rw [C1 this]; exact (hf b hb).1
  done:=by
    intro X hP hw hK hc i pins s σ H E I hf st hg;subst hP hw hK;obtain ⟨hz,hTI,⟨a,c,hTO⟩,h1,h2⟩:=st;obtain ⟨xs,ys,q1,q2,hl⟩:=hg;obtain ⟨its1,r1,p1,_⟩:=I.list q1;obtain ⟨its2,r2,p2,_⟩:=I.list q2;have n1:=r1.length;have n2:=r2.length;refine wpAny_pyNext_zip_end (I.ok.hd hc) D hz hTI hTO h1 h2 p1.isList p2.isList (hl.imp (fun q=>by simp; omega) fun q=>by simp; omega) fun h' hk=>⟨rfl,?_⟩;refine I.turnL (t':=s.toks) (wr:=[z,TO,i1,i2]) (fun b o hb e=>?_) (fun b hb=>hf b ?_)
    · simp only [List.mem_cons,List.mem_nil_iff,or_false,not_or] at hb
      exact hk b o hb.1 hb.2.1 hb.2.2.1 hb.2.2.2 e
    · simp only [List.mem_cons,List.mem_nil_iff,or_false] at hb ⊢
      rcases hb with q | q | q | q <;> simp [q]
  self:=fun _ _ _ _ _ st h=>wpAny_pyIter_zip st.1 h
section
variable {X:Cx}
def iZip (K:PySem.W.Frag) (ta:TA):TI:=fun σ H R=>ta σ H fun vs H1=>∃ l1 l2 xs ys,vs=[.ref l1,.ref l2]/\SqL K H1 l1 xs/\SqL K H1 l2 ys/\R (Itz K l1 l2) H1
theorem A86 {K:PySem.W.Frag} {a b:Expr} {ta:TA} {p pos:Pos} {es:List Expr} {kk:Nat} {tp:Pos} (hK:X.K=K) (hg:Gl X "zip") (hm:X.mg "zip"=none) (ha:PA X [a,b] ta)
    (hs:starEach [a,b] X.env=[(false,eval a X.env),(false,eval b X.env)]:=by rfl) (hs2:starEach [b] X.env=[(false,eval b X.env)]:=by rfl):PI X (.Tuple es kk tp) (.Call (.Name "zip" p) [a,b] [] pos) (iZip K ta):=by
  subst hK;intro pins s σ H R I h;refine Call_ (T1 I hg hm boot_zip (PyProof.Rows.callWith_type1 (thn (ha pos pins s σ H _ I h) fun us s1 ⟨vs,H1,I1,r1,q1⟩=>?_) (hs.trans (by rw [hs2])) (by rw [hs2]; rfl)));obtain ⟨l1,l2,xs,ys,e,g1,g2,q⟩:=q1;subst e;obtain ⟨u,v,rfl,ru,rv⟩:=Vals.two r1;cases (show u=Value.ref l1 from ru);cases (show v=Value.ref l2 from rv);obtain ⟨its1,_,p1,_⟩:=I1.list g1;obtain ⟨its2,_,p2,_⟩:=I1.list g2;refine call_zip_2 p1.isList p2.isList fun h' a1 a2 a3 a4 a5 a6 hk=>wpAny_pyIter_zip a1 ?_;have lt1:(show Nat from l1) < s1.heap.objs.size:=by obtain ⟨o,_,ho,_⟩:=p1; exact Heap.lt_size ho
  have lt2:(show Nat from l2) < s1.heap.objs.size:=by obtain ⟨o,_,ho,_⟩:=p2; exact Heap.lt_size ho
  have I2:Inv X pins σ H1 { s1 with heap:=h' }:=I1.kept (t':=s1.toks) hk;have D:ZipApart (s1.heap.objs.size + 4) (s1.heap.objs.size + 2) (s1.heap.objs.size + 3) s1.heap.objs.size (s1.heap.objs.size + 1) l1 l2:=by
    generalize s1.heap.objs.size=n at lt1 lt2;have g:∀ a b:Nat,a < b->a≠b:=fun a b q=>Nat.ne_of_lt q;have g':∀ a b:Nat,b < a->a≠b:=fun a b q=>Nat.ne_of_gt q;constructor <;> first | exact g _ _ (Nat.lt_trans lt1 (by omega)) | exact g _ _ (Nat.lt_trans lt2 (by omega)) | exact g _ _ lt1 | exact g _ _ lt2 | exact g _ _ (by omega) | exact g' _ _ (by omega)
  refine ⟨_,[s1.heap.objs.size + 4,s1.heap.objs.size + 2,s1.heap.objs.size + 3,s1.heap.objs.size,s1.heap.objs.size + 1],_,_,H1,rfl,I2,A5b D,⟨a1,a2,⟨_,_,a3⟩,a4,a5⟩,fun b hb=>?_,q⟩;have hb':s1.heap.objs.size<=b:=by
    simp only [List.mem_cons,List.mem_nil_iff,or_false] at hb;rcases hb with rfl | rfl | rfl | rfl | rfl <;> omega
  exact I1.fpOk hb' (I1.hok.fresh hb')
theorem A5h {K:PySem.W.Frag} {a b:Expr} {ta:TA} {p pos:Pos} {es:List Expr} {kk:Nat} {tp:Pos} (hK:X.K=K) (hg:Gl X "zip") (hm:X.mg "zip"=none) (ha:QA X [a,b] ta)
    (hs:starEach [a,b] X.env=[(false,eval a X.env),(false,eval b X.env)]:=by rfl) (hs2:starEach [b] X.env=[(false,eval b X.env)]:=by rfl):QI X (.Tuple es kk tp) (.Call (.Name "zip" p) [a,b] [] pos) (iZip K ta):=⟨A86 hK hg hm ha.out hs hs2⟩
end
end L2
namespace Pu
open PySem L2 My Prf
class RL (K:Frag) (te:TE) (pl:outParam PAr):Prop where
  ok:∀ (c:Ct) (w:Wd) (env:PEnv) (σ:St) (Qp:List PyData->PEnv->Prop) (Q:VK),c.K=K->EnvOk c w env σ->pl env Qp->(∀ v xs env' w',EnvOk c w' env' σ->Lw w w'->VR c w' v (.bor xs)->Qp xs env'->Q v w'.H)->te σ w.H Q
def B81 (pd:PDt) (env:PEnv) (Q:List PyData->PEnv->Prop):Prop:=pd env fun x e=>asL x fun xs=>Q xs e
def A9t (i:Nat) (env:PEnv) (Q:List PyData->PEnv->Prop):Prop:=match env[i]? with
  | some (some (.d x))=>asL x fun xs=>Q xs env
  | some (some (.own xs))=>Q xs (env.set i (some (.d (.list xs))))
  | some (some (.bor xs))=>Q xs env
  | _=>False
instance rl_var {K:Frag} {i:Nat}:RL K (tVar i) (A9t i) where
  ok:=by
    rintro c w env σ Qp Q rfl E p k;unfold A9t at p;split at p
    · rename_i x e
      obtain ⟨v,h1,h2⟩:=E.at' i _ e;unfold asL at p;split at p
      · exact ⟨v,h1,k v _ env w E (Lw.refl w) (.inl h2) p⟩
      · exact p.elim
    · rename_i xs e
      obtain ⟨w',v,e',hv,E',l,d⟩:=E.frz e;refine ⟨v,hv,?_⟩;rw [<- e'];exact k v _ _ w' E' l (.inl d) p
    · rename_i xs e
      obtain ⟨v,h1,h2⟩:=E.at' i _ e;exact ⟨v,h1,k v _ env w E (Lw.refl w) h2 p⟩
    · exact p.elim
inductive Brs (c:Ct) (w:Wd):List V->List (List PyData)->Prop
  | nil:Brs c w [] []
  | cons {v:V} {xs:List PyData} {vs:List V} {xss:List (List PyData)}:VR c w v (.bor xs)->Brs c w vs xss->Brs c w (v :: vs) (xs :: xss)
theorem A60 {c:Ct} {w w':Wd} {v:V} {xs:List PyData} (s:Same w.F w'.F) (h:VR c w v (.bor xs)):VR c w' v (.bor xs):=by
  rcases h with h | ⟨l,vs,e,h1,h2,h3⟩
  · exact .inl (Den.same s h)
  · exact .inr ⟨l,vs,e,h1,h2,DenAll.same s h3⟩
class RLs (K:Frag) (ta:TA) (pa:outParam (PEnv->(List (List PyData)->PEnv->Prop)->Prop)):Prop where
  ok:∀ (c:Ct) (w:Wd) (env:PEnv) (σ:St) (Qp:List (List PyData)->PEnv->Prop) (Q:List V->Hpp->Prop),c.K=K->EnvOk c w env σ->pa env Qp->(∀ vs xss env' w',EnvOk c w' env' σ->Lw w w'->Brs c w' vs xss->Qp xss env'->Q vs w'.H)->ta σ w.H Q
def pLsN (env:PEnv) (Q:List (List PyData)->PEnv->Prop):Prop:=Q [] env
def pLsC (pl:PAr) (pr:PEnv->(List (List PyData)->PEnv->Prop)->Prop) (env:PEnv) (Q:List (List PyData)->PEnv->Prop):Prop:=pl env fun xs e1=>pr e1 fun xss e2=>Q (xs :: xss) e2
instance rls_nil {K:Frag}:RLs K tNil pLsN:=⟨fun c w env σ Qp Q _ E p k=>k [] [] env w E (Lw.refl w) .nil p⟩
instance rls_cons {K:Frag} {te:TE} {tr:TA} {pl:PAr} {pr:PEnv->(List (List PyData)->PEnv->Prop)->Prop} [hl:RL K te pl] [hr:RLs K tr pr]:RLs K (E7 te tr) (pLsC pl pr) where
  ok:=by
    rintro c w env σ Qp Q rfl E p k;refine hl.ok c w env σ _ _ rfl E p fun v xs e1 w1 E1 l1 b1 q1=>?_;refine hr.ok c w1 e1 σ _ _ rfl E1 q1 fun vs xss e2 w2 E2 l2 b2 q2=>?_;exact k _ _ e2 w2 E2 (l1.trans l2) (.cons (A60 l2.f b1) b2) q2
theorem A1t {c:Ct} {w:Wd} {v:V} {xs:List PyData} (h:VR c w v (.bor xs)):∃ l vs,v=.ref l/\DenAll c.K w.F vs xs/\∀ w',w'.Ok->Le c.w0 w'->Same w.F w'.F->SqL c.K w'.H l vs:=by
  rcases h with h | ⟨l,vs,e,h1,h2,h3⟩
  · obtain ⟨a,vs,e,g1,g2⟩:=Den.lstE h
    exact ⟨a,vs,e,g2,fun w' ok _ s=>(s.trans ok.sub).seq g1⟩
  · exact ⟨l,vs,e,h3,fun w' _ l' _=>SqL.of (l'.h _ _ h1 h2)⟩
def zipD (xs ys:List PyData):List PyData:=List.zipWith (fun x y=>.tuple [x,y]) xs ys
def B2s (xs:List PyData):List PyData:=xs.zipIdx.map fun p=>.tuple [.int (p.2:Int),p.1]
theorem A45 {xs ys:List PyData} {i:Nat} {x:PyData} (h:(zipD xs ys)[i]?=some x):∃ a b,xs[i]?=some a/\ys[i]?=some b/\x=.tuple [a,b]:=by
  unfold zipD at h;rw [List.getElem?_zipWith] at h;cases h1:xs[i]? with
  | none=>rw [h1] at h; cases h
  | some a=>cases h2:ys[i]? with
    | none=>rw [h1,h2] at h; cases h
    | some b=>rw [h1,h2] at h; cases h; exact ⟨a,b,rfl,rfl,rfl⟩
theorem A0t {xs ys:List PyData}:(zipD xs ys).length=min xs.length ys.length:=List.length_zipWith
def pZip (pa:PEnv->(List (List PyData)->PEnv->Prop)->Prop) (env:PEnv) (Q:List PyData->PEnv->Prop):Prop:=pa env fun xss e=>match xss with
  | [xs,ys]=>Q (zipD xs ys) e
  | _=>False
def B88 (pa:PEnv->(List (List PyData)->PEnv->Prop)->Prop) (env:PEnv) (Q:List PyData->PEnv->Prop):Prop:=pa env fun xss e=>match xss with
  | [xs]=>Q (B2s xs) e
  | _=>False
instance ri_zip {K:Frag} {ta:TA} {pa:PEnv->(List (List PyData)->PEnv->Prop)->Prop} [ha:RLs K ta pa]:RI K (iZip K ta) (pZip pa) where
  ok:=by
    rintro c w env σ Qp R rfl E p k;refine ha.ok c w env σ _ _ rfl E p fun vs xss e1 w1 E1 l1 b1 q1=>?_;split at q1
    · rename_i xs ys
      cases b1 with | cons h t=>cases t with | cons h' t =>
        cases t;obtain ⟨a1,us1,rfl,d1,s1⟩:=A1t h;obtain ⟨a2,us2,rfl,d2,s2⟩:=A1t h';refine ⟨a1,a2,us1,us2,rfl,s1 w1 E1.wok E1.le0 (Same.refl _),s2 w1 E1.wok E1.le0 (Same.refl _),k _ _ e1 w1 E1 l1 ?_ q1⟩;intro w' ok l s;have g1:=s1 w' ok l s;have g2:=s2 w' ok l s;have n1:=d1.len;have n2:=d2.len;rw [A0t];refine ⟨fun i hi=>⟨us1,us2,us1[i]'(by omega),us2[i]'(by omega),g1,g2,Zg _,Zg _⟩,⟨us1,us2,g1,g2,by omega⟩,fun i v H' y hi=>?_⟩;obtain ⟨T,x,y',rfl,hT,rfl,y1,y2⟩:=y;obtain ⟨dx,x1,x2⟩:=d1.get (y1 us1 g1);obtain ⟨dy,y3,y4⟩:=d2.get (y2 us2 g2);refine ⟨w'.tup T (.tup [x,y']),.tuple [dx,dy],rfl,Wd.tup_ok ok hT,Wd.tup_le ok hT,?_,?_⟩
        · unfold zipD; rw [List.getElem?_zipWith,x1,y3]
        · have f:=(Wd.tup_le (o:=.tup [x,y']) ok hT).f
          exact .tup (SqD.of B8) (.cons (Den.same (s.trans f) x2) (.cons (Den.same (s.trans f) y4) .nil))
    · exact q1.elim
end Pu
namespace Pu
open PySem L2 My Prf
theorem A03 {n:Nat} {pr:List PyData->PEnv->(PEnv->Prop)->Prop} {xs:List PyData} {env:PEnv} {Q:PEnv->Prop}:qTup n pr (.tuple xs) env Q=(xs.length=n/\pr xs env Q):=rfl
theorem A5j {pr:List PyData->PEnv->(PEnv->Prop)->Prop} {c:Rat × Rat} {env:PEnv} {Q:PEnv->Prop}:qTup 2 pr (dcn c) env Q=pr [dq c.1,dq c.2] env Q:=by
  show (2=2/\_)=_; simp
theorem A0h {c:Rat × Rat}:(dcn c).canLay0=true:=rfl
theorem B2x {c:Rat × Rat}:(dcn c).depth=2:=rfl
theorem B2r {c:Rat × Rat}:PyData.eqv (dcn c) (dcn c)=true:=PySem.SeqAt.eqv_refl _ A0h
theorem A6n {c:Rat × Rat}:isNo (dcn c)=false:=rfl
end Pu
namespace L2
open PySem PySem.Spec PyProof.Rows
section
variable {prog:Program} {w:World} {A:Around} {E:Value->Shared->Prop} {s:Shared}
end
end L2
namespace L2
open PySem PySem.Spec PyProof.Rows
section
variable {prog:Program} {w:World} {A:Around} {E:Value->Shared->Prop} {s:Shared}
end
section
variable {X:Cx}
end
end L2
namespace Pu
open PySem L2 My Prf
def B20 (xs:List PyData) (k:List PyData->Prop):Prop:=match xs with
  | [.list xs,.list ys]=>k (zipD xs ys)
  | [.tuple xs,.tuple ys]=>k (zipD xs ys)
  | _=>False
def B8o (pa:PAr) (env:PEnv) (Q:List PyData->PEnv->Prop):Prop:=pa env fun xs e=>B20 xs fun zs=>Q zs e
end Pu
namespace Pu
open PySem L2 My Prf
def okA:Nat->PyData->Prop
  | _,.none=>True
  | _,.bool _=>True
  | _,.int _=>True
  | _,.str s=>(PyData.str s).canLay0=true
  | _,.dict _=>False
  | 0,.list _=>False
  | 0,.tuple _=>False
  | n + 1,.list xs=>xs.length < 1000/\∀ x ∈ xs,okA n x
  | n + 1,.tuple xs=>xs.length < 1000/\∀ x ∈ xs,okA n x
theorem A6q {P:Program} {w:World} {K:Frag} {mg:Str->Option Value} {base:Heap} {k:Nat} {f:Addr} {fd:FuncData} {ps:List Str} {md:List Md} (h:md.length=ps.length):FnOk P w K mg base CX0 k f fd ps (spOf K md fun _ _=>False) :=
  ⟨spOf.len h,fun _ _ _ _ _ _ _ _ _ _ _ _ _ hs=>by obtain ⟨_,_,_,_,_,_,z,_⟩:=hs; exact z.elim⟩
theorem A2e {xs ys:List PyData} {k:List PyData->Prop}:B20 [.list xs,.list ys] k=k (zipD xs ys):=rfl
theorem A42 {xs ys:List PyData} {k:List PyData->Prop}:B20 [.tuple xs,.tuple ys] k=k (zipD xs ys):=rfl
theorem A6s {a b:Bool}:PyData.eqv (.bool a) (.bool b)=decide (a=b):=by cases a <;> cases b <;> rfl
theorem B2p {s:Str}:PyData.eqv (.str s) (.str s)=true:=by show (s == s)=true; simp
theorem B7c:kitB "int" "str"=some false:=by decide +kernel
theorem B7f:kitB "bool" "str"=some false:=by decide +kernel
theorem B69:kitB "NoneType" "str"=some false:=by decide +kernel
theorem A3t (q:Rat) (n:Nat):okA (n + 1) (dq q):=by
  show _ < 1000/\_;refine ⟨by simp,fun x hx=>?_⟩;simp at hx;rcases hx with rfl | rfl <;> (unfold okA; trivial)
theorem B0j (c:Rat × Rat) (n:Nat):okA (n + 2) (dcn c):=by
  show _ < 1000/\_;refine ⟨by simp,fun x hx=>?_⟩;simp at hx;rcases hx with rfl | rfl <;> exact A3t _ _
theorem A7w {cs:List (Rat × Rat)} (h:cs.length < 1000) (n:Nat):okA (n + 3) (.list (cs.map dcn)):=by
  show _ < 1000/\_;refine ⟨by simpa using h,fun x hx=>?_⟩;obtain ⟨c,_,rfl⟩:=List.mem_map.mp hx;exact B0j c n
end Pu
namespace Pu
open PySem L2 My Prf
def A7:List PyData->OT
  | []=>.nil
  | x :: r=>.cons (.leaf x) (A7 r)
def OT.len:OT->Nat
  | .cons _ t=>t.len + 1
  | .nil=>0
  | _=>1
def OT.kid:OT->Nat->Option OT
  | .cons h _,0=>some h
  | .cons _ t,n + 1=>t.kid n
  | _,_=>none
theorem L5:∀ xs,(A7 xs).fp=[]
  | []=>rfl
  | _ :: r=>by show []++(A7 r).fp=[]; rw [L5 r]; rfl
theorem D3:∀ xs,(A7 xs).dat=xs
  | []=>rfl
  | x :: r=>by show [x]++(A7 r).dat=x :: r; rw [D3 r]; rfl
theorem N4 {K:Frag} {w:Wd}:∀ {vs:List V} {xs:List PyData},DenAll K w.F vs xs->Tre K w (A7 xs) vs
  | _,_,.nil=>rfl
  | _,_,.cons h t=>⟨_,_,rfl,⟨_,rfl,h⟩,N4 t⟩
theorem F9 {K:Frag} {w:Wd}:∀ {xs:List PyData} {vs:List V},Tre K w (A7 xs) vs->DenAll K w.F vs xs
  | [],_,e=>by cases (show _=[] from e); exact .nil
  | _ :: _,_,⟨_,_,rfl,⟨_,e,h⟩,t⟩=>by cases e; exact .cons h (F9 t)
theorem Tre.len {K:Frag} {w:Wd}:∀ {t:OT} {vs:List V},Tre K w t vs->vs.length=t.len
  | .leaf _,_,⟨_,e,_⟩=>by rw [e]; rfl
  | .nd _ _ _,_,⟨e,_⟩=>by rw [e]; rfl
  | .nil,_,e=>by rw [show _=[] from e]; rfl
  | .cons _ _,_,⟨_,_,e,_,t⟩=>by rw [e]; show _ + 1=_ + 1; rw [t.len]
theorem Tre.kid {K:Frag} {w:Wd}:∀ {t:OT} {vs:List V} {n:Nat} {u:OT},Tre K w t vs->t.kid n=some u->∃ v,vs[n]?=some v/\Tre K w u [v]
  | .cons _ _,_,0,_,⟨v,_,e,h,_⟩,q=>by cases q; rw [e]; exact ⟨v,rfl,h⟩
  | .cons _ _,_,n + 1,_,⟨_,_,e,_,t⟩,q=>by rw [e]; exact t.kid (n:=n) q
theorem X2:∀ {t:OT} {n:Nat} {u:OT} {a:Addr},t.kid n=some u->a ∈ u.fp->a ∈ t.fp
  | .cons _ _,0,_,_,q,h=>by cases q; simp [OT.fp,h]
  | .cons _ _,n + 1,_,_,q,h=>by simp [OT.fp,X2 (n:=n) q h]
noncomputable def hm (w:Wd):Hpp:=fun a=>open Classical in if w.M a then none else w.H a
theorem Q4 {w:Wd} {a:Addr} {o:HO} (h:w.H a=some o) (n:¬ w.M a):hm w a=some o:=by unfold hm; rw [if_neg n]; exact h
theorem A4g {w:Wd} {a:Addr} {o:HO} (h:hm w a=some o):w.H a=some o/\¬ w.M a:=by
  unfold hm at h; split at h
  · cases h
  · exact ⟨h,‹_›⟩
theorem hm_F {w:Wd} (ok:w.Ok):Same w.F (hm w):=fun a o h=>Q4 (ok.sub a o h) fun z=>by rw [ok.nf a z] at h; cases h
theorem B2i {w w':Wd} (l:Lw w w'):Same (hm w) (hm w'):=fun a o h=>by
  obtain ⟨h1,h2⟩:=A4g h;exact Q4 (l.h _ _ h1 h2) (l.nm (by rw [h1]; simp) h2)
theorem Tre.den {K:Frag} {w:Wd} (ok:w.Ok):∀ {t:OT} {vs:List V},Tre K w t vs->(∀ a ∈ t.fp,¬ w.M a)->DenAll K (hm w) vs t.dat
  | .leaf _,_,⟨_,e,h⟩,_=>by rw [e]; exact .cons (Den.same (hm_F ok) h) .nil
  | .nd true a _,_,⟨e,_,h,k⟩,n=>by rw [e]; exact .cons (.lst (SqL.of (Q4 h (n a (by simp [OT.fp])))) (Tre.den ok k fun q hq=>n q (by simp [OT.fp,hq]))) .nil
  | .nd false a _,_,⟨e,_,h,k⟩,n=>by rw [e]; exact .cons (.tup (SqD.of (Q4 h (n a (by simp [OT.fp])))) (Tre.den ok k fun q hq=>n q (by simp [OT.fp,hq]))) .nil
  | .nil,_,e,_=>by rw [show _=[] from e]; exact .nil
  | .cons _ _,_,⟨v,r,e,h,t⟩,n=>by
    rw [e];exact (Tre.den ok h fun q hq=>n q (by simp [OT.fp,hq])).app (vs:=[v]) (us:=r) (Tre.den ok t fun q hq=>n q (by simp [OT.fp,hq]))
def VH (K:Frag) (w:Wd) (v:V) (x:PyData):Prop:=Den K (hm w) v x
theorem VR.vh {c:Ct} {w:Wd} {v:V} {t:OT} {x:PyData} (ok:w.Ok) (h:VR c w v (.tr t)) (e:t.dat=[x]):VH c.K w v x:=by
  have:=h.1.den ok fun a ha=>(h.2.1 a ha).2.2.1;rw [e] at this;cases this with | cons a _=>exact a
theorem VV.vh {K:Frag} {w:Wd} {v:V} {x:PyData} (ok:w.Ok) (h:VV K w v x):VH K w v x:=by
  rcases h with h | ⟨l,vs,xs,rfl,rfl,h1,h2,h3⟩
  · exact Den.same (hm_F ok) h
  · exact .lst (SqL.of (Q4 h1 h2)) (DenAll.same (hm_F ok) h3)
class RH (K:Frag) (te:TE) (pd:outParam PDt):Prop where
  ok:∀ (c:Ct) (w:Wd) (env:PEnv) (σ:St) (Qp:PyData->PEnv->Prop) (Q:VK),c.K=K->EnvOk c w env σ->pd env Qp->(∀ v x env' w',EnvOk c w' env' σ->Lw w w'->VH K w' v x->Qp x env'->Q v w'.H)->te σ w.H Q
def A9g (i:Nat) (env:PEnv) (Q:PyData->PEnv->Prop):Prop:=match env[i]? with
  | some (some (.d x))=>Q x env
  | some (some (.own xs))=>Q (.list xs) env
  | some (some (.bor xs))=>Q (.list xs) env
  | some (some (.tr t))=>∃ x,t.dat=[x]/\Q x env
  | _=>False
instance rh_var {K:Frag} {i:Nat}:RH K (tVar i) (A9g i) where
  ok:=by
    rintro c w env σ Qp Q rfl E p k;unfold A9g at p;split at p
    · rename_i x e
      obtain ⟨v,h1,h2⟩:=E.at' i _ e;exact ⟨v,h1,k v _ env w E (Lw.refl w) (Den.same (hm_F E.wok) h2) p⟩
    · rename_i xs e
      obtain ⟨v,h1,l,vs,e',g1,g2,g3,g4,g5⟩:=E.at' i _ e;exact ⟨v,h1,k v _ env w E (Lw.refl w) (VV.vh E.wok (.inr ⟨l,vs,xs,e',rfl,g1,g3,g5⟩)) p⟩
    · rename_i xs e
      obtain ⟨v,h1,h2⟩:=E.at' i _ e;exact ⟨v,h1,k v _ env w E (Lw.refl w) ((h2.vv E.le0).vh E.wok) p⟩
    · rename_i t e
      obtain ⟨x,e1,q⟩:=p;obtain ⟨v,h1,h2⟩:=E.at' i _ e;exact ⟨v,h1,k v _ env w E (Lw.refl w) (h2.vh E.wok e1) q⟩
    · exact p.elim
def B5k (psp:PSp) (pa pb:PDt) (env:PEnv) (Q:SV->PEnv->Prop):Prop:=pa env fun x e=>pb e fun y e2=>psp [.d x,.d y] fun s=>∃ b,s=.d (.bool b)/\Q (.d (.bool b)) e2
def Own (c:Ct) (w:Wd) (t:OT):Prop:=(∀ a ∈ t.fp,w.H a≠none/\w.F a=none/\¬ w.M a/\c.w0.H a=none)/\t.fp.Nodup
def NewT (c:Ct) (env:PEnv) (σ:St) (t:OT):Prop:=∀ a ∈ t.fp,(∀ (j:Nat) s u,env[j]?=some (some s)->σ[j]?=some (some u)->¬ s.foot u a)/\¬ c.Z a
def SV.ot (s:SV) (k:OT->Prop):Prop:=match s with
  | .d x=>k (.leaf x)
  | .own xs=>∀ a,k (.nd true a (A7 xs))
  | .tr t=>k t
  | _=>False
theorem Res.ot {c:Ct} {w w1:Wd} {env:PEnv} {σ:St} {v:V} {s:SV} {k:OT->Prop} (R:Res c w env σ w1 v s) (h:s.ot k):∃ t,Tre c.K w1 t [v]/\Own c w1 t/\NewT c env σ t/\k t:=by
  obtain ⟨E,lw,val,new,_⟩:=R;cases s with
  | d x=>exact ⟨.leaf x,⟨v,rfl,val⟩,⟨fun a z=>(nomatch z),List.nodup_nil⟩,fun a z=>(nomatch z),h⟩
  | own xs =>
    obtain ⟨l,vs,rfl,h1,h2,h3,h4,h5⟩:=val;have one:∀ a,a ∈ (OT.nd true l (A7 xs)).fp->a=l:=fun a ha=>by
      rw [show (OT.nd true l (A7 xs)).fp=l :: (A7 xs).fp from rfl,L5] at ha;simpa using ha
    refine ⟨.nd true l (A7 xs),⟨rfl,vs,h1,N4 h5⟩,⟨fun a ha=>?_,by show (l :: (A7 xs).fp).Nodup; rw [L5]; simp⟩,fun a ha=>?_,h l⟩
    · rw [one a ha]; exact ⟨by rw [h1]; simp,h2,h3,h4⟩
    · rw [one a ha]; exact new l rfl
  | bor xs=>exact (show False from h).elim
  | st=>exact (show False from h).elim
  | tr t=>exact ⟨t,val.1,val.2,new,h⟩
  | bt t=>exact (show False from h).elim
  | al t=>exact (show False from h).elim
  | dk t=>exact (show False from h).elim
theorem VR.reZ {K:Frag} {w0 w:Wd} {Z Z':Addr->Prop} {v:V}:∀ {s:SV},VR ⟨K,w0,Z⟩ w v s->VR ⟨K,w0,Z'⟩ w v s
  | .d _,h=>h
  | .own _,h=>h
  | .bor _,h=>h
  | .st,h=>h
  | .tr _,h=>h
  | .bt _,h=>h
  | .al _,h=>h
  | .dk _,h=>h
def Ct.with (c:Ct) (t:OT):Ct:=⟨c.K,c.w0,fun a=>c.Z a\/a ∈ t.fp⟩
theorem EnvOk.hold {c:Ct} {w:Wd} {env:PEnv} {σ:St} {t:OT} (E:EnvOk c w env σ) (o:Own c w t) (n:NewT c env σ t):EnvOk (c.with t) w env σ :=
  ⟨E.wok,E.le0,E.len,fun i s q=>let ⟨v,h1,h2⟩:=E.at' i s q; ⟨v,h1,h2.reZ⟩,E.own,fun a z=>z.elim (E.zf a) fun ha=>let ⟨h1,h2,h3,_⟩:=o.1 a ha; ⟨h2,h1,h3⟩,fun a j s u z q q'=>z.elim (fun z=>E.zo a j s u z q q') fun ha=>(n a ha).1 j s u q q'⟩
theorem EnvOk.letgo {c:Ct} {w:Wd} {env:PEnv} {σ:St} {t:OT} (E:EnvOk (c.with t) w env σ):EnvOk c w env σ :=
  ⟨E.wok,E.le0,E.len,fun i s q=>let ⟨v,h1,h2⟩:=E.at' i s q; ⟨v,h1,h2.reZ⟩,E.own,fun a z=>E.zf a (.inl z),fun a j s u z q q'=>E.zo a j s u (.inl z) q q'⟩
class RAt (K:Frag) (ta:TA) (pa:outParam (PEnv->(OT->PEnv->Prop)->Prop)):Prop where
  ok:∀ (c:Ct) (w:Wd) (env:PEnv) (σ:St) (Qp:OT->PEnv->Prop) (Q:List V->Hpp->Prop),c.K=K->EnvOk c w env σ->pa env Qp->(∀ vs t env' w',EnvOk c w' env' σ->Lw w w'->Tre K w' t vs->Own c w' t->NewT c env' σ t->Qp t env'->Q vs w'.H)->ta σ w.H Q
def B4t (env:PEnv) (Q:OT->PEnv->Prop):Prop:=Q .nil env
def A7q (pe:PX) (pr:PEnv->(OT->PEnv->Prop)->Prop) (env:PEnv) (Q:OT->PEnv->Prop):Prop:=pe env fun s e1=>s.ot fun t=>pr e1 fun r e2=>(∀ a ∈ r.fp,a ∉ t.fp)->Q (.cons t r) e2
instance rat_nil {K:Frag}:RAt K tNil B4t:=⟨fun c w env σ Qp Q _ E p k=>k [] .nil env w E (Lw.refl w) rfl ⟨fun a z=>(nomatch z),List.nodup_nil⟩ (fun a z=>nomatch z) p⟩
instance rat_cons {K:Frag} {ta:TE} {tr:TA} {pe:PX} {pr:PEnv->(OT->PEnv->Prop)->Prop} [ha:RE K ta pe] [hr:RAt K tr pr]:RAt K (E7 ta tr) (A7q pe pr) where
  ok:=by
    rintro c w env σ Qp Q rfl E p k;refine ha.ok c w env σ _ _ rfl E p fun v s e1 w1 R q1=>?_;obtain ⟨t,ht,ho,hn,q⟩:=R.ot q1;refine hr.ok (c.with t) w1 e1 σ _ _ rfl (R.ev.hold ho hn) q fun vs r e2 w2 E2 l2 hr' ho' hn' q2=>?_;refine k (v :: vs) (.cons t r) e2 w2 E2.letgo (R.lw.trans l2) ⟨v,vs,rfl,ht.mono l2 fun a ha=>(ho.1 a ha).2.2.1,hr'⟩ ⟨fun a ha=>?_,List.nodup_append.mpr ⟨ho.2,ho'.2,fun a ha b hb e=>(hn' b hb).2 (.inr (e ▸ ha))⟩⟩ (fun a ha=>?_) (q2 fun a ha z=>(hn' a ha).2 (.inr z))
    · rcases Za (show a ∈ t.fp++r.fp from ha) with z | z
      · obtain ⟨z1,z2,z3⟩:=E2.zf a (.inr z)
        exact ⟨z2,z1,z3,(ho.1 a z).2.2.2⟩
      · exact ho'.1 a z
    · rcases Za (show a ∈ t.fp++r.fp from ha) with z | z
      · exact ⟨fun j s u q q'=>E2.zo a j s u (.inr z) q q',(hn a z).2⟩
      · exact ⟨(hn' a z).1,fun y=>(hn' a z).2 (.inl y)⟩
theorem Res.laid {c:Ct} {w:Wd} {env:PEnv} {σ:St} {p:Addr} {vs:List V} {t:OT} {b:Bool} (E:EnvOk c w env σ) (h:w.H p=none) (ht:Tre c.K w t vs) (o:Own c w t) (n:NewT c env σ t):Res c w env σ (w.lay p (ho b vs)) (.ref p) (.tr (.nd b p t)):=by
  have le:=Wd.lay_le (o:=ho b vs) h;refine ⟨E.mono (Wd.lay_ok E.wok h) le,le.toLw,⟨⟨rfl,vs,B8,ht.mono le.toLw fun a ha=>(o.1 a ha).2.2.1⟩,fun a ha=>?_,List.nodup_cons.mpr ⟨fun z=>(o.1 p z).1 h,o.2⟩⟩,fun a f=>?_,rfl⟩
  · rcases List.mem_cons.mp (show a ∈ p :: t.fp from ha) with rfl | z
    · exact ⟨by show upd w.H a _ a≠none; rw [B8]; simp,E.wok.fnone h,fun z=>E.wok.mne h z rfl,E.le0.dom a h⟩
    · obtain ⟨h1,h2,h3,h4⟩:=o.1 a z
      exact ⟨fun y=>h1 (G7 y),h2,h3,h4⟩
  · rcases List.mem_cons.mp (show a ∈ p :: t.fp from f) with rfl | z
    · exact E.fresh h
    · exact n a z
def B3b (ta:TA):TE:=tLst ta
def B29 (ta:TA):TE:=tTup ta
def A9i (b:Bool) (pa:PEnv->(OT->PEnv->Prop)->Prop) (env:PEnv) (Q:SV->PEnv->Prop):Prop:=pa env fun t e=>t.len<=1000/\∀ a,a ∉ t.fp->Q (.tr (.nd b a t)) e
instance re_lstT {K:Frag} {ta:TA} {pa:PEnv->(OT->PEnv->Prop)->Prop} [ha:RAt K ta pa]:RE K (B3b ta) (A9i true pa) where
  ok:=by
    rintro c w env σ Qp Q rfl E p k;refine ha.ok c w env σ _ _ rfl E p fun vs t e1 w1 E1 l1 ht ho hn q1=>⟨?_,fun p hp=>?_⟩
    · rw [ht.len]; exact Nat.le_of_lt (M9 q1.1)
    · exact k _ _ e1 _ ((Res.laid (b:=true) E1 hp ht ho hn).pre l1) (q1.2 p fun z=>(ho.1 p z).1 hp)
instance re_tupT {K:Frag} {ta:TA} {pa:PEnv->(OT->PEnv->Prop)->Prop} [ha:RAt K ta pa]:RE K (B29 ta) (A9i false pa) where
  ok:=by
    rintro c w env σ Qp Q rfl E p k;refine ha.ok c w env σ _ _ rfl E p fun vs t e1 w1 E1 l1 ht ho hn q1=>⟨?_,fun p hp=>?_⟩
    · rw [ht.len]; exact Nat.le_of_lt (M9 q1.1)
    · exact k _ _ e1 _ ((Res.laid (b:=false) E1 hp ht ho hn).pre l1) (q1.2 p fun z=>(ho.1 p z).1 hp)
def asTr (o:Option (Option SV)) (k:OT->Prop):Prop:=match o with
  | some (some (.tr t))=>k t
  | _=>False
def pKid (i:Nat) (n:Int) (env:PEnv) (Q:PyData->PEnv->Prop):Prop:=asTr env[i]? fun t=>∃ (m:Nat) (b:Bool) (a a':Addr) (ks:OT) (xs:List PyData),n=m/\t=.nd b a ks/\ks.kid m=some (.nd true a' (A7 xs))/\Q (.list xs) env
def A99 (i:Nat) (n:Int) (D:PEnds) (env:PEnv):Prop:=asTr env[i]? fun t=>∃ (m:Nat) (b:Bool) (a a':Addr) (ks ls:OT),n=m/\t=.nd b a ks/\ks.kid m=some (.nd true a' ls)/\D.nx (env.set i (some (.tr (OT.put a' .nil t))))
end Pu
namespace L2
open PySem PySem.Spec PyProof.Rows
section
variable {X:Cx} {e:Expr}
theorem A5k {t:TA} (h:QE X e (tLst t)):QE X e (Pu.B3b t):=h
theorem A8u {t:TA} (h:QE X e (tTup t)):QE X e (Pu.B29 t):=h
end
end L2
namespace Pu
open PySem L2 My Prf
def SV.asH (s:SV) (k:PyData->Prop):Prop:=match s with
  | .d x=>k x
  | .own xs=>k (.list xs)
  | .tr t=>∃ x,t.dat=[x]/\k x
  | _=>False
def B4d (pe:PX) (env:PEnv) (Q:PyData->PEnv->Prop):Prop:=pe env fun s e=>s.asH fun x=>Q x e
instance (priority:=200) rh_re {K:Frag} {te:TE} {pe:PX} [h:RE K te pe]:RH K te (B4d pe) where
  ok:=by
    rintro c w env σ Qp Q rfl E p k;refine h.ok c w env σ _ Q rfl E p fun v s env' w' R q=>?_;have E':=R.ev;cases s with
    | d x=>exact k v x env' w' E' R.lw (Den.same (hm_F E'.wok) R.val) q
    | own xs =>
      obtain ⟨l,vs,e',g1,g2,g3,g4,g5⟩:=R.val;exact k v _ env' w' E' R.lw (VV.vh E'.wok (.inr ⟨l,vs,xs,e',rfl,g1,g3,g5⟩)) q
    | tr t =>
      obtain ⟨x,e,q⟩:=q;exact k v x env' w' E' R.lw (VR.vh E'.wok R.val e) q
    | bor xs=>exact (show False from q).elim
    | bt t=>exact (show False from q).elim
    | al t=>exact (show False from q).elim
    | dk t=>exact (show False from q).elim
    | st=>exact (show False from q).elim
theorem VR.btv {c:Ct} {w:Wd} {v:V} {t:OT} (l:Le c.w0 w) (h:VR c w v (.bt t)):TV c.K w v t:=by
  have lw:Lw ⟨c.w0.M,c.w0.H,w.F⟩ w:=⟨Same.refl _,l.h,l.m,l.mn,l.dom⟩;exact ⟨h.1.mono lw h.2,fun a ha=>l.nm (h.1.has a ha) (h.2 a ha)⟩
class RTr (K:Frag) (te:TE) (pb:outParam (PEnv->(OT->PEnv->Prop)->Prop)):Prop where
  ok:∀ (c:Ct) (w:Wd) (env:PEnv) (σ:St) (Qp:OT->PEnv->Prop) (Q:VK),c.K=K->EnvOk c w env σ->pb env Qp->(∀ v t env' w',EnvOk c w' env' σ->Lw w w'->TV K w' v t->Qp t env'->Q v w'.H)->te σ w.H Q
def pTr (pe:PX) (env:PEnv) (Q:OT->PEnv->Prop):Prop:=pe env fun s e=>s.ot fun t=>Q t e
def pTrV (i:Nat) (env:PEnv) (Q:OT->PEnv->Prop):Prop:=match env[i]? with
  | some (some (.d x))=>Q (.leaf x) env
  | some (some (.tr t))=>Q t env
  | some (some (.bt t))=>Q t env
  | _=>False
instance rtr_var {K:Frag} {i:Nat}:RTr K (tVar i) (pTrV i) where
  ok:=by
    rintro c w env σ Qp Q rfl E p k;unfold pTrV at p;split at p
    · rename_i x e
      obtain ⟨v,h1,h2⟩:=E.at' i _ e;exact ⟨v,h1,k v (.leaf x) env w E (Lw.refl w) ⟨⟨v,rfl,h2⟩,fun a z=>nomatch z⟩ p⟩
    · rename_i t e
      obtain ⟨v,h1,h2⟩:=E.at' i _ e;exact ⟨v,h1,k v _ env w E (Lw.refl w) ⟨h2.1,fun a ha=>(h2.2.1 a ha).2.2.1⟩ p⟩
    · rename_i t e
      obtain ⟨v,h1,h2⟩:=E.at' i _ e;exact ⟨v,h1,k v _ env w E (Lw.refl w) (h2.btv E.le0) p⟩
    · exact p.elim
def A7s (pb:PEnv->(OT->PEnv->Prop)->Prop) (pr:PAs) (env:PEnv) (Q:List SV->PEnv->Prop):Prop:=pb env fun t e1=>pr e1 fun as e2=>Q (.bt t :: as) e2
instance ram_bt {K:Frag} {md:List Md} {ta:TE} {tr:TA} {pb:PEnv->(OT->PEnv->Prop)->Prop} {pr:PAs} [ha:RTr K ta pb] [hr:RAm K md tr pr]:RAm K (.bt :: md) (E7 ta tr) (A7s pb pr) where
  ok:=by
    rintro c w env σ Qp Q rfl E p k;refine ha.ok c w env σ _ _ rfl E p fun x t e1 w1 E1 l1 v1 q1=>?_;refine hr.ok c w1 e1 σ _ _ rfl E1 q1 fun vs xs e2 w2 E2 l2 v2 q2=>?_;exact k _ _ e2 w2 E2 (l1.trans l2) (.bt (v1.mono l2 v1.1.has) v2) q2
def OT.lvs:OT->Option (List PyData)
  | .nil=>some []
  | .cons (.leaf x) t=>t.lvs.map (x :: ·)
  | _=>none
theorem J1:∀ xs,(A7 xs).lvs=some xs
  | []=>rfl
  | x :: r=>by show (A7 r).lvs.map _=_; rw [J1 r]; rfl
theorem J2:∀ {t:OT} {xs:List PyData},t.lvs=some xs->t=A7 xs
  | .nil,_,h=>by cases h; rfl
  | .cons (.leaf x) t,xs,h=>by
    have h':t.lvs.map (x :: ·)=some xs:=h;cases q:t.lvs with
    | none=>rw [q] at h'; cases h'
    | some ys=>rw [q] at h'; cases h'; rw [J2 q]; rfl
def OT.sv:OT->SV
  | .leaf (.list xs)=>.bor xs
  | .leaf x=>.d x
  | .nd true a k=>match k.lvs with
    | some xs=>.bor xs
    | none=>.bt (.nd true a k)
  | t=>.bt t
theorem M8 {a:Addr} {xs:List PyData}:OT.sv (.nd true a (A7 xs))=.bor xs:=by show (match (A7 xs).lvs with | some xs=>SV.bor xs | none=>_)=_; rw [J1]
theorem VR.sv {c:Ct} {w:Wd} {v:V} {u:OT} (h:VR c w v (.bt u)):VR c w v u.sv:=by
  unfold OT.sv;split
  · obtain ⟨⟨v',e,h⟩,_⟩:=h
    cases e; exact .inl h
  · obtain ⟨⟨v',e,h⟩,_⟩:=h
    cases e; exact h
  · rename_i a k
    split
    · rename_i xs q
      obtain ⟨⟨e,us,h1,h2⟩,h3⟩:=h;cases e;rw [J2 q] at h2;exact .inr ⟨a,us,rfl,h1,h3 a (by simp [OT.fp]),F9 (w:=⟨c.w0.M,c.w0.H,w.F⟩) h2⟩
    · exact h
  · exact h
theorem A7d {c:Ct} {env:PEnv} {σ:St} {v:V}:∀ {u:OT},New c env σ v u.sv:=by
  intro u a f;unfold OT.sv at f;split at f
  · exact f.elim
  · exact f.elim
  · split at f
    · exact f.elim
    · exact f.elim
  · exact f.elim
def OT.pair:OT->Option (OT × OT)
  | .nd false _ (.cons u (.cons v .nil))=>some (u,v)
  | .leaf (.tuple [x,y])=>some (.leaf x,.leaf y)
  | _=>none
def pUnp (i a b:Nat) (pr:List PyData->PEnv->(PEnv->Prop)->Prop) (D:PEnds) (env:PEnv):Prop:=match env[i]? with
  | some (some (.bt t))=>∃ u v,t.pair=some (u,v)/\D.nx ((env.set a (some u.sv)).set b (some v.sv))
  | some (some (.d x))=>qTup 2 pr x env D.nx
  | _=>False
theorem B28 {c:Ct} {w:Wd} {v:V} {t u1 u2:OT} (ok:w.Ok) (l:Le c.w0 w) (h:VR c w v (.bt t)) (e:t.pair=some (u1,u2)):∃ p x y,v=.ref p/\SqT c.K w.H p [x,y]/\VR c w x (.bt u1)/\VR c w y (.bt u2):=by
  unfold OT.pair at e;split at e
  · rename_i a k1 k2
    cases e;obtain ⟨⟨ev,us,h1,x,r,e1,hx,y,r2,e2,hy,e3⟩,h3⟩:=h;cases ev;have e3':r2=[]:=e3;subst e1; subst e2; subst e3';exact ⟨a,x,y,rfl,SqT.of (l.h _ _ h1 (h3 a (by simp [OT.fp]))),⟨hx,fun q hq=>h3 q (by simp [OT.fp,hq])⟩,⟨hy,fun q hq=>h3 q (by simp [OT.fp,hq])⟩⟩
  · cases e
    obtain ⟨⟨v',ev,h⟩,_⟩:=h;cases ev;obtain ⟨p,vs,rfl,h1,h2⟩:=Den.tupE h;cases h2 with
    | cons hx t=>cases t with
      | cons hy t =>
        cases t;exact ⟨p,_,_,rfl,SqT.same ok.sub h1,⟨⟨_,rfl,hx⟩,fun q hq=>nomatch hq⟩,⟨⟨_,rfl,hy⟩,fun q hq=>nomatch hq⟩⟩
  · cases e
instance (priority:=high) rs_unp {K:Frag} {i a b:Nat} {pr:List PyData->PEnv->(PEnv->Prop)->Prop} [hr:RGs K (A0i (O1 a) (A0i (O1 b) gNil)) pr]:RS K (tAsg (tVar i) (gTup K 2 (A0i (O1 a) (A0i (O1 b) gNil)))) (pUnp i a b pr) where
  ok:=by
    rintro c w env σ Dp D rfl E h p;unfold pUnp at p;split at p
    · rename_i t e
      obtain ⟨u1,u2,hp,q⟩:=p;obtain ⟨v,h1,h2⟩:=E.at' i _ e;obtain ⟨p,x,y,rfl,hs,hx,hy⟩:=B28 E.wok E.le0 h2 hp;refine ⟨_,h1,p,[x,y],rfl,hs,rfl,x,[y],rfl,y,[],rfl,rfl,?_⟩;have E1:=E.set (i:=a) hx.sv A7d;have E2:=E1.set (i:=b) hy.sv A7d;exact h.nx _ _ w E2 (Same.refl _) q
    · rename_i x e
      obtain ⟨v,h1,h2⟩:=E.at' i _ e;refine ⟨v,h1,?_⟩;exact rg_tup.ok c w env σ v x _ _ rfl E h2 p fun e2 σ2 E2 q2=>h.nx e2 σ2 w E2 (Same.refl _) q2
    · exact p.elim
def B9e (i:Nat) (n:Int) (j:Nat) (D:PEnds) (env:PEnv):Prop:=match env[i]? with
  | some (some (.bt t))=>∃ u v,t.pair=some (u,v)/\((n=0/\D.nx (env.set j (some u.sv)))\/(n=1/\D.nx (env.set j (some v.sv))))
  | _=>False
end Pu
namespace Pu
open PySem L2 My Prf
theorem fdE {a:Int} {n:Nat} (h:(n:Int) ∣ a):a.fdiv n=a / n:=Int.fdiv_eq_ediv_of_dvd h
theorem fdN (a n:Nat):(a:Int).fdiv (n:Int)=((a / n:Nat):Int):=by
  rw [Int.fdiv_eq_ediv_of_nonneg _ (Int.natCast_nonneg n)]; rfl
theorem B6u (p q:Rat):p.num.fdiv ((Int.gcd p.num q.den:Nat):Int) * q.num.fdiv ((Int.gcd q.num p.den:Nat):Int)=(p * q).num:=by
  have e:p * q=Rat.mul p q:=rfl;rw [e]; unfold Rat.mul;show _=p.num.divExact _ _ * q.num.divExact _ _;rw [Int.divExact_eq_ediv,Int.divExact_eq_ediv,fdE (Int.gcd_dvd_left ..),fdE (Int.gcd_dvd_left ..)];rfl
theorem B6v (p q:Rat):(p.den:Int).fdiv ((Int.gcd q.num p.den:Nat):Int) * (q.den:Int).fdiv ((Int.gcd p.num q.den:Nat):Int)=((p * q).den:Int):=by
  have e:p * q=Rat.mul p q:=rfl;rw [e]; unfold Rat.mul;show _=((p.den.divExact _ _ * q.den.divExact _ _:Nat):Int);rw [Nat.divExact_eq_div,Nat.divExact_eq_div,fdN,fdN];rfl
theorem A85 (p q:Rat) (g t:Int) (hg:g=((Int.gcd (p.den:Int) (q.den:Int):Nat):Int)) (ht:t=p.num * (q.den:Int).fdiv g + q.num * (p.den:Int).fdiv g) :
    t.fdiv ((Int.gcd t g:Nat):Int)=(p + q).num/\(p.den:Int).fdiv g * (q.den:Int).fdiv ((Int.gcd t g:Nat):Int)=((p + q).den:Int):=by
  have e:p + q=Rat.add p q:=rfl;have hgn:Int.gcd (p.den:Int) (q.den:Int)=Nat.gcd p.den q.den:=rfl;rw [hgn] at hg;rw [e]; unfold Rat.add;dsimp only;split
  · rename_i h1
    rw [h1] at hg;subst hg;have ht':t=p.num * q.den + q.num * p.den:=by rw [ht,fdN,fdN]; simp
    have h2:Int.gcd t ((1:Nat):Int)=1:=by simp
    rw [h2,ht'];refine ⟨by simp,?_⟩;rw [fdN,fdN]; simp
  · rename_i h1
    rw [Rat.maybeNormalize_eq];rw [hg,fdN,fdN] at ht;have h3:Int.gcd t g=t.natAbs.gcd (p.den.gcd q.den):=by rw [hg]; rfl
    rw [h3];subst ht;refine ⟨?_,?_⟩
    · show _=Int.divExact _ _ (Int.gcd_dvd_left _ ((p.den.gcd q.den:Nat):Int))
      rw [Int.divExact_eq_ediv];exact fdE (Int.gcd_dvd_left _ ((p.den.gcd q.den:Nat):Int))
    · show _=((_ / _:Nat):Int)
      rw [hg,fdN,fdN];have hd:(p.num * ((q.den / p.den.gcd q.den:Nat):Int) + q.num * ((p.den / p.den.gcd q.den:Nat):Int)).natAbs.gcd (p.den.gcd q.den) ∣ q.den:=Nat.dvd_trans (Nat.gcd_dvd_right ..) (Nat.gcd_dvd_right ..);rw [Nat.mul_div_assoc _ hd,Int.natCast_mul]
theorem O0 {t:Int} (q:Rat):((Int.gcd t (q.den:Int):Nat):Int)≠0:=by
  have h:=q.den_nz;intro h0;have h1:Int.gcd t (q.den:Int)=0:=by omega
  have h2:=(Int.gcd_eq_zero_iff.mp h1).2;omega
theorem A1p {t g:Int} (h:g≠0):((Int.gcd t g:Nat):Int)≠0:=by
  intro h0;have h1:Int.gcd t g=0:=by omega
  exact h (Int.gcd_eq_zero_iff.mp h1).2
theorem X3 {k:Nat} {a g:Int} (h:Sm k a) (g1:0<=g):Sm k (a.fdiv g):=by
  unfold Sm at *;rw [Int.fdiv_eq_ediv_of_nonneg _ g1];rcases Int.lt_or_le 0 g with h0 | h0
  · have h2:=Int.natAbs_ediv_le_natAbs a g
    omega
  · have:g=0:=by omega
    subst this;rw [Int.ediv_zero]; exact Nat.two_pow_pos k
theorem A8t {pr:List PyData->PEnv->(PEnv->Prop)->Prop} {q:Rat} {env:PEnv} {Q:PEnv->Prop}:qTup 2 pr (dq q) env Q=pr [.int q.num,.int q.den] env Q:=by
  unfold dq; rw [A03]; exact propext ⟨fun h=>h.2,fun h=>⟨rfl,h⟩⟩
theorem B71 (q:Rat):PyData.tuple [.int (-q.num),.int q.den]=dq (-q):=rfl
theorem A4e {q:Rat} (h:q≠0):dq q⁻¹=.tuple [.int (if 0 < q.num then (q.den:Int) else -(q.den:Int)),.int (if 0 < q.num then q.num else -q.num)]:=by
  have hn:=A3y h;have e:q⁻¹=Rat.inv q:=rfl;unfold dq;rw [e]; unfold Rat.inv;by_cases h0:q.num < 0
  · rw [dif_pos h0,if_neg (by omega),if_neg (by omega)]
    show PyData.tuple [_,.int ((q.num.natAbs:Nat):Int)]=_;rw [show ((q.num.natAbs:Nat):Int)=-q.num by omega]
  · have h1:0 < q.num:=by omega
    rw [dif_neg h0,dif_pos h1,if_pos h1,if_pos h1];show PyData.tuple [_,.int ((q.num.natAbs:Nat):Int)]=_;rw [show ((q.num.natAbs:Nat):Int)=q.num by omega]
theorem A7z {k:Nat} {q:Rat} (h:SmQ k q) (hq:q≠0):SmQ k q⁻¹:=by
  have e:=A4e hq;unfold dq at e;injection e with e
  injection e with e1 e2
  injection e2 with e2 _
  injection e1 with e1
  injection e2 with e2
  refine ⟨?_,?_⟩
  · show Sm k q⁻¹.num
    rw [e1];have:=h.2;unfold Sm at *;split <;> omega
  · show Sm k (q⁻¹.den:Int)
    rw [e2];have:=h.1;unfold Sm at *;split <;> omega
end Pu
namespace Pu
open PySem L2 My Prf
section
variable {x y:PyData} {xs ys:List PyData} {i j:Nat} {env e:PEnv} {s:SV} {t:OT}
theorem B9y {k:PyData->Prop}:(SV.d x).asD k=k x:=rfl
theorem B9x {k:PyData->Prop}:(SV.own xs).asD k=k (.list xs):=rfl
def oVar (o:Option (Option SV)) (i:Nat) (env:PEnv) (Q:SV->PEnv->Prop):Prop:=match o with
  | some (some (.d x))=>Q (.d x) env
  | some (some (.own xs))=>Q (.d (.list xs)) (env.set i (some (.d (.list xs))))
  | some (some .st)=>Q .st env
  | _=>False
theorem B4f {Q:SV->PEnv->Prop}:pVar i env Q=oVar env[i]? i env Q:=rfl
theorem B6c {Q:SV->PEnv->Prop}:oVar (some (some (.d x))) i env Q=Q (.d x) env:=rfl
theorem B6b {Q:SV->PEnv->Prop}:oVar (some (some (.own xs))) i env Q=Q (.d (.list xs)) (env.set i (some (.d (.list xs)))):=rfl
theorem B6a {Q:SV->PEnv->Prop}:oVar (some (some .st)) i env Q=Q .st env:=rfl
def A50 (o:Option (Option SV)) (env:PEnv) (Q:PyData->PEnv->Prop):Prop:=match o with
  | some (some (.d x))=>Q x env
  | some (some (.own xs))=>Q (.list xs) env
  | some (some (.bor xs))=>Q (.list xs) env
  | _=>False
theorem A9d {Q:PyData->PEnv->Prop}:A9e i env Q=A50 env[i]? env Q:=rfl
theorem B0m {Q:PyData->PEnv->Prop}:A50 (some (some (.d x))) env Q=Q x env:=rfl
theorem B0l {Q:PyData->PEnv->Prop}:A50 (some (some (.own xs))) env Q=Q (.list xs) env:=rfl
theorem B0n {Q:PyData->PEnv->Prop}:A50 (some (some (.bor xs))) env Q=Q (.list xs) env:=rfl
theorem pI_i {C:Int->Int->Prop} {gd:Int->Int->PyData} {i j:Int} {Q:SV->Prop}:pI C gd (.int i) (.int j) Q=(C i j/\Q (.d (gd i j))):=rfl
theorem B85 {gd:Int->Int->PyData} {i j:Int} {Q:SV->Prop}:pI0 gd (.int i) (.int j) Q=Q (.d (gd i j)):=rfl
theorem pU_i {gd:Int->PyData} {i:Int} {Q:SV->Prop}:pU gd (.int i) Q=Q (.d (gd i)):=rfl
theorem B5u {i:Int} {Q:SV->Prop}:pAbs [.int i] Q=Q (.d (.int (if i < 0 then -i else i))):=rfl
theorem B4x {i j:Int} {Q:SV->Prop}:pMax [.int i,.int j] Q=Q (.d (.int (if j > i then j else i))):=rfl
theorem B4w {i j:Int} {Q:SV->Prop}:pMin [.int i,.int j] Q=Q (.d (.int (if j < i then j else i))):=rfl
theorem B49 {i:Int} {Q:SV->Prop}:pInt [.int i] Q=Q (.d (.int i)):=rfl
theorem B5a {b:Bool} {Q:SV->Prop}:pInt [.bool b] Q=Q (.d (.int (if b then 1 else 0))):=rfl
theorem A5s {Q:SV->Prop}:A1a [.list ys] Q=Q (.own ys):=rfl
theorem A5r {Q:SV->Prop}:A1a [.tuple ys] Q=Q (.own ys):=rfl
def oKit (o:Option Bool) (Q:SV->Prop):Prop:=match o with
  | some b=>Q (.d (.bool b))
  | none=>False
theorem B48 {c:String} {pa:PDt} {Q:SV->PEnv->Prop}:pIsi c pa env Q=pa env fun x e=>oKit (kitB (tyD x) c) fun s=>Q s e:=rfl
theorem A92 {cs:List String} {pa:PDt} {Q:SV->PEnv->Prop}:B84 cs pa env Q=pa env fun x e=>cs.length<=1000/\oKit (U7 (tyD x) cs) fun s=>Q s e:=rfl
theorem B6n {b:Bool} {Q:SV->Prop}:oKit (some b) Q=Q (.d (.bool b)):=rfl
theorem B9z {b:Bool} {k:Bool->Prop}:asB (.bool b) k=k b:=rfl
theorem B9s {k:List PyData->Prop}:asL (.list xs) k=k xs:=rfl
theorem B7q {k:Prop}:isSt (some (some .st)) k=k:=rfl
theorem B9t {i:Int} {k:Int->Prop}:asI (.int i) k=k i:=rfl
def A3w (o:Option (Option SV)) (D:PEnds) (env:PEnv):Prop:=match o with
  | some (some (.bor _))=>False
  | some (some (.bt _))=>False
  | some (some (.al _))=>False
  | some (some s)=>D.rt s env
  | _=>False
theorem A9m {D:PEnds}:A9n i D env=A3w env[i]? D env:=rfl
theorem B0z {D:PEnds}:A3w (some (some (.d x))) D env=D.rt (.d x) env:=rfl
theorem B0y {D:PEnds}:A3w (some (some (.own xs))) D env=D.rt (.own xs) env:=rfl
theorem B0x {D:PEnds}:A3w (some (some .st)) D env=D.rt .st env:=rfl
theorem B0w {D:PEnds}:A3w (some (some (.tr t))) D env=D.rt (.tr t) env:=rfl
theorem B3v {Q:PEnv->Prop}:qNil [] env Q=Q env:=rfl
theorem A8v {pg:PyData->PEnv->(PEnv->Prop)->Prop} {pr:List PyData->PEnv->(PEnv->Prop)->Prop} {Q:PEnv->Prop}:A8w pg pr (x :: xs) env Q=pg x env fun e=>pr xs e Q:=rfl
def oPar (i j:Nat) (xs:List PyData) (D:PEnds) (e:PEnv):Prop:=match xs with
  | [x,y]=>D.nx ((e.set i (some (.d x))).set j (some (.d y)))
  | _=>False
theorem B4r {pa:PAr} {D:PEnds}:pPar i j pa D env=pa env fun xs e=>oPar i j xs D e:=rfl
theorem B6m {D:PEnds}:oPar i j [x,y] D e=D.nx ((e.set i (some (.d x))).set j (some (.d y))):=rfl
theorem B21 {k:List PyData->Prop}:K9 (some (some (.own xs))) k=k xs:=rfl
def A1g (o:Option (Option SV)) (i:Nat) (env:PEnv) (Q:List PyData->PEnv->Prop):Prop:=match o with
  | some (some (.d x))=>O6 x fun xs=>Q xs env
  | some (some (.own xs))=>Q xs (env.set i (some (.d (.list xs))))
  | some (some (.bor xs))=>Q xs env
  | _=>False
theorem A5w {Q:List PyData->PEnv->Prop}:A3e i env Q=A1g env[i]? i env Q:=rfl
theorem A54 {Q:List PyData->PEnv->Prop}:A1g (some (some (.d x))) i env Q=O6 x fun xs=>Q xs env:=rfl
theorem A53 {Q:List PyData->PEnv->Prop}:A1g (some (some (.own xs))) i env Q=Q xs (env.set i (some (.d (.list xs)))):=rfl
theorem A55 {Q:List PyData->PEnv->Prop}:A1g (some (some (.bor xs))) i env Q=Q xs env:=rfl
def B6l (xs:List PyData) (Q:List PyData->Prop):Prop:=match xs with
  | [.int j]=>(-(2 ^ 62)<=j/\j < 2 ^ 62)/\Q (rngD 0 j.toNat)
  | _=>False
theorem A9l {pa:PAr} {Q:List PyData->PEnv->Prop}:B4o pa env Q=pa env fun xs e=>B6l xs fun ys=>Q ys e:=rfl
theorem B0v {j:Int} {Q:List PyData->Prop}:B6l [.int j] Q=((-(2 ^ 62)<=j/\j < 2 ^ 62)/\Q (rngD 0 j.toNat)):=rfl
def B6k (xs:List PyData) (Q:List PyData->Prop):Prop:=match xs with
  | [.int i,.int j]=>(-(2 ^ 62)<=i/\i < 2 ^ 62/\-(2 ^ 62)<=j/\j < 2 ^ 62)/\Q (rngD i (j - i).toNat)
  | _=>False
theorem A9k {pa:PAr} {Q:List PyData->PEnv->Prop}:B4n pa env Q=pa env fun xs e=>B6k xs fun ys=>Q ys e:=rfl
theorem B0u {i j:Int} {Q:List PyData->Prop}:B6k [.int i,.int j] Q=((-(2 ^ 62)<=i/\i < 2 ^ 62/\-(2 ^ 62)<=j/\j < 2 ^ 62)/\Q (rngD i (j - i).toNat)):=rfl
def B6j (xs:List PyData) (Q:List PyData->Prop):Prop:=match xs with
  | [.int i,.int j,.int k]=>k=-1/\((-(2 ^ 61)<=i/\i < 2 ^ 61)/\-(2 ^ 61)<=j/\j < 2 ^ 61)/\Q (dwnD i (i - j).toNat)
  | _=>False
theorem A9j {pa:PAr} {Q:List PyData->PEnv->Prop}:B8u pa env Q=pa env fun xs e=>B6j xs fun ys=>Q ys e:=rfl
theorem B0t {i j k:Int} {Q:List PyData->Prop}:B6j [.int i,.int j,.int k] Q=(k=-1/\((-(2 ^ 61)<=i/\i < 2 ^ 61)/\-(2 ^ 61)<=j/\j < 2 ^ 61)/\Q (dwnD i (i - j).toNat)):=rfl
theorem B5j {Q:SV->Prop}:pCat (.list xs) (.list ys) Q=(xs.length + ys.length<=1000000/\Q (.own (xs++ys))):=rfl
theorem B5t {Q:SV->Prop}:pAll [.list ys] Q=∃ bs,blsD ys=some bs/\Q (.d (.bool (bs.all id))):=rfl
theorem B5r {Q:SV->Prop}:pAny [.list ys] Q=∃ bs,blsD ys=some bs/\Q (.d (.bool (bs.any id))):=rfl
def A51 (o:Option (Option SV)) (i:Nat) (env:PEnv) (Q:List PyData->PEnv->Prop):Prop:=match o with
  | some (some (.d x))=>asL x fun xs=>Q xs env
  | some (some (.own xs))=>Q xs (env.set i (some (.d (.list xs))))
  | some (some (.bor xs))=>Q xs env
  | _=>False
theorem A9s {Q:List PyData->PEnv->Prop}:A9t i env Q=A51 env[i]? i env Q:=rfl
theorem B04 {Q:List PyData->PEnv->Prop}:A51 (some (some (.d x))) i env Q=asL x fun xs=>Q xs env:=rfl
theorem B03 {Q:List PyData->PEnv->Prop}:A51 (some (some (.own xs))) i env Q=Q xs (env.set i (some (.d (.list xs)))):=rfl
theorem B05 {Q:List PyData->PEnv->Prop}:A51 (some (some (.bor xs))) i env Q=Q xs env:=rfl
def oZip (xss:List (List PyData)) (Q:List PyData->Prop):Prop:=match xss with
  | [xs,ys]=>Q (zipD xs ys)
  | _=>False
theorem B4e {pa:PEnv->(List (List PyData)->PEnv->Prop)->Prop} {Q:List PyData->PEnv->Prop}:pZip pa env Q=pa env fun xss e=>oZip xss fun ys=>Q ys e:=rfl
theorem B59 {Q:List PyData->Prop}:oZip [xs,ys] Q=Q (zipD xs ys):=rfl
def B6p (xss:List (List PyData)) (Q:List PyData->Prop):Prop:=match xss with
  | [xs]=>Q (B2s xs)
  | _=>False
theorem A95 {pa:PEnv->(List (List PyData)->PEnv->Prop)->Prop} {Q:List PyData->PEnv->Prop}:B88 pa env Q=pa env fun xss e=>B6p xss fun ys=>Q ys e:=rfl
theorem B08 {Q:List PyData->Prop}:B6p [xs] Q=Q (B2s xs):=rfl
def A3v (o:Option (Option SV)) (env:PEnv) (Q:PyData->PEnv->Prop):Prop:=match o with
  | some (some (.d x))=>Q x env
  | some (some (.own xs))=>Q (.list xs) env
  | some (some (.bor xs))=>Q (.list xs) env
  | some (some (.tr t))=>∃ x,t.dat=[x]/\Q x env
  | _=>False
theorem A9f {Q:PyData->PEnv->Prop}:A9g i env Q=A3v env[i]? env Q:=rfl
theorem B0q {Q:PyData->PEnv->Prop}:A3v (some (some (.d x))) env Q=Q x env:=rfl
theorem B0p {Q:PyData->PEnv->Prop}:A3v (some (some (.own xs))) env Q=Q (.list xs) env:=rfl
theorem B0r {Q:PyData->PEnv->Prop}:A3v (some (some (.bor xs))) env Q=Q (.list xs) env:=rfl
theorem B0o {Q:PyData->PEnv->Prop}:A3v (some (some (.tr t))) env Q=∃ x,t.dat=[x]/\Q x env:=rfl
theorem ot_d {k:OT->Prop}:(SV.d x).ot k=k (.leaf x):=rfl
theorem ot_o {k:OT->Prop}:(SV.own xs).ot k=∀ a,k (.nd true a (A7 xs)):=rfl
theorem ot_t {k:OT->Prop}:(SV.tr t).ot k=k t:=rfl
theorem B8a {k:OT->Prop}:asTr (some (some (.tr t))) k=k t:=rfl
theorem B9w {k:PyData->Prop}:(SV.d x).asH k=k x:=rfl
theorem B9v {k:PyData->Prop}:(SV.own xs).asH k=k (.list xs):=rfl
theorem B9u {k:PyData->Prop}:(SV.tr t).asH k=∃ x,t.dat=[x]/\k x:=rfl
def oTrV (o:Option (Option SV)) (env:PEnv) (Q:OT->PEnv->Prop):Prop:=match o with
  | some (some (.d x))=>Q (.leaf x) env
  | some (some (.tr t))=>Q t env
  | some (some (.bt t))=>Q t env
  | _=>False
theorem B4j {Q:OT->PEnv->Prop}:pTrV i env Q=oTrV env[i]? env Q:=rfl
theorem B6g {Q:OT->PEnv->Prop}:oTrV (some (some (.d x))) env Q=Q (.leaf x) env:=rfl
theorem B6f {Q:OT->PEnv->Prop}:oTrV (some (some (.tr t))) env Q=Q t env:=rfl
theorem B6h {Q:OT->PEnv->Prop}:oTrV (some (some (.bt t))) env Q=Q t env:=rfl
def oUnp (o:Option (Option SV)) (a b:Nat) (pr:List PyData->PEnv->(PEnv->Prop)->Prop) (D:PEnds) (env:PEnv):Prop:=match o with
  | some (some (.bt t))=>∃ u v,t.pair=some (u,v)/\D.nx ((env.set a (some u.sv)).set b (some v.sv))
  | some (some (.d x))=>qTup 2 pr x env D.nx
  | _=>False
theorem B4g {a b:Nat} {pr:List PyData->PEnv->(PEnv->Prop)->Prop} {D:PEnds}:pUnp i a b pr D env=oUnp env[i]? a b pr D env:=rfl
theorem B6e {a b:Nat} {pr:List PyData->PEnv->(PEnv->Prop)->Prop} {D:PEnds}:oUnp (some (some (.bt t))) a b pr D env=∃ u v,t.pair=some (u,v)/\D.nx ((env.set a (some u.sv)).set b (some v.sv)):=rfl
theorem B6d {a b:Nat} {pr:List PyData->PEnv->(PEnv->Prop)->Prop} {D:PEnds}:oUnp (some (some (.d x))) a b pr D env=qTup 2 pr x env D.nx:=rfl
def B6q (o:Option (Option SV)) (n:Int) (j:Nat) (D:PEnds) (env:PEnv):Prop:=match o with
  | some (some (.bt t))=>∃ u v,t.pair=some (u,v)/\((n=0/\D.nx (env.set j (some u.sv)))\/(n=1/\D.nx (env.set j (some v.sv))))
  | _=>False
theorem B0c {n:Int} {D:PEnds}:B9e i n j D env=B6q env[i]? n j D env:=rfl
theorem B09 {n:Int} {D:PEnds}:B6q (some (some (.bt t))) n j D env=∃ u v,t.pair=some (u,v)/\((n=0/\D.nx (env.set j (some u.sv)))\/(n=1/\D.nx (env.set j (some v.sv)))):=rfl
class Box (α:Type) where
  f:α->Prop
def hold {α:Type} [b:Box α] (x:α):Prop:=b.f x
theorem A6o {α:Type} {f:α->Prop} {x:α}:@hold α ⟨f⟩ x=f x:=rfl
theorem B0b {psp:PSp} {pa:PAs} {env:PEnv} {Q:SV->PEnv->Prop}:B5m psp pa env Q=pa env fun as e=>psp as (@hold SV ⟨fun s=>Q s e⟩):=rfl
theorem A5x {psp:PSp} {pa pb:PDt} {env:PEnv} {Q:SV->PEnv->Prop}:B5k psp pa pb env Q=pa env fun x e=>pb e fun y e2=>psp [.d x,.d y] (@hold SV ⟨fun s=>∃ b,s=.d (.bool b)/\Q (.d (.bool b)) e2⟩):=rfl
theorem B4z {xs:List PyData} {i:Int} {Q:SV->Prop}:pIx (.list xs) (.int i) Q=pGet xs i (@hold SV ⟨Q⟩):=rfl
theorem B4y {xs:List PyData} {i:Int} {Q:SV->Prop}:pIx (.tuple xs) (.int i) Q=pGet xs i (@hold SV ⟨Q⟩):=rfl
theorem A97 {pi:PAr} {pg:PyData->PEnv->(PEnv->Prop)->Prop} {pt:PTt} {pd:PDt} {cap:List (Option Nat)} {env:PEnv} {Q:SV->PEnv->Prop}:B5g pi pg pt pd cap env Q=pi env fun xs e=>xs.length < 1000000/\K2 xs pg pt pd (F3 cap e) (@hold (List PyData) ⟨fun ys=>Q (.own ys) e⟩):=rfl
theorem A12 {pi:PAr} {pg:PyData->PEnv->(PEnv->Prop)->Prop} {pt:PTt} {pd:PDt} {cap:List (Option Nat)} {i:Nat} {D:PEnds} {env:PEnv}:A09 pi pg pt pd cap i D env=pi env fun xs e=>xs.length < 1000000/\K2 xs pg pt pd (F3 cap e) (@hold (List PyData) ⟨fun ys=>D.nx (e.set i (some (.own ys)))⟩):=rfl
end
end Pu
namespace L2
open PySem PySem.Spec PyProof.Rows
section
variable {X:Cx}
def rInD (K:PySem.W.Frag) (neg:Bool):R2:=fun x y H Q=>∃ dx dy xs,Den K H x dx/\Den K H y dy/\(dy=.list xs\/dy=.tuple xs)/\PyData.canLayAll0 xs=true/\dx.canLay0=true/\dx.depth<=60/\Q (.bl (if neg then !(xs.any fun z=>z.eqv dx) else xs.any fun z=>z.eqv dx)) H
theorem B5x (hu:X.A.units + 64 < cLine):OpR X (compareOp .In) (rInD X.K false):=by
  intro pins s σ H x y v u Q I rx ry h;obtain ⟨dx,dy,xs,h1,h2,h3,c1,c2,hd,q⟩:=h;obtain ⟨as,r1⟩:=h1.reads I rx c2;obtain ⟨bs,r2⟩:=h2.reads I ry (by rcases h3 with rfl | rfl <;> exact c1)
  rcases h3 with rfl | rfl
  · exact PySem.SeqAt.in_list_reads r2 r1 c1 c2 (by omega) ⟨.bl _,H,I,rfl,q⟩
  · exact PySem.SeqAt.in_tuple_reads r2 r1 c1 c2 (by omega) ⟨.bl _,H,I,rfl,q⟩
theorem A3j {K:PySem.W.Frag} (h:X.K=K) (hu:X.A.units + 64 < cLine):OpR X (compareOp .In) (rInD K false):=by subst h; exact B5x hu
end
end L2
namespace Pu
open PySem L2 My Prf
def pIn (neg:Bool) (x y:PyData) (Q:SV->Prop):Prop:=O6 y fun xs=>PyData.canLayAll0 xs=true/\x.canLay0=true/\x.depth<=60/\Q (.d (.bool (if neg then !(xs.any fun z=>z.eqv x) else xs.any fun z=>z.eqv x)))
instance ro_in {K:Frag} {neg:Bool}:RO K (rInD K neg) (pIn neg) where
  ok:=by
    rintro c w env σ x y dx dy Qp Q rfl E vx vy p k;unfold pIn O6 at p;split at p
    · rename_i xs
      exact ⟨dx,_,xs,vx.den E.wok,vy.den E.wok,.inl rfl,p.1,p.2.1,p.2.2.1,k _ _ w (Res.data E (.bl _)) p.2.2.2⟩
    · rename_i xs
      exact ⟨dx,_,xs,vx.den E.wok,vy.den E.wok,.inr rfl,p.1,p.2.1,p.2.2.1,k _ _ w (Res.data E (.bl _)) p.2.2.2⟩
    · exact p.elim
theorem hm_H {w:Wd}:Same (hm w) w.H:=fun _ _ h=>(A4g h).1
instance (priority:=high) re_neH {K:Frag} {ta tb:TE} {pa pb:PDt} [ha:RH K ta pa] [hb:RH K tb pb]:RE K (tOp (rNeD K) ta tb) (pOp pNeD pa pb) where
  ok:=by
    rintro c w env σ Qp Q rfl E p k;refine ha.ok c w env σ _ _ rfl E p fun x dx e1 w1 E1 l1 v1 q1=>?_;refine hb.ok c w1 e1 σ _ _ rfl E1 q1 fun y dy e2 w2 E2 l2 v2 q2=>?_;have v1':VH c.K w2 x dx:=Den.same (B2i l2) v1;exact ⟨dx,dy,Den.same hm_H v1',Den.same hm_H v2,q2.1,q2.2.1,q2.2.2.1,k _ _ e2 w2 ((Res.data E2 (.bl _)).pre (l1.trans l2)) q2.2.2.2⟩
instance (priority:=high) re_eqH {K:Frag} {ta tb:TE} {pa pb:PDt} [ha:RH K ta pa] [hb:RH K tb pb]:RE K (tOp (rEqD K) ta tb) (pOp pEqD pa pb) where
  ok:=by
    rintro c w env σ Qp Q rfl E p k;refine ha.ok c w env σ _ _ rfl E p fun x dx e1 w1 E1 l1 v1 q1=>?_;refine hb.ok c w1 e1 σ _ _ rfl E1 q1 fun y dy e2 w2 E2 l2 v2 q2=>?_;have v1':VH c.K w2 x dx:=Den.same (B2i l2) v1;exact ⟨dx,dy,Den.same hm_H v1',Den.same hm_H v2,q2.1,q2.2.1,q2.2.2.1,k _ _ e2 w2 ((Res.data E2 (.bl _)).pre (l1.trans l2)) q2.2.2.2⟩
def A7x (o:Option (Option SV)) (n:Int) (env:PEnv) (Q:List PyData->PEnv->Prop):Prop:=match o with
  | some (some (.bt t))=>∃ u v xs,t.pair=some (u,v)/\n=1/\v.sv=.bor xs/\Q xs env
  | _=>False
def B46 (i:Nat) (n:Int) (env:PEnv) (Q:List PyData->PEnv->Prop):Prop:=A7x env[i]? n env Q
theorem A56 {t:OT} {n:Int} {env:PEnv} {Q:List PyData->PEnv->Prop}:A7x (some (some (.bt t))) n env Q=∃ u v xs,t.pair=some (u,v)/\n=1/\v.sv=.bor xs/\Q xs env:=rfl
theorem EnvOk.take {c:Ct} {w:Wd} {env:PEnv} {σ:St} {i:Nat} {s:SV} (E:EnvOk c w env σ) (h:env[i]?=some (some s)) (hr:s.isRes=true):∃ v,σ[i]?=some (some v)/\Res c w (env.set i none) σ w v s:=by
  obtain ⟨v,hv,hV⟩:=E.at' i _ h;have up:∀ {j:Nat} {t:SV},(env.set i none)[j]?=some (some t)->i≠j/\env[j]?=some (some t):=by
    intro j t q;rw [List.getElem?_set] at q;split at q
    · split at q <;> cases q
    · rename_i z; exact ⟨z,q⟩
  have E':EnvOk c w (env.set i none) σ:=⟨E.wok,E.le0,by simpa using E.len,fun j s q=>E.at' j s (up q).2,fun j k s t v u a q1 q2=>E.own j k s t v u a (up q1).2 (up q2).2,E.zf,fun a j t u za q=>E.zo a j t u za (up q).2⟩;exact ⟨v,hv,E',Lw.refl w,hV,fun a f=>⟨fun j t u q z g=>(up q).1 (E.own i j _ _ _ _ a h (up q).2 hv z f g),fun za=>E.zo a i _ _ za h hv f⟩,hr⟩
def A3x (o:Option (Option SV)) (i:Nat) (env:PEnv) (k:OT->PEnv->Prop):Prop:=match o with
  | some (some (.d x))=>k (.leaf x) env
  | some (some (.own xs))=>∀ a,k (.nd true a (A7 xs)) (env.set i none)
  | some (some (.tr t))=>k t (env.set i none)
  | _=>False
theorem B02 {x:PyData} {i:Nat} {env:PEnv} {k:OT->PEnv->Prop}:A3x (some (some (.d x))) i env k=k (.leaf x) env:=rfl
theorem B01 {xs:List PyData} {i:Nat} {env:PEnv} {k:OT->PEnv->Prop}:A3x (some (some (.own xs))) i env k=∀ a,k (.nd true a (A7 xs)) (env.set i none):=rfl
theorem B00 {t:OT} {i:Nat} {env:PEnv} {k:OT->PEnv->Prop}:A3x (some (some (.tr t))) i env k=k t (env.set i none):=rfl
def A3i (i:Nat) (pr:PEnv->(OT->PEnv->Prop)->Prop) (env:PEnv) (Q:OT->PEnv->Prop):Prop:=A3x env[i]? i env fun t e1=>pr e1 fun r e2=>(∀ a ∈ r.fp,a ∉ t.fp)->Q (.cons t r) e2
instance (priority:=high) rat_move {K:Frag} {i:Nat} {tr:TA} {pr:PEnv->(OT->PEnv->Prop)->Prop} [hr:RAt K tr pr]:RAt K (E7 (tVar i) tr) (A3i i pr) where
  ok:=by
    rintro c w env σ Qp Q rfl E p k;have go:∀ (e1:PEnv) (v:V) (s:SV),σ[i]?=some (some v)->Res c w e1 σ w v s->(s.ot fun t=>pr e1 fun r e2=>(∀ a ∈ r.fp,a ∉ t.fp)->Qp (.cons t r) e2)->E7 (tVar i) tr σ w.H Q:=by
      intro e1 v s hv R q1;refine ⟨v,hv,?_⟩;obtain ⟨t,ht,ho,hn,q⟩:=R.ot q1;refine hr.ok (c.with t) w e1 σ _ _ rfl (R.ev.hold ho hn) q fun vs r e2 w2 E2 l2 hr' ho' hn' q2=>?_;refine k (v :: vs) (.cons t r) e2 w2 E2.letgo (R.lw.trans l2) ⟨v,vs,rfl,ht.mono l2 fun a ha=>(ho.1 a ha).2.2.1,hr'⟩ ⟨fun a ha=>?_,List.nodup_append.mpr ⟨ho.2,ho'.2,fun a ha b hb e=>(hn' b hb).2 (.inr (e ▸ ha))⟩⟩ (fun a ha=>?_) (q2 fun a ha z=>(hn' a ha).2 (.inr z))
      · rcases Za (show a ∈ t.fp++r.fp from ha) with z | z
        · obtain ⟨z1,z2,z3⟩:=E2.zf a (.inr z)
          exact ⟨z2,z1,z3,(ho.1 a z).2.2.2⟩
        · exact ho'.1 a z
      · rcases Za (show a ∈ t.fp++r.fp from ha) with z | z
        · exact ⟨fun j s u q q'=>E2.zo a j s u (.inr z) q q',(hn a z).2⟩
        · exact ⟨(hn' a z).1,fun y=>(hn' a z).2 (.inl y)⟩
    unfold A3i A3x at p;split at p
    · rename_i x e
      obtain ⟨v,h1,h2⟩:=E.at' i _ e;exact go env v (.d x) h1 (Res.data E h2) p
    · rename_i xs e
      obtain ⟨v,h1,R⟩:=E.take e rfl;exact go _ v (.own xs) h1 R p
    · rename_i t e
      obtain ⟨v,h1,R⟩:=E.take e rfl;exact go _ v (.tr t) h1 R p
    · exact p.elim
def B82 (i:Nat) (n:Int) (env:PEnv) (Q:SV->PEnv->Prop):Prop:=asTr env[i]? fun t=>∃ (m:Nat) (b:Bool) (a:Addr) (ks:OT) (x:PyData),n=m/\t=.nd b a ks/\ks.kid m=some (.leaf x)/\Q (.d x) env
end Pu
namespace L2
open PySem PySem.Spec PyProof.Rows
section
variable {X:Cx} {tg:Expr}
def A8r (K:PySem.W.Frag):List V->Hp->VK->Prop:=fun xs H Q=>(∃ p ys,xs=[.ref p]/\(SqL K H p ys\/SqT K H p ys)/\Q (.int ys.length) H)\/∃ z,xs=[.str z]/\z.length<=sizeLine/\Q (.int z.length) H
theorem A2b {K:PySem.W.Frag} (h:X.K=K):CallR X (.builtin "len") (A8r K):=by subst h; exact call_len_seq.or Y2
theorem A1j:1000<=sizeLine:=by rw [sizeLine_eq]; decide
end
end L2
namespace L2
open PySem PySem.Spec PyProof.Rows
section
variable {X:Cx} {tg:Expr} {pos:Pos}
theorem A2r {o i:Expr} {to ti:TE} {t:TSet} (ho:QE X o to) (hi:QE X i ti) (hs:PSet X t)
    (ha:∀ v,assign (.Subscript o i pos) X.env v=(do
      let ov <- holding [v] (eval o X.env)
      let iv <- holding [v,ov] (eval i X.env)
      standAt pos
      holding [v,ov,iv] (setItem ov iv v)
      release [v,ov,iv] []):=by intro _; rfl):QG X (.Subscript o i pos) (gSub to ti t):=⟨A07 ho.out hi.out hs ha⟩
end
end L2
namespace Pu
open PySem L2 My Prf
def asS (x:PyData) (k:Str->Prop):Prop:=match x with
  | .str z=>k z
  | _=>False
theorem B9r {z:Str} {k:Str->Prop}:asS (.str z) k=k z:=rfl
theorem VV.strE {K:Frag} {w:Wd} {v:V} {z:Str} (h:VV K w v (.str z)):v=.str z:=by
  rcases h with h | ⟨l,vs,xs,e,e',_⟩
  · cases h; rfl
  · cases e'
def sgn (c:Nat):PyData:=.str ⟨#[c]⟩
def B8f (z:Str):List PyData:=z.cps.toList.map sgn
def B45 (pd:PDt) (env:PEnv) (Q:List PyData->PEnv->Prop):Prop:=pd env fun x e=>asS x fun z=>Q (B8f z) e
def pS (gd:Str->Str->PyData) (x y:PyData) (Q:SV->Prop):Prop:=asS x fun i=>asS y fun j=>Q (.d (gd i j))
def B9c (x y:PyData) (Q:SV->Prop):Prop:=asS x fun i=>asS y fun j=>i.length + j.length<=1000/\Q (.d (.str (i++j)))
def A93 (z:Str) (i:Int) (Q:SV->Prop):Prop:=∃ c,atI z.cps.toList i=some c/\Q (.d (sgn c))
def pIx2 (x y:PyData) (Q:SV->Prop):Prop:=match x with
  | .str z=>asI y fun i=>z.length<=1000/\A93 z i Q
  | x=>pIx x y Q
theorem B43 {xs:List PyData} {y:PyData} {Q:SV->Prop}:pIx2 (.list xs) y Q=pIx (.list xs) y Q:=rfl
theorem B40 {xs:List PyData} {y:PyData} {Q:SV->Prop}:pIx2 (.tuple xs) y Q=pIx (.tuple xs) y Q:=rfl
theorem B42 {q:Rat} {y:PyData} {Q:SV->Prop}:pIx2 (dq q) y Q=pIx (dq q) y Q:=rfl
theorem B44 {q:Rat × Rat} {y:PyData} {Q:SV->Prop}:pIx2 (dcn q) y Q=pIx (dcn q) y Q:=rfl
theorem B41 {z:Str} {i:Int} {Q:SV->Prop}:pIx2 (.str z) (.int i) Q=(z.length<=1000/\A93 z i Q):=rfl
instance (priority:=high) ro_ix2 {K:Frag}:RO K (rIx K) pIx2 where
  ok:=by
    rintro c w env σ x y dx dy Qp Q rfl E vx vy p k;unfold pIx2 at p;split at p
    · unfold asI at p
      split at p
      · obtain ⟨hl,cc,h1,q⟩:=p
        exact .inr (.inr ⟨_,_,cc,vx.strE,vy.intE,Zx hl A1j,h1,k _ _ w (Res.data E (.str _)) q⟩)
      · exact p.elim
    · exact ro_ix.ok c w env σ x y dx dy Qp Q rfl E vx vy p k
def A13 (xs:List PyData) (Q:SV->Prop):Prop:=match xs with
  | [.list ys]=>Q (.d (.int ys.length))
  | [.tuple ys]=>Q (.d (.int ys.length))
  | [.str z]=>z.length<=1000/\Q (.d (.int z.length))
  | _=>False
theorem A9z {ys:List PyData} {Q:SV->Prop}:A13 [.list ys] Q=Q (.d (.int ys.length)):=rfl
theorem A9w {ys:List PyData} {Q:SV->Prop}:A13 [.tuple ys] Q=Q (.d (.int ys.length)):=rfl
theorem A9y {q:Rat} {Q:SV->Prop}:A13 [dq q] Q=Q (.d (.int 2)):=rfl
theorem A9x {z:Str} {Q:SV->Prop}:A13 [.str z] Q=(z.length<=1000/\Q (.d (.int z.length))):=rfl
instance rb_len2 {K:Frag}:RB K (A8r K) A13 where
  ok:=by
    rintro c w env σ vs xs Qp Q rfl E vv p k;unfold A13 at p;split at p
    · cases vv with | cons h t=>cases t; obtain ⟨a,us,e,h1,h2⟩:=h.lst E.wok; exact .inl ⟨a,us,by rw [e],.inl h1,by rw [h2.len]; exact k _ _ w (Res.data E (.int _)) p⟩
    · cases vv with | cons h t=>cases t; obtain ⟨a,us,e,h1,h2⟩:=h.tup E.wok; exact .inl ⟨a,us,by rw [e],.inr h1,by rw [h2.len]; exact k _ _ w (Res.data E (.int _)) p⟩
    · cases vv with | cons h t=>cases t; exact .inr ⟨_,by rw [h.strE],Zx p.1 A1j,k _ _ w (Res.data E (.int _)) p.2⟩
    · exact p.elim
def B3d:List PyData->Option (List Str)
  | []=>some []
  | .str z :: r=>(B3d r).map (z :: ·)
  | _=>none
def B83 (po pa:PDt) (env:PEnv) (Q:SV->PEnv->Prop):Prop:=po env fun x e=>asS x fun sep=>pa e fun y e2=>asL y fun ys=>∃ zs,B3d ys=some zs/\(zs.map fun z=>z.length + sep.length).sum<=1000/\Q (.d (.str (sep.join zs))) e2
def B4l (pd:PDt) (i:Nat) (pi:PDt) (D:PEnds) (env:PEnv):Prop:=pd env fun x e=>K9 e[i]? fun _=>pi e fun y e2=>asI y fun n=>K9 e2[i]? fun xs=>∃ j,ixN xs.length n=some j/\D.nx (e2.set i (some (.own (xs.set j x))))
theorem DenAll.setAt {K:Frag} {F:Hpp} {v:V} {x:PyData} (d:Den K F v x):∀ {vs:List V} {xs:List PyData} (j:Nat),DenAll K F vs xs->DenAll K F (vs.set j v) (xs.set j x)
  | _,_,_,.nil=>.nil
  | _,_,0,.cons _ t=>.cons d t
  | _,_,j + 1,.cons h t=>.cons h (DenAll.setAt d j t)
instance rs_setI {K:Frag} {i:Nat} {te ti:TE} {pd pi:PDt} [he:RD K te pd] [hi:RW K ti pi]:RS K (tAsg te (gSub (tVar i) ti B3o)) (B4l pd i pi) where
  ok:=by
    rintro c w env σ Dp D rfl E h p;refine he.ok c w env σ _ _ rfl E p fun v x e1 w1 E1 l1 d1 q1=>?_;unfold K9 at q1;split at q1
    · rename_i xs0 e0
      obtain ⟨o,g0,l,vs,ev,h1,h2,h3,h4,h5⟩:=E1.at' i _ e0;subst ev;refine ⟨_,g0,hi.ok c w1 e1 σ _ _ rfl E1 q1 fun u y e2 w2 E2 l2 d2 q2=>?_⟩;unfold asI at q2;split at q2
      · rename_i n
        split at q2
        · rename_i xs e
          obtain ⟨j,hj,q2⟩:=q2;obtain ⟨o',g0',l',vs',ev',k1,k2,k3,k4,k5⟩:=E2.at' i _ e;rw [g0] at g0'; cases g0'; cases ev';have hn:=d2.intE;refine ⟨l,vs',n,j,rfl,hn,k1,by rw [k5.len]; exact hj,?_⟩;exact h.nx _ σ ⟨w2.M,upd w2.H l (.lst (vs'.set j v)),w2.F⟩ (E2.write e g0 k1 k2 k3 k4 (DenAll.setAt (Den.same l2.f d1) j k5)) (l1.f.trans l2.f) q2
        · exact q2.elim
      · exact q2.elim
    · exact q1.elim
def B89 (env:PEnv) (Q:SV->PEnv->Prop):Prop:=Q (.d (.dict [])) env
def B5e (key:Key) (y:V) (env:PEnv) (Q:SV->PEnv->Prop):Prop:=Q (.d (.dict [B2t (key,y)])) env
theorem B14:kitB "int" "int"=some true:=by decide +kernel
theorem B15:kitB "int" "bool"=some false:=by decide +kernel
theorem B12:kitB "int" "tuple"=some false:=by decide +kernel
theorem B13:kitB "int" "str"=some false:=by decide +kernel
theorem B2c:kitB "bool" "int"=some true:=by decide +kernel
theorem B2d:kitB "bool" "bool"=some true:=by decide +kernel
theorem B2a:kitB "bool" "tuple"=some false:=by decide +kernel
theorem B2b:kitB "bool" "str"=some false:=by decide +kernel
theorem B1w:kitB "NoneType" "int"=some false:=by decide +kernel
theorem B1x:kitB "NoneType" "bool"=some false:=by decide +kernel
theorem B1u:kitB "NoneType" "tuple"=some false:=by decide +kernel
theorem B1v:kitB "NoneType" "str"=some false:=by decide +kernel
theorem B1s:kitB "str" "int"=some false:=by decide +kernel
theorem B1t:kitB "str" "bool"=some false:=by decide +kernel
theorem B1q:kitB "str" "tuple"=some false:=by decide +kernel
theorem B1r:kitB "str" "str"=some true:=by decide +kernel
theorem B10:kitB "list" "int"=some false:=by decide +kernel
theorem B11:kitB "list" "bool"=some false:=by decide +kernel
theorem B1y:kitB "list" "tuple"=some false:=by decide +kernel
theorem B1z:kitB "list" "str"=some false:=by decide +kernel
theorem B1o:kitB "tuple" "int"=some false:=by decide +kernel
theorem B1p:kitB "tuple" "bool"=some false:=by decide +kernel
theorem B1m:kitB "tuple" "tuple"=some true:=by decide +kernel
theorem B1n:kitB "tuple" "str"=some false:=by decide +kernel
theorem B18:kitB "dict" "int"=some false:=by decide +kernel
theorem B19:kitB "dict" "bool"=some false:=by decide +kernel
theorem B16:kitB "dict" "tuple"=some false:=by decide +kernel
theorem B17:kitB "dict" "str"=some false:=by decide +kernel
theorem A49 {kvs:List (PyData × PyData)}:tyD (.dict kvs)="dict":=rfl
def B5i (pr pr':PyData->PyData->(SV->Prop)->Prop) (pa pb pc:PDt) (env:PEnv) (Q:SV->PEnv->Prop):Prop :=
  pa env fun x e1=>pb e1 fun y e2=>pr x y fun s=>s.asD fun b=>asB b fun k=>if k=true then pc e2 fun z e3=>pr' y z fun s2=>Q s2 e3 else Q (.d (.bool false)) e2
end Pu
namespace L2
open PySem PySem.Spec PyProof.Rows
section
variable {prog:Program} {w:World} {A:Around} {E:Value->Shared->Prop} {h:Heap} {g:Array GenState} {d:Drawn} {t:Nat} {os:OsState} {a C:Addr} {o:Obj} {vs:Array Value} {K:PySem.W.Frag}
end
end L2
namespace L2
open PySem PySem.Spec PyProof.Rows
section
variable {P:Program} {w:World} {outer:List Env} {H H':Hp} {s s':Shared} {a:Addr} {cls a0:Value} {B:Heap}
end
section
variable {P:Program} {w:World} {K:PySem.W.Frag} {mg:Str->Option Value} {base:Heap} {N:List Str} {qual:Str} {scope:Scope} {f:Addr} {cd:Value} {A:Around} {outer:List Env} {s0:Shared} {H0:Hp} {E:XK}
end
end L2
namespace L2
open PySem PySem.Spec PyProof.Rows
section
variable {X:Cx} {E:XK} {x:Str} {C:Addr} {pos np cpos:Pos} {e:Expr} {es:List Expr} {t:TA}
end
section
variable {X:Cx} {pins:List (Addr × Obj)} {σ:St} {H:Hp} {s:Shared} {a:Addr} {oe:Obj}
end
end L2
namespace L2
open PySem PySem.Spec PyProof.Rows
section
variable {P:Program} {w:World} {outer:List Env} {H H':Hp} {s s':Shared} {a:Addr} {cls a0:Value} {B:Heap}
end
section
variable {X:Cx} {pins:List (Addr × Obj)} {σ:St} {H H':Hp} {s s':Shared} {a:Addr} {cls a0:Value} {B:Heap}
end
section
variable {X:Cx} {k i:Nat} {f C CH:Addr} {fd:FuncData} {ps:List Str} {sp:Sp} {x xh n:Str} {p pos pos2 pos3 pos4 pos5:Pos} {e:Expr} {es:List Expr} {t:TA} {b0:Stmt} {suite:List Stmt} {b:Bool}
end
end L2
namespace L2
open PySem PySem.Spec PyProof.Rows
section
variable {X:Cx} {a C:Addr} {oe:Obj} {i:Nat} {b:Bool}
inductive ClV:V->Value->Prop
  | own (c:Addr):ClV (.ref c) (.ref c)
  | ty (c:String):ClV (.ty c) (.type c)
theorem ClV.get {c:V} {u cv:Value} (h:ClV c cv) (r:RelV c u):u=cv:=by
  cases h with
  | own c=>exact r
  | ty c=>exact r
inductive ClVs:List V->List Value->Prop
  | nil:ClVs [] []
  | cons {c:V} {cv:Value} {r:List V} {s:List Value}:ClV c cv->ClVs r s->ClVs (c :: r) (cv :: s)
theorem ClVs.get:∀ {cs:List V} {us cvs:List Value},ClVs cs cvs->Vals cs us->us=cvs
  | [],_,_,.nil,.nil=>rfl
  | _ :: _,_,_,.cons h t,.cons r s=>by rw [h.get r,t.get s]
end
end L2
namespace L2
open PySem PySem.Spec PyProof.Rows
section
variable {X:Cx}
variable {k i:Nat} {f C CH:Addr} {fd:FuncData} {ps:List Str} {sp:Sp} {x xh n:Str} {p pos pos2 pos3 pos4 pos5:Pos} {e:Expr} {es:List Expr} {t:TA} {b0:Stmt} {suite:List Stmt} {b:Bool}
end
end L2
namespace Pu
open PySem PySem.Spec PyProof.Rows L2 My Prf
end Pu
namespace L2
open PySem PySem.Spec PyProof.Rows
theorem us0:∀ {us:List Value},us.length=0->us=[]
  | [],_=>rfl
theorem usS {n:Nat}:∀ {us:List Value},us.length=n + 1->∃ a r,us=a :: r/\r.length=n
  | a :: r,h=>⟨a,r,rfl,Nat.succ.inj h⟩
theorem us1 {us:List Value} (h:us.length=1):∃ a,us=[a]:=by
  obtain ⟨a,r,e,k⟩:=usS h;exact ⟨a,by rw [e,us0 k]⟩
theorem us2 {us:List Value} (h:us.length=2):∃ a b,us=[a,b]:=by
  obtain ⟨a,r,e,k⟩:=usS h; obtain ⟨b,z⟩:=us1 k; exact ⟨a,b,by rw [e,z]⟩
theorem us3 {us:List Value} (h:us.length=3):∃ a b c,us=[a,b,c]:=by
  obtain ⟨a,r,e,k⟩:=usS h; obtain ⟨b,c,z⟩:=us2 k; exact ⟨a,b,c,by rw [e,z]⟩
theorem us4 {us:List Value} (h:us.length=4):∃ a b c d,us=[a,b,c,d]:=by
  obtain ⟨a,r,e,k⟩:=usS h; obtain ⟨b,c,d,z⟩:=us3 k; exact ⟨a,b,c,d,by rw [e,z]⟩
end L2
namespace L2
open PySem PySem.Spec PyProof.Rows
section
variable {X:Cx}
end
end L2
namespace Pu
open PySem L2 My Prf
def pRep (pe:PX) (pb:PDt) (env:PEnv) (Q:SV->PEnv->Prop):Prop:=pe env fun s e=>∃ xs,s=.own xs/\pb e fun y e2=>∃ n:Int,y=.int n/\0<=n/\n<=1000/\xs.length<=1000/\Q (.own (List.replicate n.toNat xs).flatten) e2
def B0e (i j:Nat) (pd:PDt) (D:PEnds) (env:PEnv):Prop:=i≠j/\K9 env[i]? fun _=>K9 env[j]? fun _=>pd env fun x e=>K9 e[i]? fun xs=>K9 e[j]? fun ys=>∃ (k:Nat) (y:PyData),x=.int k/\ys[k]?=some y/\xs.length < 1000000/\ys.length < 1000000/\D.nx ((e.set j (some (.own (ys.eraseIdx k)))).set i (some (.own (xs++[y]))))
end Pu
namespace L2
open PySem PySem.Spec PyProof.Rows
section
variable {prog:Program} {w:World} {A:Around} {E:Value->Shared->Prop} {s:Shared}
end
section
variable {prog:Program} {w:World} {A:Around} {E:Value->Shared->Prop} {s:Shared} {R:Result->Shared->Prop} {us vs:Array Value}
end
section
variable {prog:Program} {w:World} {A:Around} {E:Value->Shared->Prop} {s:Shared} {us vs:Array Value}
end
section
variable {X:Cx} {pins:List (Addr × Obj)} {σ:St} {H:Hp} {s:Shared}
end
section
variable {X:Cx}
end
end L2
namespace Pu
open PySem L2 My Prf
def A9r (pa:PEnv->(List (List PyData)->PEnv->Prop)->Prop) (env:PEnv) (Q:SV->PEnv->Prop):Prop:=pa env fun xss e=>∃ xs ys,xss=[xs,ys]/\xs.length<=1000/\Q (.own (zipD xs ys)) e
end Pu
namespace L2
open PySem PySem.Spec PyProof.Rows
def Z9 (K:PySem.W.Frag):V->List V->Hp->VK->Prop:=fun x vs H Q=>∃ y d xs j,vs=[y]/\Den K H x (.list xs)/\Den K H y d/\PyData.canLayAll0 xs=true/\d.canLay0=true/\d.depth<=60/\xs.length<=1000/\xs.findIdx? (fun z=>z.eqv d)=some j/\Q (.int j) H
section
variable {X:Cx}
theorem A3z (hu:X.A.units + 64 < cLine):MtR X "list.index" (Z9 X.K):=by
  intro pins s σ H x vs v us Q I rx rv h;obtain ⟨y,d,xs,j,rfl,h1,h2,c1,c2,hd,hl,hj,q⟩:=h;obtain ⟨u,rfl,ru⟩:=rv.one;obtain ⟨as,r1⟩:=h1.reads I rx c1;obtain ⟨bs,r2⟩:=h2.reads I ru c2;cases r1 with
  | list e1 e2 e3 e4 =>
    rename_i l o vs n ns;have em:=PySem.SeqAt.readsAll_map xs _ _ c1 e4;have hsz:vs.size=xs.length:=by rw [<- em,Zl,Array.length_toList]
    obtain ⟨hjl,hjt,hjn⟩:=List.findIdx?_eq_some_iff_getElem.mp hj;have at':∀ m (hm:m < vs.size),PySem.SeqAt.readOf s.heap vs[m]=xs[m]'(by omega):=fun m hm=>by
      have:(vs.toList.map (PySem.SeqAt.readOf s.heap))[m]?=xs[m]?:=by rw [em]
      rw [Zh,Array.getElem?_toList,Array.getElem?_eq_getElem hm,Zg (by omega)] at this;exact Zj this
    obtain ⟨cl,dd,dt,sl⟩:=o;have e2':cl=.type "list":=e2;have e3':dt=.seq vs n:=e3;subst e2' e3';refine call_meets PySem.F.slot_list_index ⟨_,e1,rfl⟩ PySem.F.entry_list_index (PySem.F.args_list_index_2 _ _) (PySem.SeqAt.list_indexAt l vs n dd sl u (fun z=>PyData.eqv (PySem.SeqAt.readOf s.heap z) d) j (by omega) (by omega) (by rw [at' j (by omega)]; exact hjt) (fun m hm hlt=>by
      rw [at' m hm];exact Bool.eq_false_iff.mpr (hjn m hlt))) ⟨e1,PySem.SeqAt.items_eqAt e4 r2 c1 c2 (by omega),?_⟩
    exact ⟨.int j,H,I.tok _,⟨_,rfl⟩,q⟩
theorem A17 {K:PySem.W.Frag} (h:X.K=K) (hu:X.A.units + 64 < cLine):MtR X "list.index" (Z9 K):=by subst h; exact A3z hu
end
end L2
namespace Pu
open PySem L2 My Prf
def pIdx (po pa:PDt) (env:PEnv) (Q:SV->PEnv->Prop):Prop:=po env fun x e=>asL x fun xs=>pa e fun d e2=>PyData.canLayAll0 xs=true/\d.canLay0=true/\d.depth<=60/\xs.length<=1000/\∃ j:Nat,xs.findIdx? (fun z=>z.eqv d)=some j/\Q (.d (.int (j:Int))) e2
instance re_idx {K:Frag} {to ta:TE} {po pa:PDt} [ho:RW K to po] [ha:RD K ta pa]:RE K (tBM K "list" (Z9 K) to (E7 ta tNil)) (pIdx po pa) where
  ok:=by
    rintro c w env σ Qp Q rfl E p k;refine ho.ok c w env σ _ _ rfl E p fun v x e1 w1 E1 l1 d1 q1=>?_;unfold asL at q1;split at q1
    · rename_i xs
      obtain ⟨a,us,e,h1,h2⟩:=d1.lst E1.wok;subst e;refine ⟨.inl ⟨rfl,_,h1⟩,ha.ok c w1 e1 σ _ _ rfl E1 q1 fun u y e2 w2 E2 l2 d2 q2=>?_⟩;obtain ⟨c1,c2,hd,hl,j,hj,q⟩:=q2;exact ⟨u,y,xs,j,rfl,(d1.mono l2).den E2.wok,Den.same E2.wok.sub d2,c1,c2,hd,hl,hj,k _ _ e2 w2 ((Res.data E2 (.int _)).pre (l1.trans l2)) q⟩
    · exact q1.elim
end Pu
namespace L2
open PySem PySem.Spec PyProof.Rows
def A8p (d:PyData):Prop:=(d.canLay0=true/\d.showable=true/\d.hasDict=false\/d=.dict [])/\d.depth<=60/\d.shown.length<=sizeLine
section
variable {X:Cx}
end
end L2
namespace Pu
open PySem L2 My Prf
def B8w (pa:PDt) (env:PEnv) (Q:SV->PEnv->Prop):Prop:=pa env fun d e=>A8p d/\Q (.d (.str d.shown)) e
end Pu
namespace L2
open PySem PySem.Spec PyProof.Rows
def B3f (n:Nat) (i j:Int):List Nat:=sliceRange (sliceBounds (some i) none (some j) n).1 (sliceBounds (some i) none (some j) n).2.1 (sliceBounds (some i) none (some j) n).2.2
section
variable {X:Cx}
end
end L2
namespace Pu
open PySem L2 My Prf
def B8e (xs:List PyData) (i j:Int):List PyData:=(B3f xs.length i j).filterMap (xs[·]?)
def B8r (pe pl ps:PDt) (env:PEnv) (Q:SV->PEnv->Prop):Prop:=pe env fun x e1=>asL x fun xs=>pl e1 fun y e2=>asI y fun i=>ps e2 fun z e3=>asI z fun j=>j≠0/\Q (.own (B8e xs i j)) e3
end Pu
namespace L2
open PySem PySem.Spec PyProof.Rows
def A7f (K:PySem.W.Frag):List V->Hp->VK->Prop:=fun xs H Q=>∃ p ys,xs=[.ref p]/\SqL K H p ys/\∀ l,H l=none->Q (.ref l) (upd H l (.tup ys))
theorem A4s {X:Cx} {K:PySem.W.Frag} (h:X.K=K):CallR X (.type "tuple") (A7f K):=by
  subst h;intro pins s σ H xs us Q I r q;obtain ⟨p,ys,e,hq,k⟩:=q;exact V1 pins s σ H xs us Q I r ⟨p,ys,e,.inl ⟨hq,k⟩⟩
end L2
namespace Pu
open PySem L2 My Prf
def B4h (pa:PEnv->(List (List PyData)->PEnv->Prop)->Prop) (env:PEnv) (Q:SV->PEnv->Prop):Prop:=pa env fun xss e=>∃ xs,xss=[xs]/\Q (.d (.tuple xs)) e
end Pu
namespace L2
open PySem PySem.Spec PyProof.Rows
def told:PyData->Str
  | .str z=>z
  | d=>d.shown
section
variable {X:Cx}
end
end L2
namespace Pu
open PySem L2 My Prf
def pStr (pa:PDt) (env:PEnv) (Q:SV->PEnv->Prop):Prop:=pa env fun d e=>A8p d/\Q (.d (.str (told d))) e
end Pu
namespace L2
open PySem PySem.Spec PyProof.Rows
mutual
def lay1:PyData->Bool
  | .list xs=>B1l xs
  | .tuple xs=>B1l xs
  | .dict kvs=>kvs.isEmpty
  | .str x=>PyData.strOk x
  | _=>true
def B1l:List PyData->Bool
  | []=>true
  | x :: r=>lay1 x && B1l r
end
section
variable {X:Cx} {pins:List (Addr × Obj)} {σ:St} {H:Hp} {s:Shared}
end
end L2
namespace L2
open PySem PySem.Spec PyProof.Rows
def B3i (d:PyData):Prop:=(lay1 d=true/\d.showable=true)/\d.depth<=60/\d.shown.length<=sizeLine
section
variable {X:Cx}
end
end L2
namespace Pu
open PySem L2 My Prf
def B8q (pa:PDt) (env:PEnv) (Q:SV->PEnv->Prop):Prop:=pa env fun d e=>B3i d/\Q (.d (.str (told d))) e
end Pu
namespace L2
open PySem PySem.Spec PyProof.Rows
end L2
namespace Pu
open PySem L2 My Prf
def B9b (x y:PyData) (Q:SV->Prop):Prop:=match x,y with
  | .tuple (x :: xs),.tuple (y :: ys)=>xs.length + ys.length<=1000/\Q (.d (.tuple (x :: xs++y :: ys)))
  | _,_=>False
theorem B0a {x y:PyData} {xs ys:List PyData} {Q:SV->Prop}:B9b (.tuple (x :: xs)) (.tuple (y :: ys)) Q=(xs.length + ys.length<=1000/\Q (.d (.tuple (x :: xs++y :: ys)))):=rfl
end Pu
namespace L2
open PySem PySem.Spec PyProof.Rows
section
variable {prog:Program} {w:World} {A:Around} {E:Value->Shared->Prop}
end
end L2
namespace Pu
open PySem L2 My Prf
def qLsU (n:Nat) (pr:List PyData->PEnv->(PEnv->Prop)->Prop) (x:PyData) (env:PEnv) (Q:PEnv->Prop):Prop:=match x with
  | .list xs=>xs.length=n/\pr xs env Q
  | _=>False
theorem B3x {n:Nat} {pr:List PyData->PEnv->(PEnv->Prop)->Prop} {xs:List PyData} {env:PEnv} {Q:PEnv->Prop}:qLsU n pr (.list xs) env Q=(xs.length=n/\pr xs env Q):=rfl
theorem A5d {K:Frag} {F H:Hpp} {a:Addr} {vs:List V} (s:Same F H) (h:SqL K F a vs):SqL K H a vs:=by
  rcases h with (h | ⟨o,h⟩) | h
  · exact .inl (.inl (s _ _ h))
  · exact .inl (.inr ⟨o,s _ _ h⟩)
  · exact .inr h
def B9d (pd:PDt) (n:Nat) (pr:List PyData->PEnv->(PEnv->Prop)->Prop) (D:PEnds) (env:PEnv):Prop:=pd env fun x e=>qLsU n pr x e D.nx
end Pu
namespace L2
open PySem PySem.Spec PyProof.Rows
section
variable {M:Model} {A:Around} {E:Value->Shared->Prop} {s:Shared}
end
section
variable {P:Program} {w:World} {K:PySem.W.Frag} {mg:Str->Option Value} {base:Heap} {N:List Str} {qual:Str} {scope:Scope} {f:Addr} {cd:Value} {A:Around} {outer:List Env} {s0:Shared} {H0:Hp} {E:XK}
end
end L2
namespace L2
open PySem PySem.Spec PyProof.Rows
section
variable {X:Cx} {scope:Scope} {cl:List (Str × Addr)} {N':List Str} {cap:List (Option Nat)} {elt tg iter:Expr} {ifs:List Expr} {wi:TI} {g:TG} {tt:TT} {te:TE} {pos:Pos}
end
section
variable {P:Program} {w:World} {K:PySem.W.Frag} {mg:Str->Option Value} {base:Heap} {N:List Str} {qual:Str} {dsc:Scope} {f:Addr} {cd:Value} {A:Around} {outer:List Env} {s0:Shared} {H0:Hp} {E:XK}
variable {scope:Scope} {cl:List (Str × Addr)} {N':List Str} {cap:List (Option Nat)} {elt tg iter:Expr} {ifs:List Expr} {wi:TI} {g:TG} {tt:TT} {te:TE} {pos:Pos}
end
end L2
namespace L2
open PySem PySem.Spec PyProof.Rows
section
variable {X:Cx} {e:Expr} {t u:TE}
end
section
variable {P:Program} {w:World} {K:PySem.W.Frag} {mg:Str->Option Value} {base:Heap} {N:List Str} {qual:Str} {dsc:Scope} {f:Addr} {cd:Value} {A:Around} {outer:List Env} {s0:Shared} {H0:Hp} {E:XK}
variable {scope:Scope} {cl:List (Str × Addr)} {N':List Str} {cap:List (Option Nat)} {elt tg iter:Expr} {ifs:List Expr} {wi:TI} {g:TG} {tt:TT} {te:TE} {pos:Pos}
end
end L2
namespace Pu
open PySem PySem.Spec PyProof.Rows L2 My Prf
end Pu
namespace L2
open PySem PySem.Spec PyProof.Rows
def A2q:R2:=fun x y H Q=>∃ i n,x=.str i/\y=.int n/\(0<=n/\n<=100)/\i.length<=100/\Q (.str (Txt.mul i n)) H
theorem B6t {x:Str} {n:Int} (h0:0<=n) (h1:n<=100) (h:x.length<=100):MulOk x n:=by
  refine ⟨?_,fun hn _=>?_,fun hn _=>?_⟩
  · rw [Bool.or_eq_false_iff]
    exact ⟨Zd (by omega),Zd (by omega)⟩
  · have hp:0 < n:=by omega
    have h2:100 * n<=2 ^ 63 - 1:=by omega
    have h3:(100:Int)<=(2 ^ 63 - 1) / n:=Int.le_ediv_of_mul_le hp h2;omega
  · have h2:x.length * n.toNat<=100 * 100:=Nat.mul_le_mul h (by omega)
    have h3:100 * 100<=sizeLine:=by rw [sizeLine_eq]; decide
    show decide _=false;exact Zd (by omega)
theorem B0g {X:Cx}:OpR X (binaryOp .Mult) A2q:=by
  intro pins s σ H x y v u Q I rx ry h;obtain ⟨i,n,rfl,rfl,⟨h0,h1⟩,h2,q⟩:=h;obtain ⟨t,rfl⟩:=rx;obtain ⟨t2,rfl⟩:=ry;exact PySem.SB.mul (B6t h0 h1 h2) fun t' k=>⟨.str _,H,I.tok _,⟨t',rfl⟩,q⟩
end L2
namespace Pu
open PySem L2 My Prf
def A9q (x y:PyData) (Q:SV->Prop):Prop:=asS x fun i=>asI y fun n=>(0<=n/\n<=100)/\i.length<=100/\Q (.d (.str (Txt.mul i n)))
theorem A9p {i:Str} {n:Int} {Q:SV->Prop}:A9q (.str i) (.int n) Q=((0<=n/\n<=100)/\i.length<=100/\Q (.d (.str (Txt.mul i n)))):=rfl
instance ro_mulS {K:Frag}:RO K A2q A9q where
  ok:=by
    rintro c w env σ x y dx dy Qp Q rfl E vx vy p k;unfold A9q asS at p;split at p
    · unfold asI at p
      split at p
      · exact ⟨_,_,vx.strE,vy.intE,p.1,p.2.1,k _ _ w (Res.data E (.str _)) p.2.2⟩
      · exact p.elim
    · exact p.elim
end Pu
namespace L2
open PySem PySem.Spec PyProof.Rows
section
variable {pg:Program} {wo:World} {ar:Around} {xe:Value->Shared->Prop} {st:Shared}
end
end L2
namespace Pu
open PySem L2 My Prf
def pSlT (pa:PDt) (pl ph:PEnv->(Option Int->PEnv->Prop)->Prop) (env:PEnv) (Q:SV->PEnv->Prop):Prop:=pa env fun x e=>pl e fun lo e1=>ph e1 fun hi e2=>∃ (xs:List PyData) (b:Nat),x=.tuple xs/\lo=none/\hi=some (b:Int)/\Q (.d (.tuple (xs.take b))) e2
end Pu
namespace Pu
open PySem L2 My Prf
def OT.part:OT->Int->Option OT
  | .leaf (.tuple xs),i=>(L2.atI xs i).map .leaf
  | .leaf (.list xs),i=>(L2.atI xs i).map .leaf
  | .nd _ _ k,i=>(ixN k.len i).bind k.kid
  | _,_=>none
theorem A0o {c:Ct} {w w':Wd} {v:V} {t:OT} (s:Same w.F w'.F) (h:VR c w v (.bt t)):VR c w' v (.bt t):=⟨h.1.sameF s,h.2⟩
theorem A3a {c:Ct} {w:Wd} {v:V} {t u:OT} {i:Int} (ok:w.Ok) (l:Le c.w0 w) (h:VR c w v (.bt t)) (e:t.part i=some u):∃ p vs x,v=.ref p/\(SqL c.K w.H p vs\/SqT c.K w.H p vs)/\L2.atI vs i=some x/\VR c w x (.bt u):=by
  unfold OT.part at e;split at e
  · obtain ⟨⟨v',ev,h⟩,_⟩:=h
    cases ev;obtain ⟨x,hx,rfl⟩:=Zo e;obtain ⟨p,vs,rfl,h1,h2⟩:=Den.tupE h;obtain ⟨y,hy,hd⟩:=h2.atIE hx;exact ⟨p,vs,y,rfl,.inr (SqT.same ok.sub h1),hy,⟨_,rfl,hd⟩,fun q hq=>nomatch hq⟩
  · obtain ⟨⟨v',ev,h⟩,_⟩:=h
    cases ev;obtain ⟨x,hx,rfl⟩:=Zo e;obtain ⟨p,vs,rfl,h1,h2⟩:=Den.lstE h;obtain ⟨y,hy,hd⟩:=h2.atIE hx;exact ⟨p,vs,y,rfl,.inl (ok.sub.seq h1),hy,⟨_,rfl,hd⟩,fun q hq=>nomatch hq⟩
  · rename_i b a k
    obtain ⟨⟨ev,us,h1,h2⟩,h3⟩:=h;cases ev;obtain ⟨j,hj,hk⟩:=Option.bind_eq_some_iff.mp e;obtain ⟨x,hx,hu⟩:=h2.kid hk;have hH:=l.h _ _ h1 (h3 a (by simp [OT.fp]));refine ⟨a,us,x,rfl,?_,?_,hu,fun q hq=>h3 q (Zr _ (X2 hk hq))⟩
    · cases b with
      | true=>exact .inl (SqL.of hH)
      | false=>exact .inr (SqT.of hH)
    · unfold L2.atI
      rw [h2.len,hj]; exact hx
  · cases e
class RTb (K:Frag) (te:TE) (pb:outParam (PEnv->(OT->PEnv->Prop)->Prop)):Prop where
  ok:∀ (c:Ct) (w:Wd) (env:PEnv) (σ:St) (Qp:OT->PEnv->Prop) (Q:VK),c.K=K->EnvOk c w env σ->pb env Qp->(∀ v t env' w',EnvOk c w' env' σ->Lw w w'->VR c w' v (.bt t)->Qp t env'->Q v w'.H)->te σ w.H Q
def A52 (o:Option (Option SV)) (env:PEnv) (Q:OT->PEnv->Prop):Prop:=match o with
  | some (some (.bt t))=>Q t env
  | some (some (.d x))=>Q (.leaf x) env
  | _=>False
def A9u (i:Nat) (env:PEnv) (Q:OT->PEnv->Prop):Prop:=A52 env[i]? env Q
theorem B07 {t:OT} {env:PEnv} {Q:OT->PEnv->Prop}:A52 (some (some (.bt t))) env Q=Q t env:=rfl
theorem B06 {x:PyData} {env:PEnv} {Q:OT->PEnv->Prop}:A52 (some (some (.d x))) env Q=Q (.leaf x) env:=rfl
instance rtb_var {K:Frag} {i:Nat}:RTb K (tVar i) (A9u i) where
  ok:=by
    rintro c w env σ Qp Q rfl E p k;unfold A9u A52 at p;split at p
    · rename_i t e
      obtain ⟨v,h1,h2⟩:=E.at' i _ e;exact ⟨v,h1,k v _ env w E (Lw.refl w) h2 p⟩
    · rename_i x e
      obtain ⟨v,h1,h2⟩:=E.at' i _ e;exact ⟨v,h1,k v (.leaf x) env w E (Lw.refl w) ⟨⟨v,rfl,h2⟩,fun a z=>nomatch z⟩ p⟩
    · exact p.elim
def tPth (te:TE):TE:=te
def pPth (pb:PEnv->(OT->PEnv->Prop)->Prop) (pi:PDt) (env:PEnv) (Q:OT->PEnv->Prop):Prop:=pb env fun t e1=>pi e1 fun y e2=>asI y fun n=>∃ u,t.part n=some u/\Q u e2
instance rtb_pth {K:Frag} {te ti:TE} {pb:PEnv->(OT->PEnv->Prop)->Prop} {pi:PDt} [hb:RTb K te pb] [hi:RW K ti pi]:RTb K (tPth (tOp (rIx K) te ti)) (pPth pb pi) where
  ok:=by
    rintro c w env σ Qp Q rfl E p k;refine hb.ok c w env σ _ _ rfl E p fun v t e1 w1 E1 l1 v1 q1=>?_;refine hi.ok c w1 e1 σ _ _ rfl E1 q1 fun y dy e2 w2 E2 l2 v2 q2=>?_;unfold asI at q2;split at q2
    · rename_i n
      obtain ⟨u,hu,q⟩:=q2;obtain ⟨p,vs,x,rfl,hs,hx,hv⟩:=A3a E2.wok E2.le0 (A0o l2.f v1) hu;have hn:=v2.intE;rcases hs with hs | hs
      · exact .inl ⟨p,vs,n,x,rfl,hn,hs,hx,k x u e2 w2 E2 (l1.trans l2) hv q⟩
      · exact .inr (.inl ⟨p,vs,n,x,rfl,hn,hs,hx,k x u e2 w2 E2 (l1.trans l2) hv q⟩)
    · exact q2.elim
def OT.vw (t:OT) (k:PyData->Prop):Prop:=match t with
  | .leaf x=>k x
  | t=>∃ xs,t.sv=.bor xs/\k (.list xs)
theorem A79 {x:PyData} {k:PyData->Prop}:OT.vw (.leaf x) k=k x:=rfl
theorem B8c {a:Addr} {xs:List PyData} {k:PyData->Prop} (h:k (.list xs)):OT.vw (.nd true a (A7 xs)) k:=⟨xs,M8,h⟩
def pVw (pb:PEnv->(OT->PEnv->Prop)->Prop) (env:PEnv) (Q:PyData->PEnv->Prop):Prop:=pb env fun t e=>t.vw fun x=>Q x e
def OT.lf (t:OT) (k:PyData->Prop):Prop:=match t with
  | .leaf x=>k x
  | _=>False
theorem B1h {x:PyData} {k:PyData->Prop}:OT.lf (.leaf x) k=k x:=rfl
def pLf (pb:PEnv->(OT->PEnv->Prop)->Prop) (env:PEnv) (Q:SV->PEnv->Prop):Prop:=pb env fun t e=>t.lf fun x=>Q (.d x) e
def pBr (pb:PEnv->(OT->PEnv->Prop)->Prop) (env:PEnv) (Q:List PyData->PEnv->Prop):Prop:=pb env fun t e=>∃ xs,t.sv=.bor xs/\Q xs e
end Pu
namespace L2
open PySem PySem.Spec PyProof.Rows
theorem qPth {X:Cx} {e:Expr} {t:TE} (h:QE X e t):QE X e (Pu.tPth t):=h
end L2
namespace Pu
open PySem L2 My Prf
def Mut (K:Frag) (w:Wd) (l:Addr) (xs:List PyData):Prop:=∃ vs,w.H l=some (.lst vs)/\w.F l=none/\¬ w.M l/\DenAll K w.F vs xs
abbrev PMu:=List PyData->List PyData->List PyData->(PyData->List PyData->List PyData->Prop)->Prop
def B7x (nd:Nat) (p q:Addr) (Qp:PyData->List PyData->List PyData->Prop) (x:PyData) (e:PEnv):Prop:=∃ ys zs,e[nd]?=some (some (.tr (.nd true p (A7 ys))))/\e[nd + 1]?=some (some (.tr (.nd true q (A7 zs))))/\Qp x ys zs
def rtMu (nd:Nat) (p q:Addr) (Qp:PyData->List PyData->List PyData->Prop) (s:SV) (e:PEnv):Prop:=match s with
  | .d x=>B7x nd p q Qp x e
  | _=>False
theorem B3n {nd:Nat} {p q:Addr} {Qp:PyData->List PyData->List PyData->Prop} {x:PyData} {e:PEnv}:rtMu nd p q Qp (.d x) e=B7x nd p q Qp x e:=rfl
def oMu (o:Option (Option SV)) (k:Addr->List PyData->Prop):Prop:=match o with
  | some (some (.tr t))=>∃ a xs,t=.nd true a (A7 xs)/\k a xs
  | _=>False
theorem B9g {a:Addr} {xs:List PyData} {k:Addr->List PyData->Prop} (h:k a xs):oMu (some (some (.tr (.nd true a (A7 xs))))) k:=⟨a,xs,rfl,h⟩
theorem S9 {xs ys:List PyData} (h:A7 xs=A7 ys):xs=ys:=by
  have:=congrArg OT.dat h
  rwa [D3,D3] at this
theorem B9h {a:Addr} {xs:List PyData} {k:Addr->List PyData->Prop}:oMu (some (some (.tr (.nd true a (A7 xs))))) k=k a xs :=
  propext ⟨fun ⟨_,_,e,h⟩=>by
    have e1:=(OT.nd.inj e).2.1;have e2:=S9 (OT.nd.inj e).2.2;subst e1; subst e2; exact h,B9g⟩
def pMuV (i:Nat) (env:PEnv) (Q:PyData->PEnv->Prop):Prop:=oMu env[i]? fun _ xs=>Q (.list xs) env
def B4k (pd:PDt) (i:Nat) (pi:PDt) (D:PEnds) (env:PEnv):Prop:=pd env fun x e=>oMu e[i]? fun _ _=>pi e fun y e2=>asI y fun n=>oMu e2[i]? fun a xs=>∃ j,ixN xs.length n=some j/\D.nx (e2.set i (some (.tr (.nd true a (A7 (xs.set j x))))))
def is2 (o o':Option (Option SV)) (k:Prop):Prop:=match o,o' with
  | some (some (.own _)),some (some (.own _))=>k
  | _,_=>False
theorem B9m {xs ys:List PyData} {k:Prop}:is2 (some (some (.own xs))) (some (some (.own ys))) k=k:=rfl
def pA2 (i j:Nat) (env:PEnv) (Q:List PyData->Nat->Nat->PEnv->Prop):Prop:=is2 env[i]? env[j]? (Q [] i j env)
def pC2 (pd:PDt) (pr:PEnv->(List PyData->Nat->Nat->PEnv->Prop)->Prop) (env:PEnv) (Q:List PyData->Nat->Nat->PEnv->Prop):Prop:=pd env fun x e1=>pr e1 fun xs i j e2=>Q (x :: xs) i j e2
def own2 (o o':Option (Option SV)) (k:List PyData->List PyData->Prop):Prop:=match o,o' with
  | some (some (.own xs)),some (some (.own ys))=>k xs ys
  | _,_=>False
theorem B5v {xs ys:List PyData} {k:List PyData->List PyData->Prop}:own2 (some (some (.own xs))) (some (some (.own ys))) k=k xs ys:=rfl
def pMu (psp:PMu) (pa:PEnv->(List PyData->Nat->Nat->PEnv->Prop)->Prop) (env:PEnv) (Q:PyData->PEnv->Prop):Prop:=pa env fun xs i j e=>i≠j/\own2 e[i]? e[j]? fun ys zs=>psp xs ys zs fun x ys' zs'=>Q x ((e.set i (some (.own ys'))).set j (some (.own zs')))
def B5p (psp:PMu) (pa:PEnv->(List PyData->Nat->Nat->PEnv->Prop)->Prop) (m:Nat) (D:PEnds) (env:PEnv):Prop:=pMu psp pa env fun x e=>D.nx (e.set m (some (.d x)))
def A96 (psp:PMu) (pa:PEnv->(List PyData->Nat->Nat->PEnv->Prop)->Prop) (D:PEnds) (env:PEnv):Prop:=pMu psp pa env fun _ e=>D.nx e
end Pu
namespace L2
open PySem PySem.Spec PyProof.Rows
end L2
namespace Pu
open PySem L2 My Prf
def B5f (i:Nat) (pg:PyData->PEnv->(PEnv->Prop)->Prop) (pt:PTt) (pd:PDt) (cap:List (Option Nat)) (env:PEnv) (Q:SV->PEnv->Prop):Prop:=K9 env[i]? fun xs=>xs.length < 1000000/\K2 xs pg pt pd (F3 cap env) fun ys=>Q (.own ys) env
def A3b (i:Nat) (pg:PyData->PEnv->(PEnv->Prop)->Prop) (pt:PTt) (pd:PDt) (cap:List (Option Nat)) (j:Nat) (D:PEnds) (env:PEnv):Prop:=K9 env[i]? fun xs=>xs.length < 1000000/\K2 xs pg pt pd (F3 cap env) fun ys=>D.nx (env.set j (some (.own ys)))
end Pu
namespace L2
open PySem PySem.Spec PyProof.Rows
end L2
namespace Pu
open PySem L2 My Prf
theorem A9c {K:Frag} {w:Wd} {v:V} {t u:OT} {i:Int} (ok:w.Ok) (h:TV K w v t) (e:t.part i=some u):∃ p vs x,v=.ref p/\(SqL K w.H p vs\/SqT K w.H p vs)/\L2.atI vs i=some x/\TV K w x u:=by
  obtain ⟨p,vs,x,e1,h1,h2,h3⟩:=A3a (c:=⟨K,w,noZ⟩) ok (Le.refl w) (show VR ⟨K,w,noZ⟩ w v (.bt t) from h) e;exact ⟨p,vs,x,e1,h1,h2,h3⟩
def tPo (te:TE):TE:=te
instance (priority:=high) rtr_po {K:Frag} {te ti:TE} {pb:PEnv->(OT->PEnv->Prop)->Prop} {pi:PDt} [hb:RTr K te pb] [hi:RW K ti pi]:RTr K (tPo (tOp (rIx K) te ti)) (pPth pb pi) where
  ok:=by
    rintro c w env σ Qp Q rfl E p k;refine hb.ok c w env σ _ _ rfl E p fun v t e1 w1 E1 l1 v1 q1=>?_;refine hi.ok c w1 e1 σ _ _ rfl E1 q1 fun y dy e2 w2 E2 l2 v2 q2=>?_;unfold asI at q2;split at q2
    · rename_i n
      obtain ⟨u,hu,q⟩:=q2;obtain ⟨p,vs,x,rfl,hs,hx,hv⟩:=A9c E2.wok (v1.mono l2 v1.1.has) hu;have hn:=v2.intE;rcases hs with hs | hs
      · exact .inl ⟨p,vs,n,x,rfl,hn,hs,hx,k x u e2 w2 E2 (l1.trans l2) hv q⟩
      · exact .inr (.inl ⟨p,vs,n,x,rfl,hn,hs,hx,k x u e2 w2 E2 (l1.trans l2) hv q⟩)
    · exact q2.elim
theorem B3c:∀ {t:OT} {xs:List PyData},t.sv=.bor xs->t=.leaf (.list xs)\/∃ a,t=.nd true a (A7 xs)
  | .leaf (.list ys),xs,h=>by cases (show SV.bor ys=.bor xs from h); exact .inl rfl
  | .nd true a k,xs,h=>by
    have h':(match k.lvs with | some xs=>SV.bor xs | none=>.bt (.nd true a k))=.bor xs:=h;cases q:k.lvs with
    | none=>rw [q] at h'; cases h'
    | some ys=>rw [q] at h'; cases h'; exact .inr ⟨a,by rw [J2 q]⟩
theorem TV.vw {K:Frag} {w:Wd} {v:V} {t:OT} {k:PyData->Prop} (h:TV K w v t) (q:t.vw k):∃ x,VV K w v x/\k x:=by
  have go:∀ {t:OT} {xs:List PyData},TV K w v t->t.sv=.bor xs->VV K w v (.list xs):=fun {t xs} h e=>by
    rcases B3c e with rfl | ⟨a,rfl⟩
    · obtain ⟨⟨v',ev,h⟩,_⟩:=h
      cases ev; exact .inl h
    · obtain ⟨⟨ev,us,h1,h2⟩,h3⟩:=h
      cases ev;exact .inr ⟨a,us,xs,rfl,rfl,h1,h3 a (by simp [OT.fp]),F9 h2⟩
  unfold OT.vw at q;split at q
  · obtain ⟨⟨v',ev,h⟩,_⟩:=h
    cases ev; exact ⟨_,.inl h,q⟩
  · obtain ⟨xs,e,q⟩:=q
    exact ⟨_,go h e,q⟩
instance (priority:=high) rw_po {K:Frag} {te:TE} {pb:PEnv->(OT->PEnv->Prop)->Prop} [hb:RTr K (tPo te) pb]:RW K (tPo te) (pVw pb) where
  ok:=by
    rintro c w env σ Qp Q rfl E p k;refine hb.ok c w env σ _ _ rfl E p fun v t e1 w1 E1 l1 v1 q1=>?_;obtain ⟨x,hx,q⟩:=v1.vw q1;exact k _ _ e1 w1 E1 l1 hx q
def pDa (pb:PEnv->(OT->PEnv->Prop)->Prop) (env:PEnv) (Q:PyData->PEnv->Prop):Prop:=pb env fun t e=>∃ x,t.dat=[x]/\Q x e
def OT.setK:OT->Nat->OT->OT
  | .cons _ t,0,x=>.cons x t
  | .cons h t,n + 1,x=>.cons h (t.setK n x)
  | t,_,_=>t
theorem A37:∀ {ks:OT} {j:Nat} {u:OT},ks.kid j=some u->∃ A B,ks.fp=A++u.fp++B/\∀ x,(ks.setK j x).fp=A++x.fp++B
  | .cons _ t,0,_,q=>by cases q; exact ⟨[],t.fp,rfl,fun x=>rfl⟩
  | .cons h t,n + 1,u,q=>by
    obtain ⟨A,B,e1,e2⟩:=A37 (ks:=t) (j:=n) (u:=u) q;exact ⟨h.fp++A,B,by show h.fp++t.fp=_; rw [e1]; simp,fun x=>by show h.fp++(t.setK n x).fp=_; rw [e2]; simp⟩
theorem Tre.agree {K:Frag} {w w':Wd} (f:Same w.F w'.F):∀ {t:OT} {vs:List V},Tre K w t vs->(∀ a ∈ t.fp,∀ o,w.H a=some o->w'.H a=some o)->Tre K w' t vs
  | .leaf _,_,⟨v,e,h⟩,_=>⟨v,e,Den.same f h⟩
  | .nd _ p _,_,⟨e,us,h,k⟩,n=>⟨e,us,n p (by simp [OT.fp]) _ h,Tre.agree f k fun q hq=>n q (by simp [OT.fp,hq])⟩
  | .nil,_,e,_=>e
  | .cons _ _,_,⟨v,r,e,h,t⟩,n=>⟨v,r,e,Tre.agree f h fun q hq=>n q (by simp [OT.fp,hq]),Tre.agree f t fun q hq=>n q (by simp [OT.fp,hq])⟩
theorem Tre.setK {K:Frag} {w w':Wd} {x:OT} {v:V} (f:Same w.F w'.F):∀ {ks:OT} {us:List V} {j:Nat} {u:OT},Tre K w ks us->ks.kid j=some u->us[j]?=some v->ks.fp.Nodup->(∀ a o,w.H a=some o->a ∉ u.fp->w'.H a=some o)->Tre K w' x [v]->Tre K w' (ks.setK j x) us
  | .cons h t,_,0,u,⟨y,r,rfl,hh,ht⟩,q,ev,nd,ag,hx=>by
    cases q;have:y=v:=by simpa using ev
    subst this;have d:=(List.nodup_append.mp nd).2.2;exact ⟨y,r,rfl,hx,ht.agree f fun a ha o ho=>ag a o ho fun z=>d a z a ha rfl⟩
  | .cons h t,_,n + 1,u,⟨y,r,rfl,hh,ht⟩,q,ev,nd,ag,hx=>by
    obtain ⟨_,n2,d⟩:=List.nodup_append.mp nd;have q':t.kid n=some u:=q;refine ⟨y,r,rfl,hh.agree f fun a ha o ho=>ag a o ho fun z=>d a ha a (X2 q' z) rfl,?_⟩;exact Tre.setK f (ks:=t) (j:=n) ht q' (by simpa using ev) n2 ag hx
structure Sub (K:Frag) (w:Wd) (T u:OT) (r:OT->OT) (v0 v:V):Prop where
  tre:Tre K w u [v]
  re:∀ (w':Wd) x,(∀ a o,w.H a=some o->a ∉ u.fp->w'.H a=some o)->Same w.F w'.F->Tre K w' x [v]->Tre K w' (r x) [v0]
  fp:∃ A B,T.fp=A++u.fp++B/\∀ x,(r x).fp=A++x.fp++B
class RRt (K:Frag) (te:TE) (i:outParam Nat) (pm:outParam (OT->(OT->(OT->OT)->Prop)->Prop)):Prop where
  ok:∀ (c:Ct) (w:Wd) (env:PEnv) (σ:St) (T:OT) (v0:V) (P:OT->(OT->OT)->Prop) (Q:VK),c.K=K->EnvOk c w env σ->env[i]?=some (some (.tr T))->σ[i]?=some (some v0)->pm T P->(∀ v u r,P u r->Sub K w T u r v0 v->Q v w.H)->te σ w.H Q
def B6w (T:OT) (k:OT->(OT->OT)->Prop):Prop:=k T fun x=>x
instance rrt_var {K:Frag} {i:Nat}:RRt K (tVar i) i B6w where
  ok:=by
    rintro c w env σ T v0 P Q rfl E e hv p k;obtain ⟨v,h1,h2⟩:=E.at' i _ e;rw [hv] at h1; cases h1;exact ⟨v0,hv,k v0 T _ p ⟨h2.1,fun w' x _ _ h=>h,[],[],by simp,fun x=>by simp⟩⟩
def mIx (pm:OT->(OT->(OT->OT)->Prop)->Prop) (n:Int) (T:OT) (k:OT->(OT->OT)->Prop):Prop:=pm T fun t r=>∃ b a ks j u,t=.nd b a ks/\ixN ks.len n=some j/\ks.kid j=some u/\k u fun x=>r (.nd b a (ks.setK j x))
instance rrt_ix {K:Frag} {te:TE} {i:Nat} {n:Int} {pm:OT->(OT->(OT->OT)->Prop)->Prop} [h:RRt K te i pm]:RRt K (tPo (tOp (rIx K) te (tC (.int n)))) i (mIx pm n) where
  ok:=by
    rintro c w env σ T v0 P Q rfl E e hv p k;obtain ⟨v',hv',VRT⟩:=E.at' i _ e;refine h.ok c w env σ T v0 _ _ rfl E e hv p fun v t r ⟨b,a,ks,j,u,et,hj,hk,q⟩ S=>?_;subst et;obtain ⟨⟨ev,us,hH,hks⟩,re,A,B,eT,er⟩:=S;cases ev;obtain ⟨x,hx,hu⟩:=hks.kid hk;have nT:=VRT.2.2;rw [eT] at nT;have nd:(OT.nd b a ks).fp.Nodup:=(List.nodup_append.mp (List.nodup_append.mp nT).1).2.1;obtain ⟨ha,nk⟩:=List.nodup_cons.mp (show (a :: ks.fp).Nodup from nd);obtain ⟨A',B',e1,e2⟩:=A37 hk;have sub:Sub c.K w T u (fun x=>r (.nd b a (ks.setK j x))) v0 x:=⟨hu,fun w' y ag f hy=>by
        refine re w' _ (fun a' o ho hn=>ag a' o ho fun z=>hn (Zr _ (X2 hk z))) f ⟨rfl,us,ag a _ hH fun z=>ha (X2 hk z),?_⟩;exact Tre.setK f hks hk hx nk ag hy,A++a :: A',B'++B,by
        rw [eT,show (OT.nd b a ks).fp=a :: ks.fp from rfl,e1]; simp,fun y=>by
        rw [er,show (OT.nd b a (ks.setK j y)).fp=a :: (ks.setK j y).fp from rfl,e2]; simp⟩
    have at':L2.atI us n=some x:=by unfold L2.atI; rw [hks.len,hj]; exact hx
    cases b with
    | true=>exact .inl ⟨a,us,n,x,rfl,rfl,SqL.of hH,at',k x u _ q sub⟩
    | false=>exact .inr (.inl ⟨a,us,n,x,rfl,rfl,SqT.of hH,at',k x u _ q sub⟩)
theorem EnvOk.change {c:Ct} {w:Wd} {env:PEnv} {σ:St} {i:Nat} {T u:OT} {r:OT->OT} {v0 v:V} {a:Addr} {xs ys:List PyData} {us:List V} (E:EnvOk c w env σ) (e:env[i]?=some (some (.tr T))) (hv:σ[i]?=some (some v0)) (S:Sub c.K w T u r v0 v) (hu:u=.nd true a (A7 xs)) (hd:DenAll c.K w.F us ys) :
    EnvOk c ⟨w.M,upd w.H a (.lst us),w.F⟩ (env.set i (some (.tr (r (.nd true a (A7 ys)))))) σ:=by
  subst hu;obtain ⟨v',hv',VRT⟩:=E.at' i _ e;rw [hv] at hv'; cases hv';obtain ⟨tre,re,A,B,eT,er⟩:=S;obtain ⟨ev,_⟩:=tre;cases ev;have ef:(r (.nd true a (A7 ys))).fp=T.fp:=by
    rw [er,eT,show (OT.nd true a (A7 ys)).fp=a :: (A7 ys).fp from rfl,show (OT.nd true a (A7 xs)).fp=a :: (A7 xs).fp from rfl,L5,L5]
  have haT:a ∈ T.fp:=by rw [eT]; simp [OT.fp]
  refine E.writeAt (s':=.tr (r (.nd true a (A7 ys)))) e hv haT (fun b hb=>by show b ∈ T.fp; rw [<- ef]; exact hb) ⟨re _ _ (fun b o ho hn=>?_) (Same.refl _) ⟨rfl,us,B8,N4 hd⟩,fun b hb=>?_,by rw [ef]; exact VRT.2.2⟩
  · show upd w.H a _ b=_
    rw [C1 (fun z=>hn (by rw [z]; simp [OT.fp]))]; exact ho
  · rw [ef] at hb
    obtain ⟨z1,z2⟩:=VRT.2.1 b hb;exact ⟨fun z=>z1 (G7 z),z2⟩
theorem Sub.lst {K:Frag} {w:Wd} {T u:OT} {r:OT->OT} {v0 v:V} {a:Addr} {xs:List PyData} (S:Sub K w T u r v0 v) (hu:u=.nd true a (A7 xs)):v=.ref a/\∃ us,w.H a=some (.lst us)/\DenAll K w.F us xs:=by
  subst hu;obtain ⟨⟨ev,us,h1,h2⟩,_⟩:=S;cases ev;exact ⟨rfl,us,h1,F9 h2⟩
def isLs (u:OT) (k:Addr->List PyData->Prop):Prop:=∃ a xs,u=.nd true a (A7 xs)/\k a xs
theorem T2 {a:Addr} {xs:List PyData} {k:Addr->List PyData->Prop}:isLs (.nd true a (A7 xs)) k=k a xs :=
  propext ⟨fun ⟨_,_,e,h⟩=>by
    have e1:=(OT.nd.inj e).2.1;have e2:=S9 (OT.nd.inj e).2.2;subst e1; subst e2; exact h,fun h=>⟨a,xs,rfl,h⟩⟩
def A98 (i:Nat) (pm:OT->(OT->(OT->OT)->Prop)->Prop) (D:PEnds) (env:PEnv):Prop:=asTr env[i]? fun T=>pm T fun u r=>isLs u fun a _=>D.nx (env.set i (some (.tr (r (.nd true a .nil)))))
instance (priority:=high) rs_clrP {K:Frag} {te:TE} {i:Nat} {pm:OT->(OT->(OT->OT)->Prop)->Prop} [h:RRt K (tPo te) i pm]:RS K (Z6 (tBM0 K "list" A7h (tPo te))) (A98 i pm) where
  ok:=by
    rintro c w env σ Dp D rfl E hD p;unfold A98 asTr at p;split at p
    · rename_i T e
      obtain ⟨v0,hv,_⟩:=E.at' i _ e;refine h.ok c w env σ T v0 _ _ rfl E e hv p fun v u r ⟨a,xs,eu,q⟩ S=>?_;obtain ⟨rfl,us,h1,h2⟩:=S.lst eu;exact ⟨.inl ⟨rfl,_,SqL.of h1⟩,a,us,rfl,rfl,h1,hD.nx _ σ ⟨w.M,upd w.H a (.lst []),w.F⟩ (E.change (ys:=[]) e hv S eu .nil) (Same.refl _) q⟩
    · exact p.elim
def B0f (i:Nat) (pm:OT->(OT->(OT->OT)->Prop)->Prop) (x:PyData) (D:PEnds) (env:PEnv):Prop:=asTr env[i]? fun T=>pm T fun u r=>isLs u fun a xs=>xs.length < 1000000/\D.nx (env.set i (some (.tr (r (.nd true a (A7 (xs++[x])))))))
class Cst (K:Frag) (te:TE) (x:outParam PyData):Prop where
  ok:∃ v,te=tC v/\∀ F,Den K F v x
instance cst_non {K:Frag}:Cst K (tC .non) .none:=⟨.non,rfl,fun _=>.non⟩
instance (priority:=high) rs_appP {K:Frag} {te tx:TE} {i:Nat} {x:PyData} {pm:OT->(OT->(OT->OT)->Prop)->Prop} [h:RRt K (tPo te) i pm] [hx:Cst K tx x]:RS K (Z6 (tBM K "list" U1 (tPo te) (E7 tx tNil))) (B0f i pm x) where
  ok:=by
    rintro c w env σ Dp D rfl E hD p;unfold B0f asTr at p;split at p
    · rename_i T e
      obtain ⟨v0,hv,_⟩:=E.at' i _ e;obtain ⟨y,rfl,hy⟩:=hx.ok;refine h.ok c w env σ T v0 _ _ rfl E e hv p fun v u r ⟨a,xs,eu,hl,q⟩ S=>?_;obtain ⟨rfl,us,h1,h2⟩:=S.lst eu;exact ⟨.inl ⟨rfl,_,SqL.of h1⟩,a,us,y,rfl,rfl,h1,by rw [h2.len]; exact P4 hl,hD.nx _ σ ⟨w.M,upd w.H a (.lst (us++[y])),w.F⟩ (E.change e hv S eu (h2.app (.cons (hy _) .nil))) (Same.refl _) q⟩
    · exact p.elim
def oInt (o:Option (Option SV)) (k:Int->Prop):Prop:=match o with
  | some (some (.d (.int n)))=>k n
  | _=>False
def B8s (pd:PDt) (i:Nat) (pm:OT->(OT->(OT->OT)->Prop)->Prop) (j:Nat) (D:PEnds) (env:PEnv):Prop:=pd env fun x e=>asTr e[i]? fun T=>pm T fun u r=>isLs u fun a xs=>oInt e[j]? fun n=>∃ m,ixN xs.length n=some m/\D.nx (e.set i (some (.tr (r (.nd true a (A7 (xs.set m x)))))))
theorem B6o {n:Int} {k:Int->Prop}:oInt (some (some (.d (.int n)))) k=k n:=rfl
def OT.slot:OT->SV
  | .leaf x=>.d x
  | .nd true a k=>match k.lvs with
    | some xs=>.own xs
    | none=>.tr (.nd true a k)
  | t=>.tr t
theorem A2n {x:PyData}:OT.slot (.leaf x)=.d x:=rfl
theorem A8n {a:Addr} {xs:List PyData}:OT.slot (.nd true a (A7 xs))=.own xs:=by show (match (A7 xs).lvs with | some xs=>SV.own xs | none=>_)=_; rw [J1]
def tUn (te:TE):TE:=te
def unT (s:SV) (a b:Nat) (e:PEnv) (k:PEnv->Prop):Prop:=match s with
  | .d x=>∃ y z,x=.tuple [y,z]/\k ((e.set a (some (.d y))).set b (some (.d z)))
  | .tr t=>∃ p u v,t=.nd false p (.cons u (.cons v .nil))/\k ((e.set a (some u.slot)).set b (some v.slot))
  | _=>False
theorem B8d {p:Addr} {u v:OT} {a b:Nat} {e:PEnv} {k:PEnv->Prop}:unT (.tr (.nd false p (.cons u (.cons v .nil)))) a b e k=k ((e.set a (some u.slot)).set b (some v.slot)) :=
  propext ⟨fun ⟨_,_,_,e,h⟩=>by
    obtain ⟨_,_,e3⟩:=OT.nd.inj e;obtain ⟨e4,e5⟩:=OT.cons.inj e3;obtain ⟨e6,_⟩:=OT.cons.inj e5;subst e4; subst e6; exact h,fun h=>⟨p,u,v,rfl,h⟩⟩
def pUnT (pe:PX) (a b:Nat) (D:PEnds) (env:PEnv):Prop:=pe env fun s e=>unT s a b e D.nx
class RHs (K:Frag) (md:List Md) (ta:TA) (pa:outParam PAr):Prop where
  ok:∀ (c:Ct) (w:Wd) (env:PEnv) (σ:St) (Qp:List PyData->PEnv->Prop) (Q:List V->Hpp->Prop),c.K=K->EnvOk c w env σ->pa env Qp->(∀ vs xs env' w',EnvOk c w' env' σ->Lw w w'->DenAll K (hm w') vs xs->(∀ w'',w''.F=hm w'->Args K w'' md vs (xs.map .d))->Qp xs env'->Q vs w'.H)->ta σ w.H Q
instance rhs_nil {K:Frag}:RHs K [] tNil pNil:=⟨fun c w env σ Qp Q _ E p k=>k [] [] env w E (Lw.refl w) .nil (fun _ _=>.nil) p⟩
instance rhs_cons {K:Frag} {md:List Md} {ta:TE} {tr:TA} {pa:PDt} {pr:PAr} [ha:RH K ta pa] [hr:RHs K md tr pr]:RHs K (.dat :: md) (E7 ta tr) (F5 pa pr) where
  ok:=by
    rintro c w env σ Qp Q rfl E p k;refine ha.ok c w env σ _ _ rfl E p fun x dx e1 w1 E1 l1 v1 q1=>?_;refine hr.ok c w1 e1 σ _ _ rfl E1 q1 fun vs xs e2 w2 E2 l2 d2 a2 q2=>?_;have v1':Den c.K (hm w2) x dx:=Den.same (B2i l2) v1;exact k _ _ e2 w2 E2 (l1.trans l2) (.cons v1' d2) (fun w'' e=>.dat (by rw [e]; exact v1') (a2 w'' e)) q2
def A7c (sp:Sp) (dvs:List V) (X:XK) (t:TA):TE:=A1z sp dvs X t
def A7t (psp:PSp) (pa:PAr) (env:PEnv) (Q:SV->PEnv->Prop):Prop:=pa env fun xs e=>psp (xs.map .d) fun s=>∃ b,s=.d (.bool b)/\Q (.d (.bool b)) e
instance re_callN {K:Frag} {md:List Md} {psp:PSp} {X:XK} {ta:TA} {pa:PAr} [ha:RHs K md ta pa]:RE K (A7c (spOf K md psp) [] X ta) (A7t psp pa) where
  ok:=by
    rintro c w env σ Qp Q rfl E p k;refine ha.ok c w env σ _ _ rfl E p fun vs xs e2 w2 E2 l2 d2 a2 q2=>?_;rw [List.append_nil];refine ⟨⟨w2.M,w2.H,hm w2⟩,xs.map .d,_,rfl,⟨fun a o h=>(A4g h).1,E2.wok.st,fun a ha=>?_⟩,a2 _ rfl,q2,fun v s w' ok l h r q=>?_⟩
    · show hm w2 a=none
      unfold hm; rw [if_pos ha]
    · obtain ⟨b,rfl,q⟩:=q
      have ev:v=.bl b:=Den.blE h;have fl:∀ a o,w2.F a=some o->w2.H a=some o/\¬ w2.M a:=fun a o e=>⟨E2.wok.sub a o e,fun z=>by rw [E2.wok.nf a z] at e; cases e⟩;have le:Le w2 ⟨w'.M,w'.H,w2.F⟩:=⟨⟨Same.refl _,l.h,l.m,l.mn,l.dom⟩,fun a o e=>.inl e⟩;have ok':Wd.Ok ⟨w'.M,w'.H,w2.F⟩:=⟨fun a o e=>l.h a o (fl a o e).1 (fl a o e).2,ok.st,fun a ha=>by
        cases e:w2.F a with
        | none=>rfl
        | some o =>
          obtain ⟨f1,f2⟩:=fl a o e;rcases l.mn a ha with z | z
          · exact absurd z f2
          · have z':w2.H a=none:=z
            rw [f1] at z'; cases z'⟩
      exact k v (.d (.bool b)) e2 ⟨w'.M,w'.H,w2.F⟩ ⟨E2.mono ok' le,l2.trans le.toLw,by rw [ev]; exact .bl b,fun _ z=>(nomatch z),rfl⟩ q
def kids:List OT->OT
  | []=>.nil
  | t :: r=>.cons t (kids r)
theorem D8 {t:OT}:∀ {ts:List OT},(kids (ts++[t])).fp=(kids ts).fp++t.fp
  | []=>by show t.fp++[]=[]++t.fp; simp
  | s :: r=>by show s.fp++(kids (r++[t])).fp=(s.fp++(kids r).fp)++t.fp; rw [D8]; simp
theorem Tre.snoc {K:Frag} {w:Wd} {t:OT} {v:V} (h:Tre K w t [v]):∀ {ts:List OT} {vs:List V},Tre K w (kids ts) vs->Tre K w (kids (ts++[t])) (vs++[v])
  | [],_,e=>by cases (show _=[] from e); exact ⟨v,[],rfl,h,rfl⟩
  | _ :: _,_,⟨x,r,rfl,hx,hr⟩=>⟨x,r++[v],rfl,hx,Tre.snoc h hr⟩
def A1c (xs:List PyData) (pg:PyData->PEnv->(PEnv->Prop)->Prop) (pt:PTt) (pe:PX) (e0:PEnv) (Fin:List OT->Prop):Prop :=
  ∃ Pv:Nat->PEnv->List OT->Prop,Pv 0 e0 []/\(∀ i x e ys,xs[i]?=some x->Pv i e ys->pg x e fun e2=>pt e2 fun b e3=>if b=true then pe e3 fun s e4=>s.ot fun t=>Pv (i + 1) e4 (ys++[t]) else Pv (i + 1) e3 ys)/\∀ e ys,Pv xs.length e ys->Fin ys
theorem A6y {K:Frag} {g:TG} {tt:TT} {te:TE} {pg:PyData->PEnv->(PEnv->Prop)->Prop} {pt:PTt} {pe:PX} [hg:RG K g pg] [ht:RT K tt pt] [he:RE K te pe] {c:Ct} {w:Wd} {env:PEnv} {σ:St} {J:It} {xs:List PyData} {cap:List (Option Nat)} {D:Addr} {Fp:List OT->Prop} {Fin:Hpp->Prop}
    (hK:c.K=K) (E:EnvOk c w env σ) (wk:Walk ⟨c.K,w,c.Z⟩ w J xs) (hn:xs.length < 1000000) (p:A1c xs pg pt pe (F3 cap env) Fp) (hD:w.H D=none) (k:∀ w' ts,Res c w env σ w' (.ref D) (.tr (.nd true D (kids ts)))->Fp ts->Fin w'.H):X8 J g tt te D Fin (capσ cap σ) w.H:=by
  subst hK;obtain ⟨Pv,p0,step,fin⟩:=p;refine ⟨fun i m σ' H' vs=>m=xs.length - i/\i<=xs.length/\∃ e w' ts,w'.H=H'/\EnvOk ⟨c.K,w,fun a=>a=D\/a ∈ (kids ts).fp⟩ w' e σ'/\w'.H D=some (.lst vs)/\vs.length<=i/\Tre c.K w' (kids ts) vs/\(∀ a ∈ (kids ts).fp,w.H a=none/\a≠D)/\(kids ts).fp.Nodup/\Pv i e ts,
    ⟨xs.length,rfl,Nat.zero_le _,F3 cap env,w.lay D (.lst []),[],rfl,?_,B8,Zv _,rfl,(fun a z=>nomatch z),List.nodup_nil,p0⟩,?_⟩
  · have E0:=E.cap cap hD
    exact ⟨E0.wok,E0.le0,E0.len,fun i s q=>let ⟨v,h1,h2⟩:=E0.at' i s q; ⟨v,h1,h2.reZ⟩,E0.own,fun a z=>z.elim (E0.zf a) fun z=>(nomatch z),fun a j t u z=>z.elim (E0.zo a j t u) fun z=>(nomatch z)⟩
  rintro i m σ1 _ vs ⟨rfl,hle,e1,w1,ts,rfl,E1,h1,hvl,d1,fr,nd,q1⟩;refine ⟨h1,P4 (by omega),?_⟩;obtain ⟨go,stop,yld⟩:=wk w1 E1.wok E1.le0 E1.le0.f;by_cases hlt:i < xs.length
  · refine .inr ⟨go i hlt,fun v H' y=>?_⟩
    obtain ⟨w1',x,rfl,ok1',le1,hx,dx⟩:=yld i v H' y hlt;have nm1:∀ a ∈ (kids ts).fp,¬ w1.M a:=fun a ha=>(E1.zf a (.inr ha)).2.2;replace h1:=le1.h _ _ h1 (E1.zf D (.inl rfl)).2.2;replace E1:=E1.mono ok1' le1;replace d1:=d1.mono le1.toLw nm1;clear yld go stop y le1 ok1' nm1;generalize w1'=w1 at E1 h1 d1 dx;have cc:Ct:=⟨c.K,w,fun a=>a=D\/a ∈ (kids ts).fp⟩;refine hg.ok ⟨c.K,w,fun a=>a=D\/a ∈ (kids ts).fp⟩ w1 e1 σ1 v x _ _ rfl E1 dx (step i x e1 ts hx q1) fun e2 σ2 E2 q2=>?_;refine ht.ok ⟨c.K,w,fun a=>a=D\/a ∈ (kids ts).fp⟩ w1 e2 σ2 _ _ rfl E2 q2 fun b e3 w3 E3 l3 q3=>?_;have nmD:∀ a,a=D\/a ∈ (kids ts).fp->¬ w1.M a:=fun a z=>(E2.zf a z).2.2;have h3:=l3.h _ _ h1 (nmD D (.inl rfl));have d3:=d1.mono l3 fun a ha=>nmD a (.inr ha);cases b with
    | true =>
      refine he.ok ⟨c.K,w,fun a=>a=D\/a ∈ (kids ts).fp⟩ w3 e3 σ2 _ _ rfl E3 q3 fun y' s e4 w4 R q4=>?_;have nm3:∀ a,a=D\/a ∈ (kids ts).fp->¬ w3.M a:=fun a z=>(E3.zf a z).2.2;have h4:=R.lw.h _ _ h3 (nm3 D (.inl rfl));have d4:=d3.mono R.lw fun a ha=>nm3 a (.inr ha);obtain ⟨t,tt',ho,hn',q5⟩:=R.ot q4;have E4:=R.ev;have nD:D ∉ (kids ts).fp:=fun z=>(fr D z).2 rfl;have ntD:D ∉ t.fp:=fun z=>(hn' D z).2 (.inl rfl);refine ⟨vs,h4,P4 (by omega),xs.length - (i + 1),by omega,rfl,hlt,e4,⟨w4.M,upd w4.H D (.lst (vs++[y'])),w4.F⟩,ts++[t],rfl,?_,B8,by rw [Ze]; simp; exact hvl,?_,fun a ha=>?_,?_,q5⟩
      · have E5:=E4.writeZ (us:=vs++[y']) (.inl rfl) hD
        refine ⟨E5.wok,E5.le0,E5.len,fun i s q=>let ⟨v,h1,h2⟩:=E5.at' i s q; ⟨v,h1,h2.reZ⟩,E5.own,fun a z=>?_,fun a j s u z q q'=>?_⟩
        · rcases z with z | z
          · exact E5.zf a (.inl z)
          · rw [D8,List.mem_append] at z
            rcases z with z | z
            · exact E5.zf a (.inr z)
            · obtain ⟨o1,o2,o3,_⟩:=ho.1 a z
              exact ⟨o2,fun y=>o1 (G7 y),o3⟩
        · rcases z with z | z
          · exact E5.zo a j s u (.inl z) q q'
          · rw [D8,List.mem_append] at z
            rcases z with z | z
            · exact E5.zo a j s u (.inr z) q q'
            · exact (hn' a z).1 j s u q q'
      · exact Tre.snoc (tt'.writ ntD) (d4.writ nD)
      · rw [D8,List.mem_append] at ha
        rcases ha with z | z
        · exact fr a z
        · exact ⟨(ho.1 a z).2.2.2,fun y=>ntD (y ▸ z)⟩
      · rw [D8]
        exact List.nodup_append.mpr ⟨nd,ho.2,fun a ha b hb e=>(hn' b hb).2 (.inr (e ▸ ha))⟩
    | false =>
      exact ⟨xs.length - (i + 1),by omega,rfl,hlt,e3,w3,ts,rfl,E3,h3,by omega,d3,fr,nd,q3⟩
  · have e:i=xs.length:=by omega
    subst e;obtain ⟨z1,z2,z3⟩:=E1.zf D (.inl rfl);have one:∀ a,a ∈ (OT.nd true D (kids ts)).fp->(a=D\/a ∈ (kids ts).fp)/\w.H a=none:=fun a ha=>by
      rcases List.mem_cons.mp (show a ∈ D :: (kids ts).fp from ha) with rfl | z
      · exact ⟨.inl rfl,hD⟩
      · exact ⟨.inr z,(fr a z).1⟩
    refine .inl ⟨stop,k w1 ts ⟨E.mono E1.wok E1.le0,E1.le0.toLw,⟨⟨rfl,vs,h1,d1⟩,fun a ha=>?_,List.nodup_cons.mpr ⟨fun z=>(fr D z).2 rfl,nd⟩⟩,fun a f=>E.fresh (one a f).2,rfl⟩ (fin e1 ts q1)⟩;obtain ⟨g1,g2⟩:=one a ha;obtain ⟨y1,y2,y3⟩:=E1.zf a g1;exact ⟨y2,y1,y3,E.le0.dom a g2⟩
def tCmT (t:TE):TE:=t
def pCmT (pi:PAr) (pg:PyData->PEnv->(PEnv->Prop)->Prop) (pt:PTt) (pe:PX) (cap:List (Option Nat)) (env:PEnv) (Q:SV->PEnv->Prop):Prop:=pi env fun xs e=>xs.length < 1000000/\A1c xs pg pt pe (F3 cap e) fun ts=>∀ a,Q (.tr (.nd true a (kids ts))) e
instance re_cmT {K:Frag} {wi:TI} {g:TG} {tt:TT} {te:TE} {cap:List (Option Nat)} {pi:PAr} {pg:PyData->PEnv->(PEnv->Prop)->Prop} {pt:PTt} {pe:PX} [hi:RI K wi pi] [hg:RG K g pg] [ht:RT K tt pt] [he:RE K te pe]:RE K (tCmT (A5c wi g tt te cap)) (pCmT pi pg pt pe cap) where
  ok:=by
    rintro c w env σ Qp Q rfl E p k;refine hi.ok c w env σ _ _ rfl E p fun J xs e1 w1 E1 l1 wk ⟨hn,q⟩ D hD=>?_;exact A6y (pg:=pg) (pt:=pt) (pe:=pe) rfl E1 (wk.up E1.le0) hn q hD fun w' ts R q'=>k _ _ e1 w' (R.pre l1) (q' D)
def OT.tup (a:Addr) (k:OT):SV:=match k.lvs with
  | some xs=>.d (.tuple xs)
  | none=>.tr (.nd false a k)
def B8p (pe:PX) (env:PEnv) (Q:SV->PEnv->Prop):Prop:=pe env fun s e=>∃ a k,s=.tr (.nd true a k)/\∀ p,Q (OT.tup p k) e
end Pu
namespace L2
open PySem PySem.Spec PyProof.Rows
section
variable {X:Cx} {e:Expr}
theorem qPo {t:TE} (h:QE X e t):QE X e (Pu.tPo t):=h
theorem qCmT {t:TE} (h:QE X e t):QE X e (Pu.tCmT t):=h
theorem A7i {sp:Sp} {dvs:List V} {E:XK} {t:TA} (h:QE X e (A1z sp dvs E t)):QE X e (Pu.A7c sp dvs E t):=h
end
end L2
namespace Pu
open PySem L2 My Prf
def alAt (o:Option (Option SV)) (n:Nat) (k:Addr->List PyData->(OT->OT)->Prop):Prop:=asTr o fun T=>∃ b p ks a xs,T=.nd b p ks/\ks.kid n=some (.nd true a (A7 xs))/\k a xs fun x=>.nd b p (ks.setK n x)
def B5q (i n j:Nat) (D:PEnds) (env:PEnv):Prop:=alAt env[i]? n fun a _ _=>D.nx (env.set j (some (.al a)))
def isAl (o:Option (Option SV)) (k:Addr->Prop):Prop:=match o with
  | some (some (.al a))=>k a
  | _=>False
theorem B7r {a:Addr} {k:Addr->Prop}:isAl (some (some (.al a))) k=k a:=rfl
def pArV (i n j:Nat) (env:PEnv) (Q:PyData->PEnv->Prop):Prop:=isAl env[j]? fun a=>alAt env[i]? n fun a' xs _=>a'=a/\Q (.list xs) env
def B4m (pd:PDt) (i n j:Nat) (pi:PDt) (D:PEnds) (env:PEnv):Prop:=pd env fun x e=>isAl e[j]? fun _=>pi e fun y e2=>asI y fun m=>isAl e2[j]? fun a=>alAt e2[i]? n fun a' xs r=>a'=a/\∃ l,ixN xs.length m=some l/\D.nx (e2.set i (some (.tr (r (.nd true a (A7 (xs.set l x)))))))
noncomputable def frzF (H F:Hpp) (t:OT):Hpp:=fun a=>open Classical in if a ∈ t.fp then H a else F a
theorem Tre.frz {K:Frag} {w:Wd} {F':Hpp} (s:Same w.F F'):∀ {t:OT} {vs:List V},Tre K w t vs->(∀ a ∈ t.fp,F' a=w.H a)->DenAll K F' vs t.dat
  | .leaf _,_,⟨_,e,h⟩,_=>by rw [e]; exact .cons (Den.same s h) .nil
  | .nd true a _,_,⟨e,_,h,k⟩,n=>by rw [e]; exact .cons (.lst (SqL.of ((n a (by simp [OT.fp])).trans h)) (Tre.frz s k fun q hq=>n q (by simp [OT.fp,hq]))) .nil
  | .nd false a _,_,⟨e,_,h,k⟩,n=>by rw [e]; exact .cons (.tup (SqD.of ((n a (by simp [OT.fp])).trans h)) (Tre.frz s k fun q hq=>n q (by simp [OT.fp,hq]))) .nil
  | .nil,_,e,_=>by rw [show _=[] from e]; exact .nil
  | .cons _ _,_,⟨v,r,e,h,t⟩,n=>by
    rw [e];exact (Tre.frz s h fun q hq=>n q (by simp [OT.fp,hq])).app (vs:=[v]) (us:=r) (Tre.frz s t fun q hq=>n q (by simp [OT.fp,hq]))
theorem EnvOk.frzT {c:Ct} {w:Wd} {env:PEnv} {σ:St} {i:Nat} {T:OT} {x:PyData} (E:EnvOk c w env σ) (h:env[i]?=some (some (.tr T))) (ex:T.dat=[x]) :
    ∃ w' v,w'.H=w.H/\σ[i]?=some (some v)/\EnvOk c w' (env.set i (some (.d x))) σ/\Lw w w'/\Den c.K w'.F v x:=by
  obtain ⟨v,hv,hV⟩:=E.at' i _ h;have sm:Same w.F (frzF w.H w.F T):=fun a o q=>by
    unfold frzF;split
    · rename_i z; rw [(hV.2.1 a z).2.1] at q; cases q
    · exact q
  have hin:∀ a ∈ T.fp,frzF w.H w.F T a=w.H a:=fun a ha=>if_pos ha;have hout:∀ a,a ∉ T.fp->frzF w.H w.F T a=w.F a:=fun a ha=>if_neg ha;have lw:Lw w ⟨w.M,w.H,frzF w.H w.F T⟩:=⟨sm,fun _ _ h _=>h,fun _ h=>h,fun _ h=>.inl h,fun _ h=>h⟩;have dn:=hV.1.frz sm hin;rw [ex] at dn;have dx:Den c.K (frzF w.H w.F T) v x:=by cases dn with | cons a _=>exact a
  have up:∀ {j:Nat} {t:SV},(env.set i (some (.d x)))[j]?=some (some t)->(j=i/\t=.d x)\/(i≠j/\env[j]?=some (some t)):=by
    intro j t q;rw [List.getElem?_set] at q;split at q
    · rename_i e
      split at q
      · cases q; exact .inl ⟨e.symm,rfl⟩
      · cases q
    · rename_i z; exact .inr ⟨z,q⟩
  have apart:∀ {j:Nat} {t:SV} {u:V} {a:Addr},i≠j->env[j]?=some (some t)->σ[j]?=some (some u)->t.foot u a->a ∉ T.fp:=fun ne q g f z=>ne (E.own i _ _ _ _ _ _ h q hv g z f);refine ⟨⟨w.M,w.H,frzF w.H w.F T⟩,v,rfl,hv,⟨⟨fun a o q=>?_,E.wok.st,fun p hp=>?_⟩,⟨E.le0.toLw.trans lw,fun a o q=>?_⟩,by simpa using E.len,fun j s q=>?_,fun j k s t v1 u1 a q1 q2 q3 q4 f1 f2=>?_,fun a za=>?_,fun a j t u za q q' f=>?_⟩,lw,dx⟩
  · by_cases z:a ∈ T.fp
    · rw [show (⟨w.M,w.H,frzF w.H w.F T⟩:Wd).F a=w.H a from hin a z] at q; exact q
    · rw [show (⟨w.M,w.H,frzF w.H w.F T⟩:Wd).F a=w.F a from hout a z] at q; exact E.wok.sub a o q
  · show frzF w.H w.F T p=none
    rw [hout p fun z=>(hV.2.1 p z).2.2.1 hp]; exact E.wok.nf p hp
  · by_cases z:a ∈ T.fp
    · exact .inr (hV.2.1 a z).2.2.2
    · rw [show (⟨w.M,w.H,frzF w.H w.F T⟩:Wd).F a=w.F a from hout a z] at q; exact E.le0.n a o q
  · rcases up q with ⟨rfl,rfl⟩ | ⟨ne,q⟩
    · exact ⟨v,hv,dx⟩
    · obtain ⟨u,g1,g2⟩:=E.at' j s q
      refine ⟨u,g1,?_⟩;cases s with
      | d x=>exact Den.same sm g2
      | own ys =>
        obtain ⟨l',us,rfl,k1,k2,k3,k4,k5⟩:=g2;refine ⟨l',us,rfl,k1,?_,k3,k4,DenAll.same sm k5⟩;show frzF w.H w.F T l'=none;rw [hout l' (apart ne q g1 rfl)]; exact k2
      | bor ys =>
        rcases g2 with g | ⟨l',us,e',k1,k2,k3⟩
        · exact .inl (Den.same sm g)
        · exact .inr ⟨l',us,e',k1,k2,DenAll.same sm k3⟩
      | st=>exact g2
      | bt t=>exact ⟨g2.1.sameF sm,g2.2⟩
      | al a=>exact g2
      | dk ks =>
        obtain ⟨l',rfl,k1,k2,k3,k4⟩:=g2;refine ⟨l',rfl,k1,?_,k3,k4⟩;show frzF w.H w.F T l'=none;rw [hout l' (apart ne q g1 rfl)]; exact k2
      | tr t =>
        obtain ⟨k1,k2,k3⟩:=g2;refine ⟨k1.mono lw fun p hp=>(k2 p hp).2.2.1,fun p hp=>⟨(k2 p hp).1,?_,(k2 p hp).2.2⟩,k3⟩;show frzF w.H w.F T p=none;rw [hout p (apart ne q g1 hp)]; exact (k2 p hp).2.1
  · rcases up q1 with ⟨rfl,rfl⟩ | ⟨_,p1⟩
    · exact f1.elim
    · rcases up q2 with ⟨rfl,rfl⟩ | ⟨_,p2⟩
      · exact f2.elim
      · exact E.own j k _ _ _ _ a p1 p2 q3 q4 f1 f2
  · obtain ⟨z1,z2,z3⟩:=E.zf a za
    refine ⟨?_,z2,z3⟩;show frzF w.H w.F T a=none;rw [hout a fun z=>E.zo a i _ _ za h hv z]; exact z1
  · rcases up q with ⟨rfl,rfl⟩ | ⟨_,p1⟩
    · exact f.elim
    · exact E.zo a j _ _ za p1 q' f
def tFz (i:Nat):TE:=tVar i
def pFz (i:Nat) (env:PEnv) (Q:SV->PEnv->Prop):Prop:=oFz env[i]? fun x=>Q (.d x) (env.set i (some (.d x)))
where oFz (o:Option (Option SV)) (k:PyData->Prop):Prop:=match o with
  | some (some (.tr T))=>∃ x,T.dat=[x]/\k x
  | some (some (.d x))=>k x
  | _=>False
theorem B9i {T:OT} {k:PyData->Prop}:pFz.oFz (some (some (.tr T))) k=∃ x,T.dat=[x]/\k x:=rfl
theorem B9j {x:PyData} {k:PyData->Prop}:pFz.oFz (some (some (.d x))) k=k x:=rfl
instance (priority:=high) re_fz {K:Frag} {i:Nat}:RE K (tFz i) (pFz i) where
  ok:=by
    rintro c w env σ Qp Q rfl E p k;unfold pFz pFz.oFz at p;split at p
    · rename_i T e
      obtain ⟨x,ex,q⟩:=p;obtain ⟨w',v,e',hv,E',l,dx⟩:=E.frzT e ex;refine ⟨v,hv,?_⟩;rw [<- e'];exact k v (.d x) _ w' ⟨E',l,dx,fun _ z=>(nomatch z),rfl⟩ q
    · rename_i x e
      obtain ⟨v,hv,h2⟩:=E.at' i _ e;refine ⟨v,hv,k v (.d x) _ w ⟨?_,Lw.refl w,h2,fun _ z=>(nomatch z),rfl⟩ p⟩;have hs:env.set i (some (.d x))=env:=by
        refine List.ext_getElem? fun j=>?_;rw [List.getElem?_set];split
        · rename_i z; subst z
          split
          · exact e.symm
          · rename_i hn; rw [List.getElem?_eq_none (by omega)] at e; cases e
        · rfl
      rw [hs]; exact E
    · exact p.elim
end Pu
namespace L2
open PySem PySem.Spec PyProof.Rows
section
variable {X:Cx} {e:Expr}
theorem qFz {i:Nat} (h:QE X e (tVar i)):QE X e (Pu.tFz i):=h
end
end L2
namespace L2
open PySem PySem.Spec PyProof.Rows
section
variable {X:Cx} {tg:Expr}
def B3e (i j k:Int):Nat:=if i < j then ((j - i - 1) / k + 1).toNat else 0
end
end L2
namespace Pu
open PySem L2 My Prf
def stpD (lo st:Int) (n:Nat):List PyData:=(List.range n).map fun k:Nat=>PyData.int (lo + (k:Nat) * st)
def B6i (xs:List PyData) (Q:List PyData->Prop):Prop:=match xs with
  | [.int i,.int j,.int k]=>((0<=i/\i<=1000)/\(0<=j/\j<=1000)/\0 < k/\k<=1000)/\Q (stpD i k (B3e i j k))
  | _=>False
theorem B0s {i j k:Int} {Q:List PyData->Prop}:B6i [.int i,.int j,.int k] Q=(((0<=i/\i<=1000)/\(0<=j/\j<=1000)/\0 < k/\k<=1000)/\Q (stpD i k (B3e i j k))):=rfl
def B8t (pa:PAr) (env:PEnv) (Q:List PyData->PEnv->Prop):Prop:=pa env fun xs e=>B6i xs fun ys=>Q ys e
def B8y (i j:Nat) (D:PEnds) (env:PEnv):Prop:=K9 env[j]? fun ys=>∃ y r,ys=y :: r/\D.nx ((env.set j (some (.own r))).set i (some (.d y)))
def A9o (i j a b:Nat) (D:PEnds) (env:PEnv):Prop:=a≠b/\K9 env[a]? fun xs=>K9 env[b]? fun ys=>∃ x r y t,xs=x :: r/\ys=y :: t/\D.nx ((((env.set a (some (.own r))).set b (some (.own t))).set i (some (.d x))).set j (some (.d y)))
def B8z (i j:Nat) (pa:PEnv->(OT->PEnv->Prop)->Prop) (D:PEnds) (env:PEnv):Prop:=pa env fun t e=>∃ a b xs ys,t=.cons (.nd true a (A7 xs)) (.cons (.nd true b (A7 ys)) .nil)/\i≠j/\D.nx ((e.set i (some (.own xs))).set j (some (.own ys)))
def OT.lks:OT->Bool
  | .nil=>true
  | .cons (.nd true _ _) t=>t.lks
  | _=>false
def A94 (i j:Nat) (D:PEnds) (env:PEnv):Prop:=asTr env[i]? fun t=>i≠j/\j < env.length/\∃ a ks,t=.nd true a ks/\ks.lks=true/\D.nx ((env.set i none).set j none)
def A3g (pe:PX) (pr:PAs) (env:PEnv) (Q:List SV->PEnv->Prop):Prop:=pe env fun s e1=>isSt (some (some s)) (pr e1 fun as e2=>Q (.st :: as) e2)
instance (priority:=low) ram_stE {K:Frag} {md:List Md} {te:TE} {tr:TA} {pe:PX} {pr:PAs} [he:RE K te pe] [hr:RAm K md tr pr]:RAm K (.st :: md) (E7 te tr) (A3g pe pr) where
  ok:=by
    rintro c w env σ Qp Q rfl E p k;refine he.ok c w env σ _ _ rfl E p fun v s e1 w1 R q1=>?_;unfold isSt at q1;split at q1
    · rename_i e
      cases e;refine hr.ok c w1 e1 σ _ _ rfl R.ev q1 fun vs xs e2 w2 E2 l2 v2 q2=>?_;obtain ⟨q,e',hm⟩:=R.val;exact k _ _ e2 w2 E2 (R.lw.trans l2) (.st ⟨q,e',l2.m _ hm⟩ v2) q2
    · exact q1.elim
def B4p (pa:PDt) (env:PEnv) (Q:SV->PEnv->Prop):Prop:=pa env fun d e=>A8p d/\Q (.d (.str d.shown)) e
end Pu
namespace L2
open PySem
end L2
namespace L2
open PySem PySem.Spec PyProof.Rows
section
variable {X:Cx} {pos:Pos}
end
end L2
namespace Pu
open PySem L2 My Prf
def pDN (kvs:List (Key × V)) (env:PEnv) (Q:SV->PEnv->Prop):Prop:=Q (.d (.dict (kvs.map B2t))) env
def B1g:List (PyData × PyData)->Str->Option PyData
  | [],_=>none
  | (.str x,z) :: r,s=>if x=s then some z else B1g r s
  | _ :: r,s=>B1g r s
def pDk (pa pb:PDt) (env:PEnv) (Q:SV->PEnv->Prop):Prop:=pa env fun x e=>pb e fun y e2=>∃ ds s t,x=.dict ds/\y=.str s/\B1g ds s=some (.str t)/\Q (.d (.str t)) e2
end Pu
namespace Pu
open PySem L2 My Prf
def B4i (pe:PX) (env:PEnv) (Q:SV->PEnv->Prop):Prop:=pe env fun s e=>∃ a k,s=.tr (.nd true a k)/\((∀ p,Q (OT.tup p k) e)\/∀ p,Q (.tr (.nd false p k)) e)
instance (priority:=20000) re_tupCm2 {K:Frag} {te:TE} {pe:PX} [he:RE K (tCmT te) pe]:RE K (tCB (A7f K) (E7 (tCmT te) tNil)) (B4i pe) where
  ok:=by
    rintro c w env σ Qp Q rfl E p k;refine he.ok c w env σ _ _ rfl E p fun v s e1 w1 R q=>?_;obtain ⟨a,ks,rfl,q⟩:=q;obtain ⟨⟨ev,us,h1,h2⟩,o,d⟩:=R.val;cases ev;refine ⟨a,us,rfl,SqL.of h1,fun p hp=>?_⟩;obtain ⟨d1,d2⟩:=List.nodup_cons.mp (show (a :: ks.fp).Nodup from d);have laid:∀ q:Qp (.tr (.nd false p ks)) e1,Q (.ref p) (w1.lay p (ho false us)).H:=fun q=>k _ _ e1 _ ((Res.laid (b:=false) R.ev hp h2 ⟨fun x hx=>o x (Zr _ hx),d2⟩ fun x hx=>R.new x (Zr _ hx)).pre R.lw) q;rcases q with q | q
    · have q:=q p
      unfold OT.tup at q;split at q
      · rename_i xs e
        rw [J2 e] at h2;exact k _ _ e1 _ ((Res.tup R.ev hp (F9 h2)).pre R.lw) q
      · exact laid q
    · exact laid (q p)
def OT.atoms:OT->Bool
  | .leaf x=>match x with
    | .list _=>false
    | .tuple _=>false
    | .dict _=>false
    | _=>true
  | .nd _ _ k=>k.atoms
  | .nil=>true
  | .cons h t=>h.atoms && t.atoms
def B5l (psp:PSp) (pa:PAr) (env:PEnv) (Q:SV->PEnv->Prop):Prop:=pa env fun xs e=>psp (xs.map .d) fun s=>∃ t,s=.tr t/\t.atoms=true/\Q (.tr t) e
end Pu
namespace L2
open PySem PySem.Spec PyProof.Rows
section
variable {X:Cx} {e:Expr}
end
end L2
namespace L2
open PySem PySem.Spec PyProof.Rows
section
variable {κ:Type} [DecidableEq κ]
theorem KV.length {kvs:List (κ × V)} {vs:List (κ × Value)} (r:KV kvs vs):kvs.length=vs.length:=Paired.length r
end
section
variable {P:Program} {w:World} {H:Hp} {h:Heap} {a:Addr}
theorem B8g {u:HO} (ok:HOk P w H h) (e:Rd H a u):ObjOk P w H h a u:=e.ok ok
end
section
variable {X:Cx} {pins:List (Addr × Obj)} {σ:St} {H:Hp} {s:Shared} {a:Addr} {y v:V} {u r:Value} {o:Option V} {A:Around} {E:Value->Shared->Prop}
end
section
variable {X:Cx} {pins:List (Addr × Obj)} {σ:St} {H:Hp} {s:Shared} {a:Addr} {kvs:List (Key × V)} {k:Key} {u:Value} {A:Around} {E:Value->Shared->Prop}
end
section
variable {X:Cx} {o i e value:Expr} {pos pos' tpos:Pos} {td ty tv:TE}
end
section
variable {X:Cx} {pos:Pos}
end
theorem u1 {n:Nat} (h:n + 64 < cLine):n + 1 < cLine:=by omega
def B3a (i j k:Nat) (ta:TA):TS:=fun D σ H=>ta σ H fun vs H1=>∃ v w z,vs=[v,w,z]/\D.nx (((σ.set i (some v)).set j (some w)).set k (some z)) H1
theorem A5g {X:Cx} {pos:Pos} {i j k:Nat} {x y z:Str} {a b c:Expr} {ta:TA} {px py pz pt:Pos} {kt k2 pt2} (hc:X.calm=true) (hN:X.N.Nodup) (hi:X.N[i]?=some x) (hj:X.N[j]?=some y) (hk:X.N[k]?=some z) (hij:i≠j) (hik:i≠k) (hjk:j≠k)
    (hx:X.env.scope.names.lookup x=some .local) (hy:X.env.scope.names.lookup y=some .local) (hz:X.env.scope.names.lookup z=some .local) (ha:QA X [a,b,c] ta)
    (hw:swappedStores [.Tuple [.Name x px,.Name y py,.Name z pz] kt pt] (.Tuple [a,b,c] k2 pt2) X.env=pure (some [x,y,z]))
    (hs:swapsWithSole [.Tuple [.Name x px,.Name y py,.Name z pz] kt pt] (.Tuple [a,b,c] k2 pt2) pos.line X.env=pure false) :
    QS X (.Assign [.Tuple [.Name x px,.Name y py,.Name z pz] kt pt] (.Tuple [a,b,c] k2 pt2) pos) (B3a i j k ta):=by
  refine ⟨fun pins s σ H D I h=>?_⟩;rw [exec_Assign_arm];apply wpAny_bind; apply wpAny_standAt;rw [hs];apply wpAny_bind; apply wpAny_pure;rw [if_neg Bool.false_ne_true];apply wpAny_bind;apply Tuple_;refine thn (ha.out _ pins s σ H _ I h) ?_;rintro us s1 ⟨vs,H1,I1,r1,v,w,t,rfl,q1⟩;cases r1 with | cons p1 r1=>cases r1 with | cons p2 r1=>cases r1 with | cons p3 r1 =>
  cases r1;rename_i u1 u2 u3;refine wpAny_newObj_type ?_ (by show 3<=sizeLine; decide);have I2:Inv X pins σ H1 { s1 with heap:=s1.heap.push ⟨.type "tuple",none,.seq [u1,u2,u3].toArray 0,#[]⟩ }:=I1.kept (t':=s1.toks) fun _ _ e=>Heap.get?_push_of_some _ e;rw [hw];apply wpAny_bind; apply wpAny_pure;show wpAny (model X.prog X.w) X.A (do rule "assign.swapped-stores"; let its <- unpackItems (.ref s1.heap.objs.size) 3 none; assignInOrder [fun v=>bindName X.env z v,fun v=>bindName X.env y v,fun v=>bindName X.env x v] its.reverse; pure Flow.next) _ _ _;apply wpAny_bind; apply wpAny_rule; apply wpAny_bind;refine unpackItems_tuple (items:=#[u1,u2,u3]) (I.ok.hd hc) (IsTup.new s1.heap _) fun h' hx'=>?_;have I3:=I2.kept (h':=h') (t':=s1.toks) fun b o e=>hx' b o (Nat.ne_of_lt (Heap.lt_size e)) e;show wpAny _ _ (assignInOrder [fun v=>bindName X.env z v,fun v=>bindName X.env y v,fun v=>bindName X.env x v] [u3,u2,u1] >>= fun _=>pure Flow.next) _ _ _;apply wpAny_bind;refine assignInOrder_cons (wpAny_bindName (J4 I3 hN hk (.inl hz) p3 (fun s2 I4=>?_) (.inr hz)));refine assignInOrder_cons (wpAny_bindName (J4 I4 hN hj (.inl hy) p2 (fun s3 I5=>?_) (.inr hy)));refine assignInOrder_cons (wpAny_bindName (J4 I5 hN hi (.inl hx) p1 (fun s4 I6=>assignInOrder_nil (wpAny_pure ?_)) (.inr hx)));have e:((σ.set k (some t)).set j (some w)).set i (some v)=((σ.set i (some v)).set j (some w)).set k (some t):=by
    rw [List.set_comm _ _ (Ne.symm hjk),List.set_comm _ _ (Ne.symm hik),List.set_comm _ _ (Ne.symm hij)]
  rw [e] at I6;exact ⟨_,H1,I6,q1⟩
section
variable {X:Cx} {o i e value:Expr} {pos pos':Pos} {td ty tv:TE}
end
end L2
namespace Pu
open PySem L2 My Prf
end Pu
open PySem L2 My
namespace Pu
end Pu
namespace Pu
open PySem L2 My Prf
inductive Fr:OT->OT->Prop
  | same (t:OT):Fr t t
  | all {t:OT} {x:PyData}:t.dat=[x]->Fr t (.leaf x)
  | nd {b:Bool} {a:Addr} {k k':OT}:Fr k k'->Fr (.nd b a k) (.nd b a k')
  | cons {h h' t t':OT}:Fr h h'->Fr t t'->Fr (.cons h t) (.cons h' t')
theorem Fr.sub {t t':OT} (f:Fr t t'):List.Sublist t'.fp t.fp:=by
  induction f with
  | same t=>exact List.Sublist.refl _
  | all _=>exact List.nil_sublist _
  | nd _ ih=>exact List.cons_sublist_cons.mpr ih
  | cons _ _ ih1 ih2=>exact List.Sublist.append ih1 ih2
theorem Fr.tre {K:Frag} {w:Wd} {F':Hpp} (s:Same w.F F') {T T':OT} (f:Fr T T'):∀ {vs:List V},Tre K w T vs->T.fp.Nodup->(∀ a ∈ T.fp,a ∉ T'.fp->F' a=w.H a)->Tre K ⟨w.M,w.H,F'⟩ T' vs:=by
  induction f with
  | same t=>intro vs h _ _; exact Tre.sameF s h
  | all ex =>
    intro vs h nd g;have dn:=h.frz s (fun a ha=>g a ha (by simp [OT.fp]));rw [ex] at dn;cases dn with
    | cons a r=>cases r; exact ⟨_,rfl,a⟩
  | nd f ih =>
    rintro vs ⟨e,us,h1,h2⟩ nd g;obtain ⟨n1,n2⟩:=List.nodup_cons.mp nd;refine ⟨e,us,h1,ih h2 n2 fun a ha hn=>g a (Zr _ ha) fun z=>?_⟩;rcases List.mem_cons.mp z with rfl | z
    · exact n1 ha
    · exact hn z
  | cons f1 f2 ih1 ih2 =>
    rintro vs ⟨v,r,e,h1,h2⟩ nd g;obtain ⟨n1,n2,d⟩:=List.nodup_append.mp nd;refine ⟨v,r,e,ih1 h1 n1 fun a ha hn=>g a (Zt _ ha) fun z=>?_,ih2 h2 n2 fun a ha hn=>g a (Zw _ ha) fun z=>?_⟩
    · rcases Za z with z | z
      · exact hn z
      · exact d a ha a (f2.sub.subset z) rfl
    · rcases Za z with z | z
      · exact d a (f1.sub.subset z) a ha rfl
      · exact hn z
noncomputable def frzS (w:Wd) (S:Addr->Prop):Hpp:=fun a=>open Classical in if S a then w.H a else w.F a
theorem EnvOk.frzS {c:Ct} {w:Wd} {env:PEnv} {σ:St} {S:Addr->Prop} (E:EnvOk c w env σ) (h1:∀ a,S a->w.F a=none/\¬ w.M a/\c.w0.H a=none) (h2:∀ a,S a->(∀ (j:Nat) t u,env[j]?=some (some t)->σ[j]?=some (some u)->¬ t.foot u a)/\¬ c.Z a) :
    EnvOk c ⟨w.M,w.H,Pu.frzS w S⟩ env σ/\Lw w ⟨w.M,w.H,Pu.frzS w S⟩:=by
  have hin:∀ a,S a->Pu.frzS w S a=w.H a:=fun a ha=>if_pos ha;have hout:∀ a,¬ S a->Pu.frzS w S a=w.F a:=fun a ha=>if_neg ha;have sm:Same w.F (Pu.frzS w S):=fun a o q=>by
    by_cases z:S a
    · rw [(h1 a z).1] at q; cases q
    · rw [hout a z]; exact q
  have lw:Lw w ⟨w.M,w.H,Pu.frzS w S⟩:=⟨sm,fun _ _ h _=>h,fun _ h=>h,fun _ h=>.inl h,fun _ h=>h⟩;refine ⟨⟨⟨fun a o q=>?_,E.wok.st,fun p hp=>?_⟩,⟨E.le0.toLw.trans lw,fun a o q=>?_⟩,E.len,fun j s q=>?_,E.own,fun a za=>?_,E.zo⟩,lw⟩
  · by_cases z:S a
    · rw [show (⟨w.M,w.H,Pu.frzS w S⟩:Wd).F a=w.H a from hin a z] at q; exact q
    · rw [show (⟨w.M,w.H,Pu.frzS w S⟩:Wd).F a=w.F a from hout a z] at q; exact E.wok.sub a o q
  · show Pu.frzS w S p=none
    rw [hout p fun z=>(h1 p z).2.1 hp]; exact E.wok.nf p hp
  · by_cases z:S a
    · exact .inr (h1 a z).2.2
    · rw [show (⟨w.M,w.H,Pu.frzS w S⟩:Wd).F a=w.F a from hout a z] at q; exact E.le0.n a o q
  · obtain ⟨u,g1,g2⟩:=E.at' j s q
    refine ⟨u,g1,?_⟩;have ap:∀ {a:Addr},s.foot u a->¬ S a:=fun f z=>(h2 _ z).1 j s u q g1 f;cases s with
    | d x=>exact Den.same sm g2
    | own ys =>
      obtain ⟨l',us,rfl,k1,k2,k3,k4,k5⟩:=g2;refine ⟨l',us,rfl,k1,?_,k3,k4,DenAll.same sm k5⟩;show Pu.frzS w S l'=none;rw [hout l' (ap rfl)]; exact k2
    | bor ys =>
      rcases g2 with g | ⟨l',us,e',k1,k2,k3⟩
      · exact .inl (Den.same sm g)
      · exact .inr ⟨l',us,e',k1,k2,DenAll.same sm k3⟩
    | st=>exact g2
    | bt t=>exact ⟨g2.1.sameF sm,g2.2⟩
    | al a=>exact g2
    | dk ks =>
      obtain ⟨l',rfl,k1,k2,k3,k4⟩:=g2;refine ⟨l',rfl,k1,?_,k3,k4⟩;show Pu.frzS w S l'=none;rw [hout l' (ap rfl)]; exact k2
    | tr t =>
      obtain ⟨k1,k2,k3⟩:=g2;refine ⟨k1.mono lw fun p hp=>(k2 p hp).2.2.1,fun p hp=>⟨(k2 p hp).1,?_,(k2 p hp).2.2⟩,k3⟩;show Pu.frzS w S p=none;rw [hout p (ap hp)]; exact (k2 p hp).2.1
  · obtain ⟨z1,z2,z3⟩:=E.zf a za
    refine ⟨?_,z2,z3⟩;show Pu.frzS w S a=none;rw [hout a fun z=>(h2 a z).2 za]; exact z1
theorem Res.frzT {c:Ct} {w w1:Wd} {env:PEnv} {σ:St} {v:V} {T T':OT} (R:Res c w env σ w1 v (.tr T)) (f:Fr T T'):∃ w2,w2.H=w1.H/\Res c w env σ w2 v (.tr T'):=by
  obtain ⟨E,lw,⟨ht,ho,nd⟩,new,_⟩:=R;obtain ⟨E2,l2⟩:=E.frzS (S:=fun a=>a ∈ T.fp/\a ∉ T'.fp) (fun a z=>(ho a z.1).2) (fun a z=>new a z.1);refine ⟨⟨w1.M,w1.H,Pu.frzS w1 fun a=>a ∈ T.fp/\a ∉ T'.fp⟩,rfl,E2,lw.trans l2,⟨f.tre l2.f ht nd fun a ha hn=>if_pos ⟨ha,hn⟩,fun a ha=>?_,nd.sublist f.sub⟩,fun a fa=>new a (f.sub.subset fa),rfl⟩;obtain ⟨o1,o2,o3,o4⟩:=ho a (f.sub.subset ha);refine ⟨o1,?_,o3,o4⟩;show Pu.frzS w1 (fun a=>a ∈ T.fp/\a ∉ T'.fp) a=none;unfold Pu.frzS; rw [if_neg fun z=>z.2 ha]; exact o2
theorem Res.frzD {c:Ct} {w w1:Wd} {env:PEnv} {σ:St} {v:V} {T:OT} {x:PyData} (R:Res c w env σ w1 v (.tr T)) (ex:T.dat=[x]):∃ w2,w2.H=w1.H/\Res c w env σ w2 v (.d x):=by
  obtain ⟨w2,e,E,lw,⟨⟨v',e',h⟩,_⟩,_,_⟩:=R.frzT (.all ex);cases e';exact ⟨w2,e,E,lw,h,(fun _ z=>nomatch z),rfl⟩
def tFp (te:TE):TE:=te
def frOf (s:SV) (k:SV->Prop):Prop:=match s with
  | .tr T=>(∃ x,T.dat=[x]/\k (.d x))\/∃ T',Fr T T'/\k (.tr T')
  | .d x=>k (.d x)
  | _=>False
theorem B7w {x:PyData} {k:SV->Prop}:frOf (.d x) k=k (.d x):=rfl
theorem U8 {T:OT} {x:PyData} {k:SV->Prop} (h:T.dat=[x]) (q:k (.d x)):frOf (.tr T) k:=.inl ⟨x,h,q⟩
theorem A4k {T T':OT} {k:SV->Prop} (h:Fr T T') (q:k (.tr T')):frOf (.tr T) k:=.inr ⟨T',h,q⟩
def pFp (pe:PX) (env:PEnv) (Q:SV->PEnv->Prop):Prop:=pe env fun s e=>frOf s fun s'=>Q s' e
instance (priority:=high) re_fp {K:Frag} {te:TE} {pe:PX} [h:RE K te pe]:RE K (tFp te) (pFp pe) where
  ok:=by
    rintro c w env σ Qp Q rfl E p k;refine h.ok c w env σ _ _ rfl E p fun v s e1 w1 R q=>?_;unfold frOf at q;split at q
    · rcases q with ⟨x,ex,q⟩ | ⟨T',f,q⟩
      · obtain ⟨w2,e,R2⟩:=R.frzD ex
        rw [<- e]; exact k v _ e1 w2 R2 q
      · obtain ⟨w2,e,R2⟩:=R.frzT f
        rw [<- e]; exact k v _ e1 w2 R2 q
    · exact k v _ e1 w1 R q
    · exact q.elim
theorem A1n:∀ {ts:List OT},(kids ts).len=ts.length
  | []=>rfl
  | _ :: r=>by show (kids r).len + 1=_; rw [A1n]; rfl
theorem EnvOk.grow {c:Ct} {w:Wd} {env:PEnv} {σ:St} {i:Nat} {T T':OT} {l:Addr} {wo:HO} (E:EnvOk c w env σ) (e:env[i]?=some (some (.tr T))) (hσ:σ[i]?=some (some (.ref l))) (hf:l ∈ T.fp) (hf':∀ a ∈ T'.fp,a ∈ T.fp\/((∀ (j:Nat) t u,env[j]?=some (some t)->σ[j]?=some (some u)->¬ t.foot u a)/\¬ c.Z a))
    (hd:VR c ⟨w.M,upd w.H l wo,w.F⟩ (.ref l) (.tr T')):EnvOk c ⟨w.M,upd w.H l wo,w.F⟩ (env.set i (some (.tr T'))) σ:=by
  have E2:EnvOk c ⟨w.M,upd w.H l wo,w.F⟩ (env.set i (some (.al l))) σ:=E.writeAt (s':=.al l) e hσ hf (fun _ z=>z.elim) rfl;have E3:=E2.set (i:=i) hd fun a fa=>?_
  · have hs:σ.set i (some (.ref l))=σ:=by
      refine List.ext_getElem? fun j=>?_;rw [List.getElem?_set];split
      · rename_i z; subst z
        split
        · exact hσ.symm
        · rename_i hn; rw [List.getElem?_eq_none (by omega)] at hσ; cases hσ
      · rfl
    rw [List.set_set,hs] at E3;exact E3
  · rcases hf' a fa with z | z
    · refine ⟨fun j t u q qu f=>?_,fun za=>E.zo a i _ _ za e hσ z⟩
      rw [List.getElem?_set] at q;split at q
      · split at q
        · cases q; exact f.elim
        · cases q
      · rename_i ne
        exact ne (E.own i j _ _ _ _ a e q hσ qu z f)
    · refine ⟨fun j t u q qu f=>?_,z.2⟩
      rw [List.getElem?_set] at q;split at q
      · split at q
        · cases q; exact f.elim
        · cases q
      · exact z.1 j t u q qu f
def tTv (i:Nat):TE:=tVar i
def isKs (o:Option (Option SV)) (k:Addr->List OT->Prop):Prop:=asTr o fun T=>∃ a ks,T=.nd true a (kids ks)/\k a ks
theorem A7y {a:Addr} {ks:List OT} {k:Addr->List OT->Prop} (h:k a ks):isKs (some (some (.tr (.nd true a (kids ks))))) k:=⟨a,ks,rfl,h⟩
def B0d (i:Nat) (pe:PX) (D:PEnds) (env:PEnv):Prop:=isKs env[i]? fun _ _=>pe env fun s e=>s.ot fun t=>isKs e[i]? fun a ks=>ks.length < 1000000/\D.nx (e.set i (some (.tr (.nd true a (kids (ks++[t]))))))
instance (priority:=high) rs_appT {K:Frag} {i:Nat} {te:TE} {pe:PX} [he:RE K te pe]:RS K (Z6 (tBM K "list" U1 (tTv i) (E7 te tNil))) (B0d i pe) where
  ok:=by
    rintro c w env σ Dp D rfl E h p;unfold B0d isKs asTr at p;split at p
    · rename_i T0 e0
      obtain ⟨a0,k0,rfl,p⟩:=p;obtain ⟨v,g0,⟨ev,us0,h1,h2⟩,o0,n0⟩:=E.at' i _ e0;cases ev;refine ⟨_,g0,.inl ⟨rfl,_,SqL.of h1⟩,?_⟩;refine he.ok c w env σ _ _ rfl E p fun y s e1 w1 R q1=>?_;obtain ⟨t,ht,ho,hn,q1⟩:=R.ot q1;split at q1
      · rename_i T e
        obtain ⟨a,ks,rfl,hl,q⟩:=q1;obtain ⟨v',g0',VT⟩:=R.ev.at' i _ e;obtain ⟨⟨ev',us,k1,k2⟩,o,nd⟩:=id VT;rw [g0] at g0'; cases g0';have ea:a0=a:=by cases ev'; rfl
        subst ea;have haT:a0 ∈ (OT.nd true a0 (kids ks)).fp:=Zy;obtain ⟨n1,n2⟩:=List.nodup_cons.mp (show (a0 :: (kids ks).fp).Nodup from nd);have hat:a0 ∉ t.fp:=fun z=>(hn a0 z).1 i _ _ e g0 haT;have fpe:(OT.nd true a0 (kids (ks++[t]))).fp=a0 :: ((kids ks).fp++t.fp):=by show a0 :: (kids (ks++[t])).fp=_; rw [D8]
        refine ⟨a0,us,y,rfl,rfl,k1,by rw [k2.len,A1n]; exact P4 hl,?_⟩;refine h.nx _ σ ⟨w1.M,upd w1.H a0 (.lst (us++[y])),w1.F⟩ (R.ev.grow (T':=.nd true a0 (kids (ks++[t]))) e g0 haT (fun b hb=>?_) ⟨⟨rfl,_,B8,Tre.snoc (ht.writ hat) (k2.writ n1)⟩,fun b hb=>?_,?_⟩) R.lw.f q
        · rw [fpe] at hb
          rcases List.mem_cons.mp hb with rfl | hb
          · exact .inl haT
          · rcases Za hb with hb | hb
            · exact .inl (Zr _ hb)
            · exact .inr (hn b hb)
        · have:w1.H b≠none/\w1.F b=none/\¬ w1.M b/\c.w0.H b=none:=by
            rw [fpe] at hb;rcases List.mem_cons.mp hb with rfl | hb
            · exact o _ haT
            · rcases Za hb with hb | hb
              · exact o b (Zr _ hb)
              · exact ho.1 b hb
          exact ⟨fun z=>this.1 (G7 z),this.2⟩
        · rw [fpe]
          refine List.nodup_cons.mpr ⟨fun z=>?_,List.nodup_append.mpr ⟨n2,ho.2,fun x hx z hz ex=>(hn z hz).1 i _ _ e g0 (ex ▸ Zr _ hx)⟩⟩;rcases Za z with z | z
          · exact n1 z
          · exact hat z
      · exact q1.elim
    · exact p.elim
theorem Z7 {v:V} {a:Addr}:∀ {t:OT},¬ t.sv.foot v a:=fun {t} f=>by
  cases t with
  | leaf x=>cases x <;> exact f
  | nd b p k =>
    cases b with
    | false=>exact f
    | true =>
      have f':(match k.lvs with | some xs=>SV.bor xs | none=>.bt (.nd true p k)).foot v a:=f;cases q:k.lvs <;> (rw [q] at f'; exact f')
  | nil=>exact f
  | cons h t=>exact f
def A7n (i j k:Nat) (pa pb pc:PEnv->(OT->PEnv->Prop)->Prop) (D:PEnds) (env:PEnv):Prop:=pa env fun t e=>pb e fun u e2=>pc e2 fun z e3=>D.nx (((e3.set i (some t.sv)).set j (some u.sv)).set k (some z.sv))
instance (priority:=high) rs_par3B {K:Frag} {ta tb tc:TE} {pa pb pc:PEnv->(OT->PEnv->Prop)->Prop} {i j k:Nat} [ha:RTb K (tPth ta) pa] [hb:RTb K (tPth tb) pb] [hc:RTb K (tPth tc) pc]:RS K (B3a i j k (E7 (tPth ta) (E7 (tPth tb) (E7 (tPth tc) tNil)))) (A7n i j k pa pb pc) where
  ok:=by
    rintro c w env σ Dp D rfl E h p;refine ha.ok c w env σ _ _ rfl E p fun v1 t1 e1 w1 E1 l1 h1 q1=>?_;refine hb.ok c w1 e1 σ _ _ rfl E1 q1 fun v2 t2 e2 w2 E2 l2 h2 q2=>?_;refine hc.ok c w2 e2 σ _ _ rfl E2 q2 fun v3 t3 e3 w3 E3 l3 h3 q3=>?_;exact ⟨v1,v2,v3,rfl,h.nx _ _ w3 (((E3.set (A0o (l2.f.trans l3.f) h1).sv (fun _ z=>(Z7 z).elim)).set (A0o l3.f h2).sv (fun _ z=>(Z7 z).elim)).set h3.sv (fun _ z=>(Z7 z).elim)) (l1.f.trans (l2.f.trans l3.f)) q3⟩
end Pu
namespace L2
open PySem PySem.Spec PyProof.Rows
section
variable {X:Cx} {e:Expr}
theorem qFp {t:TE} (h:QE X e t):QE X e (Pu.tFp t):=h
theorem qTv {i:Nat} (h:QE X e (tVar i)):QE X e (Pu.tTv i):=h
end
end L2
set_option synthInstance.maxHeartbeats 0
set_option synthInstance.maxSize 100000
set_option maxHeartbeats 4000000
namespace Prf
open PySem L2 My Pu
local macro_rules | `(tactic| trivial) => `(tactic| try simp only [pSeq, B4v, B5n, B9a, A7o, B5d, pRet, A9m, B0z, B0y, B0x, B0w, B8v, pIf, pAsg, B5o, B4r, B6m, pApp, B21, B5h, B8x, A9h, B9z, pYes, pNot, pAnd, pOr, B4s, B5s, pOrV, pIfE, pOp, pI_i, B85, pEqD, pNeD, pIsN, B80, A4a, A6m, A4c, A6l, A4b, A6k, B4z, B4y, pU_i, pUn, pNil, F5, pTup, pLst, pCB, A9v, A3d, A5t, B5u, B4x, B4w, B49, B5a, A5s, A5r, B48, B6n, A8c, A5a, A8b, A47, A48, A8a, A8d, B4f, B6c, B6b, B6a, A9d, B0m, B0l, B0n, pC, pdat, B9y, B9x, B0b, B4u, A7r, A7p, A3h, B9s, B7q, B3w, B3v, A8v, A03, A5j, A7m, B47, A5w, A54, A53, A55, A7a, A2f, A43, A44, A9l, B0v, A9k, B0u, pFor, A97, A12, F3, SV.lent, A3c, B4q, B9t, pSlL, pRev, A9j, B0t, B5j, B5t, B5r, A92, List.map_cons, List.map_nil, List.replicate_succ, List.replicate_zero, List.cons_append, List.nil_append, List.getElem?_cons_zero, List.getElem?_cons_succ, List.set_cons_zero, List.set_cons_succ, List.length_cons, List.length_nil, B5c, B5b, B87, B86, Option.bind_some, Option.bind_none, Option.map_some, Option.map_none, Option.join_some, A91, A90, B1k, A6a, A59, B2w, A6u, B2u, A6t, B62, B74, A0k, A74, A4n, A4m, B2f, B27, decide_eq_true_eq, Bool.not_eq_true', decide_eq_false_iff_not, ite_not, true_and, and_true, reduceIte, Nat.zero_le, Nat.reduceAdd, Nat.reduceLeDiff, Nat.reduceSub, Int.zero_add, A5v, A5u, List.length_map, A76, B5z, A8e, B2j, B2q, B1j, B2v, B64, B7e, B7h, B7d, B7g, B67, B7b, B7a, B65, B66, B68, Bool.true_eq_false, Bool.false_eq_true, reduceCtorEq, Bool.not_true, Bool.not_false, decide_true, decide_false, B4e, B59, A95, B08, pLsN, pLsC, B81, A9s, B04, B03, B05, A0h, B2x, B2r, A6n, eq_self, B8o, A2e, A42, A6s, B2p, A6h, A6e, A6g, A6d, A6f, A6c, B7c, B7f, B69, A9i, A7q, B4t, ot_d, ot_o, ot_t, A5x, A9f, B0q, B0p, B0r, B0o, pKid, A99, B8a, B4d, B9w, B9v, B9u, pTr, B4j, B6g, B6f, B6h, A7s, B4g, B6e, B6d, B0c, B09, M8, A8t, A6o, B46, A56, A3i, B02, B01, B00, B82, pIn, B14, B15, B12, B13, B2c, B2d, B2a, B2b, B1w, B1x, B1u, B1v, B1s, B1t, B1q, B1r, B10, B11, B1y, B1z, B1o, B1p, B1m, B1n, B18, B19, B16, B17, A49, B9r, B45, pS, B9c, B43, B40, B42, B44, B41, A9z, A9w, A9y, A9x, B83, B4l, B89, B5i, pRep, A9r, B5e, pIdx, B8w, B8r, B4h, pStr, B8q, B0a, B9d, B3x, A9p, pSlT, A9u, B07, B06, pPth, pVw, A79, pLf, B1h, pBr, pMuV, B9h, B4k, pA2, B9m, pC2, pMu, B5v, B5p, A96, B3n, B5f, A3b, pDa, A98, B0f, B8s, B6w, mIx, T2, B6o, pUnT, B8d, A2n, A8n, A7t, pCmT, B8p, B4i, B5l, B5q, alAt, B7r, pArV, B4m, pFz, B9i, B9j, B8t, B0s, B8y, A9o, B8z, A94, B4p, B0e, A3g, pDN, pDk, pFp, B7w, B0d, A7n])
set_option genInjectivity false
set_option genSizeOfSpec false
structure Adr where
  a_commonpart:Addr
  d_commonpart:FuncData
  a_plus:Addr
  d_plus:FuncData
  a_minus:Addr
  d_minus:FuncData
  a_product:Addr
  d_product:FuncData
  a_parted:Addr
  d_parted:FuncData
  a_isless:Addr
  d_isless:FuncData
  a_ratebetween:Addr
  d_ratebetween:FuncData
  a_isoffered:Addr
  d_isoffered:FuncData
  a_cornersabove:Addr
  d_cornersabove:FuncData
  a_priceoftime:Addr
  d_priceoftime:FuncData
  a_timed:Addr
  d_timed:FuncData
  a_Lbegun:Addr
  d_Lbegun:FuncData
  a_Ltake:Addr
  d_Ltake:FuncData
  a_Llow:Addr
  d_Llow:FuncData
  a_Lplus:Addr
  d_Lplus:FuncData
  a_Lminus:Addr
  d_Lminus:FuncData
  a_Ltimes:Addr
  d_Ltimes:FuncData
  a_Lunder:Addr
  d_Lunder:FuncData
  a_Lamount:Addr
  d_Lamount:FuncData
  a_Loffer:Addr
  d_Loffer:FuncData
  a_Lshape:Addr
  d_Lshape:FuncData
  a_Lprice:Addr
  d_Lprice:FuncData
  a_Lloose:Addr
  d_Lloose:FuncData
  a_Ltimesdrawn:Addr
  d_Ltimesdrawn:FuncData
  a_Lcopy:Addr
  d_Lcopy:FuncData
  a_Lgrouped:Addr
  d_Lgrouped:FuncData
  a_Lalike:Addr
  d_Lalike:FuncData
  a_law:Addr
  d_law:FuncData
structure TxB (K:PySem.W.Frag) (a_commonpart a_plus a_minus a_product a_parted a_isless a_ratebetween a_isoffered a_cornersabove a_priceoftime a_timed a_Lbegun a_Ltake a_Llow a_Lplus a_Lminus a_Ltimes a_Lunder a_Lamount a_Loffer a_Lshape a_Lprice a_Lloose a_Ltimesdrawn a_Lcopy a_Lgrouped a_Lalike:Addr) (d_commonpart d_plus d_minus d_product d_parted d_isless d_ratebetween d_isoffered d_cornersabove d_priceoftime d_timed d_Lbegun d_Ltake d_Llow d_Lplus d_Lminus d_Ltimes d_Lunder d_Lamount d_Loffer d_Lshape d_Lprice d_Lloose d_Ltimesdrawn d_Lcopy d_Lgrouped d_Lalike:FuncData):Prop where
  g_commonpart:PySem.W.nsIn K mainGlobals "common_part"=some (some (.ref a_commonpart))
  F_commonpart:Fun K "common_part" "common_part" s_commonpart a_commonpart d_commonpart
  g_plus:PySem.W.nsIn K mainGlobals "plus"=some (some (.ref a_plus))
  F_plus:Fun K "plus" "plus" s_plus a_plus d_plus
  g_minus:PySem.W.nsIn K mainGlobals "minus"=some (some (.ref a_minus))
  F_minus:Fun K "minus" "minus" s_minus a_minus d_minus
  g_product:PySem.W.nsIn K mainGlobals "product"=some (some (.ref a_product))
  F_product:Fun K "product" "product" s_product a_product d_product
  g_parted:PySem.W.nsIn K mainGlobals "parted"=some (some (.ref a_parted))
  F_parted:Fun K "parted" "parted" s_parted a_parted d_parted
  g_isless:PySem.W.nsIn K mainGlobals "is_less"=some (some (.ref a_isless))
  F_isless:Fun K "is_less" "is_less" s_isless a_isless d_isless
  g_ratebetween:PySem.W.nsIn K mainGlobals "rate_between"=some (some (.ref a_ratebetween))
  F_ratebetween:Fun K "rate_between" "rate_between" s_ratebetween a_ratebetween d_ratebetween
  g_isoffered:PySem.W.nsIn K mainGlobals "is_offered"=some (some (.ref a_isoffered))
  F_isoffered:Fun K "is_offered" "is_offered" s_isoffered a_isoffered d_isoffered
  g_cornersabove:PySem.W.nsIn K mainGlobals "corners_above"=some (some (.ref a_cornersabove))
  F_cornersabove:Fun K "corners_above" "corners_above" s_cornersabove a_cornersabove d_cornersabove
  g_priceoftime:PySem.W.nsIn K mainGlobals "price_of_time"=some (some (.ref a_priceoftime))
  F_priceoftime:Fun K "price_of_time" "price_of_time" s_priceoftime a_priceoftime d_priceoftime
  g_timed:PySem.W.nsIn K mainGlobals "timed"=some (some (.ref a_timed))
  F_timed:Fun K "timed" "timed" s_timed a_timed d_timed
  g_Lbegun:PySem.W.nsIn K mainGlobals "_law_begun"=some (some (.ref a_Lbegun))
  F_Lbegun:Fun K "_law_begun" "_law_begun" s_Lbegun a_Lbegun d_Lbegun
  g_Ltake:PySem.W.nsIn K mainGlobals "_law_take"=some (some (.ref a_Ltake))
  F_Ltake:Fun K "_law_take" "_law_take" s_Ltake a_Ltake d_Ltake
  g_Llow:PySem.W.nsIn K mainGlobals "_law_low"=some (some (.ref a_Llow))
  F_Llow:Fun K "_law_low" "_law_low" s_Llow a_Llow d_Llow
  g_Lplus:PySem.W.nsIn K mainGlobals "_law_plus"=some (some (.ref a_Lplus))
  F_Lplus:Fun K "_law_plus" "_law_plus" s_Lplus a_Lplus d_Lplus
  g_Lminus:PySem.W.nsIn K mainGlobals "_law_minus"=some (some (.ref a_Lminus))
  F_Lminus:Fun K "_law_minus" "_law_minus" s_Lminus a_Lminus d_Lminus
  g_Ltimes:PySem.W.nsIn K mainGlobals "_law_times"=some (some (.ref a_Ltimes))
  F_Ltimes:Fun K "_law_times" "_law_times" s_Ltimes a_Ltimes d_Ltimes
  g_Lunder:PySem.W.nsIn K mainGlobals "_law_under"=some (some (.ref a_Lunder))
  F_Lunder:Fun K "_law_under" "_law_under" s_Lunder a_Lunder d_Lunder
  g_Lamount:PySem.W.nsIn K mainGlobals "_law_amount"=some (some (.ref a_Lamount))
  F_Lamount:Fun K "_law_amount" "_law_amount" s_Lamount a_Lamount d_Lamount
  g_Loffer:PySem.W.nsIn K mainGlobals "_law_offer"=some (some (.ref a_Loffer))
  F_Loffer:Fun K "_law_offer" "_law_offer" s_Loffer a_Loffer d_Loffer
  g_Lshape:PySem.W.nsIn K mainGlobals "_law_shape"=some (some (.ref a_Lshape))
  F_Lshape:Fun K "_law_shape" "_law_shape" s_Lshape a_Lshape d_Lshape
  g_Lprice:PySem.W.nsIn K mainGlobals "_law_price"=some (some (.ref a_Lprice))
  F_Lprice:Fun K "_law_price" "_law_price" s_Lprice a_Lprice d_Lprice
  g_Lloose:PySem.W.nsIn K mainGlobals "_law_loose"=some (some (.ref a_Lloose))
  F_Lloose:Fun K "_law_loose" "_law_loose" s_Lloose a_Lloose d_Lloose
  g_Ltimesdrawn:PySem.W.nsIn K mainGlobals "_law_times_drawn"=some (some (.ref a_Ltimesdrawn))
  F_Ltimesdrawn:Fun K "_law_times_drawn" "_law_times_drawn" s_Ltimesdrawn a_Ltimesdrawn d_Ltimesdrawn
  g_Lcopy:PySem.W.nsIn K mainGlobals "_law_copy"=some (some (.ref a_Lcopy))
  F_Lcopy:Fun K "_law_copy" "_law_copy" s_Lcopy a_Lcopy d_Lcopy
  g_Lgrouped:PySem.W.nsIn K mainGlobals "_law_grouped"=some (some (.ref a_Lgrouped))
  F_Lgrouped:Fun K "_law_grouped" "_law_grouped" s_Lgrouped a_Lgrouped d_Lgrouped
  g_Lalike:PySem.W.nsIn K mainGlobals "_law_alike"=some (some (.ref a_Lalike))
  F_Lalike:Fun K "_law_alike" "_law_alike" s_Lalike a_Lalike d_Lalike
  z_abs:PySem.W.nsIn K mainGlobals "abs"=some none
  z_all:PySem.W.nsIn K mainGlobals "all"=some none
  z_int:PySem.W.nsIn K mainGlobals "int"=some none
  z_isinstance:PySem.W.nsIn K mainGlobals "isinstance"=some none
  z_len:PySem.W.nsIn K mainGlobals "len"=some none
  z_list:PySem.W.nsIn K mainGlobals "list"=some none
  z_max:PySem.W.nsIn K mainGlobals "max"=some none
  z_min:PySem.W.nsIn K mainGlobals "min"=some none
  z_range:PySem.W.nsIn K mainGlobals "range"=some none
  z_tuple:PySem.W.nsIn K mainGlobals "tuple"=some none
  z_zip:PySem.W.nsIn K mainGlobals "zip"=some none
structure Txt (K:PySem.W.Frag) (mg:Str->Option Value) (D:Adr):Prop where
  B:TxB K D.a_commonpart D.a_plus D.a_minus D.a_product D.a_parted D.a_isless D.a_ratebetween D.a_isoffered D.a_cornersabove D.a_priceoftime D.a_timed D.a_Lbegun D.a_Ltake D.a_Llow D.a_Lplus D.a_Lminus D.a_Ltimes D.a_Lunder D.a_Lamount D.a_Loffer D.a_Lshape D.a_Lprice D.a_Lloose D.a_Ltimesdrawn D.a_Lcopy D.a_Lgrouped D.a_Lalike D.d_commonpart D.d_plus D.d_minus D.d_product D.d_parted D.d_isless D.d_ratebetween D.d_isoffered D.d_cornersabove D.d_priceoftime D.d_timed D.d_Lbegun D.d_Ltake D.d_Llow D.d_Lplus D.d_Lminus D.d_Ltimes D.d_Lunder D.d_Lamount D.d_Loffer D.d_Lshape D.d_Lprice D.d_Lloose D.d_Ltimesdrawn D.d_Lcopy D.d_Lgrouped D.d_Lalike
  m_commonpart:mg "common_part"=some (.ref D.a_commonpart)
  m_plus:mg "plus"=some (.ref D.a_plus)
  m_minus:mg "minus"=some (.ref D.a_minus)
  m_product:mg "product"=some (.ref D.a_product)
  m_parted:mg "parted"=some (.ref D.a_parted)
  m_isless:mg "is_less"=some (.ref D.a_isless)
  m_ratebetween:mg "rate_between"=some (.ref D.a_ratebetween)
  m_isoffered:mg "is_offered"=some (.ref D.a_isoffered)
  m_cornersabove:mg "corners_above"=some (.ref D.a_cornersabove)
  m_priceoftime:mg "price_of_time"=some (.ref D.a_priceoftime)
  m_timed:mg "timed"=some (.ref D.a_timed)
  m_Lbegun:mg "_law_begun"=some (.ref D.a_Lbegun)
  m_Ltake:mg "_law_take"=some (.ref D.a_Ltake)
  m_Llow:mg "_law_low"=some (.ref D.a_Llow)
  m_Lplus:mg "_law_plus"=some (.ref D.a_Lplus)
  m_Lminus:mg "_law_minus"=some (.ref D.a_Lminus)
  m_Ltimes:mg "_law_times"=some (.ref D.a_Ltimes)
  m_Lunder:mg "_law_under"=some (.ref D.a_Lunder)
  m_Lamount:mg "_law_amount"=some (.ref D.a_Lamount)
  m_Loffer:mg "_law_offer"=some (.ref D.a_Loffer)
  m_Lshape:mg "_law_shape"=some (.ref D.a_Lshape)
  m_Lprice:mg "_law_price"=some (.ref D.a_Lprice)
  m_Lloose:mg "_law_loose"=some (.ref D.a_Lloose)
  m_Ltimesdrawn:mg "_law_times_drawn"=some (.ref D.a_Ltimesdrawn)
  m_Lcopy:mg "_law_copy"=some (.ref D.a_Lcopy)
  m_Lgrouped:mg "_law_grouped"=some (.ref D.a_Lgrouped)
  m_Lalike:mg "_law_alike"=some (.ref D.a_Lalike)
  F_law:Fun K "law" "law" s_law D.a_law D.d_law
  m_law:mg "law"=some (.ref D.a_law)
  z_abs:mg "abs"=none
  z_all:mg "all"=none
  z_int:mg "int"=none
  z_isinstance:mg "isinstance"=none
  z_len:mg "len"=none
  z_list:mg "list"=none
  z_max:mg "max"=none
  z_min:mg "min"=none
  z_range:mg "range"=none
  z_tuple:mg "tuple"=none
  z_zip:mg "zip"=none
abbrev sp_law:=A8l
theorem scI {N P:List Str} {sc:Scope} (a:sc.kind=.function:=by rfl) (b:sc.isCoroutine=false:=by rfl) (c:sc.isGenerator=false:=by rfl) (d:N.Nodup:=by decide +kernel) (e:N.take P.length=P:=by rfl) (f:∀ x ∈ P,sc.names.lookup x=some .local\/sc.names.lookup x=some .cell:=by decide +kernel) (g:∀ y ∈ sc.names,y.2≠.free:=by decide +kernel):FnScope N P sc:=⟨a,b,c,d,e,f,g⟩
structure KCl (K:PySem.W.Frag) (mg:Str->Option Value) (x:Str) (f:Addr) (fd:FuncData) (ps:List Str):Prop where
  m:mg x=some (.ref f)
  k:PySem.W.keepIn K (.ref f)=true
  b:Binds K fd ps []
theorem qcK {X:Cx} {k:Nat} {f:Addr} {fd:FuncData} {ps:List Str} {sp:Sp} {x:Str} {p pos:Pos} {e:Expr} {es:List Expr} {t:TA} (F:FnOk X.prog X.w X.K X.mg X.base CX0 k f fd ps sp) (hr:Room k X.A) (c:KCl X.K X.mg x f fd ps) (ha:QA X (e :: es) t) (hg:Gl X x:=by rfl) (hdb:(x == ("__debug__":Str))=false:=by decide) (he:starEach (e :: es) X.env=(false,eval e X.env) :: starEach es X.env:=by rfl) (hpl:(backTo pos (starEach es X.env)).any (·.1)=false:=by rfl):QE X (.Call (.Name x p) (e :: es) [] pos) (A1z sp [] E0 t):=A5i F hr hg c.m c.k c.b .nil B8n ha hdb he hpl
theorem qgn {X:Cx} (i:Nat) {P:List Str} {sc:Scope} {x:Str} {pos:Pos} (S:FnScope X.N P sc) (hi:X.N[i]?=some x:=by rfl) (hx:Loc X.env.scope x:=by exact Or.inl rfl) (hf:X.fn x=true\/X.env.scope.names.lookup x=some .local:=by first | exact .inl rfl | exact .inr rfl | assumption):QG X (.Name x pos) (O1 i):=A01 S.nd hi hx hf
theorem qgc {X:Cx} (i:Nat) (N:List Str) {x:Str} {pos:Pos} (hN:X.N=N:=by exact rfl) (hd:N.Nodup:=by decide +kernel) (hi:X.N[i]?=some x:=by exact rfl) (hx:Loc X.env.scope x:=by exact Or.inl rfl) (hf:X.fn x=true\/X.env.scope.names.lookup x=some .local:=by exact Or.inr rfl):QG X (.Name x pos) (O1 i):=A01 (hN ▸ hd) hi hx hf
theorem qst {X:Cx} (i:Nat) {P:List Str} {sc:Scope} {x:Str} {e:Expr} {te:TE} {pos pos':Pos} (S:FnScope X.N P sc) (he:QE X e te) (hi:X.N[i]?=some x:=by rfl) (hx:Loc X.env.scope x:=by exact Or.inl rfl) (hs:swapsWith e (some (.Name x pos')) pos.line X.env=pure false:=by rfl) (hf:X.fn x=true\/X.env.scope.names.lookup x=some .local:=by first | exact .inl rfl | exact .inr rfl | assumption):QS X (.Assign [.Name x pos'] e pos) (tAsg te (O1 i)):=A8s S.nd hi hx he hs hf
theorem qln (K:PySem.W.Frag) {X:Cx} {p pos:Pos} {e:Expr} {te:TE} (hm:X.mg "len"=none) (he:QE X e te) (h:X.K=K:=by rfl) (hg:Gl X "len":=by rfl) (hs:starEach [e] X.env=(false,eval e X.env) :: starEach [] X.env:=by rfl) (hpl:(backTo pos (starEach [] X.env)).any (·.1)=false:=by rfl):QE X (.Call (.Name "len" p) [e] [] pos) (tCB (A8r K) (E7 te tNil)):=D0 (A2b h) hg hm PySem.boot_len (A0 he A4 hs) (by decide) (by decide) hs hpl
theorem qix (K:PySem.W.Frag) {X:Cx} {a b:Expr} {ta tb:TE} {pos:Pos} (ha:QE X a ta) (hb:QE X b tb) (h:X.K=K:=by rfl) (hs:A0s b:=by exact fun _ _=>rfl):QE X (.Subscript a b pos) (tOp (rIx K) ta tb):=B3q (B2e h) ha hb hs
theorem _root_.L2.Fun.b1 {K:PySem.W.Frag} {x q:Str} {st:Stmt} {f:Addr} {fd:FuncData} {a:Str} (F:L2.Fun K x q st f fd) (h:∀ (kV doc pm:Value) (an:Option Addr) (cdv ct u:Value),bindArgs (PySem.W.fnOf x q (G3 st) (F6 st) (A8 st) .none kV doc pm an cdv ct) ⟨[u],[]⟩=pure [(a,u)]:=by intros; rfl):Binds K fd [a] []:=F.binds (ps:=[a]) fun _ _ _ _ _ _ us hl=>by obtain ⟨_,rfl⟩:=us1 hl; exact h ..
theorem _root_.L2.Fun.b2 {K:PySem.W.Frag} {x q:Str} {st:Stmt} {f:Addr} {fd:FuncData} {a b:Str} (F:L2.Fun K x q st f fd) (h:∀ (kV doc pm:Value) (an:Option Addr) (cdv ct u v:Value),bindArgs (PySem.W.fnOf x q (G3 st) (F6 st) (A8 st) .none kV doc pm an cdv ct) ⟨[u,v],[]⟩=pure [(a,u),(b,v)]:=by intros; rfl):Binds K fd [a,b] []:=F.binds (ps:=[a,b]) fun _ _ _ _ _ _ us hl=>by obtain ⟨_,_,rfl⟩:=us2 hl; exact h ..
theorem _root_.L2.Fun.b3 {K:PySem.W.Frag} {x q:Str} {st:Stmt} {f:Addr} {fd:FuncData} {a b c:Str} (F:L2.Fun K x q st f fd) (h:∀ (kV doc pm:Value) (an:Option Addr) (cdv ct u v w:Value),bindArgs (PySem.W.fnOf x q (G3 st) (F6 st) (A8 st) .none kV doc pm an cdv ct) ⟨[u,v,w],[]⟩=pure [(a,u),(b,v),(c,w)]:=by intros; rfl):Binds K fd [a,b,c] []:=F.binds (ps:=[a,b,c]) fun _ _ _ _ _ _ us hl=>by obtain ⟨_,_,_,rfl⟩:=us3 hl; exact h ..
theorem _root_.L2.Fun.b4 {K:PySem.W.Frag} {x q:Str} {st:Stmt} {f:Addr} {fd:FuncData} {a b c d:Str} (F:L2.Fun K x q st f fd) (h:∀ (kV doc pm:Value) (an:Option Addr) (cdv ct u v w x1:Value),bindArgs (PySem.W.fnOf x q (G3 st) (F6 st) (A8 st) .none kV doc pm an cdv ct) ⟨[u,v,w,x1],[]⟩=pure [(a,u),(b,v),(c,w),(d,x1)]:=by intros; rfl):Binds K fd [a,b,c,d] []:=F.binds (ps:=[a,b,c,d]) fun _ _ _ _ _ _ us hl=>by obtain ⟨_,_,_,_,rfl⟩:=us4 hl; exact h ..
def Zz:=@Pu.spOf.len
def Zf:=@PassesOwn.never
section
variable {K:PySem.W.Frag} {mg:Str->Option Value} {D:Adr}
theorem sc_commonpart:FnScope ["one","other"] ["one","other"] (A8 s_commonpart):=scI
theorem G5 (T:Txt K mg D):KCl K mg "common_part" D.a_commonpart D.d_commonpart ["one","other"]:=⟨T.m_commonpart,T.B.F_commonpart.kp,T.B.F_commonpart.b2⟩
theorem sc_plus:FnScope ["one","other","shared","mine","theirs","top","rest"] ["one","other"] (A8 s_plus):=scI
theorem A75 (T:Txt K mg D):KCl K mg "plus" D.a_plus D.d_plus ["one","other"]:=⟨T.m_plus,T.B.F_plus.kp,T.B.F_plus.b2⟩
theorem sc_minus:FnScope ["one","other"] ["one","other"] (A8 s_minus):=scI
theorem A0p (T:Txt K mg D):KCl K mg "minus" D.a_minus D.d_minus ["one","other"]:=⟨T.m_minus,T.B.F_minus.kp,T.B.F_minus.b2⟩
theorem sc_product:FnScope ["one","other","mine","theirs"] ["one","other"] (A8 s_product):=scI
theorem Z0 (T:Txt K mg D):KCl K mg "product" D.a_product D.d_product ["one","other"]:=⟨T.m_product,T.B.F_product.kp,T.B.F_product.b2⟩
theorem sc_parted:FnScope ["one","other","top","bottom"] ["one","other"] (A8 s_parted):=scI
theorem A64 (T:Txt K mg D):KCl K mg "parted" D.a_parted D.d_parted ["one","other"]:=⟨T.m_parted,T.B.F_parted.kp,T.B.F_parted.b2⟩
theorem sc_isless:FnScope ["one","other"] ["one","other"] (A8 s_isless):=scI
theorem V4 (T:Txt K mg D):KCl K mg "is_less" D.a_isless D.d_isless ["one","other"]:=⟨T.m_isless,T.B.F_isless.kp,T.B.F_isless.b2⟩
theorem sc_ratebetween:FnScope ["longer","quicker"] ["longer","quicker"] (A8 s_ratebetween):=scI
theorem V2 (T:Txt K mg D):KCl K mg "rate_between" D.a_ratebetween D.d_ratebetween ["longer","quicker"]:=⟨T.m_ratebetween,T.B.F_ratebetween.kp,T.B.F_ratebetween.b2⟩
theorem sc_isoffered:FnScope ["offer","time","kind","corners"] ["offer","time"] (A8 s_isoffered):=scI
theorem A0q (T:Txt K mg D):KCl K mg "is_offered" D.a_isoffered D.d_isoffered ["offer","time"]:=⟨T.m_isoffered,T.B.F_isoffered.kp,T.B.F_isoffered.b2⟩
theorem sc_cornersabove:FnScope ["corners","time"] ["corners","time"] (A8 s_cornersabove):=scI
theorem R6 (T:Txt K mg D):KCl K mg "corners_above" D.a_cornersabove D.d_cornersabove ["corners","time"]:=⟨T.m_cornersabove,T.B.F_cornersabove.kp,T.B.F_cornersabove.b2⟩
theorem sc_priceoftime:FnScope ["offer","time","corners","at","longer"] ["offer","time"] (A8 s_priceoftime):=scI
theorem V3 (T:Txt K mg D):KCl K mg "price_of_time" D.a_priceoftime D.d_priceoftime ["offer","time"]:=⟨T.m_priceoftime,T.B.F_priceoftime.kp,T.B.F_priceoftime.b2⟩
theorem sc_timed:FnScope ["net","times","works","waits","holds","fixed","name","offer","time"] ["net","times"] (A8 s_timed):=scI
theorem A41 (T:Txt K mg D):KCl K mg "timed" D.a_timed D.d_timed ["net","times"]:=⟨T.m_timed,T.B.F_timed.kp,T.B.F_timed.b2⟩
theorem sc_Lbegun:FnScope ["_law_script","_law_k","_law_cell"] ["_law_script","_law_k"] (A8 s_Lbegun):=scI
theorem G6 (T:Txt K mg D):KCl K mg "_law_begun" D.a_Lbegun D.d_Lbegun ["_law_script","_law_k"]:=⟨T.m_Lbegun,T.B.F_Lbegun.kp,T.B.F_Lbegun.b2⟩
theorem sc_Ltake:FnScope ["_law_state","_law_many","_law_digit","_law_made","_law_turn"] ["_law_state","_law_many"] (A8 s_Ltake):=scI
theorem C4 (T:Txt K mg D):KCl K mg "_law_take" D.a_Ltake D.d_Ltake ["_law_state","_law_many"]:=⟨T.m_Ltake,T.B.F_Ltake.kp,T.B.F_Ltake.b2⟩
theorem sc_Llow:FnScope ["_law_top","_law_bottom","_law_one","_law_other"] ["_law_top","_law_bottom"] (A8 s_Llow):=scI
theorem T5 (T:Txt K mg D):KCl K mg "_law_low" D.a_Llow D.d_Llow ["_law_top","_law_bottom"]:=⟨T.m_Llow,T.B.F_Llow.kp,T.B.F_Llow.b2⟩
theorem sc_Lplus:FnScope ["_law_one","_law_other"] ["_law_one","_law_other"] (A8 s_Lplus):=scI
theorem M6 (T:Txt K mg D):KCl K mg "_law_plus" D.a_Lplus D.d_Lplus ["_law_one","_law_other"]:=⟨T.m_Lplus,T.B.F_Lplus.kp,T.B.F_Lplus.b2⟩
theorem sc_Lminus:FnScope ["_law_one","_law_other"] ["_law_one","_law_other"] (A8 s_Lminus):=scI
theorem K5 (T:Txt K mg D):KCl K mg "_law_minus" D.a_Lminus D.d_Lminus ["_law_one","_law_other"]:=⟨T.m_Lminus,T.B.F_Lminus.kp,T.B.F_Lminus.b2⟩
theorem sc_Ltimes:FnScope ["_law_one","_law_other"] ["_law_one","_law_other"] (A8 s_Ltimes):=scI
theorem V6 (T:Txt K mg D):KCl K mg "_law_times" D.a_Ltimes D.d_Ltimes ["_law_one","_law_other"]:=⟨T.m_Ltimes,T.B.F_Ltimes.kp,T.B.F_Ltimes.b2⟩
theorem sc_Lunder:FnScope ["_law_one","_law_other"] ["_law_one","_law_other"] (A8 s_Lunder):=scI
theorem A65 (T:Txt K mg D):KCl K mg "_law_under" D.a_Lunder D.d_Lunder ["_law_one","_law_other"]:=⟨T.m_Lunder,T.B.F_Lunder.kp,T.B.F_Lunder.b2⟩
theorem sc_Lamount:FnScope ["_law_state","_law_plain","_law_least","_law_way","_law_bottom"] ["_law_state","_law_plain","_law_least"] (A8 s_Lamount):=scI
theorem J3 (T:Txt K mg D):KCl K mg "_law_amount" D.a_Lamount D.d_Lamount ["_law_state","_law_plain","_law_least"]:=⟨T.m_Lamount,T.B.F_Lamount.kp,T.B.F_Lamount.b3⟩
theorem sc_Loffer:FnScope ["_law_state","_law_kind","_law_most","_law_plain","_law_many","_law_time","_law_price_here","_law_gaps","_law_gap","_law_corners","_law_rate","_law_step"] ["_law_state","_law_kind","_law_most","_law_plain"] (A8 s_Loffer):=scI
theorem A68 (T:Txt K mg D):KCl K mg "_law_offer" D.a_Loffer D.d_Loffer ["_law_state","_law_kind","_law_most","_law_plain"]:=⟨T.m_Loffer,T.B.F_Loffer.kp,T.B.F_Loffer.b4⟩
theorem sc_Lshape:FnScope ["_law_script","_law_kinds","_law_state","_law_many","_law_size","_law_least","_law_full","_law_works","_law_k","_law_own","_law_kind","_law_waits","_law_holds","_law_one"] ["_law_script","_law_kinds"] (A8 s_Lshape):=scI
theorem A66 (T:Txt K mg D):KCl K mg "_law_shape" D.a_Lshape D.d_Lshape ["_law_script","_law_kinds"]:=⟨T.m_Lshape,T.B.F_Lshape.kp,T.B.F_Lshape.b2⟩
theorem sc_Lprice:FnScope ["_law_offer_here","_law_time","_law_corners","_law_k","_law_up","_law_gap","_law_share"] ["_law_offer_here","_law_time"] (A8 s_Lprice):=scI
theorem A67 (T:Txt K mg D):KCl K mg "_law_price" D.a_Lprice D.d_Lprice ["_law_offer_here","_law_time"]:=⟨T.m_Lprice,T.B.F_Lprice.kp,T.B.F_Lprice.b2⟩
theorem sc_Lloose:FnScope ["_law_shape_here","_law_script","_law_works","_law_waits","_law_holds","_law_lags","_law_k","_law_own","_law_lag","_law_moments","_law_moment","_law_way"] ["_law_shape_here","_law_script"] (A8 s_Lloose):=scI
theorem A69 (T:Txt K mg D):KCl K mg "_law_loose" D.a_Lloose D.d_Lloose ["_law_shape_here","_law_script"]:=⟨T.m_Lloose,T.B.F_Lloose.kp,T.B.F_Lloose.b2⟩
theorem sc_Ltimesdrawn:FnScope ["_law_net","_law_script","_law_at","_law_times_here","_law_i","_law_own","_law_kind","_law_corners","_law_k","_law_time","_law_gap"] ["_law_net","_law_script","_law_at"] (A8 s_Ltimesdrawn):=scI
theorem V5 (T:Txt K mg D):KCl K mg "_law_times_drawn" D.a_Ltimesdrawn D.d_Ltimesdrawn ["_law_net","_law_script","_law_at"]:=⟨T.m_Ltimesdrawn,T.B.F_Ltimesdrawn.kp,T.B.F_Ltimesdrawn.b3⟩
theorem sc_Lcopy:FnScope ["_law_thing"] ["_law_thing"] (A8 s_Lcopy):=scI
theorem V7 (T:Txt K mg D):KCl K mg "_law_copy" D.a_Lcopy D.d_Lcopy ["_law_thing"]:=⟨T.m_Lcopy,T.B.F_Lcopy.kp,T.B.F_Lcopy.b1⟩
theorem sc_Lgrouped:FnScope ["_law_net","_law_state","_law_works"] ["_law_net","_law_state"] (A8 s_Lgrouped):=scI
theorem A2d (T:Txt K mg D):KCl K mg "_law_grouped" D.a_Lgrouped D.d_Lgrouped ["_law_net","_law_state"]:=⟨T.m_Lgrouped,T.B.F_Lgrouped.kp,T.B.F_Lgrouped.b2⟩
theorem sc_Lalike:FnScope ["_law_found","_law_due","_law_work"] ["_law_found","_law_due"] (A8 s_Lalike):=scI
theorem A1v (T:Txt K mg D):KCl K mg "_law_alike" D.a_Lalike D.d_Lalike ["_law_found","_law_due"]:=⟨T.m_Lalike,T.B.F_Lalike.kp,T.B.F_Lalike.b2⟩
theorem sc_law:FnScope ["_law_script","_law_shape_here","_law_net","_law_times_here","_law_works","_law_i","_law_name","_law_offer_here","_law_due","_law_handed","_law_found"] ["_law_script"] (A8 s_law):=scI
end
theorem A1l:(PyData.str "steps").canLay0=true:=by decide +kernel
theorem A33:(PyData.str "straight").canLay0=true:=by decide +kernel
theorem B70:PyData.eqv (.str "steps") (.str "steps")=true:=by decide +kernel
theorem B7y:PyData.eqv (.str "straight") (.str "straight")=true:=by decide +kernel
theorem B7z:PyData.eqv (.str "straight") (.str "steps")=false:=by decide +kernel
def offD (kd:Str) (cs:List (Rat × Rat)):PyData:=.tuple [.str kd,.list (cs.map dcn)]
def Kd (kd:Str):Prop:=kd="straight"\/kd="steps"
theorem Kd.lay {kd:Str} (h:Kd kd):(PyData.str kd).canLay0=true:=by rcases h with rfl | rfl; exact A33; exact A1l
def J5 (c d:Rat × Rat):Rat:=(d.2 - c.2) / (c.1 - d.1)
def A5y (c d:Rat × Rat) (t:Rat):Rat:=c.2 + J5 c d * (c.1 - t)
theorem A0w {c d:Rat × Rat} (h:d.1 < c.1) (h1:SmR 161 85 c.1) (h2:SmR 285 151 c.2) (h3:SmR 161 85 d.1) (h4:SmR 285 151 d.2):SmR 607 549 (J5 c d) :=
  ((h4.sub h2).div (h1.sub h3) (by grind)).mono (by decide) (by decide)
theorem part (t:Rat):∀ {cs:List (Rat × Rat)},Dec cs->∃ A B,cs=A++B/\cs.filter (fun c=>decide (t < c.1))=A/\(∀ c ∈ A,t < c.1) /\
    ((B=[]/\cs.filter (fun c=>decide (t<=c.1))=A/\cs.filter (fun c=>decide (c.1=t))=[]) \/
     ∃ b r,B=b :: r/\b.1<=t/\(b.1=t->cs.filter (fun c=>decide (t<=c.1))=A++[b]/\cs.filter (fun c=>decide (c.1=t))=[b])/\(b.1 < t->cs.filter (fun c=>decide (t<=c.1))=A/\cs.filter (fun c=>decide (c.1=t))=[]))
  | [],_=>⟨[],[],rfl,rfl,fun _ z=>(nomatch z),.inl ⟨rfl,rfl,rfl⟩⟩
  | c :: r,h=>by
    by_cases hc:t < c.1
    · have h1:t<=c.1:=Rat.le_of_lt hc
      have h2:¬ c.1=t:=fun e=>by grind
      obtain ⟨A,B,e,fA,hA,hB⟩:=part t h.tail;refine ⟨c :: A,B,by rw [e]; rfl,by rw [List.filter_cons,if_pos (by simpa using hc),fA],fun d hd=>?_,?_⟩
      · rcases List.mem_cons.mp hd with rfl | z
        · exact hc
        · exact hA d z
      · rw [List.filter_cons,if_pos (by simpa using h1),List.filter_cons,if_neg (by simpa using h2)]
        rcases hB with ⟨b1,b2,b3⟩ | ⟨b,r',b1,b2,b3,b4⟩
        · exact .inl ⟨b1,by rw [b2],b3⟩
        · exact .inr ⟨b,r',b1,b2,fun z=>⟨by rw [(b3 z).1]; rfl,(b3 z).2⟩,fun z=>⟨by rw [(b4 z).1],(b4 z).2⟩⟩
    · have hr:∀ d ∈ r,d.1 < t:=fun d hd=>by have:=h.lt d hd; grind
      have n1:r.filter (fun c=>decide (t < c.1))=[]:=List.filter_eq_nil_iff.mpr fun d hd=>by have:=hr d hd; simp; grind
      have n2:r.filter (fun c=>decide (t<=c.1))=[]:=List.filter_eq_nil_iff.mpr fun d hd=>by have:=hr d hd; simp; grind
      have n3:r.filter (fun c=>decide (c.1=t))=[]:=List.filter_eq_nil_iff.mpr fun d hd=>by have:=hr d hd; simp; grind
      refine ⟨[],c :: r,rfl,by rw [List.filter_cons,if_neg (by simpa using hc),n1],fun _ z=>(nomatch z),.inr ⟨c,r,rfl,by grind,fun e=>?_,fun e=>?_⟩⟩
      · exact ⟨by rw [List.filter_cons,if_pos (by simp [e]),n2]; rfl,by rw [List.filter_cons,if_pos (by simp [e]),n3]⟩
      · exact ⟨by rw [List.filter_cons,if_neg (by simp; grind),n2],by rw [List.filter_cons,if_neg (by simp; grind),n3]⟩
def Price (cs:List (Rat × Rat)) (t p:Rat):Prop:=∃ A b r,cs=A++b :: r/\cs.filter (fun c=>decide (t < c.1))=A/\b.1<=t/\((b.1=t/\p=b.2)\/(b.1 < t/\∃ A' l,A=A'++[l]/\p=A5y l b t))
theorem Price.uniq {cs:List (Rat × Rat)} {t p q:Rat} (h:Price cs t p) (h':Price cs t q):p=q:=by
  obtain ⟨A,b,r,e,f,_,h⟩:=h;obtain ⟨A',b',r',e',f',_,h'⟩:=h';have eA:A=A':=f.symm.trans f';subst eA;rw [e] at e';have e2:=List.append_cancel_left e';cases e2;rcases h with ⟨h1,rfl⟩ | ⟨h1,A1,l1,g1,rfl⟩
  · rcases h' with ⟨h2,rfl⟩ | ⟨h2,_⟩
    · rfl
    · grind
  · rcases h' with ⟨h2,rfl⟩ | ⟨h2,A2,l2,g2,rfl⟩
    · grind
    · rw [g1] at g2
      have:=List.append_inj' g2 rfl;obtain ⟨_,e3⟩:=this;cases e3; rfl
theorem A38:("steps":Str)≠"straight":=by decide +kernel
theorem A2l {A r:List (Rat × Rat)} {b:Rat × Rat}:(A++b :: r)[A.length]?=some b:=by simp
theorem A35 {A r:List (Rat × Rat)} {l:Rat × Rat}:((A++[l])++r)[A.length]?=some l:=by simp
theorem A5e {c d:Rat × Rat} {t:Rat} (h:d.1 < c.1) (h1:SmR 161 85 c.1) (h2:SmR 285 151 c.2) (h3:SmR 161 85 d.1) (h4:SmR 285 151 d.2) (ht:SmR 339 261 t):SmR 1200 1100 (A5y c d t) :=
  (h2.add ((A0w h h1 h2 h3 h4).mul (h1.sub ht))).mono (by decide) (by decide)
def val (q:Rat) (c:Rat × Rat):Rat:=c.2 + q * c.1
theorem OfOk.up {cs:List (Rat × Rat)} {a b c d a' b' c' d':Nat} (h:OfOk cs a b c d) (h1:a<=a') (h2:b<=b') (h3:c<=c') (h4:d<=d'):OfOk cs a' b' c' d' :=
  ⟨h.ne,h.le,h.dec,fun x hx=>⟨(h.sm x hx).1.mono h1 h2,(h.sm x hx).2.mono h3 h4⟩⟩
theorem A0l:∀ qs:List Rat,PyData.canLayAll0 (qs.map dq)=true
  | []=>rfl
  | q :: r=>by
    show ((dq q).canLay0 && PyData.canLayAll0 (r.map dq))=true;rw [B72,A0l r]; rfl
theorem X4:∀ qs:List Rat,PyData.depthAll (qs.map dq)<=1
  | []=>Nat.zero_le _
  | q :: r=>by
    show max (dq q).depth (PyData.depthAll (r.map dq))<=1;have h1:=X4 r;have h2:(dq q).depth=1:=rfl;omega
theorem B60 (qs:List Rat):(PyData.list (qs.map dq)).canLay0=true:=A0l qs
theorem Price.sm {cs:List (Rat × Rat)} {t p:Rat} (h:Price cs t p) (ok:OfOk cs 161 85 285 151) (st:SmR 339 261 t):SmR 1200 1100 p:=by
  obtain ⟨A,b,r,e,f,hb,h⟩:=h;have sb:=ok.sm b (by rw [e]; simp);rcases h with ⟨h1,rfl⟩ | ⟨h1,A',l,eA,rfl⟩
  · exact sb.2.mono (by decide) (by decide)
  · have sl:=ok.sm l (by rw [e,eA]; simp)
    have hl:l ∈ cs.filter (fun c=>decide (t < c.1)):=by rw [f,eA]; simp
    have:=(List.mem_filter.mp hl).2;simp at this;exact A5e (by grind) sl.1 sl.2 sb.1 sb.2 st
theorem smr0:SmR 1 1 0:=⟨by unfold Sm; decide,by unfold Sm; decide⟩
theorem smq0:SmQ 3900 0:=⟨smr0.1.mono (by decide),smr0.2.mono (by decide)⟩
def CvI (l:List (Rat × Rat)):Prop:=∀ (i:Nat) a b c,l[i]?=some a->l[i + 1]?=some b->l[i + 2]?=some c->J5 a b < J5 b c
theorem A2j {a b:Rat × Rat} (h:b.1 < a.1):J5 a b * (a.1 - b.1)=b.2 - a.2:=by unfold J5; exact Rat.div_mul_cancel (by grind)
theorem CvI.push {l:List (Rat × Rat)} {c:Rat × Rat} (H:CvI l) (h:∀ A a b,l=A++[a,b]->J5 a b < J5 b c):CvI (l++[c]):=by
  intro j x y z h1 h2 h3;have hl:j + 2 < l.length + 1:=by have:=(Zs h3).1; simpa using this
  rcases (show j + 2 < l.length\/j + 2=l.length by omega) with q | q
  · rw [List.getElem?_append_left (by omega)] at h1 h2 h3
    exact H j x y z h1 h2 h3
  · rw [List.getElem?_append_left (by omega)] at h1 h2
    rw [List.getElem?_append_right (by omega),q,Nat.sub_self] at h3;cases h3;refine h (l.take j) x y ?_;have e1:l.drop j=[x,y]:=by
      refine List.ext_getElem? fun k=>?_;rw [List.getElem?_drop];match k with
      | 0=>simpa using h1
      | 1=>simpa using h2
      | k + 2=>simp; omega
    rw [<- e1,List.take_append_drop]
def CvR (l:List (Rat × Rat)) (R:Rat):Prop:=CvI l/\∀ A a b,l=A++[a,b]->J5 a b=R
theorem CvR.one (c:Rat × Rat):CvR [c] 0:=by
  refine ⟨fun i a b d h1 h2 h3=>?_,fun A a b e=>?_⟩
  · have:=(Zs h3).1; simp at this
  · have:=congrArg List.length e; simp at this
theorem CvR.step {cs:List (Rat × Rat)} {T P R q v v2:Rat} (q0:0 < q) (v0:0 < v) (hv:v2=(R + v) * q) (h:CvR (cs++[(T,P)]) R):CvR (cs++[(T,P)]++[(T - q,P + v2)]) (R + v):=by
  have es:J5 (T,P) (T - q,P + v2)=R + v:=by
    have e:=A2j (a:=(T,P)) (b:=(T - q,P + v2)) (by show T - q < T; grind);have e':J5 (T,P) (T - q,P + v2) * q=(R + v) * q:=by
      rw [<- hv];have:J5 (T,P) (T - q,P + v2) * (T - (T - q))=P + v2 - P:=e;grind
    have hq:q≠0:=by grind
    rw [<- Rat.mul_div_cancel (b:=q) hq (a:=J5 (T,P) (T - q,P + v2)),e',Rat.mul_div_cancel hq]
  refine ⟨h.1.push fun A a b e=>?_,fun A a b e=>?_⟩
  · have hb:b=(T,P):=by
      have e':cs++[(T,P)]=(A++[a])++[b]:=by rw [e]; simp
      have:=(List.append_inj' e' rfl).2;cases this; rfl
    have:=h.2 A a b e;rw [this,hb,es]; grind
  · have e':cs++[(T,P),(T - q,P + v2)]=A++[a,b]:=by rw [<- e]; simp
    have:=(List.append_inj' e' rfl).2;cases this; exact es
def RiseO (cs:List (Rat × Rat)):Prop:=∀ (i:Nat) c d,cs[i]?=some c->cs[i + 1]?=some d->d.1 < c.1/\c.2 < d.2
theorem RiseO.one (c:Rat × Rat):RiseO [c]:=fun i a b _ h=>by rw [List.getElem?_eq_none (by simp)] at h; cases h
theorem RiseO.snoc {cs:List (Rat × Rat)} {c d:Rat × Rat} (h:RiseO (cs++[c])) (h1:d.1 < c.1) (h2:c.2 < d.2):RiseO (cs++[c]++[d]):=fun i a b ha hb=>by
  rcases Nat.lt_trichotomy (i + 1) (cs++[c]).length with z | z | z
  · rw [List.getElem?_append_left (by omega)] at ha
    rw [List.getElem?_append_left z] at hb;exact h i a b ha hb
  · rw [List.getElem?_append_left (by omega)] at ha
    rw [z,List.getElem?_append_right (Zv _),Nat.sub_self] at hb;have hi:i=cs.length:=by simp at z; exact z
    rw [hi,List.getElem?_append_right (Zv _),Nat.sub_self] at ha;cases ha; cases hb;exact ⟨h1,h2⟩
  · rw [List.getElem?_eq_none (by simp at z ⊢; omega)] at hb; cases hb
def sumR (qs:List Rat):Rat:=qs.foldr (· + ·) 0
theorem V9:∀ (qs:List Rat) (q:Rat),sumR (qs++[q])=sumR qs + q
  | [],q=>by show q + 0=0 + q; grind
  | p :: r,q=>by
    have h:=V9 r q;show p + sumR (r++[q])=p + sumR r + q;rw [h]; grind
theorem T9:∀ {qs:List Rat},(∀ q ∈ qs,0 < q)->0<=sumR qs
  | [],_=>Rat.le_refl
  | p :: r,h=>by
    have h1:=T9 (qs:=r) fun q hq=>h q (Zr _ hq);have h2:=h p Zy;show 0<=p + sumR r;grind
structure OfG (kd:Str) (cs:List (Rat × Rat)) (a b c d:Nat):Prop where
  ok:OfOk cs a b c d
  nn:∀ x ∈ cs,0<=x.1/\0<=x.2
  up:RiseO cs
  cv:kd="straight"->CvI cs
def wD (w:Int × Int × Rat):PyData:=.tuple [.int w.1,.int w.2.1,dq w.2.2]
def hD (h:Str × Int × Rat):PyData:=.tuple [.str h.1,.int h.2.1,dq h.2.2]
def On (B k:Nat) (q:Rat):Prop:=∃ z:Int,q=Rat.divInt z (B:Int)/\z.natAbs<=k * B
theorem On.mono {B k l:Nat} {q:Rat} (h:On B k q) (g:k<=l):On B l q:=let ⟨z,e,b⟩:=h; ⟨z,e,Zx b (Zu _ g)⟩
theorem On.add {B k l:Nat} {p q:Rat} (hB:0 < B) (h:On B k p) (g:On B l q):On B (k + l) (p + q):=by
  obtain ⟨z,rfl,b⟩:=h;obtain ⟨y,rfl,c⟩:=g;have hn:(B:Int)≠0:=by omega
  refine ⟨z + y,?_,Zx (Int.natAbs_add_le _ _) (by rw [Nat.add_mul]; omega)⟩;rw [Rat.divInt_add_divInt _ _ hn hn,<- Int.add_mul,Rat.divInt_mul_right hn]
theorem On.neg {B k:Nat} {p:Rat} (h:On B k p):On B k (-p):=by
  obtain ⟨z,rfl,b⟩:=h;exact ⟨-z,by rw [Rat.neg_divInt],by rw [Int.natAbs_neg]; exact b⟩
theorem On.sub {B k l:Nat} {p q:Rat} (hB:0 < B) (h:On B k p) (g:On B l q):On B (k + l) (p - q):=by
  rw [Rat.sub_eq_add_neg]; exact h.add hB g.neg
theorem On.of {B a b:Nat} {q:Rat} (hB:0 < B) (h:SmR a b q) (d:q.den ∣ B):On B (2 ^ a) q:=by
  obtain ⟨c,rfl⟩:=d;have hd:=q.den_pos;by_cases hc:c=0
  · subst hc; rw [Nat.mul_zero] at hB; exact absurd hB (Nat.lt_irrefl _)
  · refine ⟨q.num * c,?_,?_⟩
    · rw [Int.natCast_mul,Rat.divInt_mul_right (by omega),Rat.num_divInt_den]
    · rw [Int.natAbs_mul,Int.natAbs_natCast]
      have h1:q.num.natAbs<=2 ^ a:=Nat.le_of_lt h.1;exact Nat.mul_le_mul h1 (Nat.le_mul_of_pos_left _ hd)
theorem On.zero {B:Nat}:On B 0 0:=⟨0,by rw [Rat.zero_divInt],by simp⟩
theorem On.q {B k:Nat} {q:Rat} (hB:0 < B) (h:On B k q) (g:k * B < 2 ^ 3900) (g2:B < 2 ^ 3900):SmQ 3900 q:=by
  obtain ⟨z,rfl,b⟩:=h;have:=SmR.low (n:=3900) (d:=3900) (t:=z) (b:=(B:Int)) (Nat.lt_of_le_of_lt b g) (by unfold Sm; rw [Int.natAbs_natCast]; exact g2) (by omega);exact ⟨this.1,this.2⟩
theorem On.up {B C k:Nat} {q:Rat} (hC:0 < C) (h:On B k q):On (B * C) k q:=by
  obtain ⟨z,rfl,b⟩:=h;refine ⟨z * C,by rw [Int.natCast_mul,Rat.divInt_mul_right (by omega)],?_⟩;rw [Int.natAbs_mul,Int.natAbs_natCast,<- Nat.mul_assoc];exact Zu _ b
def LL:Nat:=591133442051411133755680800
theorem D9:0 < LL:=by decide
theorem B6x {d:Nat} (h0:0 < d) (h:d < 64):d ∣ LL:=by
  have k:∀ d:Fin 64,d.val=0\/LL % d.val=0:=by decide +kernel
  rcases k ⟨d,h⟩ with z | z
  · exact absurd z (Nat.ne_of_gt h0)
  · exact Nat.dvd_of_mod_eq_zero z
theorem N3 {q:Rat} (h:SmR 41 6 q):On LL (2 ^ 41) q:=by
  refine On.of D9 h (B6x q.den_pos ?_);have:=h.2; unfold Sm at this; rw [Int.natAbs_natCast] at this; exact this
theorem On.mul {B C k l:Nat} {p q:Rat} (h:On B k p) (g:On C l q):On (B * C) (k * l) (p * q):=by
  obtain ⟨z,rfl,b⟩:=h;obtain ⟨y,rfl,c⟩:=g;refine ⟨z * y,by rw [Rat.divInt_mul_divInt,Int.natCast_mul],?_⟩;rw [Int.natAbs_mul];have:=Nat.mul_le_mul b c;rw [Nat.mul_mul_mul_comm] at this;exact this
theorem B53 {B k:Nat} {n:Int} (hB:0 < B) (h:n.natAbs<=k):On B k (n:Rat):=by
  refine ⟨n * (B:Int),?_,by rw [Int.natAbs_mul,Int.natAbs_natCast]; exact Zu _ h⟩;have:=Rat.divInt_mul_right (n:=n) (d:=1) (a:=(B:Int)) (by omega);rw [Int.one_mul] at this;rw [this];have e:=Rat.num_divInt_den (n:Rat);rw [Rat.num_intCast,Rat.den_intCast] at e;exact e.symm
theorem onQ {B k:Nat} {q:Rat} (h:On B k q) (hB:0 < B) (hb:B<=2 ^ 1000) (g:k<=2 ^ 1000):SmQ 3900 q:=by
  refine h.q hB (Nat.lt_of_le_of_lt (Nat.mul_le_mul g hb) ?_) (Nat.lt_of_le_of_lt hb ?_)
  · rw [<- Nat.pow_add]; exact Nat.pow_lt_pow_right (by decide) (by decide)
  · exact Nat.pow_lt_pow_right (by decide) (by decide)
theorem B8b:LL<=2 ^ 1000:=Zx (Nat.le_of_ble_eq_true rfl:LL<=2 ^ 100) (Zp (by decide) (by decide))
theorem onL {a:Nat} {q:Rat} (h:On LL (2 ^ a) q) (ha:a<=1000):SmQ 3900 q:=onQ h D9 B8b (Zp (by decide) ha)
theorem On.p2 {B a b:Nat} {q:Rat} (h:On B (2 ^ a) q) (g:a<=b):On B (2 ^ b) q:=h.mono (Zp (by decide) g)
theorem On.add2 {B a b:Nat} {p q:Rat} (hB:0 < B) (h:On B (2 ^ a) p) (g:On B (2 ^ a) q) (hb:a + 1<=b):On B (2 ^ b) (p + q):=by
  refine (h.add hB g).mono (Zx ?_ (Zp (by decide) hb));rw [Nat.pow_succ]; omega
theorem On.sub2 {B a b:Nat} {p q:Rat} (hB:0 < B) (h:On B (2 ^ a) p) (g:On B (2 ^ a) q) (hb:a + 1<=b):On B (2 ^ b) (p - q):=by
  refine (h.sub hB g).mono (Zx ?_ (Zp (by decide) hb));rw [Nat.pow_succ]; omega
def OnP (l:List (Rat × Rat)):Prop:=∀ (i:Nat) a b,l[i]?=some a->l[i + 1]?=some b->On LL (2 ^ 45) (J5 a b)
theorem OnP.one (c:Rat × Rat):OnP [c]:=fun i a b _ h=>by rw [List.getElem?_eq_none (by simp)] at h; cases h
theorem OnP.snoc {l:List (Rat × Rat)} {c d:Rat × Rat} (h:OnP (l++[c])) (h1:On LL (2 ^ 45) (J5 c d)):OnP (l++[c]++[d]):=fun i a b ha hb=>by
  rcases Nat.lt_trichotomy (i + 1) (l++[c]).length with z | z | z
  · rw [List.getElem?_append_left (by omega)] at ha
    rw [List.getElem?_append_left z] at hb;exact h i a b ha hb
  · rw [List.getElem?_append_left (by omega)] at ha
    rw [z,List.getElem?_append_right (Zv _),Nat.sub_self] at hb;have hi:i=l.length:=by simp at z; exact z
    rw [hi,List.getElem?_append_right (Zv _),Nat.sub_self] at ha;cases ha; cases hb;exact h1
  · rw [List.getElem?_eq_none (by simp at z ⊢; omega)] at hb; cases hb
def OnC (cs:List (Rat × Rat)):Prop:=∀ c ∈ cs,On LL (2 ^ 45) c.1/\On (LL * LL) (2 ^ 90) c.2
def Hk (k:Str):Prop:=k="from"\/k="till"\/k="by"
def HOk (n:Int) (hs:List (Str × Int × Rat)):Prop:=∀ h ∈ hs,Hk h.1/\(0<=h.2.1/\h.2.1 < n)/\On LL (2 ^ 55) h.2.2
theorem Hk.lay {kd:Str} (h:Hk kd):(PyData.str kd).canLay0=true:=by rcases h with rfl | rfl | rfl <;> decide +kernel
theorem B61:(PyData.str "from").canLay0=true:=by decide +kernel
theorem B3l {c:Nat} (h:c < 128):(sgn c).canLay0=true:=by
  show PyData.strOk ⟨#[c]⟩=true;unfold PyData.strOk;simp;omega
theorem getS {z:Str} {n:Int} (hl:z.length<=1000) (all:z.cps.toList.all (fun c=>decide (c < 128))=true) (h0:0<=n) (h1:n < z.length) {Q:SV->Prop} (q:∀ c,c < 128->Q (.d (sgn c))):A93 z n Q:=by
  obtain ⟨m,rfl⟩:=Zi h0;have hm:m < z.cps.toList.length:=by rw [Array.length_toList]; exact Int.ofNat_lt.mp h1
  refine ⟨z.cps.toList[m],K6 (Zg hm),q _ ?_⟩;have:=List.all_eq_true.mp all _ (List.getElem_mem hm);simpa using this
abbrev Wk:=Str × Str × List (Rat × Rat)
def kD (x:Wk):PyData:=.tuple [.str x.1,offD x.2.1 x.2.2]
def netD (xs:List Wk) (ws:List (Int × Int × Rat)) (hs:List (Str × Int × Rat)) (gs:List PyData):PyData:=.tuple [.list (xs.map kD),.list (ws.map wD),.list (hs.map hD),.list gs]
structure Off (kd:Str) (cs:List (Rat × Rat)) (t:Rat):Prop where
  st:kd="steps"->∃ c ∈ cs,c.1=t
  sr:kd="straight"->∃ c0 cl,cs[0]?=some c0/\cs[cs.length - 1]?=some cl/\¬ t < cl.1/\¬ c0.1 < t
theorem A34:∀ cs:List (Rat × Rat),PyData.canLayAll0 (cs.map fun c=>dq c.1)=true
  | []=>rfl
  | c :: r=>by
    show ((dq c.1).canLay0 && PyData.canLayAll0 (r.map fun c=>dq c.1))=true;rw [A34 r]; rfl
theorem Q1 {kd:Str} {cs:List (Rat × Rat)} {t:Rat} {i j:Nat} {c d:Rat × Rat} (hd:Dec cs) (hs:kd≠"steps") (h1:1<=cs.length) (ei:cs[i]?=some c) (ej:cs[j]?=some d) (h2:t<=c.1) (h3:d.1<=t):Off kd cs t:=by
  refine ⟨fun z=>absurd z hs,fun _=>?_⟩;have e0:cs[0]?=some cs[0]:=Zg (by omega);have el:cs[cs.length - 1]?=some cs[cs.length - 1]:=Zg (by omega);have hi:=(Zs ei).1;have hj:=(Zs ej).1;refine ⟨_,_,e0,el,Rat.not_lt.mpr ?_,Rat.not_lt.mpr ?_⟩
  · by_cases z:j=cs.length - 1
    · subst z; rw [ej] at el; cases el; exact h3
    · exact Rat.le_trans (Rat.le_of_lt (hd.get ej el (by omega))) h3
  · by_cases z:i=0
    · subst z; rw [ei] at e0; cases e0; exact h2
    · exact Rat.le_trans h2 (Rat.le_of_lt (hd.get e0 ei (by omega)))
theorem N9 {kd:Str} {cs:List (Rat × Rat)} {i:Nat} {c:Rat × Rat} (hk:Kd kd) (hd:Dec cs) (h1:1<=cs.length) (ei:cs[i]?=some c):Off kd cs c.1:=by
  by_cases z:kd="steps"
  · exact ⟨fun _=>⟨c,Zm ei,rfl⟩,fun q=>absurd (z.symm.trans q) (by decide +kernel)⟩
  · exact Q1 hd z h1 ei ei Rat.le_refl Rat.le_refl
theorem A1m:∀ ls:List Int,PyData.canLayAll0 (ls.map PyData.int)=true
  | []=>rfl
  | n :: r=>by
    show ((PyData.int n).canLay0 && PyData.canLayAll0 (r.map PyData.int))=true;rw [A1m r]; rfl
theorem A1q:∀ ls:List Int,PyData.depthAll (ls.map PyData.int)<=1
  | []=>by decide
  | n :: r=>by
    show max (PyData.int n).depth (PyData.depthAll (r.map PyData.int))<=1;have:=A1q r;have:(PyData.int n).depth=0:=rfl;omega
theorem A4o (ls:List Int):(PyData.list (ls.map PyData.int)).depth<=60:=by
  show PyData.depthAll (ls.map PyData.int) + 1<=60;have:=A1q ls;omega
theorem A6r (ls:List Int):(PyData.list (ls.map PyData.int)).eqv (.list [])=ls.isEmpty:=by
  cases ls <;> rfl
def fstC (cs:List (Rat × Rat)):Rat × Rat:=(cs[0]?).getD (0,0)
def lstC (cs:List (Rat × Rat)):Rat × Rat:=(cs[cs.length - 1]?).getD (0,0)
def offB (kd:Str) (cs:List (Rat × Rat)) (t:Rat):Bool:=if kd="steps" then cs.any fun c=>decide (c.1=t) else !decide (t < (lstC cs).1) && !decide ((fstC cs).1 < t)
theorem A4j {cs:List (Rat × Rat)} (h:1<=cs.length):cs[0]?=some (fstC cs):=by
  unfold fstC; rw [Zg (by omega:0 < cs.length)]; rfl
theorem A31 {cs:List (Rat × Rat)} (h:1<=cs.length):cs[cs.length - 1]?=some (lstC cs):=by
  unfold lstC; rw [Zg (by omega:cs.length - 1 < cs.length)]; rfl
theorem B22 (cs:List (Rat × Rat)) (t:Rat):((cs.map fun c=>dq c.1).any fun z=>z.eqv (dq t))=cs.any fun c=>decide (c.1=t):=by
  rw [List.any_map];congr 1
  funext c
  exact A74
theorem hd {a b:PSt} {D:PEnds} {e:PEnv} (h:∀ R,R=b->pSeq a R D e):pSeq a b D e:=h b rfl
theorem P5 {a b:PSt} {D:PEnds} {e:PEnv} (P:PEnv->Prop) (h1:∀ R:PSt,(∀ e',P e'->R D e')->pSeq a R D e) (h2:∀ e',P e'->b D e'):pSeq a b D e:=h1 b h2
theorem A70 {g:Int} (g0:0<=g) (g1:g < 3):∃ kd:Str,Hk kd/\L2.atI [PyData.str "from",.str "till",.str "by"] g=some (.str kd):=by
  have hg:g=0\/g=1\/g=2:=by omega
  rcases hg with rfl | rfl | rfl
  · exact ⟨_,.inl rfl,rfl⟩
  · exact ⟨_,.inr (.inl rfl),rfl⟩
  · exact ⟨_,.inr (.inr rfl),rfl⟩
def A7e (K:PySem.W.Frag):Sp:=fun vs H Q _=>∃ (a:Addr) (ns:List Int) (k:Int),vs=[.ref a,.int k]/\SqL K H a (ns.map V.int)/\0<=k/\k<=300/\∀ p H',H p=none->StAt H' p->Kp p H H'->Q (.ref p) H'
def A7l:Pu.PSp:=fun as Q=>∃ (ns:List Int) (k:Int),as=[.bor (ns.map .int),.d (.int k)]/\0<=k/\k<=300/\Q .st
theorem B79 {K:Frag}:∀ vs H Q E,spOf K [.vw,.dat] A7l vs H Q E->A7e K vs H Q E:=by
  rintro vs H Q E ⟨w,as,Qp,rfl,ok,a,⟨ns,kk,rfl,k0,k1,q⟩,k⟩;cases a with
  | vw h t=>cases t with
    | dat h' t =>
      cases t;obtain ⟨a,us,e,hS,hd⟩:=h.lst ok;subst e;rw [Den.intE h'];refine ⟨a,ns,kk,rfl,by rw [<- A4f hd]; exact hS,k0,k1,fun p H' hp S' kp=>?_⟩;have out:∀ b o,w.H b=some o->H' b=some o:=fun b o e=>kp b o (C5 e hp) e;refine k (.ref p) .st ⟨fun b=>w.M b\/b=p,H',w.F⟩ ⟨fun b o e=>out b o (ok.sub b o e),fun r hr=>?_,fun r hr=>?_⟩ ⟨⟨Same.refl _,fun b o e _=>out b o e,fun _ z=>.inl z,fun b z=>?_,fun b e=>?_⟩,fun _ _ z=>.inl z⟩ ⟨p,rfl,.inr rfl⟩ rfl q
      · rcases hr with hr | rfl
        · exact (ok.st r hr).kp (ok.mne hp hr) kp
        · exact S'
      · rcases hr with hr | rfl
        · exact ok.nf r hr
        · exact ok.fnone hp
      · rcases z with z | rfl
        · exact .inl z
        · exact .inr hp
      · cases hb:w.H b with
        | none=>rfl
        | some o=>have:=out b o hb; rw [show H' b=none from e] at this; cases this
theorem A1r {K:PySem.W.Frag} {H:Hp}:∀ ns:List Int,DenAll K H (ns.map V.int) (ns.map PyData.int)
  | []=>.nil
  | n :: r=>.cons (.int n) (A1r r)
theorem T6:∀ (n:Nat) {a:Array Nat} (b:Array Nat),(a.all fun c=>decide (c < 0x110000))=true->(b.all fun c=>decide (c < 0x110000))=true->(((List.replicate n a).foldl (·++·) b).all fun c=>decide (c < 0x110000))=true
  | 0,_,_,_,hb=>hb
  | n + 1,a,b,ha,hb=>by
    rw [List.replicate_succ,List.foldl_cons];exact T6 n (b++a) ha (by rw [Array.all_append,ha,hb]; rfl)
theorem B1b {x:Str} {n:Int} (h:(PyData.str x).canLay0=true):(PyData.str (Txt.mul x n)).canLay0=true:=by
  unfold Txt.mul;split
  · decide +kernel
  · split
    · exact h
    · exact T6 _ _ h (by decide +kernel)
def pD (v:Int × Int):PyData:=.tuple [.int v.1,.int v.2]
def qD (u:Str × Int):PyData:=.tuple [.str u.1,.int u.2]
def shD (xs:List Wk) (vs:List (Int × Int)) (us:List (Str × Int)):PyData:=.tuple [.list (xs.map kD),.list (vs.map pD),.list (us.map qD)]
structure ShOk (n:Nat) (xs:List Wk) (vs:List (Int × Int)) (us:List (Str × Int)):Prop where
  ln:xs.length=n
  n0:1<=n
  n1:n<=10
  of:∀ x ∈ xs,Kd x.2.1/\OfG x.2.1 x.2.2 100 54 244 130/\OnC x.2.2/\(x.2.1="straight"->OnP x.2.2)
  nm:∀ x ∈ xs,(PyData.str x.1).canLay0=true
  vl:vs.length<=40
  vk:∀ v ∈ vs,(0<=v.1/\v.1 < (n:Int))/\(0<=v.2/\v.2 < (n:Int))
  ul:us.length<=40
  uk:∀ u ∈ us,Hk u.1/\0<=u.2/\u.2 < (n:Int)
  vn:∀ v ∈ vs,v.1≠v.2
theorem ShOk.addV {n:Nat} {xs:List Wk} {vs:List (Int × Int)} {us:List (Str × Int)} {a b:Int} (ok:ShOk n xs vs us) (ha:0<=a/\a < (n:Int)) (hb:0<=b/\b < (n:Int)) (hv:vs.length < 40) (hne:a≠b):ShOk n xs (vs++[(a,b)]) us:=by
  refine ⟨ok.ln,ok.n0,ok.n1,ok.of,ok.nm,by rw [Ze,List.length_singleton]; omega,fun v hv'=>?_,ok.ul,ok.uk,fun v hv'=>?_⟩
  · rcases Za hv' with q | q
    · exact ok.vk v q
    · rw [Zn q]; exact ⟨ha,hb⟩
  · rcases Za hv' with q | q
    · exact ok.vn v q
    · rw [Zn q]; exact hne
theorem ShOk.addU {n:Nat} {xs:List Wk} {vs:List (Int × Int)} {us:List (Str × Int)} {a:Int} {kd:Str} (ok:ShOk n xs vs us) (ha:0<=a/\a < (n:Int)) (hk:Hk kd) (hu:us.length < 40):ShOk n xs vs (us++[(kd,a)]):=by
  refine ⟨ok.ln,ok.n0,ok.n1,ok.of,ok.nm,ok.vl,ok.vk,by rw [Ze,List.length_singleton]; omega,fun v hv'=>?_,ok.vn⟩;rcases Za hv' with q | q
  · exact ok.uk v q
  · rw [Zn q]; exact ⟨hk,ha⟩
def ltr2:Str:=Str.ofString "hcjafdibge"
theorem U6:ltr2.length=10:=by decide +kernel
theorem A58:ltr2.cps.toList.all (fun c=>decide (c < 128))=true:=by decide +kernel
theorem B1d {d:Int} (d0:0<=d) (d1:d < 8):∃ n:Nat,(1<=n/\n<=10)/\L2.atI [PyData.int 1,.int 2,.int 3,.int 4,.int 5,.int 5,.int 7,.int 10] d=some (.int (n:Int)):=by
  have hg:d=0\/d=1\/d=2\/d=3\/d=4\/d=5\/d=6\/d=7:=by omega
  rcases hg with rfl | rfl | rfl | rfl | rfl | rfl | rfl | rfl
  · exact ⟨1,by decide,rfl⟩
  · exact ⟨2,by decide,rfl⟩
  · exact ⟨3,by decide,rfl⟩
  · exact ⟨4,by decide,rfl⟩
  · exact ⟨5,by decide,rfl⟩
  · exact ⟨5,by decide,rfl⟩
  · exact ⟨7,by decide,rfl⟩
  · exact ⟨10,by decide,rfl⟩
theorem four {x:Int} (h0:0<=x) (h:x<=4):0<=Rat.divInt x 4/\Rat.divInt x 4<=1:=by
  have e:Rat.divInt 1 1 - Rat.divInt x 4=Rat.divInt (1 * 4 - x * 1) (1 * 4):=Rat.divInt_sub_divInt _ _ (by decide) (by decide);have h1:0<=Rat.divInt (1 * 4 - x * 1) (1 * 4):=P2 (by omega) (by decide);have h2:Rat.divInt 1 1=1:=by decide +kernel
  rw [<- e,h2] at h1;exact ⟨P2 h0 (by decide),by grind⟩
theorem B6s {n a b:Int} (h0:0<=a) (h1:a < n) (b0:0<=b) (b1:b < n - 1):a≠(a + 1 + b) % n:=fun h=>by
  have e:=Int.emod_add_mul_ediv (a + 1 + b) n;rw [<- h] at e;generalize (a + 1 + b) / n=q at e;rcases Int.lt_or_le 0 q with z | z
  · have:=Int.mul_le_mul_of_nonneg_left (show 1<=q by omega) (show 0<=n by omega)
    omega
  · have:=Int.mul_le_mul_of_nonneg_left z (show 0<=n by omega)
    omega
def fa (f:List (Option Rat)) (v:Nat):Option Rat:=(f[v]?).join
def O4 (q:Rat):Prop:=On (LL * 4) (2 ^ 58) q
section
variable {B a:Nat} {ws:List (Int × Int × Rat)} {hs:List (Str × Int × Rat)} {ps:List (Rat × Rat)}
end
section
variable {ws:List (Int × Int × Rat)} {hs:List (Str × Int × Rat)} {ps:List (Rat × Rat)} {W x:Rat} {i:Nat}
end
theorem B24:LL * 4<=2 ^ 100:=by decide +kernel
theorem M7 {B a:Nat} (h:B<=2 ^ a) (g:a<=1000):B<=2 ^ 1000:=Zx h (Zp (by decide) g)
section
variable (n:Nat) (vs:List (Int × Int)) (us:List (Str × Int))
end
abbrev B5:Nat:=LL * LL * 4
section
variable {n:Nat} {vs:List (Int × Int)} {us:List (Str × Int)}
end
theorem hdI {pt:PTt} {a b c:PSt} {D:PEnds} {e:PEnv} (h:∀ S,S=b->pIf pt (pSeq a S) c D e):pIf pt (pSeq a b) c D e:=h b rfl
theorem onR {B k a b:Nat} {q:Rat} (h:On B k q) (hB:0 < B) (g:k * B < 2 ^ a) (g2:B < 2 ^ b):SmR a b q:=by
  obtain ⟨z,rfl,bb⟩:=h;exact SmR.low (n:=a) (d:=b) (t:=z) (b:=(B:Int)) (Nat.lt_of_le_of_lt bb g) (by unfold Sm; rw [Int.natAbs_natCast]; exact g2) (by omega)
abbrev LnW (n:Nat) (w:Int × Int × Rat):Prop:=(0<=w.1/\w.1 < (n:Int))/\(0<=w.2.1/\w.2.1 < (n:Int))/\O4 w.2.2
abbrev LnH (n:Nat) (h:Str × Int × Rat):Prop:=Hk h.1/\(0<=h.2.1/\h.2.1 < (n:Int))/\O4 h.2.2
structure LN (xs:List Wk) (ws:List (Int × Int × Rat)) (hs:List (Str × Int × Rat)) (gs:List PyData):Prop where
  n0:1<=xs.length
  n1:xs.length<=10
  of:∀ x ∈ xs,Kd x.2.1/\OfG x.2.1 x.2.2 100 54 244 130/\OnC x.2.2
  nm:∀ x ∈ xs,(PyData.str x.1).canLay0=true
  wl:ws.length<=40
  hl:hs.length<=40
  w:∀ w ∈ ws,LnW xs.length w
  h:∀ h ∈ hs,LnH xs.length h
  g:gs=[]\/gs=[.list [.int 1,.int 0]]
theorem A0g {q:Rat} {a:Int} (h:q=(a:Rat)) (ha:a.natAbs<=2 ^ 44):On LL (2 ^ 44) q:=by rw [h]; exact B53 D9 ha
theorem lit3 {e:PEnv} {Q:SV->PEnv->Prop} (h:∀ qs:List Rat,qs.length=3->(∀ q ∈ qs,On LL (2 ^ 44) q)->Q (.own (qs.map dq)) e):pLst (F5 (pdat (pTup (F5 (pdat (pC (PyData.int 0))) (F5 (pdat (pC (PyData.int 1))) pNil)))) (F5 (pdat (pTup (F5 (pdat (pC (PyData.int 60))) (F5 (pdat (pC (PyData.int 1))) pNil)))) (F5 (pdat (pTup (F5 (pdat (pOp (pI CPow fun i j=>PyData.int (i ^ j.toNat)) (pdat (pC (PyData.int 10))) (pdat (pC (PyData.int 13))))) (F5 (pdat (pC (PyData.int 1))) pNil)))) pNil))) e Q :=
  ⟨Nat.le_of_ble_eq_true rfl,Nat.le_of_ble_eq_true rfl,T3 13,Nat.le_of_ble_eq_true rfl,Nat.le_of_ble_eq_true rfl,h [((0:Int):Rat),((60:Int):Rat),(((10:Int) ^ 13:Int):Rat)] rfl fun q hq=>by
    simp only [List.mem_cons,List.not_mem_nil,or_false] at hq;rcases hq with h | h | h
    · exact A0g h (by decide)
    · exact A0g h (by decide)
    · exact A0g h (by decide)⟩
theorem lit4 {e:PEnv} {Q:SV->PEnv->Prop} (h:∀ qs:List Rat,qs.length=4->(∀ q ∈ qs,On LL (2 ^ 44) q)->Q (.own (qs.map dq)) e):pLst (F5 (pdat (pTup (F5 (pdat (pC (PyData.int 0))) (F5 (pdat (pC (PyData.int 1))) pNil)))) (F5 (pdat (pTup (F5 (pdat (pC (PyData.int 90))) (F5 (pdat (pC (PyData.int 1))) pNil)))) (F5 (pdat (pTup (F5 (pdat (pOp (pI CPow fun i j=>PyData.int (i ^ j.toNat)) (pdat (pC (PyData.int 10))) (pdat (pC (PyData.int 13))))) (F5 (pdat (pC (PyData.int 1))) pNil)))) (F5 (pdat (pTup (F5 (pdat (pOp (pI CPow fun i j=>PyData.int (i ^ j.toNat)) (pdat (pC (PyData.int 10))) (pdat (pC (PyData.int 13))))) (F5 (pdat (pC (PyData.int 1))) pNil)))) pNil)))) e Q :=
  ⟨Nat.le_of_ble_eq_true rfl,Nat.le_of_ble_eq_true rfl,T3 13,Nat.le_of_ble_eq_true rfl,T3 13,Nat.le_of_ble_eq_true rfl,Nat.le_of_ble_eq_true rfl,h [((0:Int):Rat),((90:Int):Rat),(((10:Int) ^ 13:Int):Rat),(((10:Int) ^ 13:Int):Rat)] rfl fun q hq=>by
    simp only [List.mem_cons,List.not_mem_nil,or_false] at hq;rcases hq with h | h | h | h
    · exact A0g h (by decide)
    · exact A0g h (by decide)
    · exact A0g h (by decide)
    · exact A0g h (by decide)⟩
theorem A16 {a:Nat} {q:Rat} (h:On LL (2 ^ a) q) (ha:a<=58):O4 q:=(h.up (by decide)).p2 ha
theorem hd3 {pt:PTt} {a c:PSt} {D:PEnds} {e:PEnv} {R:PSt} (h:∀ S,S=a->pSeq (pIf pt S c) R D e):pSeq (pIf pt a c) R D e:=h a rfl
mutual
inductive CpB (b:Bool):PyData->OT->Prop
  | non:CpB b .none (.leaf .none)
  | bl (z:Bool):CpB b (.bool z) (.leaf (.bool z))
  | int (i:Int):CpB b (.int i) (.leaf (.int i))
  | str (s:Str):CpB b (.str s) (.leaf (.str s))
  | lst {xs:List PyData} {ks:List OT} {a:Addr}:CpsB b xs ks->CpB b (.list xs) (.nd true a (kids ks))
  | tupL {xs ys:List PyData} {ks:List OT}:b=false->CpsB b xs ks->(kids ks).lvs=some ys->CpB b (.tuple xs) (.leaf (.tuple ys))
  | tupN {xs:List PyData} {ks:List OT} {a:Addr}:CpsB b xs ks->(b=true\/(kids ks).lvs=none)->CpB b (.tuple xs) (.nd false a (kids ks))
inductive CpsB (b:Bool):List PyData->List OT->Prop
  | nil:CpsB b [] []
  | cons {x:PyData} {t:OT} {xs:List PyData} {ts:List OT}:CpB b x t->CpsB b xs ts->CpsB b (x :: xs) (t :: ts)
end
abbrev Cp:=CpB false
abbrev Cps:=CpsB false
theorem B1e:∀ {t:OT} {xs:List PyData},t.lvs=some xs->t.dat=xs:=fun {t xs} h=>by rw [J2 h,D3]
mutual
theorem CpB.dat {b:Bool}:∀ {x:PyData} {t:OT},CpB b x t->t.dat=[x]
  | _,_,.non=>rfl
  | _,_,.bl _=>rfl
  | _,_,.int _=>rfl
  | _,_,.str _=>rfl
  | _,_,.lst h=>by show [PyData.list _]=_; rw [CpsB.dat h]
  | _,_,.tupL _ h e=>by
    have:=CpsB.dat h;rw [B1e e] at this;rw [this]; rfl
  | _,_,.tupN h _=>by show [PyData.tuple _]=_; rw [CpsB.dat h]
theorem CpsB.dat {b:Bool}:∀ {xs:List PyData} {ks:List OT},CpsB b xs ks->(kids ks).dat=xs
  | _,_,.nil=>rfl
  | _,_,.cons (xs:=r) h t=>by
    show OT.dat _++(kids _).dat=_;rw [CpB.dat h,CpsB.dat t]; rfl
end
theorem CpsB.snoc {b:Bool} {x:PyData} {t:OT} (h:CpB b x t):∀ {xs:List PyData} {ts:List OT},CpsB b xs ts->CpsB b (xs++[x]) (ts++[t])
  | _,_,.nil=>.cons h .nil
  | _,_,.cons a b=>.cons a (CpsB.snoc h b)
theorem O2 {α:Type} {f:α->PyData} (h:∀ x t,Cp (f x) t->t=.leaf (f x)):∀ {xs:List α} {ks:List OT},Cps (xs.map f) ks->kids ks=A7 (xs.map f)
  | [],_,.nil=>rfl
  | x :: r,_,.cons a b=>by
    show OT.cons _ (kids _)=.cons (.leaf (f x)) (A7 (r.map f));rw [h x _ a,O2 h b]
theorem X6 {i:Int} {t:OT} (h:Cp (.int i) t):t=.leaf (.int i):=by cases h; rfl
theorem B76 {s:Str} {t:OT} (h:Cp (.str s) t):t=.leaf (.str s):=by cases h; rfl
theorem A4q {xs:List PyData} {t:OT} (h:Cp (.tuple xs) t) (hx:∀ ks,Cps xs ks->kids ks=A7 xs):t=.leaf (.tuple xs):=by
  cases h with
  | tupL _ h e=>rw [hx _ h,J1] at e; cases e; rfl
  | tupN h e=>rw [hx _ h,J1] at e; exact e.elim (fun z=>nomatch z) (fun z=>nomatch z)
theorem B78 (q:Rat) (t:OT) (h:Cp (dq q) t):t=.leaf (dq q):=A4q h fun ks hk=>by
  cases hk with | cons a hk=>cases hk with | cons b hk=>cases hk; rw [X6 a,X6 b]; rfl
theorem B9p (c:Int × Int × Rat) (t:OT) (h:Cp (wD c) t):t=.leaf (wD c):=A4q h fun ks hk=>by
  cases hk with | cons a hk=>cases hk with | cons b hk=>cases hk with | cons d hk=>cases hk; rw [X6 a,X6 b,B78 _ _ d]; rfl
theorem B9q (c:Str × Int × Rat) (t:OT) (h:Cp (hD c) t):t=.leaf (hD c):=A4q h fun ks hk=>by
  cases hk with | cons a hk=>cases hk with | cons b hk=>cases hk with | cons d hk=>cases hk; rw [B76 a,X6 b,B78 _ _ d]; rfl
theorem B77 {xs:List Wk} {ws:List (Int × Int × Rat)} {hs:List (Str × Int × Rat)} {gs:List PyData} {t:OT} (h:Cp (netD xs ws hs gs) t):∃ a a1 k1 a2 a3 a4 k4,t=.nd false a (.cons (.nd true a1 k1) (.cons (.nd true a2 (A7 (ws.map wD))) (.cons (.nd true a3 (A7 (hs.map hD))) (.cons (.nd true a4 k4) .nil)))):=by
  have key:∀ ks,Cps [.list (xs.map kD),.list (ws.map wD),.list (hs.map hD),.list gs] ks->∃ a1 k1 a2 a3 a4 k4,kids ks=.cons (.nd true a1 k1) (.cons (.nd true a2 (A7 (ws.map wD))) (.cons (.nd true a3 (A7 (hs.map hD))) (.cons (.nd true a4 k4) .nil))):=fun ks hk=>by
    cases hk with | cons a hk=>cases hk with | cons b hk=>cases hk with | cons c hk=>cases hk with | cons d hk =>
    cases hk;cases a with | lst a =>
    cases b with | lst b =>
    cases c with | lst c =>
    cases d with | lst d =>
    exact ⟨_,_,_,_,_,_,by show OT.cons _ (.cons _ (.cons _ (.cons _ .nil)))=_; rw [O2 B9p b,O2 B9q c]⟩
  cases h with
  | tupL _ h e =>
    obtain ⟨_,_,_,_,_,_,ek⟩:=key _ h;rw [ek] at e; cases e
  | tupN h e =>
    obtain ⟨a1,k1,a2,a3,a4,k4,ek⟩:=key _ h;exact ⟨_,a1,k1,a2,a3,a4,k4,by rw [ek]⟩
def OT.out:OT->SV
  | .leaf x=>.d x
  | t=>.tr t
theorem A7u {t:OT} {k:OT->Prop} (h:k t):(OT.out t).ot k:=by cases t <;> exact h
def A2z (n:Nat):PSp:=fun as Q=>∃ (b:Bool) (x:PyData),as=[.d x]/\okA n x/\∀ t,CpB b x t->Q (OT.out t)
theorem A2a {xs:List PyData} {ks:List OT} {p:Addr} (h:Cps xs ks):∃ t,Cp (.tuple xs) t/\OT.tup p (kids ks)=OT.out t:=by
  cases e:(kids ks).lvs with
  | none=>exact ⟨_,.tupN h (.inr e) (a:=p),by unfold OT.tup; rw [e]; rfl⟩
  | some ys=>exact ⟨_,.tupL rfl h e,by unfold OT.tup; rw [e]; rfl⟩
theorem B55 (c:Int × Int × Rat) (n:Nat):okA (n + 2) (wD c):=by
  unfold wD okA;refine ⟨Nat.le_of_ble_eq_true rfl,fun x hx=>?_⟩;simp only [List.mem_cons,List.not_mem_nil,or_false] at hx;rcases hx with rfl | rfl | rfl
  · unfold okA; exact True.intro
  · unfold okA; exact True.intro
  · exact A3t _ _
theorem U5 {z:Str} (h:(PyData.str z).canLay0=true) (n:Nat):okA n (.str z):=by cases n <;> exact h
theorem B57 {c:Str × Int × Rat} (h:Hk c.1) (n:Nat):okA (n + 2) (hD c):=by
  unfold hD okA;refine ⟨Nat.le_of_ble_eq_true rfl,fun x hx=>?_⟩;simp only [List.mem_cons,List.not_mem_nil,or_false] at hx;rcases hx with rfl | rfl | rfl
  · exact U5 h.lay _
  · unfold okA; exact True.intro
  · exact A3t _ _
theorem B56 {x:Wk} (h1:(PyData.str x.1).canLay0=true) (h2:Kd x.2.1) (h3:x.2.2.length < 1000) (n:Nat):okA (n + 5) (kD x):=by
  rw [show kD x=PyData.tuple [.str x.1,.tuple [.str x.2.1,.list (x.2.2.map dcn)]] from rfl];unfold okA;refine ⟨Nat.le_of_ble_eq_true rfl,fun y hy=>?_⟩;simp only [List.mem_cons,List.not_mem_nil,or_false] at hy;rcases hy with rfl | rfl
  · exact U5 h1 _
  · unfold okA
    refine ⟨Nat.le_of_ble_eq_true rfl,fun z hz=>?_⟩;simp only [List.mem_cons,List.not_mem_nil,or_false] at hz;rcases hz with rfl | rfl
    · exact U5 h2.lay _
    · exact A7w h3 n
theorem A3s {xs:List Wk} {ws:List (Int × Int × Rat)} {hs:List (Str × Int × Rat)} {gs:List PyData} (h1:∀ x ∈ xs,(PyData.str x.1).canLay0=true/\Kd x.2.1/\x.2.2.length < 1000) (hl:xs.length < 1000) (hw:ws.length < 1000) (hh:hs.length < 1000) (hk:∀ h ∈ hs,Hk h.1) (hg:okA 7 (.list gs)):okA 8 (netD xs ws hs gs):=by
  unfold netD okA;refine ⟨Nat.le_of_ble_eq_true rfl,fun y hy=>?_⟩;simp only [List.mem_cons,List.not_mem_nil,or_false] at hy;rcases hy with rfl | rfl | rfl | rfl
  · unfold okA
    refine ⟨by rw [Zl]; exact hl,fun z hz=>?_⟩;obtain ⟨x,hx,rfl⟩:=List.mem_map.mp hz;exact B56 (h1 x hx).1 (h1 x hx).2.1 (h1 x hx).2.2 1
  · unfold okA
    refine ⟨by rw [Zl]; exact hw,fun z hz=>?_⟩;obtain ⟨x,hx,rfl⟩:=List.mem_map.mp hz;exact B55 x 4
  · unfold okA
    refine ⟨by rw [Zl]; exact hh,fun z hz=>?_⟩;obtain ⟨x,hx,rfl⟩:=List.mem_map.mp hz;exact B57 (hk x hx) 4
  · exact hg
theorem A7v:okA 7 (.list []):=by unfold okA; exact ⟨Nat.le_of_ble_eq_true rfl,fun z hz=>nomatch hz⟩
theorem Q2:∀ {xs:List PyData},(∀ x ∈ xs,x.canLay0=true)->PyData.canLayAll0 xs=true
  | [],_=>rfl
  | x :: r,h=>by
    show (x.canLay0 && PyData.canLayAll0 r)=true;rw [h x Zy,Q2 fun y hy=>h y (Zr _ hy)]; rfl
theorem U9 {n:Nat}:∀ {xs:List PyData},(∀ x ∈ xs,x.depth<=n)->PyData.depthAll xs<=n
  | [],_=>Nat.zero_le _
  | x :: r,h=>by
    show max x.depth (PyData.depthAll r)<=n;exact Nat.max_le.mpr ⟨h x Zy,U9 fun y hy=>h y (Zr _ hy)⟩
theorem L4:∀ (n:Nat) {x:PyData},okA n x->x.canLay0=true/\x.depth<=n
  | n,.none,_=>⟨rfl,Nat.zero_le _⟩
  | n,.bool _,_=>⟨rfl,Nat.zero_le _⟩
  | n,.int _,_=>⟨rfl,Nat.zero_le _⟩
  | n,.str _,h=>⟨by cases n <;> exact h,Nat.zero_le _⟩
  | n,.dict _,h=>by cases n <;> exact h.elim
  | 0,.list _,h=>h.elim
  | 0,.tuple _,h=>h.elim
  | n + 1,.list xs,h=>⟨Q2 fun x hx=>(L4 n (h.2 x hx)).1,Nat.succ_le_succ (U9 fun x hx=>(L4 n (h.2 x hx)).2)⟩
  | n + 1,.tuple xs,h=>⟨Q2 fun x hx=>(L4 n (h.2 x hx)).1,Nat.succ_le_succ (U9 fun x hx=>(L4 n (h.2 x hx)).2)⟩
theorem B7u {t:OT} {x:PyData} {a b:Addr} {xs:List PyData} (h:t.dat=[x]):(OT.nd true a (.cons t (.cons (.nd true b (A7 xs)) .nil))).dat=[.list [x,.list xs]]:=by
  show [PyData.list (t.dat++([PyData.list (A7 xs).dat]++[]))]=_;rw [D3,h]; rfl
theorem A1f {kd:Str} {cs:List (Rat × Rat)} {t:Rat} (hk:Kd kd) (h1:1<=cs.length) (h:offB kd cs t=true):Off kd cs t:=by
  unfold offB at h;rcases hk with z | z
  · have z:kd="straight":=z
    subst z;rw [if_neg (Ne.symm A38),Bool.and_eq_true] at h;refine ⟨fun e=>absurd e.symm A38,fun _=>⟨_,_,A4j h1,A31 h1,?_,?_⟩⟩
    · simpa using h.1
    · simpa using h.2
  · have z:kd="steps":=z
    subst z;rw [if_pos rfl] at h;obtain ⟨c,hc,e⟩:=List.any_eq_true.mp h;exact ⟨fun _=>⟨c,hc,of_decide_eq_true e⟩,fun e=>absurd e A38⟩
theorem A5z {kd:Str} {cs:List (Rat × Rat)} {t:Rat} (hk:Kd kd) (h1:1<=cs.length) (h:Off kd cs t):offB kd cs t=true:=by
  unfold offB;rcases hk with z | z
  · have z:kd="straight":=z
    subst z;rw [if_neg (Ne.symm A38),Bool.and_eq_true];obtain ⟨c0,cl,e0,el,q1,q2⟩:=h.sr rfl;rw [A4j h1] at e0; rw [A31 h1] at el;cases e0; cases el;simp;exact ⟨q1,q2⟩
  · have z:kd="steps":=z
    subst z;rw [if_pos rfl];obtain ⟨c,hc,e⟩:=h.st rfl;exact List.any_eq_true.mpr ⟨c,hc,Zk e⟩
theorem B52 {kd:Str} {cs:List (Rat × Rat)} {t p:Rat} {D:Nat} (hk:Kd kd) (h1:1<=cs.length) (dc:Dec cs) (hD:0 < D) (oc:OnC cs) (op:kd="straight"->OnP cs) (ot:On (LL * D) (2 ^ 72) t) (of:offB kd cs t=true) (h:Price cs t p):On (LL * (LL * D)) (2 ^ 120) p:=by
  have hLD:0 < LL * D:=Nat.mul_pos D9 hD;have hB:0 < LL * (LL * D):=Nat.mul_pos D9 hLD;have two:∀ c ∈ cs,On (LL * (LL * D)) (2 ^ 90) c.2:=fun c hc=>by rw [<- Nat.mul_assoc]; exact (oc c hc).2.up hD
  obtain ⟨A,b,r,e,f,hb,h⟩:=h;have eb:cs[A.length]?=some b:=by rw [e]; exact A2l
  rcases h with ⟨h1,rfl⟩ | ⟨h1',A',l,eA,rfl⟩
  · exact (two b (Zm eb)).p2 (by decide)
  · have el:cs[A'.length]?=some l:=by rw [e,eA]; exact A35
    have eb':cs[A'.length + 1]?=some b:=by rw [<- eb,eA]; simp
    have st:kd="straight":=by
      rcases hk with z | z
      · exact z
      · exfalso
        obtain ⟨c,hc,ec⟩:=(A1f (.inr z) h1 of).st z;obtain ⟨j,hj⟩:=List.mem_iff_getElem?.mp hc;rcases Nat.lt_trichotomy j A.length with q | q | q
        · have:c ∈ A:=by rw [e,List.getElem?_append_left q] at hj; exact Zm hj
          have:c ∈ cs.filter fun c=>decide (t < c.1):=by rw [f]; exact this
          have:=(List.mem_filter.mp this).2;simp at this;grind
        · subst q; rw [eb] at hj; cases hj; grind
        · have:=dc.get eb hj q
          grind
    have o1:=op st _ l b el eb';have o2:On (LL * D) (2 ^ 73) (l.1 - t):=(((oc l (Zm el)).1.up hD).p2 (b:=72) (by decide)).sub2 hLD ot (by decide);have o3:=o1.mul o2;rw [<- Nat.pow_add] at o3;exact ((two l (Zm el)).p2 (b:=118) (by decide)).add2 hB o3 (by decide)
theorem kz3b:∀ z ∈ [("straight":Str),"steps","steps"],Kd z:=fun z hz=>by
  simp only [List.mem_cons,List.not_mem_nil,or_false] at hz;rcases hz with rfl | rfl | rfl
  · exact .inl rfl
  · exact .inr rfl
  · exact .inr rfl
theorem B58:okA 7 (.list [.list [.int 1,.int 0]]):=by
  unfold okA;refine ⟨Nat.le_of_ble_eq_true rfl,fun z hz=>?_⟩;rw [Zn hz];unfold okA;refine ⟨Nat.le_of_ble_eq_true rfl,fun z hz=>?_⟩;simp only [List.mem_cons,List.not_mem_nil,or_false] at hz;rcases hz with rfl | rfl <;> (unfold okA; exact True.intro)
theorem A06 {cs:List (Rat × Rat)} {t p:Rat} {i:Nat} {c:Rat × Rat} (dec:Dec cs) (ec:cs[i]?=some c) (hn:∀ j d,j < i->cs[j]?=some d->t < d.1) (hc:c.1<=t) (h:(c.1=t/\p=c.2)\/(c.1 < t/\∃ d,0 < i/\cs[i - 1]?=some d/\p=A5y d c t)):Price cs t p:=by
  obtain ⟨hi,e⟩:=Zs ec;have e1:cs=cs.take i++c :: cs.drop (i + 1):=by rw [<- e,List.getElem_cons_drop,List.take_append_drop]
  have g1:(cs.take i).filter (fun c=>decide (t < c.1))=cs.take i:=List.filter_eq_self.mpr fun d hd=>by
    obtain ⟨j,hj,ej⟩:=List.getElem_of_mem hd;rw [List.length_take] at hj;rw [List.getElem_take] at ej;exact Zk (hn j d (by omega) (by rw [Zg (by omega),ej]))
  have g2:(cs.drop (i + 1)).filter (fun c=>decide (t < c.1))=[]:=List.filter_eq_nil_iff.mpr fun d hd=>by
    obtain ⟨j,hj,ej⟩:=List.getElem_of_mem hd;rw [List.length_drop] at hj;rw [List.getElem_drop] at ej;have:=dec.get ec (show cs[i + 1 + j]?=some d by rw [Zg (by omega),ej]) (by omega);have:¬ t < d.1:=by grind
    simpa using this
  have f1:cs.filter (fun c=>decide (t < c.1))=cs.take i:=by
    have:¬ t < c.1:=by grind
    conv=>lhs; rw [e1]
    rw [List.filter_append,List.filter_cons,if_neg (by simpa using this),g1,g2,List.append_nil]
  refine ⟨cs.take i,c,cs.drop (i + 1),e1,f1,hc,h.imp id fun ⟨h1,d,i0,ed,hp⟩=>⟨h1,cs.take (i - 1),d,?_,hp⟩⟩;have:i=(i - 1) + 1:=by omega
  conv=>lhs; rw [this]
  rw [List.take_add_one,ed]; rfl
def NTm (T:OT) (xs:List Wk) (ws:List (Int × Int × Rat)) (hs:List (Str × Int × Rat)):Prop:=∃ u0 u1 u2,T.part 0=some u0/\u0.sv=.bor (xs.map kD)/\T.part 1=some u1/\u1.sv=.bor (ws.map wD)/\T.part 2=some u2/\u2.sv=.bor (hs.map hD)
def fxT (n:Str) (t p:Rat) (b1 b2 b3:Addr):OT:=.nd false b1 (.cons (.leaf (.str n)) (.cons (.nd false b2 (.cons (.leaf (.str (Str.ofString "straight"))) (.cons (.nd true b3 (A7 [dcn (t,p)])) .nil))) .nil))
def FxT (xs:List Wk) (ts:List Rat) (ks:List OT) (i:Nat):Prop:=ks.length=i/\∀ (j:Nat) x t,j < i->xs[j]?=some x->ts[j]?=some t->∃ p b1 b2 b3,Price x.2.2 t p/\ks[j]?=some (fxT x.1 t p b1 b2 b3)
theorem FxT.snoc {xs:List Wk} {ts:List Rat} {ks:List OT} {i:Nat} {x:Wk} {t p:Rat} {b1 b2 b3:Addr} (h:FxT xs ts ks i) (hx:xs[i]?=some x) (ht:ts[i]?=some t) (hp:Price x.2.2 t p):FxT xs ts (ks++[fxT x.1 t p b1 b2 b3]) (i + 1):=by
  obtain ⟨hl,h⟩:=h;refine ⟨by rw [Ze,hl]; rfl,fun j y s hj hy hs=>?_⟩;by_cases z:j < i
  · obtain ⟨p',c1,c2,c3,h1,h2⟩:=h j y s z hy hs
    exact ⟨p',c1,c2,c3,h1,by rw [List.getElem?_append_left (by omega)]; exact h2⟩
  · have:j=i:=by omega
    subst this;rw [hx] at hy; cases hy;rw [ht] at hs; cases hs;exact ⟨p,b1,b2,b3,hp,by rw [List.getElem?_append_right (by omega),show j - ks.length=0 by omega]; rfl⟩
theorem A36:∀ {ks:List OT} {ys:List Wk},ks.length=ys.length->(∀ (j:Nat) k y,ks[j]?=some k->ys[j]?=some y->k.dat=[kD y])->(kids ks).dat=ys.map kD
  | [],[],_,_=>rfl
  | k :: ks,y :: ys,hl,h=>by
    show k.dat++(kids ks).dat=kD y :: ys.map kD;rw [h 0 k y rfl rfl,A36 (Nat.succ.inj hl) fun j k y hk hy=>h (j + 1) k y hk hy]; rfl
def DuW (xs:List Wk) (ts:List Rat) (ys:List Wk) (i:Nat):Prop:=ys.length=i/\∀ (j:Nat) x t,j < i->xs[j]?=some x->ts[j]?=some t->∃ p,Price x.2.2 t p/\ys[j]?=some (x.1,Str.ofString "straight",[(t,p)])
theorem DuW.snoc {xs:List Wk} {ts:List Rat} {ys:List Wk} {i:Nat} {x:Wk} {t p:Rat} (h:DuW xs ts ys i) (hx:xs[i]?=some x) (ht:ts[i]?=some t) (hp:Price x.2.2 t p):DuW xs ts (ys++[(x.1,Str.ofString "straight",[(t,p)])]) (i + 1):=by
  obtain ⟨hl,h⟩:=h;refine ⟨by rw [Ze,hl]; rfl,fun j y s hj hy hs=>?_⟩;by_cases z:j < i
  · obtain ⟨p',h1,h2⟩:=h j y s z hy hs
    exact ⟨p',h1,by rw [List.getElem?_append_left (by omega)]; exact h2⟩
  · have:j=i:=by omega
    subst this;rw [hx] at hy; cases hy;rw [ht] at hs; cases hs;exact ⟨p,hp,by rw [List.getElem?_append_right (by omega),show j - ys.length=0 by omega]; rfl⟩
theorem A71 {n:Str} {t p:Rat} {b1 b2 b3:Addr}:(fxT n t p b1 b2 b3).dat=[kD (n,Str.ofString "straight",[(t,p)])]:=rfl
theorem B7v {xs:List Wk} {ts:List Rat} {ks:List OT} {ys:List Wk} {n:Nat} (hf:FxT xs ts ks n) (hd:DuW xs ts ys n) (hx:n=xs.length) (ht:n=ts.length) {j:Nat} {k:OT} {y:Wk} (hk:ks[j]?=some k) (hy:ys[j]?=some y):∃ nm t p b1 b2 b3,k=fxT nm t p b1 b2 b3/\y=(nm,Str.ofString "straight",[(t,p)]):=by
  have lj:=(Zs hk).1;rw [hf.1] at lj;obtain ⟨x,ex⟩:∃ x,xs[j]?=some x:=⟨_,Zg (by omega)⟩;obtain ⟨t,et⟩:∃ t,ts[j]?=some t:=⟨_,Zg (by omega)⟩;obtain ⟨p,b1,b2,b3,h1,h2⟩:=hf.2 j x t lj ex et;obtain ⟨p',h3,h4⟩:=hd.2 j x t lj ex et;cases h1.uniq h3;rw [hk] at h2; rw [hy] at h4;exact ⟨_,_,_,_,_,_,Zj h2,Zj h4⟩
theorem B2m {xs:List Wk} {ts:List Rat} {ks:List OT} {ys:List Wk} {n:Nat} (hf:FxT xs ts ks n) (hd:DuW xs ts ys n) (hx:n=xs.length) (ht:n=ts.length):(kids ks).dat=ys.map kD :=
  A36 (hf.1.trans hd.1.symm) fun j k y hk hy=>by
    obtain ⟨_,_,_,_,_,_,rfl,rfl⟩:=B7v hf hd hx ht hk hy;exact A71
structure GN (xs:List Wk) (ws:List (Int × Int × Rat)) (hs:List (Str × Int × Rat)) (gs:List PyData) (ts:List Rat):Prop where
  ln:LN xs ws hs gs
  op:∀ x ∈ xs,x.2.1="straight"->OnP x.2.2
  tl:ts.length=xs.length
  ot:∀ t ∈ ts,On (LL * 4) (2 ^ 50) t
  off:∀ (i:Nat) x t,xs[i]?=some x->ts[i]?=some t->Off x.2.1 x.2.2 t
theorem GN.set {xs:List Wk} {ws:List (Int × Int × Rat)} {hs:List (Str × Int × Rat)} {gs:List PyData} {ts:List Rat} (g:GN xs ws hs gs ts) {y:Wk} {c:Rat × Rat} (hy:xs[1]?=some y) (hk:y.2.1="steps") (hc:c ∈ y.2.2):GN xs ws hs gs (ts.set 1 c.1):=by
  refine ⟨g.ln,g.op,by rw [List.length_set]; exact g.tl,fun t ht=>?_,fun i x t hx ht=>?_⟩
  · rcases List.mem_or_eq_of_mem_set ht with h | rfl
    · exact g.ot t h
    · exact (((g.ln.of y (Zm hy)).2.2 c hc).1.up (C:=4) (by decide)).mono (by decide)
  · rw [List.getElem?_set] at ht
    split at ht
    · rename_i z; subst z
      rw [hy] at hx; cases hx;split at ht
      · cases ht
        exact ⟨fun _=>⟨c,hc,rfl⟩,fun z=>by rw [hk] at z; exact absurd z (by decide +kernel)⟩
      · cases ht
    · exact g.off i x t hx ht
theorem GN.two {xs:List Wk} {ws:List (Int × Int × Rat)} {hs:List (Str × Int × Rat)} {gs:List PyData} {ts:List Rat} (g:GN xs ws hs gs ts) {x y:Wk} {t:Rat} (hx:xs[0]?=some x) (hy:xs[1]?=some y) (ht:ts[0]?=some t):GN (x :: (y.1,x.2) :: xs.drop 2) ws hs [] (ts.set 1 t):=by
  have l2:=(Zs hy).1;have le:(x :: (y.1,x.2) :: xs.drop 2).length=xs.length:=by rw [List.length_cons,List.length_cons,List.length_drop]; omega
  have mx:=Zm hx;have my:=Zm hy;refine ⟨⟨by rw [le]; exact g.ln.n0,by rw [le]; exact g.ln.n1,fun z hz=>?_,fun z hz=>?_,g.ln.wl,g.ln.hl,by rw [le]; exact g.ln.w,by rw [le]; exact g.ln.h,.inl rfl⟩,fun z hz=>?_,by rw [le,List.length_set]; exact g.tl,fun s hs=>?_,fun i z s hz hs=>?_⟩
  · rcases List.mem_cons.mp hz with rfl | hz
    · exact g.ln.of z mx
    · rcases List.mem_cons.mp hz with rfl | hz
      · exact g.ln.of x mx
      · exact g.ln.of z (List.mem_of_mem_drop hz)
  · rcases List.mem_cons.mp hz with rfl | hz
    · exact g.ln.nm z mx
    · rcases List.mem_cons.mp hz with rfl | hz
      · exact g.ln.nm y my
      · exact g.ln.nm z (List.mem_of_mem_drop hz)
  · rcases List.mem_cons.mp hz with rfl | hz
    · exact g.op z mx
    · rcases List.mem_cons.mp hz with rfl | hz
      · exact g.op x mx
      · exact g.op z (List.mem_of_mem_drop hz)
  · rcases List.mem_or_eq_of_mem_set hs with h | rfl
    · exact g.ot s h
    · exact g.ot s (Zm ht)
  · match i,hz,hs with
    | 0,hz,hs =>
      cases hz;rw [List.getElem?_set,if_neg (by decide),ht] at hs;cases hs;exact g.off 0 x t hx ht
    | 1,hz,hs =>
      cases hz;rw [List.getElem?_set,if_pos rfl,if_pos (by rw [g.tl]; exact l2)] at hs;cases hs;exact g.off 0 x t hx ht
    | i + 2,hz,hs =>
      rw [List.getElem?_set,if_neg (by omega)] at hs;have hz':(xs.drop 2)[i]?=some z:=hz;rw [List.getElem?_drop] at hz';exact g.off (i + 2) z s (by rw [Nat.add_comm]; exact hz') hs
theorem B2o {α β:Type} {f:α->PyData} {g:β->PyData} {xs:List α} {zs:List β} {pg:PyData->PEnv->(PEnv->Prop)->Prop} {pb:PSt} {D:PEnds} {env:PEnv} (Iv:Nat->PEnv->Prop) (h0:Iv 0 env)
    (hs:∀ (i:Nat) a b e,xs[i]?=some a->zs[i]?=some b->Iv i e->pg (.tuple [f a,g b]) e fun e2=>pb ⟨Iv (i + 1),D.rt,D.nx,Iv (i + 1)⟩ e2) (hd:∀ e,Iv (min xs.length zs.length) e->D.nx e):A1b (zipD (xs.map f) (zs.map g)) pg pb D env:=by
  refine ⟨Iv,h0,fun i x e hx hi=>?_,fun e h=>hd e (by rwa [A0t,List.length_map,List.length_map] at h)⟩;obtain ⟨a,b,ha,hb,rfl⟩:=A45 hx;rw [Zh] at ha hb;obtain ⟨a',ha',rfl⟩:=Zo ha;obtain ⟨b',hb',rfl⟩:=Zo hb;exact hs i a' b' e ha' hb' hi
theorem B0i {kd:Str} {cs:List (Rat × Rat)} (h2:Kd kd) (h3:cs.length < 1000):okA 8 (.tuple [.str kd,.list (cs.map dcn)]):=by
  unfold okA;refine ⟨Nat.le_of_ble_eq_true rfl,fun z hz=>?_⟩;simp only [List.mem_cons,List.not_mem_nil,or_false] at hz;rcases hz with rfl | rfl
  · exact U5 h2.lay _
  · exact A7w h3 4
theorem B2n {t:OT} {x:PyData} {k:SV->Prop} (h:t.dat=[x]) (q:k (.d x)):frOf (OT.out t) k:=by
  cases t with
  | leaf y=>cases h; exact q
  | nd b a c=>exact U8 h q
  | nil=>exact U8 h q
  | cons a b=>exact U8 h q
theorem A73 {a0 a1 a2 a3 a4:Addr} {k:OT} {ys:List Wk} {ws:List (Int × Int × Rat)} {hs:List (Str × Int × Rat)} (h:k.dat=ys.map kD):(OT.nd false a0 (.cons (.nd true a1 k) (.cons (.nd true a2 (A7 (ws.map wD))) (.cons (.nd true a3 (A7 (hs.map hD))) (.cons (.nd true a4 .nil) .nil))))).dat=[netD ys ws hs []]:=by
  show [PyData.tuple ([PyData.list k.dat]++([PyData.list (A7 (ws.map wD)).dat]++([PyData.list (A7 (hs.map hD)).dat]++([PyData.list []]++[]))))]=_;rw [D3,D3,h]; rfl
theorem B9o {xs:List Wk} {ts:List Rat} {ys:List Wk} {n:Nat} (hd:DuW xs ts ys n) (hx:n=xs.length) (ht:n=ts.length) (nm:∀ x ∈ xs,(PyData.str x.1).canLay0=true) (y:Wk) (hy:y ∈ ys):(PyData.str y.1).canLay0=true/\Kd y.2.1/\y.2.2.length < 1000:=by
  obtain ⟨j,hj,e⟩:=List.getElem_of_mem hy;have lj:=hj;rw [hd.1] at lj;obtain ⟨x,ex⟩:∃ x,xs[j]?=some x:=⟨_,Zg (by omega)⟩;obtain ⟨t,et⟩:∃ t,ts[j]?=some t:=⟨_,Zg (by omega)⟩;obtain ⟨p,_,h4⟩:=hd.2 j x t lj ex et;rw [Zg hj,e] at h4;cases Zj h4;exact ⟨nm x (Zm ex),.inl rfl,Nat.le_of_ble_eq_true rfl⟩
theorem A6v {xs:List PyData} (h:2<=xs.length):cutD xs (some 2) none=xs.drop 2:=by
  unfold cutD;have e1:HT.sIx xs.length 0 (some 2)=2:=by unfold HT.sIx; simp; omega
  have e2:HT.sIx xs.length xs.length none=xs.length:=rfl;rw [e1,e2];exact List.take_of_length_le (by rw [List.length_drop]; exact Zv _)
theorem A6w {x:PyData} {l:List PyData}:cutD (x :: l) (some 1) none=l:=by
  unfold cutD;have e1:HT.sIx (x :: l).length 0 (some 1)=1:=by unfold HT.sIx; simp
  have e2:HT.sIx (x :: l).length (x :: l).length none=(x :: l).length:=rfl;rw [e1,e2];exact List.take_of_length_le (Zv _)
theorem X5 {y:PyData} {l:List PyData}:cutD (l++[y]) none (some (-1))=l:=by
  unfold cutD;have e1:HT.sIx (l++[y]).length 0 none=0:=rfl;have e2:HT.sIx (l++[y]).length (l++[y]).length (some (-1))=l.length:=by unfold HT.sIx; simp; omega
  rw [e1,e2];show (l++[y]).take (l.length - 0)=l;rw [Nat.sub_zero,List.take_left]
theorem B9l {n:Nat} (h:0 < n):ixN n 0=some 0:=by unfold ixN; simp; omega
theorem B7p {n:Nat} (h:1 < n):ixN n 1=some 1:=by unfold ixN; simp; omega
section
variable {P:Program} {w:World} {K:PySem.W.Frag} {mg:Str->Option Value} {base:Heap} {D:Adr}
theorem F7 (T:Txt K mg D):FnOk P w K mg base CX0 1 D.a_commonpart D.d_commonpart ["one","other"] (Pu.spOf K [.dat,.dat] B32):=by
  refine T.B.F_commonpart.ok sc_commonpart (Zz rfl) (fun cdv A outer s H vs Q E hr h=>?_);refine ⟨_,(QSs.out (A5 (P6 (i:=0) (j:=1) rfl sc_commonpart.nd rfl rfl (by decide) rfl rfl (A0 (D0 Y4 (by rfl) T.z_abs (by rfl) (A0 (qpv 0) A4)) (A0 (D0 Y4 (by rfl) T.z_abs (by rfl) (A0 (qpv 1) A4)) A4)) rfl)
      (A5 (W4 Zf (B1 (I0 (K:=K) rfl hr.units) (qpv 1) A3 (B7 _))
        (A6 (P6 (i:=0) (j:=1) rfl sc_commonpart.nd rfl rfl (by decide) rfl rfl (A0 (qpv 1) (A0 (B0 M1 (qpv 0) (qpv 1)) A4)) rfl)))
      (A6 (B2 (qpv 0)))))),?_⟩
  refine Pu.F1 h ?_;rintro as Qp ⟨a,b,rfl,k⟩;trivial;refine ⟨fun m e=>∃ x y:Int,e=[some (.d (.int x)),some (.d (.int y))]/\0<=x/\0<=y/\m=y.toNat/\Int.gcd x y=Int.gcd a b,⟨_,_,_,rfl,by split <;> omega,by split <;> omega,rfl,B2l a b⟩,?_⟩
  rintro m e ⟨x,y,rfl,hx,hy,rfl,hg⟩;trivial;refine ite2 (fun e=>?_) (fun hn=>?_)
  · subst e
    have:=A1o x hx;rw [hg] at this;rw [<- this]; exact k
  · have h1:=Int.emod_lt_of_pos x (show 0 < y by omega)
    have h2:=Int.emod_nonneg x hn;exact ⟨by omega,(x % y).toNat,by omega,y,x % y,rfl,hy,h2,rfl,by rw [A4i,hg]⟩
theorem A3k (T:Txt K mg D):FnOk P w K mg base CX0 2 D.a_plus D.d_plus ["one","other"] (Pu.spOf K [.dat,.dat] (S4 (·+·))):=by
  refine T.B.F_plus.ok sc_plus (Zz rfl) (fun cdv A outer s H vs Q E hr h=>?_);refine ⟨_,(QSs.out (A5 (qst 2 sc_plus (qcK (F7 (K:=K) T) hr.mo (G5 T) (A0 (qix K (qpv 0) A3) (A0 (qix K (qpv 1) A3) A4))))
      (A5 (P6 (i:=3) (j:=4) rfl sc_plus.nd rfl rfl (by decide) rfl rfl (A0 (B0 D6 (qix K (qpv 0) A3) (qpv 2)) (A0 (B0 D6 (qix K (qpv 1) A3) (qpv 2)) A4)) rfl)
      (A5 (qst 5 sc_plus (B0 D5 (B0 C3 (qix K (qpv 0) A3) (qpv 4)) (B0 C3 (qix K (qpv 1) A3) (qpv 3))))
      (A5 (qst 6 sc_plus (qcK (F7 (K:=K) T) hr.mo (G5 T) (A0 (qpv 5) (A0 (qpv 2) A4))))
      (A6 (B2 (B3 (A0 (B0 D6 (qpv 5) (qpv 6)) (A0 (B0 C3 (qpv 3) (B0 D6 (qix K (qpv 1) A3) (qpv 6))) A4)))))))))),?_⟩
  refine Pu.F1 h ?_;rintro as Qp ⟨p,q,rfl,sp,sq,k⟩;trivial;refine ⟨_,_,rfl,?_⟩;trivial;have p2:=sp.2.mono (l:=8000) (by decide);have q2:=sq.2.mono (l:=8000) (by decide);have g0:=O0 (t:=(p.den:Int)) q;have gs:=W1 (t:=(p.den:Int)) q2 (den0 q);have gn:(0:Int)<=((Int.gcd (p.den:Int) (q.den:Int):Nat):Int):=Int.natCast_nonneg _;refine ⟨⟨g0,gs⟩,⟨g0,gs⟩,⟨sp.1.mono (by decide),X3 q2 gn⟩,⟨sq.1.mono (by decide),X3 p2 gn⟩,_,_,rfl,?_⟩;trivial;refine ⟨⟨A1p g0,W1 gs g0⟩,⟨A1p g0,W1 gs g0⟩,⟨X3 p2 gn,X3 q2 (Int.natCast_nonneg _)⟩,?_⟩;obtain ⟨e1,e2⟩:=A85 p q _ _ rfl rfl;rw [e1,e2]; exact k
theorem U4 (T:Txt K mg D):FnOk P w K mg base CX0 3 D.a_minus D.d_minus ["one","other"] (Pu.spOf K [.dat,.dat] (S4 (·-·))):=by
  refine T.B.F_minus.ok sc_minus (Zz rfl) (fun cdv A outer s H vs Q E hr h=>?_);refine ⟨_,(QSs.out (A6 (B2 (qcK (A3k (K:=K) T) hr.mo (A75 T) (A0 (qpv 0) (A0 (B3 (A0 (S2 R7 (qix K (qpv 1) A3)) (A0 (qix K (qpv 1) A3) A4))) A4)))))),?_⟩;refine Pu.F1 h ?_;rintro as Qp ⟨p,q,rfl,sp,sq,k⟩;trivial;rw [B71];refine ⟨_,_,rfl,sp,⟨by have:=sq.1; unfold Sm at *; show (-q.num).natAbs < _; omega,sq.2⟩,?_⟩;show Qp (.d (dq (p + -q)));rw [<- Rat.sub_eq_add_neg]; exact k
theorem S7 (T:Txt K mg D):FnOk P w K mg base CX0 2 D.a_product D.d_product ["one","other"] (Pu.spOf K [.dat,.dat] (S4 (·*·))):=by
  refine T.B.F_product.ok sc_product (Zz rfl) (fun cdv A outer s H vs Q E hr h=>?_);refine ⟨_,(QSs.out (A5 (P6 (i:=2) (j:=3) rfl sc_product.nd rfl rfl (by decide) rfl rfl (A0 (qcK (F7 (K:=K) T) hr.mo (G5 T) (A0 (qix K (qpv 0) A3) (A0 (qix K (qpv 1) A3) A4))) (A0 (qcK (F7 (K:=K) T) hr.mo (G5 T) (A0 (qix K (qpv 1) A3) (A0 (qix K (qpv 0) A3) A4))) A4)) rfl)
      (A6 (B2 (B3 (A0 (B0 C3 (B0 D6 (qix K (qpv 0) A3) (qpv 2)) (B0 D6 (qix K (qpv 1) A3) (qpv 3))) (A0 (B0 C3 (B0 D6 (qix K (qpv 0) A3) (qpv 3)) (B0 D6 (qix K (qpv 1) A3) (qpv 2))) A4))))))),?_⟩
  refine Pu.F1 h ?_;rintro as Qp ⟨p,q,rfl,sp,sq,k⟩;trivial;refine ⟨_,_,rfl,?_⟩;trivial;refine ⟨_,_,rfl,?_⟩;trivial;have p1:=sp.1.mono (l:=8000) (by decide);have q1:=sq.1.mono (l:=8000) (by decide);have p2:=sp.2.mono (l:=8000) (by decide);have q2:=sq.2.mono (l:=8000) (by decide);have g0:=O0 (t:=p.num) q;have gs:=W1 (t:=p.num) q2 (den0 q);have h0:=O0 (t:=q.num) p;have hs:=W1 (t:=q.num) p2 (den0 p);refine ⟨⟨g0,gs⟩,⟨h0,hs⟩,⟨X3 p1 (Int.natCast_nonneg _),X3 q1 (Int.natCast_nonneg _)⟩,⟨h0,hs⟩,⟨g0,gs⟩,⟨X3 p2 (Int.natCast_nonneg _),X3 q2 (Int.natCast_nonneg _)⟩,?_⟩;rw [B6u,B6v]; exact k
theorem A3l (T:Txt K mg D):FnOk P w K mg base CX0 3 D.a_parted D.d_parted ["one","other"] (Pu.spOf K [.dat,.dat] A2x):=by
  refine T.B.F_parted.ok sc_parted (Zz rfl) (fun cdv A outer s H vs Q E hr h=>?_);refine ⟨_,(QSs.out (A5 (M3 (qpv 1) (J7 (K:=K) (n:=2) rfl rfl (C6 (qgn 2 sc_parted) (C6 (qgn 3 sc_parted) J6)) rfl rfl))
      (A5 (D2 (B1 (D4 (K:=K) rfl hr.units) (qpv 2) A3 (B7 _))
        (A6 W5)
        C2)
      (A6 (B2 (qcK (S7 (K:=K) T) hr.mo (Z0 T) (A0 (qpv 0) (A0 (A2u (B1 R1 (qpv 2) A3 (B7 _)) (B3 (A0 (qpv 3) (A0 (qpv 2) A4))) (B3 (A0 (S2 R7 (qpv 3)) (A0 (S2 R7 (qpv 2)) A4)))) A4)))))))),?_⟩
  refine Pu.F1 h ?_;rintro as Qp ⟨p,q,rfl,sp,sq,hq,k⟩;trivial;rw [if_neg (A3y hq)];have e:=A4e hq;have kk:Qp (.d (dq (p * q⁻¹))):=by rw [<- Rat.div_def]; exact k
  refine ite2 (fun h=>?_) (fun h=>?_)
  · rw [if_pos h,if_pos h] at e
    trivial;rw [<- e];exact ⟨_,_,rfl,sp,A7z sq hq,kk⟩
  · rw [if_neg h,if_neg h] at e
    trivial;rw [<- e];exact ⟨_,_,rfl,sp,A7z sq hq,kk⟩
theorem P8 (T:Txt K mg D):FnOk P w K mg base CX0 1 D.a_isless D.d_isless ["one","other"] (Pu.spOf K [.dat,.dat] A2y):=by
  refine T.B.F_isless.ok sc_isless (Zz rfl) (fun cdv A outer s H vs Q E hr h=>?_);refine ⟨_,(QSs.out (A6 (B2 (J9 A14 (B0 C3 (qix K (qpv 0) A3) (qix K (qpv 1) A3)) (B0 C3 (qix K (qpv 1) A3) (qix K (qpv 0) A3)) (B7 _))))),?_⟩;refine Pu.F1 h ?_;rintro as Qp ⟨p,q,rfl,sp,sq,k⟩;trivial;have p1:=sp.1.mono (l:=8000) (by decide);have p2:=sp.2.mono (l:=8000) (by decide);have q1:=sq.1.mono (l:=8000) (by decide);have q2:=sq.2.mono (l:=8000) (by decide);refine ⟨⟨p1,q2⟩,⟨q1,p2⟩,?_⟩;rw [A1k]; exact k
def Q7:Pu.PSp:=fun as Q=>∃ c d:Rat × Rat,as=[.d (dcn c),.d (dcn d)]/\d.1 < c.1/\SmR 161 85 c.1/\SmR 285 151 c.2/\SmR 161 85 d.1/\SmR 285 151 d.2/\Q (.d (dq (J5 c d)))
theorem R3 (T:Txt K mg D):FnOk P w K mg base CX0 4 D.a_ratebetween D.d_ratebetween ["longer","quicker"] (Pu.spOf K [.dat,.dat] Q7):=by
  refine T.B.F_ratebetween.ok sc_ratebetween (Zz rfl) (fun cdv A outer s H vs Q E hr h=>?_);refine ⟨_,(QSs.out (A6 (B2 (qcK (A3l (K:=K) T) hr.mo (A64 T) (A0 (qcK (U4 (K:=K) T) hr.mo (A0p T) (A0 (qix K (qpv 1) A3) (A0 (qix K (qpv 0) A3) A4))) (A0 (qcK (U4 (K:=K) T) hr.mo (A0p T) (A0 (qix K (qpv 0) A3) (A0 (qix K (qpv 1) A3) A4))) A4)))))),?_⟩;refine Pu.F1 h ?_;rintro as Qp ⟨c,d,rfl,h,h1,h2,h3,h4,k⟩;trivial;refine ⟨_,_,rfl,h4.q (by decide) (by decide),h2.q (by decide) (by decide),?_⟩;trivial;refine ⟨_,_,rfl,h1.q (by decide) (by decide),h3.q (by decide) (by decide),?_⟩;trivial;exact ⟨_,_,rfl,(h4.sub h2).q (by decide) (by decide),(h1.sub h3).q (by decide) (by decide),by grind,k⟩
def W6:Pu.PSp:=fun as Q=>∃ (kd:Str) (cs:List (Rat × Rat)) (t:Rat),as=[.d (offD kd cs),.d (dq t)]/\Kd kd/\OfOk cs 100 54 244 130/\SmQ 3900 t/\Q (.d (.bool (offB kd cs t)))
theorem X0 (T:Txt K mg D):FnOk P w K mg base CX0 2 D.a_isoffered D.d_isoffered ["offer","time"] (Pu.spOf K [.dat,.dat] W6):=by
  refine T.B.F_isoffered.ok sc_isoffered (Zz rfl) (fun cdv A outer s H vs Q E hr h=>?_);refine ⟨_,(QSs.out (A5 (M3 (qpv 0) (J7 (K:=K) (n:=2) rfl rfl (C6 (qgn 2 sc_isoffered) (C6 (qgn 3 sc_isoffered) J6)) rfl rfl))
      (A5 (D2 (B1 (D4 (K:=K) rfl hr.units) (qpv 2) D7 (B7 _))
        (A6 (B2 (J9 (A3j (K:=K) rfl hr.units) (qpv 1) (J8 rfl (F2 ["corner"] [none]) (G9 (K:=K) rfl (qpv 3)) (fun _ _ _=>(qgc 0 ["corner"])) (fun _ _ _=>L8) (fun _ _ _=>(qix K (qpv 0) A3))) (by with_unfolding_all rfl))))
        C2)
      (A6 (B2 (A0c (A2t (qcK (P8 (K:=K) T) hr.mo (V4 T) (A0 (qpv 1) (A0 (qix K (qix K (qpv 3) (S2 R7 A3)) A3) A4)))) (A2s (A2t (qcK (P8 (K:=K) T) hr.mo (V4 T) (A0 (qix K (qix K (qpv 3) A3) A3) (A0 (qpv 1) A4))))))))))),?_⟩
  refine Pu.F1 h ?_;rintro as Qp ⟨kd,cs,t,rfl,hk,ok,st,k⟩;unfold offD;have n1:=ok.ne;have n5:=ok.le;trivial;refine ⟨hk.lay,A1l,?_⟩;rcases hk with hk | hk
  · have hk':kd="straight":=hk
    subst hk';have e0:=A4j n1;have el:=A31 n1;have s0:=(ok.sm _ (Zm e0)).1;have sl:=(ok.sm _ (Zm el)).1;unfold offB at k;rw [if_neg (Ne.symm A38)] at k;rw [B7z,if_neg (by decide)];refine A3f (xs:=cs) el (by omega) ?_;trivial;refine ⟨_,_,rfl,st,sl.q (by decide) (by decide),?_⟩;by_cases h1:t < (lstC cs).1
    · rw [Zk h1] at k ⊢
      trivial;exact k
    rw [Zd h1] at k ⊢;trivial;refine A9 (n:=0) e0 ?_;trivial;refine ⟨_,_,rfl,s0.q (by decide) (by decide),st,?_⟩;by_cases h2:(fstC cs).1 < t
    · rw [Zk h2] at k ⊢
      trivial;exact k
    · rw [Zd h2] at k ⊢
      trivial;exact k
  · have hk':kd="steps":=hk
    subst hk';unfold offB at k;rw [if_pos rfl] at k;rw [B70,if_pos rfl];refine ⟨by omega,⟨fun i e ys=>∃ o:Option SV,e=[o]/\ys=((cs.take i).map fun c=>dq c.1),⟨_,rfl,rfl⟩,?_,?_⟩⟩
    · rintro i x e ys hx ⟨o,rfl,rfl⟩
      rw [Zh] at hx;obtain ⟨b,hb,rfl⟩:=Zo hx;trivial;refine ⟨_,rfl,?_⟩;rw [List.take_succ,hb,Zc]; rfl
    · rintro e ys ⟨o,rfl,rfl⟩
      rw [Zl,List.take_length];trivial;refine ⟨A34 cs,?_⟩;rw [B22];exact k
def P7:Pu.PSp:=fun as Q=>∃ (cs:List (Rat × Rat)) (t:Rat),as=[.d (.list (cs.map dcn)),.d (dq t)]/\OfOk cs 161 85 285 151/\SmR 400 300 t/\Q (.own ((cs.filter fun c=>decide (t < c.1)).map dcn))
theorem P9 (T:Txt K mg D):FnOk P w K mg base CX0 2 D.a_cornersabove D.d_cornersabove ["corners","time"] (Pu.spOf K [.dat,.dat] P7):=by
  refine T.B.F_cornersabove.ok sc_cornersabove (Zz rfl) (fun cdv A outer s H vs Q E hr h=>?_);refine ⟨_,(QSs.out (A6 (B2 (J8 rfl (F2 ["time","corner"] [some 1,none]) (G9 (K:=K) rfl (qpv 0)) (fun _ _ _=>(qgc 1 ["time","corner"])) (fun _ _ _=>(A00 (F4 (qcK (P8 (K:=K) T) hr.mo (V4 T) (A0 (qpv 0) (A0 (qix K (qpv 1) A3) A4)))))) (fun _ _ _=>(qpv 1)))))),?_⟩;refine Pu.F1 h ?_;rintro as Qp ⟨cs,t,rfl,ok,st,k⟩;trivial;refine ⟨by have:=ok.le; omega,?_⟩;refine P3 (fun i e ys=>∃ o1:Option SV,e=[some (.d (dq t)),o1]/\ys=(((cs.take i).filter fun c=>decide (t < c.1)).map dcn)) ⟨_,rfl,rfl⟩ ?_ ?_
  · rintro i c e ys hc ⟨o1,rfl,rfl⟩
    obtain ⟨s1,s2⟩:=ok.sm c (Zm hc);trivial;refine ⟨_,_,rfl,st.q (by decide) (by decide),s1.q (by decide) (by decide),?_⟩;trivial;refine ite2 (fun h=>?_) (fun h=>?_)
    · exact ⟨_,rfl,by rw [List.take_add_one,hc,List.filter_append,Zc]; simp [h]⟩
    · exact ⟨_,rfl,by rw [List.take_add_one,hc,List.filter_append,Zc]; simp [h]⟩
  · rintro e ys ⟨o1,rfl,rfl⟩
    rw [List.take_length];trivial;exact k
def Q8:Pu.PSp:=fun as Q=>∃ (kd:Str) (cs:List (Rat × Rat)) (t:Rat),as=[.d (offD kd cs),.d (dq t)]/\Kd kd/\OfOk cs 100 54 244 130/\SmR 339 261 t/\offB kd cs t=true/\∀ p,Price cs t p->Q (.d (dq p))
theorem R4 (T:Txt K mg D):FnOk P w K mg base CX0 5 D.a_priceoftime D.d_priceoftime ["offer","time"] (Pu.spOf K [.dat,.dat] Q8):=by
  refine T.B.F_priceoftime.ok sc_priceoftime (Zz rfl) (fun cdv A outer s H vs Q E hr h => ?_);refine ⟨_, (QSs.out (A5 (D2 (M2 (F4 (qcK (X0 (K := K) T) hr.mo (A0q T) (A0 (qpv 0) (A0 (qpv 1) A4)))))
        (A6 W5)
        C2)
      (A5 (qst 2 sc_priceoftime (qix K (qpv 0) A3))
      (A5 (qst 3 sc_priceoftime (qln K T.z_len (qcK (P9 (K:=K) T) hr.mo (R6 T) (A0 (qpv 2) (A0 (qpv 1) A4)))))
      (A5 (D2 (B1 (D4 (K:=K) rfl hr.units) (qix K (qix K (qpv 2) (qpv 3)) A3) (qpv 1) (B7 _))
        (A6 (B2 (qix K (qix K (qpv 2) (qpv 3)) A3)))
        C2)
      (A5 (qst 4 sc_priceoftime (qix K (qpv 2) (B0 N2 (qpv 3) A3)))
      (A6 (B2 (qcK (A3k (K:=K) T) hr.mo (A75 T) (A0 (qix K (qpv 4) A3) (A0 (qcK (S7 (K:=K) T) hr.mo (Z0 T) (A0 (qcK (R3 (K:=K) T) hr.mo (V2 T) (A0 (qpv 4) (A0 (qix K (qpv 2) (qpv 3)) A4))) (A0 (qcK (U4 (K:=K) T) hr.mo (A0p T) (A0 (qix K (qpv 4) A3) (A0 (qpv 1) A4))) A4))) A4))))))))))),?_⟩
  refine Pu.F1 h ?_;rintro as Qp ⟨kd,cs,t,rfl,hk,ok0,st,ofb,k⟩;have of:=A1f hk ok0.ne ofb;have ok:=ok0.up (a':=161) (b':=85) (c':=285) (d':=151) (by decide) (by decide) (by decide) (by decide);trivial;refine ⟨kd,cs,t,rfl,hk,ok0,st.q (by decide) (by decide),?_⟩;rw [ofb];unfold offD;trivial;obtain ⟨A,B,e,fA,hA,hB⟩:=part t ok.dec;obtain ⟨b,r,eB,hbt,hst⟩:∃ b r,B=b :: r/\b.1<=t/\(b.1 < t->∃ A' l,A=A'++[l]):=by
    rcases hB with ⟨rfl,_⟩ | ⟨b,r,eB,hb,_⟩
    · exfalso
      rw [List.append_nil] at e;rcases hk with hk | hk
      · obtain ⟨c0,cl,e0,el,h1,h2⟩:=of.sr hk
        exact h1 (hA cl (by rw [<- e]; exact Zm el))
      · obtain ⟨c,hc,ec⟩:=of.st hk
        have:=hA c (by rw [<- e]; exact hc);grind
    · refine ⟨b,r,eB,hb,fun hl=>?_⟩
      cases q:A with
      | nil =>
        exfalso;have dB:=ok.dec;rw [e,q,eB,List.nil_append] at dB;rcases hk with hk | hk
        · obtain ⟨c0,cl,e0,el,h1,h2⟩:=of.sr hk
          rw [e,q,eB] at e0; cases e0; exact h2 hl
        · obtain ⟨c,hc,ec⟩:=of.st hk
          rw [e,q,eB,List.nil_append] at hc;rcases List.mem_cons.mp hc with z | z
          · subst z; grind
          · have:=dB.lt c z; grind
      | cons x y=>exact ⟨(x :: y).dropLast,(x :: y).getLast (by simp),(List.dropLast_concat_getLast _).symm⟩
  subst eB;have eb:cs[A.length]?=some b:=by rw [e]; exact A2l
  have sb:=ok.sm b (Zm eb);refine ⟨cs,t,rfl,ok,st.mono (by decide) (by decide),?_⟩;trivial;rw [fA];refine A9 eb ?_;trivial;refine ite2 (fun hb=>?_) (fun hb=>?_)
  · refine A9 eb ?_
    trivial;exact k _ ⟨A,b,r,e,fA,hbt,.inl ⟨hb,rfl⟩⟩
  · have hbl:b.1 < t:=by grind
    obtain ⟨A',l,eA⟩:=hst hbl;have el':cs[A'.length]?=some l:=by rw [e,eA]; exact A35
    have hl:=hA l (by rw [eA]; simp);have sl:=ok.sm l (Zm el');have en:((A.length:Nat):Int) - 1=((A'.length:Nat):Int):=by rw [eA]; simp
    try simp only [List.length_map]
    rw [en];refine A9 el' ?_;trivial;refine A9 eb ?_;trivial;refine ⟨l,b,rfl,by grind,sl.1,sl.2,sb.1,sb.2,?_⟩;trivial;refine ⟨_,_,rfl,sl.1.q (by decide) (by decide),st.q (by decide) (by decide),?_⟩;trivial;have ss:=A0w (c:=l) (d:=b) (by grind) sl.1 sl.2 sb.1 sb.2;refine ⟨_,_,rfl,ss.q (by decide) (by decide),(sl.1.sub st).q (by decide) (by decide),?_⟩;trivial;refine ⟨_,_,rfl,sl.2.q (by decide) (by decide),(ss.mul (sl.1.sub st)).q (by decide) (by decide),?_⟩;exact k _ ⟨A,b,r,e,fA,hbt,.inr ⟨hbl,A',l,eA,rfl⟩⟩
theorem A15 (T:Txt K mg D):FnOk P w K mg base CX0 1 D.a_Lbegun D.d_Lbegun ["_law_script","_law_k"] (A7e K):=by
  refine T.B.F_Lbegun.ok sc_Lbegun (fun vs H Q E h=>?_) (fun cdv A outer s H vs Q E hr h=>?_)
  · obtain ⟨a,ns,k,rfl,_⟩:=h; rfl
  · obtain ⟨a,ns,k,rfl,ha,k0,k1,kk⟩:=h
    refine ⟨_,(E9 (S3 (i:=2) sc_Lbegun.nd rfl (Or.inl rfl) C8)
      (E9 (A81 (A2v (I0 (K:=K) rfl hr.units) (pv 0) (A29 S5) (B7 _))
        (N7 (S3 (i:=2) sc_Lbegun.nd rfl (Or.inl rfl) (U2 (A6j (K:=K) rfl) (pv 0) (G1 M1 (pv 1) (A08 call_len_seq (by rfl) T.z_len PySem.boot_len (M4 (pv 0) S5))) (fun _ _=>rfl))))
        A0d)
      (N7 (A04 (A29 (M4 (pv 2) (M4 (G1 M1 (G1 D5 (G1 D5 (G1 M1 (pv 2) C8) (G1 C3 (G1 C3 C8 (pv 1)) (pv 1))) C8) C8) (M4 (U3 B9f (pv 2) (G1 S6 C8 C8) (B7 _)) S5)))))))),?_⟩
    have fin:∀ (c:Int) (H:Hp),(∀ p H',H p=none->StAt H' p->Kp p H H'->Q (.ref p) H')->∃ v,([some (V.ref a),some (V.int k),some (V.int c)]:St)[2]?=some (some v) /\
        (E7 (tOp (rI (fun _ j=>0 < j) fun i j=>.int (i % j)) (tOp (rI0 fun i j=>.int (i + j)) (tOp (rI0 fun i j=>.int (i + j)) (tOp (rI (fun _ j=>0 < j) fun i j=>.int (i % j)) (tVar 2) (tC (.int 2147483587)))
          (tOp (rI B25 fun i j=>.int (i * j)) (tOp (rI B25 fun i j=>.int (i * j)) (tC (.int 104729)) (tVar 1)) (tVar 1))) (tC (.int 7))) (tC (.int 2147483587)))
          (E7 (tOp (rI0 fun i j=>.bl (decide (j<=i))) (tVar 2) (tOp (rI CPow fun i j=>.int (i ^ j.toNat)) (tC (.int 10)) (tC (.int 18)))) tNil)) [some (V.ref a),some (V.int k),some (V.int c)] H
          fun xs H1=>(v :: xs).length<=sizeLine/\∀ p,H1 p=none->Q (.ref p) (upd H1 p (.lst (v :: xs))):=by
      intro c H kk;refine ⟨_,rfl,_,rfl,_,_,rfl,rfl,(by show (0:Int) < 2147483587; decide),_,rfl,_,_,rfl,rfl,⟨R9 0,sm32 k0 (by omega)⟩,_,rfl,_,_,rfl,rfl,⟨(Sm.mul (k:=20) (l:=20) (by unfold Sm; decide) (by unfold Sm; omega)).mono (by decide),sm32 k0 (by omega)⟩,
        _,_,rfl,rfl,_,_,rfl,rfl,_,_,rfl,rfl,(by show (0:Int) < 2147483587; decide),_,rfl,_,_,rfl,rfl,T3 18,_,_,rfl,rfl,by show 3<=sizeLine; decide,fun p hp=>?_⟩
      have e1:=Int.emod_nonneg (c % 2147483587 + 104729 * k * k + 7) (show (2147483587:Int)≠0 by decide);have e2:=Int.emod_lt_of_pos (c % 2147483587 + 104729 * k * k + 7) (show (0:Int) < 2147483587 by decide);exact kk p _ hp ⟨_,_,_,B8,e1,by omega⟩ (Same.upd hp).kp
    refine ⟨_,rfl,Nat.zero_le _,fun p hp=>?_⟩;have sm:=Same.upd (H:=H) (o:=.lst []) hp;have ha':SqL K (upd H p (.lst [])) a (ns.map V.int):=Pu.A5d sm ha;have kk':∀ q H',(upd H p (.lst [])) q=none->StAt H' q->Kp q (upd H p (.lst [])) H'->Q (.ref q) H':=fun q H' hq hs kp=>kk q H' (by
      by_cases z:q=p
      · rw [z]; exact hp
      · rw [C1 z] at hq; exact hq) hs (fun b o nb e=>kp b o nb (sm b o e))
    refine ⟨.list (ns.map .int),.list [],.lst ha' (A1r ns),.lst (.inl (.inl B8)) .nil,A1m ns,rfl,A4o ns,_,rfl,?_⟩;rw [A6r];cases ns with
    | nil=>exact fin 0 _ kk'
    | cons c r =>
      obtain ⟨m,hm,hml⟩:∃ m:Nat,k % (((c :: r).map V.int).length:Int)=(m:Int)/\m < ((c :: r).map V.int).length:=by
        have h0:(0:Int) < (((c :: r).map V.int).length:Int):=by first | (simp; done) | (simp; omega)
        have h1:=Int.emod_nonneg k (Int.ne_of_gt h0);have h2:=Int.emod_lt_of_pos k h0;exact ⟨(k % (((c :: r).map V.int).length:Int)).toNat,by omega,by omega⟩
      obtain ⟨z,hz⟩:∃ z,((c :: r).map V.int)[m]?=some (V.int z):=by
        have:m < (c :: r).length:=by simpa using hml
        exact ⟨(c :: r)[m],by rw [Zh,Zg this]; rfl⟩
      refine ⟨_,rfl,_,rfl,_,rfl,a,_,rfl,.inl ha',k,_,rfl,rfl,(by first | (simp; done) | (simp; omega)),a,_,_,_,rfl,rfl,ha',by rw [hm]; exact K6 hz,?_⟩;exact fin z _ kk'
theorem F0 (T:Txt K mg D):FnOk P w K mg base CX0 1 D.a_Lbegun D.d_Lbegun ["_law_script","_law_k"] (Pu.spOf K [.vw,.dat] A7l):=FnOk.imp (A15 T) B79
theorem A3n (T:Txt K mg D):FnOk P w K mg base CX0 1 D.a_Ltake D.d_Ltake ["_law_state","_law_many"] A2k:=by
  refine T.B.F_Ltake.ok sc_Ltake (fun vs H Q E h=>?_) (fun cdv A outer s H vs Q E hr h=>?_)
  · obtain ⟨p,n,rfl,_⟩:=h; rfl
  · obtain ⟨p,n,rfl,S0,n0,sn,k⟩:=h
    refine ⟨_,(E9 (A81 (A7j (U2 ix_list (pv 0) C8 (fun _ _=>rfl)))
        (E9 (S3 (i:=2) sc_Ltake.nd rfl (Or.inl rfl) (G1 M1 (U2 ix_list (pv 0) C8 (fun _ _=>rfl)) (pv 1)))
        (E9 (A05 (G1 D6 (U2 ix_list (pv 0) C8 (fun _ _=>rfl)) (pv 1)) (A07 (pv 0) C8 N0))
        (E9 (A05 (U3 R1 (U2 ix_list (pv 0) C8 (fun _ _=>rfl)) C8 (B7 _)) (A07 (pv 0) C8 N0))
        (N7 (A04 (pv 2))))))
        A0d)
      (E9 (S3 (i:=3) sc_Ltake.nd rfl (Or.inl rfl) C8)
      (E9 (A7k Zf rfl (W8 rfl T.z_range (M4 (G1 D5 C8 (G1 C3 C8 (W9 Y3 (by rfl) T.z_int (by rfl) (M4 (U3 R1 (pv 1) (G1 S6 C8 C8) (B7 _)) S5)))) S5)) (A28 (i:=4) sc_Ltake.nd rfl (Or.inl rfl) (Or.inl rfl))
        (E9 (A05 (G1 M1 (G1 D5 (G1 C3 (U2 ix_list (pv 0) C8 (fun _ _=>rfl)) C8) C8) C8) (A07 (pv 0) C8 N0))
        (N7 (S3 (i:=3) sc_Ltake.nd rfl (Or.inl rfl) (G1 D5 (G1 C3 (pv 3) C8) (G1 M1 (G1 C3 (U2 ix_list (pv 0) C8 (fun _ _=>rfl)) (U2 ix_list (pv 0) C8 (fun _ _=>rfl))) C8))))))
      (N7 (A04 (G1 M1 (G1 D6 (pv 3) C8) (pv 1))))))),?_⟩
    obtain ⟨c,m,f,hp,m0,m1⟩:=S0.ex;refine ⟨_,rfl,p,_,_,_,rfl,rfl,SqL.of hp,at2,f,rfl,?_⟩;have s8:Sm 8000 n:=sn.mono (by decide);cases f with
    | true =>
      refine iteT ?_;refine ⟨_,rfl,p,_,_,_,rfl,rfl,SqL.of hp,at0,_,rfl,_,_,rfl,rfl,n0,?_⟩;refine ⟨_,rfl,p,_,_,_,rfl,rfl,SqL.of hp,at0,_,rfl,_,_,rfl,rfl,⟨by omega,s8⟩,_,rfl,p,_,_,0,rfl,rfl,hp,rfl,?_⟩;refine ⟨_,rfl,p,_,_,_,rfl,rfl,SqL.of B8,at0,_,_,rfl,rfl,_,rfl,p,_,_,2,rfl,rfl,B8,rfl,?_⟩;refine ⟨_,rfl,?_⟩;exact k _ _ (Int.emod_nonneg c (by omega)) (Int.emod_lt_of_pos c n0) ⟨_,_,_,B8,m0,m1⟩ (Kp.upd.trans Kp.upd)
    | false =>
      refine iteF ?_;refine ⟨_,rfl,_,_,rfl,rfl,T3 6,_,_,rfl,rfl,.inr ⟨_,rfl,_,_,rfl,rfl,⟨R9 0,B3h _⟩,_,_,rfl,rfl,_,rfl,?_,?_,A4l (lo:=0)
        (fun i σ H'=>∃ (m' md:Int) (x:Option V),σ=[some (V.ref p),some (V.int n),none,some (V.int md),x]/\H' p=some (.lst [.int c,.int m',.bl false])/\0<=m'/\m' < 2147483648/\Kp p H H'/\Sm (40 * i + 1) md)
        ⟨m,0,none,rfl,hp,m0,m1,Kp.refl,by unfold Sm; decide⟩ ?_ ?_⟩⟩
      · split <;> omega
      · split <;> omega
      · rintro i σ H' hi ⟨m',md,x,rfl,hp',h0,h1,kk,sd⟩
        have hi9:i < 9:=by
          refine Nat.lt_of_lt_of_le hi ?_;split <;> decide
        refine ⟨_,rfl,p,_,_,_,rfl,rfl,SqL.of hp',at1,_,_,rfl,rfl,⟨sm32 h0 h1,R9 0⟩,_,_,rfl,rfl,_,_,rfl,rfl,(by show (0:Int) < 2147483647; decide),_,rfl,p,_,_,1,rfl,rfl,hp',rfl,?_⟩;have e1:=Int.emod_nonneg (m' * 39373 + 17) (show (2147483647:Int)≠0 by decide);have e2:=Int.emod_lt_of_pos (m' * 39373 + 17) (show (0:Int) < 2147483647 by decide);have sm:=sm32 e1 (by omega);refine ⟨_,rfl,_,_,rfl,rfl,⟨sd.mono (by omega),R9 0⟩,_,rfl,p,_,_,_,rfl,rfl,SqL.of B8,at1,_,rfl,p,_,_,_,rfl,rfl,SqL.of B8,at1,_,_,rfl,rfl,⟨sm,sm⟩,_,_,rfl,rfl,(by show (0:Int) < 2147483587; decide),_,_,rfl,rfl,?_⟩;have g1:=Int.emod_nonneg ((m' * 39373 + 17) % 2147483647 * ((m' * 39373 + 17) % 2147483647)) (show (2147483587:Int)≠0 by decide);have g2:=Int.emod_lt_of_pos ((m' * 39373 + 17) % 2147483647 * ((m' * 39373 + 17) % 2147483647)) (show (0:Int) < 2147483587 by decide);refine ⟨_,_,_,rfl,B8,e1,by omega,kk.trans Kp.upd,?_⟩;refine Sm.mono (k:=40 * i + 1 + 32 + 1) (Sm.add (sd.mul (l:=32) (by unfold Sm; decide)) ?_) (by omega);exact Sm.mono (k:=32) (by unfold Sm; omega) (by omega)
      · rintro σ H' ⟨m',md,x,rfl,hp',h0,h1,kk,sd⟩
        refine ⟨_,rfl,_,_,rfl,rfl,⟨by decide,R9 0⟩,_,rfl,_,_,rfl,rfl,n0,?_⟩;exact k _ _ (Int.emod_nonneg _ (by omega)) (Int.emod_lt_of_pos _ n0) ⟨_,_,_,hp',h0,h1⟩ kk
theorem B6 (T:Txt K mg D):FnOk P w K mg base CX0 1 D.a_Ltake D.d_Ltake ["_law_state","_law_many"] (Pu.spOf K [.st,.dat] Pu.A2w):=FnOk.imp (A3n T) Pu.A8f
theorem N8 (T:Txt K mg D):FnOk P w K mg base CX0 1 D.a_Llow D.d_Llow ["_law_top","_law_bottom"] (Pu.spOf K [.dat,.dat] A80):=by
  refine T.B.F_Llow.ok sc_Llow (Zz rfl) (fun cdv A outer s H vs Q E hr h=>?_);refine ⟨_,(QSs.out (A5 (qst 2 sc_Llow (qpv 0))
      (A5 (qst 3 sc_Llow (qpv 1))
      (A5 (W4 Zf (B1 (I0 (K:=K) rfl hr.units) (qpv 3) A3 (B7 _))
        (A6 (P6 (i:=2) (j:=3) rfl sc_Llow.nd rfl rfl (by decide) rfl rfl (A0 (qpv 3) (A0 (B0 M1 (qpv 2) (qpv 3)) A4)) rfl)))
      (A6 (B2 (B3 (A0 (B0 D6 (qpv 0) (qpv 2)) (A0 (B0 D6 (qpv 1) (qpv 2)) A4))))))))),?_⟩
  refine Pu.F1 h ?_;rintro as Qp ⟨t,b,rfl,hb,st,sb,k⟩;trivial;refine ⟨fun m e=>∃ x y:Int,e=[some (.d (.int t)),some (.d (.int b)),some (.d (.int x)),some (.d (.int y))]/\0<=y/\(y=0->0 < x)/\m=y.toNat/\Int.gcd x y=Int.gcd t b,⟨_,_,_,rfl,by omega,fun e=>by omega,rfl,rfl⟩,?_⟩;rintro m e ⟨x,y,rfl,hy,hx,rfl,hg⟩;trivial;refine ite2 (fun e=>?_) (fun hn=>?_)
  · subst e
    have hx0:=hx rfl;have e1:x=sh t b:=by
      have:=A1o x (by omega);rw [hg] at this;unfold sh; rw [if_neg (by omega)]; exact this.symm
    subst e1;have hb0:b≠0:=by omega
    refine ⟨⟨B3j hb0,B3g sb hb0⟩,⟨B3j hb0,B3g sb hb0⟩,?_⟩;rw [A32 hb0,B1f hb0]; exact k
  · have h1:=Int.emod_lt_of_pos x (show 0 < y by omega)
    have h2:=Int.emod_nonneg x hn;exact ⟨by omega,(x % y).toNat,by omega,y,x % y,rfl,h2,fun _=>by omega,rfl,by rw [A4i,hg]⟩
theorem K3 (T:Txt K mg D):FnOk P w K mg base CX0 2 D.a_Lplus D.d_Lplus ["_law_one","_law_other"] (Pu.spOf K [.dat,.dat] (S4 (·+·))):=by
  refine T.B.F_Lplus.ok sc_Lplus (Zz rfl) (fun cdv A outer s H vs Q E hr h=>?_);refine ⟨_,(QSs.out (A6 (B2 (qcK (N8 (K:=K) T) hr.mo (T5 T) (A0 (B0 D5 (B0 C3 (qix K (qpv 0) A3) (qix K (qpv 1) A3)) (B0 C3 (qix K (qpv 1) A3) (qix K (qpv 0) A3))) (A0 (B0 C3 (qix K (qpv 0) A3) (qix K (qpv 1) A3)) A4)))))),?_⟩;refine Pu.F1 h ?_;rintro as Qp ⟨p,q,rfl,sp,sq,k⟩;trivial;have p1:=sp.1.mono (l:=8000) (by decide);have p2:=sp.2.mono (l:=8000) (by decide);have q1:=sq.1.mono (l:=8000) (by decide);have q2:=sq.2.mono (l:=8000) (by decide);refine ⟨⟨p1,q2⟩,⟨q1,p2⟩,⟨p2,q2⟩,_,_,rfl,Int.mul_pos (denp p) (denp q),((sp.1.mul sq.2).add (sq.1.mul sp.2)).mono (by decide),(sp.2.mul sq.2).mono (by decide),?_⟩;rw [B3u]; exact k
theorem G2 (T:Txt K mg D):FnOk P w K mg base CX0 2 D.a_Lminus D.d_Lminus ["_law_one","_law_other"] (Pu.spOf K [.dat,.dat] (S4 (·-·))):=by
  refine T.B.F_Lminus.ok sc_Lminus (Zz rfl) (fun cdv A outer s H vs Q E hr h=>?_);refine ⟨_,(QSs.out (A6 (B2 (qcK (N8 (K:=K) T) hr.mo (T5 T) (A0 (B0 N2 (B0 C3 (qix K (qpv 0) A3) (qix K (qpv 1) A3)) (B0 C3 (qix K (qpv 1) A3) (qix K (qpv 0) A3))) (A0 (B0 C3 (qix K (qpv 0) A3) (qix K (qpv 1) A3)) A4)))))),?_⟩;refine Pu.F1 h ?_;rintro as Qp ⟨p,q,rfl,sp,sq,k⟩;trivial;have p1:=sp.1.mono (l:=8000) (by decide);have p2:=sp.2.mono (l:=8000) (by decide);have q1:=sq.1.mono (l:=8000) (by decide);have q2:=sq.2.mono (l:=8000) (by decide);refine ⟨⟨p1,q2⟩,⟨q1,p2⟩,⟨p2,q2⟩,_,_,rfl,Int.mul_pos (denp p) (denp q),((sp.1.mul sq.2).sub (sq.1.mul sp.2)).mono (by decide),(sp.2.mul sq.2).mono (by decide),?_⟩;rw [B3r]; exact k
theorem Q0 (T:Txt K mg D):FnOk P w K mg base CX0 2 D.a_Ltimes D.d_Ltimes ["_law_one","_law_other"] (Pu.spOf K [.dat,.dat] (S4 (·*·))):=by
  refine T.B.F_Ltimes.ok sc_Ltimes (Zz rfl) (fun cdv A outer s H vs Q E hr h=>?_);refine ⟨_,(QSs.out (A6 (B2 (qcK (N8 (K:=K) T) hr.mo (T5 T) (A0 (B0 C3 (qix K (qpv 0) A3) (qix K (qpv 1) A3)) (A0 (B0 C3 (qix K (qpv 0) A3) (qix K (qpv 1) A3)) A4)))))),?_⟩;refine Pu.F1 h ?_;rintro as Qp ⟨p,q,rfl,sp,sq,k⟩;trivial;have p1:=sp.1.mono (l:=8000) (by decide);have p2:=sp.2.mono (l:=8000) (by decide);have q1:=sq.1.mono (l:=8000) (by decide);have q2:=sq.2.mono (l:=8000) (by decide);refine ⟨⟨p1,q1⟩,⟨p2,q2⟩,_,_,rfl,Int.mul_pos (denp p) (denp q),(sp.1.mul sq.1).mono (by decide),(sp.2.mul sq.2).mono (by decide),?_⟩;rw [B3s]; exact k
theorem A3m (T:Txt K mg D):FnOk P w K mg base CX0 1 D.a_Lunder D.d_Lunder ["_law_one","_law_other"] (Pu.spOf K [.dat,.dat] A2y):=by
  refine T.B.F_Lunder.ok sc_Lunder (Zz rfl) (fun cdv A outer s H vs Q E hr h=>?_);refine ⟨_,(QSs.out (A6 (B2 (J9 A14 (B0 C3 (qix K (qpv 0) A3) (qix K (qpv 1) A3)) (B0 C3 (qix K (qpv 1) A3) (qix K (qpv 0) A3)) (B7 _))))),?_⟩;refine Pu.F1 h ?_;rintro as Qp ⟨p,q,rfl,sp,sq,k⟩;trivial;have p1:=sp.1.mono (l:=8000) (by decide);have p2:=sp.2.mono (l:=8000) (by decide);have q1:=sq.1.mono (l:=8000) (by decide);have q2:=sq.2.mono (l:=8000) (by decide);refine ⟨⟨p1,q2⟩,⟨q1,p2⟩,?_⟩;rw [A1k]; exact k
theorem F8 (T:Txt K mg D):FnOk P w K mg base CX0 2 D.a_Lamount D.d_Lamount ["_law_state","_law_plain","_law_least"] (Pu.spOf K [.st,.dat,.dat] A20):=by
  refine T.B.F_Lamount.ok sc_Lamount (Zz rfl) (fun cdv A outer s H vs Q E hr h=>?_);refine ⟨_,(QSs.out (A5 (qst 3 sc_Lamount (qcK (B6 (K:=K) T) hr.mo (C4 T) (A0 (qpv 0) (A0 A3 A4))))
      (A5 (D2 (F4 (qpv 1))
        (A6 (B2 (B3 (A0 (B0 D5 (qpv 2) (qcK (B6 (K:=K) T) hr.mo (C4 T) (A0 (qpv 0) (A0 (qix K (C0 (A0 A3 (A0 A3 (A0 A3 (A0 A3 (A0 A3 (A0 A3 A4))))))) (qpv 3)) A4)))) (A0 A3 A4)))))
        C2)
      (A5 (qst 4 sc_Lamount (B0 D5 A3 (qcK (B6 (K:=K) T) hr.mo (C4 T) (A0 (qpv 0) (A0 (qix K (C0 (A0 A3 (A0 A3 (A0 A3 (A0 A3 (A0 A3 (A0 A3 A4))))))) (qpv 3)) A4)))))
      (A6 (B2 (qcK (N8 (K:=K) T) hr.mo (T5 T) (A0 (B0 D5 (qpv 2) (qcK (B6 (K:=K) T) hr.mo (C4 T) (A0 (qpv 0) (A0 (qix K (C0 (A0 A3 (A0 A3 (A0 A3 (A0 A3 (A0 (B0 S6 A3 A3) (A0 A3 A4))))))) (qpv 3)) A4)))) (A0 (qpv 4) A4))))))))),?_⟩
  refine Pu.F1 h ?_;rintro as Qp ⟨pl,le,rfl,hle,k⟩;trivial;refine ⟨6,rfl,by decide,sm4 6,fun d d0 d6=>?_⟩;trivial;refine ite2 (fun hp=>?_) (fun hp=>?_)
  · obtain ⟨z,hz,e⟩:=B1c (xs:=[2,3,3,4,5,6]) d0 d6
    have hb:2<=z/\z<=6:=by simp at hz; omega
    refine K1 e ?_;trivial;refine ⟨z,rfl,by omega,A2m (by omega) (by omega),fun d2 g0 g1=>?_⟩;trivial;rw [B73];have s3:Sm 3 (le + d2):=K8 (B:=7) (by omega) (by omega) (by decide);exact k _ (B7t (by omega)) (fun h1=>B7s (by omega)) ((Z8 s3).mono (by decide) (by decide)) fun _=>⟨Z8 s3,A8m (Z8 s3)⟩
  · obtain ⟨x,hx,ex⟩:=B1c (xs:=[1,1,2,4,12,60]) d0 d6
    have hbx:1<=x/\x<=60:=by simp at hx; omega
    obtain ⟨z,hz,ez⟩:=B1c (xs:=[3,9,12,30,1000000000000,90]) d0 d6;have hbz:3<=z/\z<=1000000000000:=by simp at hz; omega
    refine K1 ex ?_;trivial;refine ⟨x,rfl,by omega,A2m (by omega) (by omega),fun d1 f0 f1=>?_⟩;trivial;refine ⟨T3 12,K1 ez ?_⟩;trivial;refine ⟨z,rfl,by omega,A2m (by omega) (by omega),fun d2 g0 g1=>?_⟩;trivial;have st:Sm 41 (le + d2):=K8 (B:=1000000000000) (by omega) (by omega) (by decide);have sb:Sm 6 (1 + d1):=K8 (B:=60) (by omega) (by omega) (by decide);refine ⟨_,_,rfl,by omega,st.mono (by decide),sb.mono (by decide),?_⟩;exact k _ (P2 (by omega) (by omega)) (fun h1=>B8h (by omega) (by omega)) (SmR.low st sb (by omega)) fun h=>absurd h hp
def A23:Pu.PSp:=fun as Q=>∃ (kd:Str) (mo:Int),as=[.st,.d (.str kd),.d (.int mo),.d (.bool false)]/\0 < mo/\mo<=5/\Kd kd/\∀ cs,OfG kd cs 100 54 244 130->OnC cs->(kd="straight"->OnP cs)->cs.length<=mo.toNat->Q (.d (offD kd cs))
theorem A3q (T:Txt K mg D):FnOk P w K mg base CX0 3 D.a_Loffer D.d_Loffer ["_law_state","_law_kind","_law_most","_law_plain"] (Pu.spOf K [.st,.dat,.dat,.dat] A23):=by
  refine T.B.F_Loffer.ok sc_Loffer (Zz rfl) (fun cdv A outer s H vs Q E hr h=>?_);refine ⟨_,(QSs.out (A5 (qst 4 sc_Loffer (B0 D5 A3 (qcK (B6 (K:=K) T) hr.mo (C4 T) (A0 (qpv 0) (A0 (qpv 2) A4)))))
      (A5 (qst 5 sc_Loffer (qcK (F8 (K:=K) T) hr.mo (J3 T) (A0 (qpv 0) (A0 (qpv 3) (A0 A3 A4)))))
      (A5 (qst 6 sc_Loffer (qcK (F8 (K:=K) T) hr.mo (J3 T) (A0 (qpv 0) (A0 (qpv 3) (A0 A3 A4)))))
      (A5 (A0b (i:=7) rfl sc_Loffer.nd rfl rfl (F2 ["_law_state","_law_plain","_law_k"] [some 0,some 3,none]) (E8 rfl T.z_range (A0 (B0 N2 (qpv 4) A3) A4)) (fun _ _ _=>(qgc 2 ["_law_state","_law_plain","_law_k"])) (fun _ _ _=>L8) (fun _ _ _=>(qcK (F8 (K:=K) T) hr.mo (J3 T) (A0 (qpv 0) (A0 (qpv 1) (A0 A3 A4))))) rfl)
      (A5 (G0 Zf rfl (G9 (K:=K) rfl (qpv 7)) (qgn 8 sc_Loffer)
        (A6 (qst 5 sc_Loffer (qcK (K3 (K:=K) T) hr.mo (M6 T) (A0 (qpv 5) (A0 (qpv 8) A4))))))
      (A5 (qst 9 sc_Loffer (C0 (A0 (B3 (A0 (qpv 5) (A0 (qpv 6) A4))) A4)))
      (A5 (qst 10 sc_Loffer (B3 (A0 A3 (A0 A3 A4))))
      (A5 (G0 Zf rfl (G9 (K:=K) rfl (qpv 7)) (qgn 8 sc_Loffer)
        (A5 (qst 11 sc_Loffer (qcK (F8 (K:=K) T) hr.mo (J3 T) (A0 (qpv 0) (A0 (qpv 3) (A0 A3 A4)))))
        (A5 (qst 5 sc_Loffer (qcK (G2 (K:=K) T) hr.mo (K5 T) (A0 (qpv 5) (A0 (qpv 8) A4))))
        (A5 (qst 10 sc_Loffer (qcK (K3 (K:=K) T) hr.mo (M6 T) (A0 (qpv 10) (A0 (qpv 11) A4))))
        (A5 (D2 (B1 (D4 (K:=K) rfl hr.units) (qpv 1) D7 (B7 _))
          (A6 (qst 11 sc_Loffer (qcK (Q0 (K:=K) T) hr.mo (V6 T) (A0 (qpv 10) (A0 (qpv 8) A4)))))
          C2)
        (A5 (qst 6 sc_Loffer (qcK (K3 (K:=K) T) hr.mo (M6 T) (A0 (qpv 6) (A0 (qpv 11) A4))))
        (A6 (C7 (E6 (K:=K) rfl Z1 Z2 Z3 C9 (qpv 9) (A0 (B3 (A0 (qpv 5) (A0 (qpv 6) A4))) A4))))))))))
      (A6 (B2 (B3 (A0 (qpv 1) (A0 (qpv 9) A4)))))))))))))),?_⟩
  refine Pu.F1 h ?_;rintro as Qp ⟨kd,mo,rfl,m0,m5,hk,k⟩;trivial;refine ⟨mo,rfl,m0,K8 (B:=5) (by omega) (by omega) (by decide),fun d d0 d1=>?_⟩;trivial;refine ⟨_,_,rfl,.inl rfl,fun q1 q10 _ s1 _=>?_⟩;trivial;refine ⟨_,_,rfl,.inl rfl,fun q2 q20 _ s2 _=>?_⟩;trivial;refine ⟨by omega,by rw [L6]; omega,?_⟩;refine A6x (fun i e ys=>∃ (qs:List Rat) (o:Option SV),e=[some .st,some (.d (.bool false)),o]/\ys=qs.map dq/\qs.length=i/\∀ q ∈ qs,0 < q/\SmR 41 6 q) ⟨[],_,rfl,rfl,rfl,fun _ z=>nomatch z⟩ ?_ ?_
  · rintro i e ys hi ⟨qs,o,rfl,rfl,hl,hq⟩
    trivial;refine ⟨_,_,rfl,.inr rfl,fun q _ qp sq _=>?_⟩;trivial;refine ⟨qs++[q],_,rfl,by rw [Zc]; rfl,by simp [hl],fun c z=>(Za z).elim (hq c) fun z=>?_⟩;simp at z; subst z; exact ⟨qp rfl,sq⟩
  · rintro e ys ⟨qs,o,rfl,rfl,hl,hq⟩
    have hm:qs.length<=4:=by omega
    trivial;refine A0j (fun i e=>∃ (o8:Option SV) (T':Rat),e=[some .st,some (.d (.str kd)),some (.d (.int mo)),some (.d (.bool false)),some (.d (.int (1 + d))),some (.d (dq T')),some (.d (dq q2)),some (.d (.list (qs.map dq))),o8,none,none,none]/\SmR (41 + 7 * i) (6 + 6 * i) T'/\T'=q1 + sumR (qs.take i)/\On LL ((1 + i) * 2 ^ 41) T') ⟨_,_,rfl,s1,by show q1=q1 + 0; grind,(N3 s1).mono (Nat.le_of_ble_eq_true rfl)⟩ ?_ ?_
    · rintro i q e hqi ⟨o8,T',rfl,sT,eT,oT⟩
      have hil:i < qs.length:=(Zs hqi).1;have sg:=(hq q (Zm hqi)).2;trivial;refine ⟨_,_,rfl,sT.q (by omega) (by omega),sg.q (by decide) (by decide),?_⟩;trivial;exact ⟨_,_,rfl,(sT.add sg).mono (by omega) (by omega),by rw [List.take_add_one,hqi,Option.toList_some,V9,eT]; grind,(oT.add D9 (N3 sg)).mono (by rw [show 1 + (i + 1)=(1 + i) + 1 by omega,Nat.add_mul (1 + i) 1,Nat.one_mul]; exact Zv _)⟩
    · rintro e ⟨o8,T0,rfl,sT0,eT0,oT0⟩
      try rw [Zl] at oT0
      try rw [Zl] at eT0
      rw [List.take_length] at eT0;have hq0:∀ q ∈ qs,0 < q:=fun q hq'=>(hq q hq').1;have sT0:SmR 69 30 T0:=sT0.mono (by omega) (by omega);trivial;refine A0j (fun i e=>∃ (o8 o11:Option SV) (T' P' R':Rat) (cs:List (Rat × Rat)),e=[some .st,some (.d (.str kd)),some (.d (.int mo)),some (.d (.bool false)),some (.d (.int (1 + d))),some (.d (dq T')),some (.d (dq P')),some (.d (.list (qs.map dq))),o8,some (.own ((cs++[(T',P')]).map dcn)),some (.d (dq R')),o11] /\
        SmR (69 + 7 * i) (30 + 6 * i) T'/\SmR (116 + 32 * i) (6 + 31 * i) P'/\SmR (41 + 7 * i) (1 + 6 * i) R'/\(On LL ((6 + i) * 2 ^ 41) T'/\On (LL * LL) ((1 + i) * 2 ^ 85) P'/\On LL (i * 2 ^ 41) R'/\OnC cs/\(kd="straight"->OnP (cs++[(T',P')])))/\(T'=q1 + sumR (qs.drop i)/\0<=P'/\0<=R'/\RiseO (cs++[(T',P')])/\∀ c ∈ cs,0<=c.1/\0<=c.2)/\(kd="straight"->CvR (cs++[(T',P')]) R')/\Dec (cs++[(T',P')])/\cs.length=i/\∀ c ∈ cs,SmR 100 54 c.1/\SmR 244 130 c.2)
        ⟨_,_,T0,q2,0,[],rfl,sT0,s2.mono (by decide) (by decide),sm_zero.mono (by decide) (by decide),⟨oT0.mono (Zu _ (by omega)),((N3 s2).up D9).mono (Nat.le_of_ble_eq_true rfl),On.zero.mono (Nat.zero_le _),(fun _ z=>nomatch z),fun _=>OnP.one _⟩,⟨eT0,q20,Rat.le_refl,RiseO.one _,fun _ z=>nomatch z⟩,fun _=>CvR.one _,True.intro,rfl,fun _ z=>nomatch z⟩ ?_ ?_
      · rintro i q e hqi ⟨o8,o11,T',P',R',cs,rfl,sT,sP,sR,⟨oT,oP,oR,oC,oS⟩,⟨eT,P0,R0,up,nn⟩,cv,dec,hcl,hcs⟩
        have hil:i < qs.length:=(Zs hqi).1;obtain ⟨qp,sg⟩:=hq q (Zm hqi);have ed:qs.drop i=q :: qs.drop (i + 1):=by rw [List.drop_eq_getElem_cons hil]; congr 1; exact (Zs hqi).2
        have eT2:T' - q=q1 + sumR (qs.drop (i + 1)):=by
          rw [ed] at eT;have:sumR (q :: qs.drop (i + 1))=q + sumR (qs.drop (i + 1)):=rfl;rw [this] at eT; grind
        have nT2:=T9 (qs:=qs.drop (i + 1)) fun x hx=>hq0 x (List.mem_of_mem_drop hx);have nT:=T9 (qs:=qs.drop i) fun x hx=>hq0 x (List.mem_of_mem_drop hx);trivial;refine ⟨_,_,rfl,.inr rfl,fun v1 _ vp sv1 _=>?_⟩;have v0:=vp rfl;have nn':∀ c ∈ cs++[(T',P')],0<=c.1/\0<=c.2:=fun c hc=>by
          rcases Za hc with z | z
          · exact nn c z
          · cases Zn z
            exact ⟨by show 0<=T'; rw [eT]; grind,P0⟩
        trivial;refine ⟨_,_,rfl,sT.q (by omega) (by omega),sg.q (by decide) (by decide),?_⟩;trivial;refine ⟨_,_,rfl,sR.q (by omega) (by omega),sv1.q (by decide) (by decide),?_⟩;trivial;have hi4:i < 4:=by omega
        have oT2:On LL ((6 + (i + 1)) * 2 ^ 41) (T' - q):=(oT.sub D9 (N3 sg)).mono (by rw [show 6 + (i + 1)=(6 + i) + 1 by omega,Nat.add_mul (6 + i) 1,Nat.one_mul]; exact Zv _);have oR2:On LL ((i + 1) * 2 ^ 41) (R' + v1):=(oR.add D9 (N3 sv1)).mono (by rw [Nat.add_mul,Nat.one_mul]; exact Zv _);have oC2:OnC (cs++[(T',P')]):=fun c hc=>by
          rcases Za hc with z | z
          · exact oC c z
          · cases Zn z
            exact ⟨oT.mono (Zx (Zu _ (show 6 + i<=16 by omega)) (Nat.le_of_ble_eq_true rfl)),oP.mono (Zx (Zu _ (show 1 + i<=16 by omega)) (Nat.le_of_ble_eq_true rfl))⟩
        have sT2:SmR (69 + 7 * (i + 1)) (30 + 6 * (i + 1)) (T' - q):=(sT.sub sg).mono (by omega) (by omega);have sR2:SmR (41 + 7 * (i + 1)) (1 + 6 * (i + 1)) (R' + v1):=(sR.add sv1).mono (by omega) (by omega);refine ⟨hk.lay,A33,?_⟩;refine ite2 (fun h2=>?_) (fun h2=>?_);case' refine_1 =>
          refine ⟨_,_,rfl,sR2.q (by omega) (by omega),sg.q (by decide) (by decide),?_⟩;trivial;have sv2:SmR 110 31 ((R' + v1) * q):=(sR2.mul sg).mono (by omega) (by omega);obtain ⟨v2,ev2⟩:∃ v2,v2=(R' + v1) * q:=⟨_,rfl⟩;rw [<- ev2] at sv2 ⊢;have hv:kd="straight"->v2=(R' + v1) * q:=fun _=>ev2;have ov:On (LL * LL) (2 ^ 85) v2:=by rw [ev2]; exact (oR2.mul (N3 sg)).mono (Zx (Zu _ (Zu _ (show i + 1<=8 by omega))) (Nat.le_of_ble_eq_true rfl))
          have w0:0 < v2:=by rw [ev2]; exact Rat.mul_pos (by grind) qp
        case' refine_2 =>
          have sv2:SmR 110 31 v1:=sv1.mono (by decide) (by decide);have hv:kd="straight"->v1=(R' + v1) * q:=fun z=>absurd (by rw [z]; exact B7y) h2;have ov:On (LL * LL) (2 ^ 85) v1:=((N3 sv1).up D9).mono (Nat.le_of_ble_eq_true rfl);have w0:0 < v1:=v0
        all_goals
          refine ⟨_,_,rfl,sP.q (by omega) (by omega),sv2.q (by decide) (by decide),?_⟩;trivial;refine ⟨by simp; omega,_,_,_,_,_,cs++[(T',P')],by simp only [List.map_append]; rfl,sT2,(sP.add sv2).mono (by omega) (by omega),sR2,⟨oT2,(oP.add (Nat.mul_pos D9 D9) ov).mono (by rw [show 1 + (i + 1)=(1 + i) + 1 by omega,Nat.add_mul (1 + i) 1,Nat.one_mul]; exact Zv _),oR2,oC2,fun z=>(oS z).snoc (by rw [((cv z).step qp (vp rfl) (hv z)).2 cs _ _ (by simp)]; exact oR2.mono (Zx (Zu _ (show i + 1<=8 by omega)) (Nat.le_of_ble_eq_true rfl)))⟩,⟨eT2,by grind,by grind,RiseO.snoc up (by show T' - q < T'; grind) (by show P' < P' + _; grind),nn'⟩,fun z=>(cv z).step qp (vp rfl) (hv z),Dec.snoc dec (by show T' - q < T'; grind),by simp [hcl],fun c hc=>?_⟩;rcases Za hc with z | z
          · exact hcs c z
          · cases Zn z
            exact ⟨sT.mono (by omega) (by omega),sP.mono (by omega) (by omega)⟩
      · rintro e ⟨o8,o11,T',P',R',cs,rfl,sT,sP,sR,⟨oT,oP,oR,oC,oS⟩,⟨eT,P0,R0,up,nn⟩,cv,dec,hcl,hcs⟩
        trivial;have nT:=T9 (qs:=qs.drop (qs.map dq).length) fun x hx=>hq0 x (List.mem_of_mem_drop hx);have hl4:(qs.map dq).length<=4:=by rw [Zl]; exact hm
        refine k _ ⟨⟨by simp,by simp; omega,dec,fun c hc=>?_⟩,fun c hc=>?_,up,fun z=>(cv z).1⟩ (fun c hc=>?_) oS (by simp; omega)
        · rcases Za hc with z | z
          · exact hcs c z
          · simp at z; subst z; exact ⟨sT.mono (by omega) (by omega),sP.mono (by omega) (by omega)⟩
        · rcases Za hc with z | z
          · exact nn c z
          · simp at z; subst z; exact ⟨by show 0<=T'; rw [eT]; grind,P0⟩
        · rcases Za hc with z | z
          · exact oC c z
          · cases Zn z
            exact ⟨oT.mono (Zx (Zu _ (show 6 + _<=16 by omega)) (Nat.le_of_ble_eq_true rfl)),oP.mono (Zx (Zu _ (show 1 + _<=16 by omega)) (Nat.le_of_ble_eq_true rfl))⟩
def A21:Pu.PSp:=fun as Q=>∃ (ns:List Int) (kz:List Str),as=[.bor (ns.map .int),.d (.list (kz.map .str))]/\ns.length<=63/\1<=kz.length/\kz.length<=3/\(∀ z ∈ kz,Kd z)/\∀ n xs vs us,ShOk n xs vs us->Q (.d (shD xs vs us))
theorem A3o (T:Txt K mg D):FnOk P w K mg base CX0 4 D.a_Lshape D.d_Lshape ["_law_script","_law_kinds"] (Pu.spOf K [.vw,.dat] A21):=by
  refine T.B.F_Lshape.ok sc_Lshape (Zz rfl) (fun cdv A outer s H vs Q E hr h=>?_);refine ⟨_,(QSs.out (A5 (qst 2 sc_Lshape (qcK (F0 (K:=K) T) hr.mo (G6 T) (A0 (qpv 0) (A0 A3 A4))))
      (A5 (qst 3 sc_Lshape (qix K (C0 (A0 A3 (A0 A3 (A0 A3 (A0 A3 (A0 A3 (A0 A3 (A0 A3 (A0 A3 A4))))))))) (qcK (B6 (K:=K) T) hr.mo (C4 T) (A0 (qpv 2) (A0 A3 A4)))))
      (A5 (qst 4 sc_Lshape (B0 D5 A3 (qcK (B6 (K:=K) T) hr.mo (C4 T) (A0 (qpv 2) (A0 A3 A4)))))
      (A5 (qst 5 sc_Lshape (qcK (B6 (K:=K) T) hr.mo (C4 T) (A0 (qpv 2) (A0 A3 A4))))
      (A5 (qst 6 sc_Lshape (B0 C3 A3 (J0 A4x (by rfl) T.z_int (by rfl) (A0 (J9 (D4 (K:=K) rfl hr.units) (qcK (B6 (K:=K) T) hr.mo (C4 T) (A0 (qpv 2) (A0 A3 A4))) A3 (B7 _)) A4))))
      (A5 (qst 7 sc_Lshape (C0 A4))
      (A5 (G0 Zf rfl (E8 rfl T.z_range (A0 (qpv 3) A4)) (qgn 8 sc_Lshape)
        (A5 (qst 9 sc_Lshape (qcK (F0 (K:=K) T) hr.mo (G6 T) (A0 (qpv 0) (A0 (B0 D5 A3 (qpv 8)) A4))))
        (A5 (qst 10 sc_Lshape (qix K (qpv 1) (qcK (B6 (K:=K) T) hr.mo (C4 T) (A0 (qpv 9) (A0 (qln K T.z_len (qpv 1)) A4)))))
        (A6 (C7 (E6 (K:=K) rfl Z1 Z2 Z3 C9 (qpv 7) (A0 (B3 (A0 (B0 B0g (qix K D7 (qpv 8)) (qpv 4)) (A0 (qcK (A3q (K:=K) T) hr.mo (A68 T) (A0 (qpv 9) (A0 (qpv 10) (A0 A3 (A0 O3 A4))))) A4))) A4)))))))
      (A5 (qst 11 sc_Lshape (C0 A4))
      (A5 (qst 12 sc_Lshape (C0 A4))
      (A5 (G0 Zf rfl (A10 rfl T.z_range (A0 A3 (A0 (B0 D5 (D0 (A4v rfl) (by rfl) T.z_max (by rfl) (A0 (B0 D5 A3 (qpv 5)) (A0 (D0 (A4t rfl) (by rfl) T.z_min (by rfl) (A0 (qln K T.z_len (qpv 0)) (A0 A3 A4))) A4))) (B0 C3 A3 (qpv 6))) A4))) (qgn 8 sc_Lshape)
        (A5 (qst 9 sc_Lshape (qcK (F0 (K:=K) T) hr.mo (G6 T) (A0 (qpv 0) (A0 (qpv 8) A4))))
        (A5 (qst 13 sc_Lshape (qcK (B6 (K:=K) T) hr.mo (C4 T) (A0 (qpv 9) (A0 (qpv 3) A4))))
        (A6 (D2 (QW.pt (G8 (B1 R1 (qpv 3) A3 (B7 _)) (G8 (B1 A14 (qcK (B6 (K:=K) T) hr.mo (C4 T) (A0 (qpv 9) (A0 A3 A4))) A3 (B7 _)) (L7 (B1 A14 (qln K T.z_len (qpv 11)) A3 (B7 _))))))
          (A6 (C7 (E6 (K:=K) rfl Z1 Z2 Z3 C9 (qpv 11) (A0 (B3 (A0 (qpv 13) (A0 (B0 M1 (B0 D5 (B0 D5 (qpv 13) A3) (qcK (B6 (K:=K) T) hr.mo (C4 T) (A0 (qpv 9) (A0 (B0 N2 (qpv 3) A3) A4)))) (qpv 3)) A4))) A4))))
          (A6 (D2 (B1 A14 (qln K T.z_len (qpv 12)) A3 (B7 _))
            (A6 (C7 (E6 (K:=K) rfl Z1 Z2 Z3 C9 (qpv 12) (A0 (B3 (A0 (qix K (C0 (A0 D7 (A0 D7 (A0 D7 A4)))) (qcK (B6 (K:=K) T) hr.mo (C4 T) (A0 (qpv 9) (A0 A3 A4)))) (A0 (qpv 13) A4))) A4))))
            C2)))))))
      (A6 (B2 (B3 (A0 (qpv 7) (A0 (qpv 11) (A0 (qpv 12) A4))))))))))))))))),?_⟩
  refine Pu.F1 h ?_;rintro as Qp ⟨ns,kz,rfl,hns,k1,k3,hkz,k⟩;refine hd fun R hR=>?_;trivial;refine ⟨ns,_,rfl,by decide,by decide,?_⟩;trivial;subst hR;refine hd fun R hR=>?_;trivial;refine ⟨8,rfl,by decide,sm4 8,fun d d0 d1=>?_⟩;trivial;obtain ⟨n,⟨n0,n1⟩,en⟩:=B1d d0 d1;refine K1 en ?_;trivial;subst hR;refine hd fun R hR=>?_;trivial;refine ⟨8,rfl,by decide,sm4 8,fun sz sz0 sz1=>?_⟩;trivial;subst hR;refine hd fun R hR=>?_;trivial;refine ⟨8,rfl,by decide,sm4 8,fun le le0 le1=>?_⟩;trivial;subst hR;refine hd fun R hR=>?_;trivial;refine ⟨8,rfl,by decide,sm4 8,fun fu fu0 fu1=>?_⟩;trivial;refine ⟨⟨K8 (B:=40) (by omega) (by omega) (by decide),K8 (B:=1) (by split <;> omega) (by split <;> omega) (by decide)⟩,?_⟩
  obtain ⟨fl,hfl,fl0,fl1⟩:∃ fl:Int,fl=40 * (if fu=5 then 1 else 0)/\0<=fl/\fl<=40:=⟨_,rfl,by split <;> omega,by split <;> omega⟩
  rw [<- hfl];subst hR;refine hd fun R hR=>?_;trivial;subst hR;refine P5 (fun e=>∃ (xs:List Wk) (o8 o9 o10:Option SV),e=[some (.bor (ns.map .int)),some (.d (.list (kz.map .str))),some .st,some (.d (.int (n:Int))),some (.d (.int (1 + sz))),some (.d (.int le)),some (.d (.int fl)),some (.own (xs.map kD)),o8,o9,o10,none,none,none]/\xs.length=n/\(∀ x ∈ xs,Kd x.2.1/\OfG x.2.1 x.2.2 100 54 244 130/\OnC x.2.2/\(x.2.1="straight"->OnP x.2.2))/\∀ x ∈ xs,(PyData.str x.1).canLay0=true) (fun R hR=>?_) ?_
  · trivial
    refine ⟨⟨by omega,by omega⟩,M5 (fun i e=>∃ (xs:List Wk) (o8 o9 o10:Option SV),e=[some (.bor (ns.map .int)),some (.d (.list (kz.map .str))),some .st,some (.d (.int (n:Int))),some (.d (.int (1 + sz))),some (.d (.int le)),some (.d (.int fl)),some (.own (xs.map kD)),o8,o9,o10,none,none,none]/\xs.length=i/\(∀ x ∈ xs,Kd x.2.1/\OfG x.2.1 x.2.2 100 54 244 130/\OnC x.2.2/\(x.2.1="straight"->OnP x.2.2))/\∀ x ∈ xs,(PyData.str x.1).canLay0=true) ⟨[],_,_,_,rfl,rfl,(fun _ z=>nomatch z),fun _ z=>nomatch z⟩ ?_ ?_⟩
    · rintro i e hi ⟨xs,o8,o9,o10,rfl,hl,hx,hn⟩
      have hin:i < n:=by simpa using hi
      refine hd fun R hR=>?_;trivial;refine ⟨ns,_,rfl,by omega,by omega,?_⟩;trivial;subst hR;refine hd fun R hR=>?_;trivial;refine ⟨(kz.length:Int),by simp,by omega,K8 (B:=3) (by omega) (by omega) (by decide),fun g g0 g1=>?_⟩;trivial;obtain ⟨gj,rfl⟩:=Zi g0;have hgj:gj < kz.length:=by omega
      have eg:L2.atI (kz.map PyData.str) (gj:Int)=some (.str kz[gj]):=K6 (by rw [Zh,Zg hgj]; rfl);refine K1 eg ?_;trivial;subst hR;trivial;refine ⟨(show ltr2.length<=1000 by rw [U6]; decide),?_⟩;refine getS (z:=ltr2) (by rw [U6]; decide) A58 (by omega) (by rw [U6]; omega) (fun c hc=>?_);rw [show sgn c=PyData.str ⟨#[c]⟩ from rfl];trivial;refine ⟨⟨by omega,by omega⟩,(show 1<=100 by decide),kz[gj],5,rfl,by decide,by decide,hkz _ (List.getElem_mem hgj),fun cs og oc op ol=>?_⟩;trivial;refine ⟨by omega,xs++[(Txt.mul ⟨#[c]⟩ (1 + sz),kz[gj],cs)],_,_,_,by rw [Zc]; rfl,by rw [Ze,hl]; rfl,fun x hx'=>?_,fun x hx'=>?_⟩
      · rcases Za hx' with q | q
        · exact hx x q
        · rw [Zn q]; exact ⟨hkz _ (List.getElem_mem hgj),og,oc,op⟩
      · rcases Za hx' with q | q
        · exact hn x q
        · rw [Zn q]; exact B1b (B3l hc)
    · rintro e ⟨xs,o8,o9,o10,rfl,hl,hx,hn⟩
      exact hR _ ⟨xs,_,_,_,rfl,by simpa using hl,hx,hn⟩
  rintro e ⟨xs,o8,o9,o10,rfl,hl,hx,hn⟩;refine hd fun R hR=>?_;trivial;subst hR;refine hd fun R hR=>?_;trivial;subst hR;trivial;refine ⟨⟨K8 (B:=2) (by omega) (by omega) (by decide),K8 (B:=40) (by omega) (by omega) (by decide)⟩,?_⟩;have hM:0<=(if (if 40 < (ns.length:Int) then 40 else (ns.length:Int)) > 7 + le then if 40 < (ns.length:Int) then 40 else (ns.length:Int) else 7 + le) + 2 * fl/\(if (if 40 < (ns.length:Int) then 40 else (ns.length:Int)) > 7 + le then if 40 < (ns.length:Int) then 40 else (ns.length:Int) else 7 + le) + 2 * fl<=120:=by
    split <;> split <;> omega
  generalize (if (if 40 < (ns.length:Int) then 40 else (ns.length:Int)) > 7 + le then if 40 < (ns.length:Int) then 40 else (ns.length:Int) else 7 + le) + 2 * fl=M at hM ⊢;refine ⟨⟨by decide,by decide,by omega,by omega⟩,M5 (fun i e=>∃ (vs:List (Int × Int)) (us:List (Str × Int)) (o8 o9 o10 o13:Option SV),e=[some (.bor (ns.map .int)),some (.d (.list (kz.map .str))),some .st,some (.d (.int (n:Int))),some (.d (.int (1 + sz))),some (.d (.int le)),some (.d (.int fl)),some (.own (xs.map kD)),o8,o9,o10,some (.own (vs.map pD)),some (.own (us.map qD)),o13]/\ShOk n xs vs us) ⟨[],[],_,_,_,_,rfl,hl,n0,n1,hx,hn,Nat.zero_le _,(fun _ z=>nomatch z),Nat.zero_le _,(fun _ z=>nomatch z),fun _ z=>nomatch z⟩ ?_ ?_⟩
  · rintro i e hi ⟨vs,us,o8,o9,o10,o13,rfl,ok⟩
    have vl:=ok.vl;have ul:=ok.ul;refine hd fun R hR=>?_;trivial;refine ⟨ns,_,rfl,by omega,by omega,?_⟩;trivial;subst hR;refine hd fun R hR=>?_;trivial;refine ⟨(n:Int),rfl,by omega,K8 (B:=10) (by omega) (by omega) (by decide),fun a a0 a1=>?_⟩;trivial;subst hR;trivial;refine ite2 (fun h1=>?_) (fun h1=>?_)
    · refine ⟨3,rfl,by decide,sm4 3,fun t t0 t1=>?_⟩
      trivial;refine ite2 (fun h3=>ite2 (fun h4=>?_) (fun h4=>?_)) (fun h3=>?_)
      · refine ⟨(n:Int) - 1,rfl,by omega,K8 (B:=10) (by omega) (by omega) (by decide),fun b b0 b1=>?_⟩
        trivial;exact ⟨by omega,by omega,vs++[(a,(a + 1 + b) % (n:Int))],us,_,_,_,_,by rw [Zc]; rfl,ok.addV ⟨a0,a1⟩ ⟨Int.emod_nonneg _ (by omega),Int.emod_lt_of_pos _ (by omega)⟩ (by omega) (B6s a0 a1 b0 (by omega))⟩
      all_goals
        refine ite2 (fun h2=>?_) (fun h2=>⟨vs,us,_,_,_,_,rfl,ok⟩);refine ⟨3,rfl,by decide,sm4 3,fun g g0 g1=>?_⟩;trivial;obtain ⟨kd,hkd,ek⟩:=A70 g0 g1;refine K1 ek ?_;trivial;exact ⟨by omega,vs,us++[(kd,a)],_,_,_,_,by rw [Zc]; rfl,ok.addU ⟨a0,a1⟩ hkd (by omega)⟩
    · refine ite2 (fun h2=>?_) (fun h2=>⟨vs,us,_,_,_,_,rfl,ok⟩)
      refine ⟨3,rfl,by decide,sm4 3,fun g g0 g1=>?_⟩;trivial;obtain ⟨kd,hkd,ek⟩:=A70 g0 g1;refine K1 ek ?_;trivial;exact ⟨by omega,vs,us++[(kd,a)],_,_,_,_,by rw [Zc]; rfl,ok.addU ⟨a0,a1⟩ hkd (by omega)⟩
  rintro e ⟨vs,us,o8,o9,o10,o13,rfl,ok⟩;trivial;exact k n xs vs us ok
def A24:Pu.PSp:=fun as Q=>∃ (n:Nat) (xs:List Wk) (vs:List (Int × Int)) (us:List (Str × Int)) (ns:List Int),as=[.d (shD xs vs us),.bor (ns.map .int)]/\ShOk n xs vs us/\∀ ws hs,LN xs ws hs []->ws.map (fun w=>(w.1,w.2.1))=vs->hs.map (fun h=>(h.1,h.2.1))=us->Q (.d (netD xs ws hs []))
theorem A3r (T:Txt K mg D):FnOk P w K mg base CX0 3 D.a_Lloose D.d_Lloose ["_law_shape_here","_law_script"] (Pu.spOf K [.dat,.vw] A24):=by
  refine T.B.F_Lloose.ok sc_Lloose (Zz rfl) (fun cdv A outer s H vs Q E hr h=>?_);refine ⟨_,(QSs.out (A5 (M3 (qpv 0) (J7 (K:=K) (n:=3) rfl rfl (C6 (qgn 2 sc_Lloose) (C6 (qgn 3 sc_Lloose) (C6 (qgn 4 sc_Lloose) J6))) rfl rfl))
      (A5 (qst 5 sc_Lloose (C0 A4))
      (A5 (G0 Zf rfl (E8 rfl T.z_range (A0 (qln K T.z_len (qpv 3)) A4)) (qgn 6 sc_Lloose)
        (A5 (qst 7 sc_Lloose (qcK (F0 (K:=K) T) hr.mo (G6 T) (A0 (qpv 1) (A0 (B0 D5 A3 (qpv 6)) A4))))
        (A5 (C7 (qcK (B6 (K:=K) T) hr.mo (C4 T) (A0 (qpv 7) (A0 A3 A4))))
        (A5 (qst 8 sc_Lloose (qcK (F8 (K:=K) T) hr.mo (J3 T) (A0 (qpv 7) (A0 O3 (A0 A3 A4)))))
        (A5 (D2 (QW.pt (G8 (B1 R1 (qix K (qix K (qpv 3) (qpv 6)) A3) (qix K (qix K (qpv 3) (qpv 6)) A3) (B7 _)) (L7 (B1 R1 (qcK (B6 (K:=K) T) hr.mo (C4 T) (A0 (qpv 7) (A0 A3 A4))) A3 (B7 _)))))
          (A6 (qst 8 sc_Lloose (qcK (G2 (K:=K) T) hr.mo (K5 T) (A0 (B3 (A0 A3 (A0 A3 A4))) (A0 (qcK (K3 (K:=K) T) hr.mo (M6 T) (A0 (qpv 8) (A0 (qix K (C0 (A0 (B3 (A0 A3 (A0 A3 A4))) (A0 (B3 (A0 A3 (A0 A3 A4))) (A0 (B3 (A0 (B0 S6 A3 A3) (A0 A3 A4))) A4)))) (qcK (B6 (K:=K) T) hr.mo (C4 T) (A0 (qpv 7) (A0 A3 A4)))) A4))) A4)))))
          C2)
        (A6 (C7 (E6 (K:=K) rfl Z1 Z2 Z3 C9 (qpv 5) (A0 (B3 (A0 (qix K (qix K (qpv 3) (qpv 6)) A3) (A0 (qix K (qix K (qpv 3) (qpv 6)) A3) (A0 (qpv 8) A4)))) A4)))))))))
      (A5 (qst 9 sc_Lloose (C0 A4))
      (A5 (G0 Zf rfl (E8 rfl T.z_range (A0 (qln K T.z_len (qpv 4)) A4)) (qgn 6 sc_Lloose)
        (A5 (qst 7 sc_Lloose (qcK (F0 (K:=K) T) hr.mo (G6 T) (A0 (qpv 1) (A0 (B0 D5 A3 (qpv 6)) A4))))
        (A5 (C7 (qcK (B6 (K:=K) T) hr.mo (C4 T) (A0 (qpv 7) (A0 A3 A4))))
        (A5 (qst 10 sc_Lloose (qcK (F8 (K:=K) T) hr.mo (J3 T) (A0 (qpv 7) (A0 O3 (A0 A3 A4)))))
        (A5 (qst 11 sc_Lloose (qcK (B6 (K:=K) T) hr.mo (C4 T) (A0 (qpv 7) (A0 A3 A4))))
        (A5 (D2 (QW.pt (G8 (B1 (I0 (K:=K) rfl hr.units) (qix K (qix K (qpv 4) (qpv 6)) A3) D7 (B7 _)) (L7 (B1 R1 (qpv 11) A3 (B7 _)))))
          (A6 (qst 10 sc_Lloose (qcK (K3 (K:=K) T) hr.mo (M6 T) (A0 (qpv 10) (A0 (qix K (C0 (A0 (B3 (A0 A3 (A0 A3 A4))) (A0 (B3 (A0 A3 (A0 A3 A4))) (A0 (B3 (A0 (B0 S6 A3 A3) (A0 A3 A4))) (A0 (B3 (A0 (B0 S6 A3 A3) (A0 A3 A4))) A4))))) (qcK (B6 (K:=K) T) hr.mo (C4 T) (A0 (qpv 7) (A0 A3 A4)))) A4)))))
          (A6 (D2 (B1 A14 (qpv 11) A3 (B7 _))
            (A6 (qst 10 sc_Lloose (qcK (G2 (K:=K) T) hr.mo (K5 T) (A0 (B3 (A0 A3 (A0 A3 A4))) (A0 (qpv 10) A4)))))
            C2)))
        (A6 (C7 (E6 (K:=K) rfl Z1 Z2 Z3 C9 (qpv 9) (A0 (B3 (A0 (qix K (qix K (qpv 4) (qpv 6)) A3) (A0 (qix K (qix K (qpv 4) (qpv 6)) A3) (A0 (qpv 10) A4)))) A4))))))))))
      (A6 (B2 (B3 (A0 (qpv 2) (A0 (qpv 5) (A0 (qpv 9) (A0 (C0 A4) A4))))))))))))),?_⟩
  refine Pu.F1 h ?_;rintro as Qp ⟨n,xs,vs,us,ns,rfl,ok,k⟩;have n1:=ok.n1;have ln:=ok.ln;have vl:=ok.vl;have ul:=ok.ul;refine hd fun R hR=>?_;unfold shD;trivial;subst hR;refine hd fun R hR=>?_;trivial;subst hR;refine hd fun R hR=>?_;trivial;refine ⟨by omega,M5 (fun i e=>∃ (ws:List (Int × Int × Rat)) (o6 o7 o8:Option SV),e=[some (.d (.tuple [.list (xs.map kD),.list (vs.map pD),.list (us.map qD)])),some (.bor (ns.map .int)),some (.d (.list (xs.map kD))),some (.d (.list (vs.map pD))),some (.d (.list (us.map qD))),some (.own (ws.map wD)),o6,o7,o8,none,none,none]/\ws.length=i/\(∀ w ∈ ws,LnW n w)/\ws.map (fun w=>(w.1,w.2.1))=vs.take i) ⟨[],_,_,_,rfl,rfl,(fun _ z=>nomatch z),rfl⟩ ?_ ?_⟩
  · rintro i e hi ⟨ws,o6,o7,o8,rfl,lw,hw,mw⟩
    obtain ⟨⟨v1,v2⟩,ev⟩:∃ z,vs[i]?=some z:=⟨_,Zg (by omega)⟩;have vk:=ok.vk _ (Zm ev);have fin:∀ q:Rat,O4 q->∀ w ∈ ws++[(v1,v2,q)],LnW n w:=fun q oq w h=>by
      rcases Za h with z | z
      · exact hw w z
      · rw [Zn z]; exact ⟨vk.1,vk.2,oq⟩
    refine hd fun R hR=>?_;trivial;refine ⟨ns,_,rfl,by omega,by omega,?_⟩;trivial;subst hR;refine hd fun R hR=>?_;trivial;refine ⟨7907,rfl,by decide,K8 (B:=7907) (by omega) (by omega) (by decide),fun d d0 d1=>?_⟩;trivial;subst hR;refine hd fun R hR=>?_;trivial;refine ⟨_,_,rfl,.inl rfl,fun q q0 _ sq _=>?_⟩;have oq:=N3 sq;trivial;subst hR;refine P5 (fun e=>∃ (q:Rat) (o7:Option SV),e=[some (.d (.tuple [.list (xs.map kD),.list (vs.map pD),.list (us.map qD)])),some (.bor (ns.map .int)),some (.d (.list (xs.map kD))),some (.d (.list (vs.map pD))),some (.d (.list (us.map qD))),some (.own (ws.map wD)),some (.d (.int (i:Int))),o7,some (.d (dq q)),none,none,none]/\O4 q) (fun R hR=>?_) ?_
    · refine hd3 fun S hS=>?_
      trivial;refine A9 ev ?_;rw [show pD (v1,v2)=PyData.tuple [.int v1,.int v2] from rfl];trivial;refine A9 ev ?_;rw [show pD (v1,v2)=PyData.tuple [.int v1,.int v2] from rfl];trivial;refine ite2 (fun _=>?_) (fun _=>hR _ ⟨q,_,rfl,A16 oq (by decide)⟩);refine ⟨6,rfl,by decide,sm4 6,fun b b0 b1=>?_⟩;trivial;refine ite2 (fun _=>?_) (fun _=>hR _ ⟨q,_,rfl,A16 oq (by decide)⟩);subst hS;generalize hL:pLst _=L;trivial;subst hL;refine lit3 fun qs ql hq=>?_;trivial;refine ⟨3,rfl,by decide,sm4 3,fun g g0 g1=>?_⟩;trivial;obtain ⟨g,rfl⟩:=Zi g0;obtain ⟨y,ey⟩:∃ z,qs[g]?=some z:=⟨_,Zg (by omega)⟩;have oy:=hq y (Zm ey);have os:=(oq.p2 (b:=44) (by decide)).add2 (b:=45) D9 oy (by decide);refine A9 ey ?_;trivial;refine ⟨_,_,rfl,onL oq (by decide),onL oy (by decide),?_⟩;trivial;refine ⟨0,_,rfl,smq0,onL os (by decide),?_⟩;trivial;exact hR _ ⟨_,_,rfl,A16 ((On.zero.mono (Nat.zero_le (2 ^ 45))).sub2 (b:=46) D9 os (by decide)) (by decide)⟩
    · rintro e ⟨q,o7,rfl,o4⟩
      trivial;refine A9 ev ?_;rw [show pD (v1,v2)=PyData.tuple [.int v1,.int v2] from rfl];trivial;refine A9 ev ?_;rw [show pD (v1,v2)=PyData.tuple [.int v1,.int v2] from rfl];trivial;exact ⟨by omega,ws++[(v1,v2,q)],_,_,_,by rw [Zc]; rfl,by rw [Ze,lw]; rfl,fin q o4,by rw [Zc,mw,List.take_add_one,ev]; rfl⟩
  rintro e ⟨ws,o6,o7,o8,rfl,lw,hw,mw⟩;subst hR;dsimp only;refine hd fun R hR=>?_;trivial;subst hR;refine hd fun R hR=>?_;trivial;refine ⟨by omega,M5 (fun i e=>∃ (hs:List (Str × Int × Rat)) (o6 o7 o10 o11:Option SV),e=[some (.d (.tuple [.list (xs.map kD),.list (vs.map pD),.list (us.map qD)])),some (.bor (ns.map .int)),some (.d (.list (xs.map kD))),some (.d (.list (vs.map pD))),some (.d (.list (us.map qD))),some (.own (ws.map wD)),o6,o7,o8,some (.own (hs.map hD)),o10,o11]/\hs.length=i/\(∀ h ∈ hs,LnH n h)/\hs.map (fun h=>(h.1,h.2.1))=us.take i) ⟨[],_,_,_,_,rfl,rfl,(fun _ z=>nomatch z),rfl⟩ ?_ ?_⟩
  · rintro i e hi ⟨hs,o6,o7,o10,o11,rfl,lh,hh,mh⟩
    obtain ⟨⟨u1,u2⟩,eu⟩:∃ z,us[i]?=some z:=⟨_,Zg (by omega)⟩;have uk:=ok.uk _ (Zm eu);have fin:∀ q:Rat,O4 q->∀ h ∈ hs++[(u1,u2,q)],LnH n h:=fun q oq w h=>by
      rcases Za h with z | z
      · exact hh w z
      · rw [Zn z]; exact ⟨uk.1,uk.2,oq⟩
    refine hd fun R hR=>?_;trivial;refine ⟨ns,_,rfl,by omega,by omega,?_⟩;trivial;subst hR;refine hd fun R hR=>?_;trivial;refine ⟨7907,rfl,by decide,K8 (B:=7907) (by omega) (by omega) (by decide),fun d d0 d1=>?_⟩;trivial;subst hR;refine hd fun R hR=>?_;trivial;refine ⟨_,_,rfl,.inl rfl,fun q q0 _ sq _=>?_⟩;have oq:=N3 sq;trivial;subst hR;refine hd fun R hR=>?_;trivial;refine ⟨8,rfl,by decide,sm4 8,fun b b0 b1=>?_⟩;trivial;subst hR;refine P5 (fun e=>∃ (q:Rat) (o7 o11:Option SV),e=[some (.d (.tuple [.list (xs.map kD),.list (vs.map pD),.list (us.map qD)])),some (.bor (ns.map .int)),some (.d (.list (xs.map kD))),some (.d (.list (vs.map pD))),some (.d (.list (us.map qD))),some (.own (ws.map wD)),some (.d (.int (i:Int))),o7,o8,some (.own (hs.map hD)),some (.d (dq q)),o11]/\O4 q) (fun R hR=>?_) ?_
    · generalize hL:pLst _=L
      trivial;refine A9 eu ?_;rw [show qD (u1,u2)=PyData.tuple [.str u1,.int u2] from rfl];trivial;refine ⟨uk.1.lay,B61,ite2 (fun _=>ite2 (fun _=>?_) (fun _=>?_)) (fun _=>?_)⟩
      · subst hL
        refine lit4 fun qs ql hq=>?_;trivial;refine ⟨4,rfl,by decide,sm4 4,fun g g0 g1=>?_⟩;trivial;obtain ⟨g,rfl⟩:=Zi g0;obtain ⟨y,ey⟩:∃ z,qs[g]?=some z:=⟨_,Zg (by omega)⟩;have oy:=hq y (Zm ey);have os:=(oq.p2 (b:=44) (by decide)).add2 (b:=45) D9 oy (by decide);refine A9 ey ?_;trivial;refine ⟨_,_,rfl,onL oq (by decide),onL oy (by decide),?_⟩;trivial;exact hR _ ⟨_,_,_,rfl,A16 os (by decide)⟩
      all_goals
        trivial;refine ite2 (fun _=>?_) (fun _=>hR _ ⟨q,_,_,rfl,A16 oq (by decide)⟩);trivial;refine ⟨0,_,rfl,smq0,onL oq (by decide),?_⟩;trivial;exact hR _ ⟨_,_,_,rfl,A16 ((On.zero.mono (Nat.zero_le (2 ^ 41))).sub2 (b:=42) D9 oq (by decide)) (by decide)⟩
    · rintro e ⟨q,o7,o11,rfl,o4⟩
      trivial;refine A9 eu ?_;rw [show qD (u1,u2)=PyData.tuple [.str u1,.int u2] from rfl];trivial;refine A9 eu ?_;rw [show qD (u1,u2)=PyData.tuple [.str u1,.int u2] from rfl];trivial;exact ⟨by omega,hs++[(u1,u2,q)],_,_,_,_,by rw [Zc]; rfl,by rw [Ze,lh]; rfl,fin q o4,by rw [Zc,mh,List.take_add_one,eu]; rfl⟩
  rintro e ⟨hs,o6,o7,o10,o11,rfl,lh,hh,mh⟩;subst hR;trivial;refine k ws hs ⟨by rw [ln]; exact ok.n0,by omega,fun x hx=>?_,ok.nm,by omega,by omega,by rw [ln]; exact hw,by rw [ln]; exact hh,.inl rfl⟩ (by rw [mw]; exact List.take_of_length_le (by omega)) (by rw [mh]; exact List.take_of_length_le (by omega));obtain ⟨a,b,c,_⟩:=ok.of x hx;exact ⟨a,b,c⟩
def Q9:Pu.PSp:=fun as Q=>∃ (xs:List Wk) (ws:List (Int × Int × Rat)) (hs:List (Str × Int × Rat)) (gs:List PyData) (ns:List Int) (a:Int),as=[.d (netD xs ws hs gs),.bor (ns.map .int),.d (.int a)]/\0<=a/\a<=100/\LN xs ws hs gs/\∀ ts:List Rat,ts.length=xs.length->(∀ t ∈ ts,On (LL * 4) (2 ^ 50) t)->(∀ (i:Nat) x t,xs[i]?=some x->ts[i]?=some t->Off x.2.1 x.2.2 t)->Q (.own (ts.map dq))
theorem R5 (T:Txt K mg D):FnOk P w K mg base CX0 3 D.a_Ltimesdrawn D.d_Ltimesdrawn ["_law_net","_law_script","_law_at"] (Pu.spOf K [.dat,.vw,.dat] Q9):=by
  refine T.B.F_Ltimesdrawn.ok sc_Ltimesdrawn (Zz rfl) (fun cdv A outer s H vs Q E hr h=>?_);refine ⟨_,(QSs.out (A5 (qst 3 sc_Ltimesdrawn (C0 A4))
      (A5 (G0 Zf rfl (E8 rfl T.z_range (A0 (qln K T.z_len (qix K (qpv 0) A3)) A4)) (qgn 4 sc_Ltimesdrawn)
        (A5 (qst 5 sc_Ltimesdrawn (qcK (F0 (K:=K) T) hr.mo (G6 T) (A0 (qpv 1) (A0 (B0 D5 (qpv 2) (qpv 4)) A4))))
        (A5 (C7 (qcK (B6 (K:=K) T) hr.mo (C4 T) (A0 (qpv 5) (A0 A3 A4))))
        (A5 (M3 (qix K (qix K (qix K (qpv 0) A3) (qpv 4)) A3) (J7 (K:=K) (n:=2) rfl rfl (C6 (qgn 6 sc_Ltimesdrawn) (C6 (qgn 7 sc_Ltimesdrawn) J6)) rfl rfl))
        (A5 (qst 8 sc_Ltimesdrawn (qcK (B6 (K:=K) T) hr.mo (C4 T) (A0 (qpv 5) (A0 (qln K T.z_len (qpv 7)) A4))))
        (A5 (qst 9 sc_Ltimesdrawn (qix K (qix K (qpv 7) (qpv 8)) A3))
        (A5 (D2 (QW.pt (G8 (B1 (D4 (K:=K) rfl hr.units) (qpv 6) D7 (B7 _)) (G8 (B1 R1 (qpv 8) A3 (B7 _)) (L7 (B1 (D4 (K:=K) rfl hr.units) (qcK (B6 (K:=K) T) hr.mo (C4 T) (A0 (qpv 5) (A0 A3 A4))) A3 (B7 _))))))
          (A5 (qst 10 sc_Ltimesdrawn (qcK (G2 (K:=K) T) hr.mo (K5 T) (A0 (qix K (qix K (qpv 7) (B0 N2 (qpv 8) A3)) A3) (A0 (qpv 9) A4))))
          (A6 (qst 9 sc_Ltimesdrawn (qcK (K3 (K:=K) T) hr.mo (M6 T) (A0 (qpv 9) (A0 (qcK (Q0 (K:=K) T) hr.mo (V6 T) (A0 (qpv 10) (A0 (qcK (N8 (K:=K) T) hr.mo (T5 T) (A0 (B0 D5 A3 (qcK (B6 (K:=K) T) hr.mo (C4 T) (A0 (qpv 5) (A0 A3 A4)))) (A0 A3 A4))) A4))) A4))))))
          C2)
        (A6 (C7 (E6 (K:=K) rfl Z1 Z2 Z3 C9 (qpv 3) (A0 (qpv 9) A4)))))))))))
      (A6 (B2 (qpv 3)))))),?_⟩
  refine Pu.F1 h ?_;rintro as Qp ⟨xs,ws,hs,gs,ns,a,rfl,a0,a1,ok,k⟩;have n0:=ok.n0;have n1:=ok.n1;unfold netD;refine hd fun R hR=>?_;trivial;subst hR;refine hd fun R hR=>?_;trivial;refine ⟨by omega,M5 (fun i e=>∃ (ts:List Rat) (o4 o5 o6 o7 o8 o9 o10:Option SV),e=[some (.d (.tuple [.list (xs.map kD),.list (ws.map wD),.list (hs.map hD),.list gs])),some (.bor (ns.map .int)),some (.d (.int a)),some (.own (ts.map dq)),o4,o5,o6,o7,o8,o9,o10]/\ts.length=i/\(∀ t ∈ ts,On (LL * 4) (2 ^ 50) t)/\∀ (i:Nat) x t,xs[i]?=some x->ts[i]?=some t->Off x.2.1 x.2.2 t) ⟨[],_,_,_,_,_,_,_,rfl,rfl,(fun _ z=>nomatch z),fun _ _ _ _ z=>by simp at z⟩ ?_ ?_⟩
  · rintro i e hi ⟨ts,o4,o5,o6,o7,o8,o9,o10,rfl,tl,ht,hf⟩
    obtain ⟨x,ex⟩:∃ z,xs[i]?=some z:=⟨_,Zg (by omega)⟩;obtain ⟨hk,og,oc⟩:=ok.of x (Zm ex);have l0:=og.ok.ne;have l5:=og.ok.le;have fin:∀ q:Rat,On (LL * 4) (2 ^ 50) q->∀ t ∈ ts++[q],On (LL * 4) (2 ^ 50) t:=fun q oq w h=>by
      rcases Za h with z | z
      · exact ht w z
      · rw [Zn z]; exact oq
    have fio:∀ q:Rat,Off x.2.1 x.2.2 q->∀ (i:Nat) x t,xs[i]?=some x->(ts++[q])[i]?=some t->Off x.2.1 x.2.2 t:=fun q oq j y t hy hq=>by
      rcases Nat.lt_or_ge j ts.length with z | z
      · rw [List.getElem?_append_left z] at hq; exact hf j y t hy hq
      · have lj:=(Zs hq).1
        rw [Ze,List.length_singleton] at lj;have ej:j=i:=by omega
        subst ej;rw [List.getElem?_append_right z,show j - ts.length=0 by omega] at hq;cases hq;rw [ex] at hy; cases hy;exact oq
    refine hd fun R hR=>?_;trivial;refine ⟨ns,_,rfl,by omega,by omega,?_⟩;trivial;subst hR;refine hd fun R hR=>?_;trivial;refine ⟨7901,rfl,by decide,K8 (B:=7901) (by omega) (by omega) (by decide),fun d d0 d1=>?_⟩;trivial;subst hR;refine hd fun R hR=>?_;trivial;refine A9 ex ?_;rw [show kD x=PyData.tuple [.str x.1,.tuple [.str x.2.1,.list (x.2.2.map dcn)]] from rfl];trivial;subst hR;refine hd fun R hR=>?_;trivial;refine ⟨(x.2.2.length:Int),by simp,by omega,K8 (B:=5) (by omega) (by omega) (by decide),fun c c0 c1=>?_⟩;trivial;subst hR;obtain ⟨c,rfl⟩:=Zi c0;obtain ⟨cc,ec⟩:∃ z,x.2.2[c]?=some z:=⟨_,Zg (by omega)⟩;have o1:=(oc cc (Zm ec)).1;refine hd fun R hR=>?_;trivial;refine A9 ec ?_;trivial;subst hR;refine hd fun R hR=>?_;trivial;refine ⟨hk.lay,A33,?_⟩;refine ite2 (fun hst=>ite2 (fun c0=>?_) (fun _=>?_)) (fun _=>?_)
    · refine ⟨3,rfl,by decide,sm4 3,fun b b0 b1=>?_⟩
      trivial;refine ite2 (fun _=>?_) (fun _=>?_)
      · obtain ⟨c2,ec2⟩:∃ z,x.2.2[c - 1]?=some z:=⟨_,Zg (by omega)⟩
        have o2:=(oc c2 (Zm ec2)).1;rw [show (c:Int) - 1=((c - 1:Nat):Int) by omega];refine A9 ec2 ?_;trivial;have B4:0 < LL * 4:=by decide
        have hcd:cc.1 < c2.1:=og.ok.dec.get ec2 ec (by omega);have nst:x.2.1≠"steps":=fun z=>by rw [z] at hst; exact absurd hst (by decide +kernel)
        have mid:∀ g:Int,0<=g->g<=2->Off x.2.1 x.2.2 (cc.1 + (c2.1 - cc.1) * Rat.divInt (1 + g) 4):=fun g g0 g1=>by
          have f:=four (x:=1 + g) (by omega) (by omega);refine Q1 (i:=c - 1) (j:=c) og.ok.dec nst l0 ec2 ec ?_ ?_
          · have h2:0<=(c2.1 - cc.1) * (1 - Rat.divInt (1 + g) 4):=Rat.mul_nonneg (by grind) (by grind)
            grind
          · have h2:0<=(c2.1 - cc.1) * Rat.divInt (1 + g) 4:=Rat.mul_nonneg (by grind) f.1
            grind
        have og2:=(o2.sub2 (b:=46) D9 o1 (by decide));refine ⟨_,_,rfl,onL o2 (by decide),onL o1 (by decide),?_⟩;trivial;refine ⟨3,rfl,by decide,sm4 3,fun g g0 g1=>?_⟩;trivial;refine ⟨_,_,rfl,by decide,K8 (B:=4) (by omega) (by omega) (by decide),K8 (B:=4) (by omega) (by omega) (by decide),?_⟩;trivial;have B9:LL * 4<=2 ^ 1000:=M7 B24 (by decide);have o3:On 4 1 (Rat.divInt (1 + g) 4):=⟨1 + g,rfl,by omega⟩;have o5:On (LL * 4) (2 ^ 46) ((c2.1 - cc.1) * Rat.divInt (1 + g) 4):=(On.mul og2 o3).mono (by decide);refine ⟨_,_,rfl,onL og2 (by decide),onQ o3 (by decide) (by decide) (by decide),?_⟩;trivial;refine ⟨_,_,rfl,onL o1 (by decide),onQ o5 B4 B9 (Zp (by decide) (by decide)),?_⟩;trivial;subst hR;trivial;exact ⟨by omega,ts++[cc.1 + (c2.1 - cc.1) * Rat.divInt (1 + g) 4],_,_,_,_,_,_,_,by rw [Zc]; rfl,by rw [Ze,tl]; rfl,fin _ ((((o1.up (C:=4) (by decide)).p2 (b:=46) (by decide)).add2 (b:=47) B4 o5 (by decide)).p2 (by decide)),fio _ (mid g g0 (by omega))⟩
      · subst hR
        trivial;exact ⟨by omega,ts++[cc.1],_,_,_,_,_,_,_,by rw [Zc]; rfl,by rw [Ze,tl]; rfl,fin _ ((o1.up (by decide)).p2 (by decide)),fio _ (N9 hk og.ok.dec l0 ec)⟩
    · subst hR
      trivial;exact ⟨by omega,ts++[cc.1],_,_,_,_,_,_,_,by rw [Zc]; rfl,by rw [Ze,tl]; rfl,fin _ ((o1.up (by decide)).p2 (by decide)),fio _ (N9 hk og.ok.dec l0 ec)⟩
    · subst hR
      trivial;exact ⟨by omega,ts++[cc.1],_,_,_,_,_,_,_,by rw [Zc]; rfl,by rw [Ze,tl]; rfl,fin _ ((o1.up (by decide)).p2 (by decide)),fio _ (N9 hk og.ok.dec l0 ec)⟩
  rintro e ⟨ts,o4,o5,o6,o7,o8,o9,o10,rfl,tl,ht,hf⟩;subst hR;trivial;exact k ts (by omega) ht hf
theorem A1e (T:Txt K mg D):∀ n:Nat,FnOk P w K mg base CX0 (n + 1) D.a_Lcopy D.d_Lcopy ["_law_thing"] (Pu.spOf K [.dat] (A2z n)):=by
  have step:∀ (n:Nat) (psI:Pu.PSp),FnOk P w K mg base CX0 n D.a_Lcopy D.d_Lcopy ["_law_thing"] (Pu.spOf K [.dat] psI)->(∀ xs,(okA n (.list xs)\/okA n (.tuple xs))->xs.length < 1000/\∀ x ∈ xs,∀ (b:Bool) (Q:SV->Prop),(∀ t,CpB b x t->Q (OT.out t))->psI [.d x] Q) ->
      FnOk P w K mg base CX0 (n + 1) D.a_Lcopy D.d_Lcopy ["_law_thing"] (Pu.spOf K [.dat] (A2z n)):=by
    intro n psI IH hI;refine T.B.F_Lcopy.ok sc_Lcopy (Zz rfl) (fun cdv A outer s H vs Q E hr h=>?_);refine ⟨_,(QSs.out (A5 (D2 (F4 (D0 (G4 (K:=K) rfl) (by rfl) T.z_isinstance (by rfl) (A0 (qpv 0) (A0 (K0 (v:=.ty "list") rfl T.z_list (by rfl) rfl) A4))))
        (A6 (B2 (qCmT (J8 rfl (F2 ["_law_one"] [none]) (G9 (K:=K) rfl (qpv 0)) (fun _ _ _=>(qgc 0 ["_law_one"])) (fun _ _ _=>L8) (fun _ _ _=>(qcK IH hr.mo (V7 T) (A0 (qpv 0) A4)))))))
        C2)
      (A5 (D2 (F4 (D0 (G4 (K:=K) rfl) (by rfl) T.z_isinstance (by rfl) (A0 (qpv 0) (A0 (K0 (v:=.ty "tuple") rfl T.z_tuple (by rfl) rfl) A4))))
        (A6 (B2 (J0 (A4s (K:=K) rfl) (by rfl) T.z_tuple (by rfl) (A0 (qCmT (J8 rfl (F2 ["_law_one"] [none]) (G9 (K:=K) rfl (qpv 0)) (fun _ _ _=>(qgc 0 ["_law_one"])) (fun _ _ _=>L8) (fun _ _ _=>(qcK IH hr.mo (V7 T) (A0 (qpv 0) A4))))) A4))))
        C2)
      (A6 (B2 (qpv 0)))))),?_⟩
    refine Pu.F1 h ?_;rintro as Qp ⟨cb,x,rfl,ox,k⟩;cases x with
    | none =>
      trivial;exact k _ .non
    | bool b =>
      trivial;exact k _ (.bl b)
    | int i =>
      trivial;exact k _ (.int i)
    | str t =>
      trivial;exact k _ (.str t)
    | dict kvs=>unfold okA at ox; exact ox.elim
    | list xs =>
      obtain ⟨hl,hx⟩:=hI xs (.inl ox);trivial;refine ⟨by omega,fun i e ts=>∃ o:Option SV,e=[o]/\CpsB cb (xs.take i) ts,⟨_,rfl,.nil⟩,?_,?_⟩
      · rintro i x e ts hi ⟨o,rfl,hc⟩
        trivial;refine hx x (Zm hi) cb _ fun t ht=>?_;trivial;refine A7u ⟨_,rfl,?_⟩;rw [List.take_add_one,hi];exact hc.snoc ht
      · rintro e ts ⟨o,rfl,hc⟩
        rw [List.take_length] at hc;trivial;exact fun a=>k _ (.lst hc)
    | tuple xs =>
      obtain ⟨hl,hx⟩:=hI xs (.inr ox);trivial;refine ⟨by omega,fun i e ts=>∃ o:Option SV,e=[o]/\CpsB cb (xs.take i) ts,⟨_,rfl,.nil⟩,?_,?_⟩
      · rintro i x e ts hi ⟨o,rfl,hc⟩
        trivial;refine hx x (Zm hi) cb _ fun t ht=>?_;trivial;refine A7u ⟨_,rfl,?_⟩;rw [List.take_add_one,hi];exact hc.snoc ht
      · rintro e ts ⟨o,rfl,hc⟩
        rw [List.take_length] at hc;trivial;cases cb with
        | true=>exact fun a=>⟨a,_,rfl,.inr fun p=>k _ (.tupN hc (.inl rfl))⟩
        | false =>
          refine fun a=>⟨a,_,rfl,.inl fun p=>?_⟩;obtain ⟨t,ht,et⟩:=A2a (p:=p) hc;rw [et];exact k _ ht
  intro n;induction n with
  | zero=>exact step 0 _ (A6q rfl) fun xs h=>by rcases h with h | h <;> (unfold okA at h; exact h.elim)
  | succ n ih =>
    refine step (n + 1) _ ih fun xs h=>?_;have h':xs.length < 1000/\∀ x ∈ xs,okA n x:=by rcases h with h | h <;> (unfold okA at h; exact h)
    exact ⟨h'.1,fun x hx b Q q=>⟨b,x,rfl,h'.2 x hx,q⟩⟩
def A5m:Pu.PSp:=fun as Q=>∃ (T:OT) (xs:List Wk) (ws:List (Int × Int × Rat)) (hs:List (Str × Int × Rat)) (gs:List PyData) (ts:List Rat),as=[.bt T,.bor (ts.map dq)]/\NTm T xs ws hs/\GN xs ws hs gs ts/\∀ a0 a1 a2 a3 a4 ks,FxT xs ts ks ts.length->Q (.tr (.nd false a0 (.cons (.nd true a1 (kids ks)) (.cons (.nd true a2 (A7 (ws.map wD))) (.cons (.nd true a3 (A7 (hs.map hD))) (.cons (.nd true a4 .nil) .nil))))))
theorem A1d (T:Txt K mg D):FnOk P w K mg base CX0 6 D.a_timed D.d_timed ["net","times"] (Pu.spOf K [.bt,.vw] A5m):=by
  refine T.B.F_timed.ok sc_timed (Zz rfl) (fun cdv A outer s H vs Q E hr h=>?_);refine ⟨_,(QSs.out (A5 (A5g (i:=2) (j:=3) (k:=4) rfl sc_timed.nd rfl rfl rfl (by decide) (by decide) (by decide) rfl rfl rfl (A0 (qPth (qix K (qpv 0) A3)) (A0 (qPth (qix K (qpv 0) A3)) (A0 (qPth (qix K (qpv 0) A3)) A4))) rfl rfl)
      (A5 (qst 5 sc_timed (A5k (C0 A4)))
      (A5 (G0 Zf rfl (A5h (K:=K) rfl rfl T.z_zip (A0 (qpv 2) (A0 (qpv 1) A4))) (J7 (K:=K) (n:=2) rfl rfl (C6 (J7 (K:=K) (n:=2) rfl rfl (C6 (qgn 6 sc_timed) (C6 (qgn 7 sc_timed) J6)) rfl rfl) (C6 (qgn 8 sc_timed) J6)) rfl rfl)
        (A6 (C7 (E6 (K:=K) rfl Z1 Z2 Z3 C9 (qTv (qpv 5)) (A0 (A8u (B3 (A0 (qpv 6) (A0 (A8u (B3 (A0 D7 (A0 (A5k (C0 (A0 (B3 (A0 (qpv 8) (A0 (qcK (R4 (K:=K) T) hr.mo (V3 T) (A0 (qpv 7) (A0 (qpv 8) A4))) A4))) A4))) A4)))) A4)))) A4)))))
      (A6 (B2 (A8u (B3 (A0 (qpv 5) (A0 (J0 (Q6 (K:=K) rfl) (by rfl) T.z_list (by rfl) (A0 (qpv 3) A4)) (A0 (J0 (Q6 (K:=K) rfl) (by rfl) T.z_list (by rfl) (A0 (qpv 4) A4)) (A0 (A5k (C0 A4)) A4)))))))))))),?_⟩
  refine Pu.F1 h ?_;rintro as Qp ⟨T,xs,ws,hs,gs,ts,rfl,⟨u0,u1,u2,p0,s0,p1,s1,p2,s2⟩,gn,k⟩;have tl:=gn.tl;have n1:=gn.ln.n1;have wl:=gn.ln.wl;have hl:=gn.ln.hl;refine hd fun R hR=>?_;trivial;refine ⟨u0,p0,?_⟩;trivial;refine ⟨u1,p1,?_⟩;trivial;refine ⟨u2,p2,?_⟩;rw [s0,s1,s2];trivial;subst hR;refine hd fun R hR=>?_;trivial;refine ⟨Nat.le_of_ble_eq_true rfl,fun a1 _=>?_⟩;subst hR;refine hd fun R hR=>?_;trivial;refine B2o (f:=kD) (g:=dq) (xs:=xs) (zs:=ts) (fun i e=>∃ (ks:List OT) (o6 o7 o8:Option SV),e=[some (.bt T),some (.bor (ts.map dq)),some (.bor (xs.map kD)),some (.bor (ws.map wD)),some (.bor (hs.map hD)),some (.tr (.nd true a1 (kids ks))),o6,o7,o8]/\FxT xs ts ks i) ⟨[],_,_,_,rfl,rfl,fun j x t h=>absurd h (Nat.not_lt_zero _)⟩ ?_ ?_
  · rintro i x t e hx ht ⟨ks,o6,o7,o8,rfl,hf⟩
    obtain ⟨hk,og,oc⟩:=gn.ln.of x (Zm hx);have il:=(Zs hx).1;have o5:=gn.ot t (Zm ht);have ob:=A5z hk og.ok.ne (gn.off i x t hx ht);have kl:=hf.1;rw [show kD x=PyData.tuple [.str x.1,offD x.2.1 x.2.2] from rfl];trivial;refine A7y ?_;refine ⟨x.2.1,x.2.2,t,rfl,hk,og.ok,onR o5 (by decide) (by decide +kernel) (by decide +kernel),ob,fun p hp=>?_⟩;trivial;refine fun _=>⟨Nat.le_of_ble_eq_true rfl,fun b3 _ _ _=>⟨Nat.le_of_ble_eq_true rfl,fun b2 _ _ _=>⟨Nat.le_of_ble_eq_true rfl,fun b1 _=>A7y ?_⟩⟩⟩;exact ⟨by omega,ks++[fxT x.1 t p b1 b2 b3],_,_,_,rfl,hf.snoc hx ht hp⟩
  rintro e ⟨ks,o6,o7,o8,rfl,hf⟩;rw [show min xs.length ts.length=ts.length by omega] at hf;subst hR;trivial;exact fun a2 a3=>⟨Nat.le_of_ble_eq_true rfl,fun a4 _ _ _ _ _=>⟨Nat.le_of_ble_eq_true rfl,fun a0 _=>k a0 a1 a2 a3 a4 ks hf⟩⟩
def A22:Pu.PSp:=fun as Q=>∃ (kd:Str) (cs:List (Rat × Rat)) (t:Rat) (c0:Rat × Rat),as=[.d (offD kd cs),.d (dq t)]/\Kd kd/\OfG kd cs 100 54 244 130/\OnC cs/\(kd="straight"->OnP cs)/\On (LL * 4) (2 ^ 50) t/\Off kd cs t/\cs[0]?=some c0/\∀ p,Price cs t p->Q (.d (dq p))
theorem A3p (T:Txt K mg D):FnOk P w K mg base CX0 3 D.a_Lprice D.d_Lprice ["_law_offer_here","_law_time"] (Pu.spOf K [.dat,.dat] A22):=by
  refine T.B.F_Lprice.ok sc_Lprice (Zz rfl) (fun cdv A outer s H vs Q E hr h=>?_);refine ⟨_,(QSs.out (A5 (qst 2 sc_Lprice (qix K (qpv 0) A3))
      (A5 (G0 Zf rfl (E8 rfl T.z_range (A0 (qln K T.z_len (qpv 2)) A4)) (qgn 3 sc_Lprice)
        (A5 (D2 (B1 (D4 (K:=K) rfl hr.units) (qix K (qix K (qpv 2) (qpv 3)) A3) (qpv 1) (B7 _))
          (A6 (B2 (qix K (qix K (qpv 2) (qpv 3)) A3)))
          C2)
        (A6 (D2 (F4 (qcK (A3m (K:=K) T) hr.mo (A65 T) (A0 (qix K (qix K (qpv 2) (qpv 3)) A3) (A0 (qpv 1) A4))))
          (A5 (qst 4 sc_Lprice (qcK (G2 (K:=K) T) hr.mo (K5 T) (A0 (qix K (qix K (qpv 2) (qpv 3)) A3) (A0 (qix K (qix K (qpv 2) (B0 N2 (qpv 3) A3)) A3) A4))))
          (A5 (qst 5 sc_Lprice (qcK (G2 (K:=K) T) hr.mo (K5 T) (A0 (qix K (qix K (qpv 2) (B0 N2 (qpv 3) A3)) A3) (A0 (qix K (qix K (qpv 2) (qpv 3)) A3) A4))))
          (A5 (qst 6 sc_Lprice (qcK (G2 (K:=K) T) hr.mo (K5 T) (A0 (qix K (qix K (qpv 2) (B0 N2 (qpv 3) A3)) A3) (A0 (qpv 1) A4))))
          (A6 (B2 (qcK (K3 (K:=K) T) hr.mo (M6 T) (A0 (qix K (qix K (qpv 2) (B0 N2 (qpv 3) A3)) A3) (A0 (qcK (Q0 (K:=K) T) hr.mo (V6 T) (A0 (qpv 4) (A0 (qcK (N8 (K:=K) T) hr.mo (T5 T) (A0 (B0 C3 (qix K (qpv 6) A3) (qix K (qpv 5) A3)) (A0 (B0 C3 (qix K (qpv 6) A3) (qix K (qpv 5) A3)) A4))) A4))) A4))))))))
          C2))))
      (A6 (B2 N6))))),?_⟩
  refine Pu.F1 h ?_;rintro as Qp ⟨kd,cs,t,c0,rfl,hk,og,oc,op,ot,off,e0,k⟩;have n1:=og.ok.ne;have n5:=og.ok.le;have dec:=og.ok.dec;have st:SmQ 3900 t:=onQ ot (by decide) (M7 B24 (by decide)) (Zp (by decide) (by decide));unfold offD;refine hd fun R hR=>?_;trivial;subst hR;refine hd fun R hR=>?_;trivial;refine ⟨by omega,M5 (fun i e=>∃ o3:Option SV,e=[some (.d (.tuple [.str kd,.list (cs.map dcn)])),some (.d (dq t)),some (.d (.list (cs.map dcn))),o3,none,none,none]/\∀ j c,j < i->cs[j]?=some c->t < c.1) ⟨_,rfl,fun j c z=>absurd z (Nat.not_lt_zero j)⟩ ?_ ?_⟩
  · rintro i e hi ⟨o3,rfl,hn⟩
    obtain ⟨c,ec⟩:∃ c,cs[i]?=some c:=⟨_,Zg (by omega)⟩;have hcm:=Zm ec;obtain ⟨oc1,oc2⟩:=oc c hcm;have sc1:SmQ 3900 c.1:=onL oc1 (by decide);refine hd fun R hR=>?_;trivial;refine A9 ec ?_;trivial;refine ite2 (fun z=>?_) (fun z=>?_)
    · refine A9 ec ?_
      trivial;exact k c.2 (A06 dec ec hn (by rw [z]; exact Rat.le_refl) (.inl ⟨z,rfl⟩))
    subst hR;refine hdI fun S hS=>?_;trivial;refine A9 ec ?_;trivial;refine ⟨_,_,rfl,sc1,st,?_⟩;by_cases lt:c.1 < t
    · rw [Zk lt]
      trivial;have i0:0 < i:=by
        rcases Nat.eq_zero_or_pos i with z0 | z0
        · exfalso
          subst z0;rw [e0] at ec; cases ec;rcases hk with hk | hk
          · obtain ⟨a,b,h1,_,_,h4⟩:=off.sr hk
            rw [e0] at h1; cases h1;exact h4 lt
          · obtain ⟨a,h1,h2⟩:=off.st hk
            obtain ⟨j,hj,e⟩:=List.getElem_of_mem h1;have ej:cs[j]?=some a:=by rw [Zg hj,e]
            rcases Nat.eq_zero_or_pos j with y | y
            · subst y; rw [e0] at ej; cases ej; exact z h2
            · have:=dec.get e0 ej y; grind
        · exact z0
      obtain ⟨d,ed⟩:∃ d,cs[i - 1]?=some d:=⟨_,Zg (by omega)⟩;have td:=hn (i - 1) d (by omega) ed;have hdm:=Zm ed;obtain ⟨od1,od2⟩:=oc d hdm;have kst:kd="straight":=by
        rcases hk with hk | hk
        · exact hk
        · exfalso
          obtain ⟨a,h1,h2⟩:=off.st hk;obtain ⟨j,hj,e⟩:=List.getElem_of_mem h1;have ej:cs[j]?=some a:=by rw [Zg hj,e]
          rcases Nat.lt_trichotomy j i with y | y | y
          · have:=hn j a y ej; grind
          · subst y; rw [ec] at ej; cases ej; exact z h2
          · have:=dec.get ec ej y; grind
      have sd1:SmQ 3900 d.1:=onL od1 (by decide);have L2:0 < LL * LL:=by decide
      have L3:LL * LL<=2 ^ 1000:=M7 (a:=200) (by decide +kernel) (by decide);have sc2:SmQ 3900 c.2:=onQ oc2 L2 L3 (Zp (by decide) (by decide));have sd2:SmQ 3900 d.2:=onQ od2 L2 L3 (Zp (by decide) (by decide));have ou:=oc2.sub L2 od2;have su:SmQ 3900 (c.2 - d.2):=onQ ou L2 L3 (by decide);have ogp:=od1.sub D9 oc1;have sg:SmQ 3900 (d.1 - c.1):=onQ ogp D9 B8b (by decide);have osh:On (LL * 4) (2 ^ 51) (d.1 - t):=((od1.up (C:=4) (by decide)).sub (by decide) ot).mono (by decide);have ssh:SmQ 3900 (d.1 - t):=onQ osh (by decide) (M7 B24 (by decide)) (Zp (by decide) (by decide));have g0:(0:Rat) < d.1 - c.1:=by grind
      have g1:(0:Rat) < d.1 - t:=by grind
      have ei:((i:Nat):Int) - 1=((i - 1:Nat):Int):=by omega
      refine A9 ec ?_;trivial;rw [ei];refine A9 ed ?_;trivial;refine ⟨_,_,rfl,sc2,sd2,?_⟩;trivial;subst hS;refine hd fun R hR=>?_;trivial;rw [ei];refine A9 ed ?_;trivial;refine A9 ec ?_;trivial;refine ⟨_,_,rfl,sd1,sc1,?_⟩;trivial;subst hR;refine hd fun R hR=>?_;trivial;rw [ei];refine A9 ed ?_;trivial;refine ⟨_,_,rfl,sd1,st,?_⟩;trivial;subst hR;trivial;rw [ei];refine A9 ed ?_;trivial;have r1:SmR 150 100 (d.1 - t):=onR osh (by decide) (by decide +kernel) (by decide +kernel);have r2:SmR 150 100 (d.1 - c.1):=onR ogp D9 (by decide +kernel) (by decide +kernel);have rq:SmR 250 250 ((d.1 - t) / (d.1 - c.1)):=r1.div r2 (by grind);refine ⟨⟨ssh.1.mono (by decide),sg.2.mono (by decide)⟩,⟨ssh.2.mono (by decide),sg.1.mono (by decide)⟩,_,_,rfl,Int.mul_pos (denp _) (B1a g0),(ssh.1.mul sg.2).mono (by decide),(ssh.2.mul sg.1).mono (by decide),?_⟩;rw [B3t];trivial;refine ⟨_,_,rfl,su,rq.q (by decide) (by decide),?_⟩;trivial;have om:On B5 (2 ^ 96) (J5 d c * (d.1 - t)):=by
        have:=On.mul (op kst (i - 1) d c ed (by rw [show i - 1 + 1=i by omega]; exact ec)) osh;rw [<- Nat.mul_assoc] at this;exact this.mono (by decide)
      have es:(c.2 - d.2) * ((d.1 - t) / (d.1 - c.1))=J5 d c * (d.1 - t):=by
        unfold J5;rw [Rat.div_def,Rat.div_def];grind
      have B50:0 < B5:=by decide
      have B51:B5<=2 ^ 1000:=M7 (a:=200) (by decide +kernel) (by decide);refine ⟨_,_,rfl,sd2,by rw [es]; exact onQ om B50 B51 (Zp (by decide) (by decide)),?_⟩;trivial;exact k _ (A06 dec ec hn (Rat.le_of_lt lt) (.inr ⟨lt,d,i0,ed,by unfold A5y; rw [es]⟩))
    · rw [Zd lt]
      trivial;refine ⟨_,rfl,fun j c' hj hc'=>?_⟩;rcases Nat.lt_succ_iff_lt_or_eq.mp hj with y | y
      · exact hn j c' y hc'
      · subst y; rw [ec] at hc'; cases hc'
        have:=Rat.not_lt.mp lt;grind
  rintro e ⟨o3,rfl,hn⟩;exfalso;have hn':∀ c ∈ cs,t < c.1:=fun c hc=>by
    obtain ⟨j,hj,e⟩:=List.getElem_of_mem hc;exact hn j c (by omega) (by rw [Zg hj,e])
  rcases hk with hk | hk
  · obtain ⟨a,b,h1,h2,h3,_⟩:=off.sr hk
    exact h3 (hn' b (Zm h2))
  · obtain ⟨a,h1,h2⟩:=off.st hk
    have:=hn' a h1;grind
def A0e:Pu.PSp:=fun as Q=>∃ (xs:List Wk) (ws:List (Int × Int × Rat)) (hs:List (Str × Int × Rat)),as=[.d (netD xs ws hs []),.st]/\LN xs ws hs []/\∀ gs,LN xs ws hs gs->(gs≠[]->∃ x y:Wk,xs[0]?=some x/\xs[1]?=some y/\x.2.1="steps"/\y.2.1="steps"/\x.2.2.length=y.2.2.length)->Q (.d (netD xs ws hs gs))
theorem A0f (T:Txt K mg D):FnOk P w K mg base CX0 2 D.a_Lgrouped D.d_Lgrouped ["_law_net","_law_state"] (Pu.spOf K [.dat,.st] A0e):=by
  refine T.B.F_Lgrouped.ok sc_Lgrouped (Zz rfl) (fun cdv A outer s H vs Q E hr h=>?_);refine ⟨_,(QSs.out (A5 (qst 2 sc_Lgrouped (qix K (qpv 0) A3))
      (A5 (D2 (QW.pt (G8 (B1 R1 (qln K T.z_len (qpv 2)) A3 (B7 _)) (G8 (B1 (D4 (K:=K) rfl hr.units) (qix K (qix K (qix K (qpv 2) A3) A3) A3) D7 (B7 _)) (G8 (B1 (D4 (K:=K) rfl hr.units) (qix K (qix K (qix K (qpv 2) A3) A3) A3) D7 (B7 _)) (L7 (B1 (D4 (K:=K) rfl hr.units) (qcK (B6 (K:=K) T) hr.mo (C4 T) (A0 (qpv 1) (A0 A3 A4))) A3 (B7 _)))))))
        (A6 (D2 (B1 (D4 (K:=K) rfl hr.units) (qln K T.z_len (qix K (qix K (qix K (qpv 2) A3) A3) A3)) (qln K T.z_len (qix K (qix K (qix K (qpv 2) A3) A3) A3)) (B7 _))
          (A6 (B2 (B3 (A0 (qix K (qpv 0) A3) (A0 (qix K (qpv 0) A3) (A0 (qix K (qpv 0) A3) (A0 (C0 (A0 (C0 (A0 A3 (A0 A3 A4))) A4)) A4)))))))
          C2))
        C2)
      (A6 (B2 (qpv 0)))))),?_⟩
  refine Pu.F1 h ?_;rintro as Qp ⟨xs,ws,hs,rfl,ok,k⟩;have n0:=ok.n0;have n1:=ok.n1;have no:=k [] ok fun z=>absurd rfl z;have ye:=k [.list [.int 1,.int 0]] ⟨ok.n0,ok.n1,ok.of,ok.nm,ok.wl,ok.hl,ok.w,ok.h,.inr rfl⟩;unfold netD at no ye ⊢;refine hd fun R hR=>?_;trivial;subst hR;trivial;refine ite2 (fun h1=>?_) (fun _=>no);obtain ⟨x,ex⟩:∃ z,xs[0]?=some z:=⟨_,Zg (by omega)⟩;obtain ⟨y,ey⟩:∃ z,xs[1]?=some z:=⟨_,Zg (by omega)⟩;have kx:=(ok.of x (Zm ex)).1.lay;have ky:=(ok.of y (Zm ey)).1.lay;refine A9 (n:=0) ex ?_;rw [show kD x=PyData.tuple [.str x.1,.tuple [.str x.2.1,.list (x.2.2.map dcn)]] from rfl];trivial;refine ⟨kx,A1l,ite2 (fun zx=>?_) (fun _=>no)⟩;refine A9 (n:=1) ey ?_;rw [show kD y=PyData.tuple [.str y.1,.tuple [.str y.2.1,.list (y.2.2.map dcn)]] from rfl];trivial;refine ⟨ky,A1l,ite2 (fun zy=>?_) (fun _=>no)⟩;refine ⟨2,rfl,by decide,sm4 2,fun d d0 d2=>?_⟩;trivial;refine ite2 (fun _=>?_) (fun _=>no);refine A9 (n:=0) ex ?_;rw [show kD x=PyData.tuple [.str x.1,.tuple [.str x.2.1,.list (x.2.2.map dcn)]] from rfl];trivial;refine A9 (n:=1) ey ?_;rw [show kD y=PyData.tuple [.str y.1,.tuple [.str y.2.1,.list (y.2.2.map dcn)]] from rfl];trivial;have sx:x.2.1="steps":=((ok.of x (Zm ex)).1).elim (fun h=>by rw [h] at zx; exact absurd zx (by decide +kernel)) id;have sy:y.2.1="steps":=((ok.of y (Zm ey)).1).elim (fun h=>by rw [h] at zy; exact absurd zy (by decide +kernel)) id;refine ite2 (fun zl=>ye fun _=>⟨x,y,ex,ey,sx,sy,?_⟩) (fun _=>no);exact Int.ofNat_inj.mp (by simpa using zl)
def A25:Pu.PSp:=fun as Q=>∃ (ys:List Wk) (ws:List (Int × Int × Rat)) (hs:List (Str × Int × Rat)),as=[.d (netD ys ws hs []),.d (netD ys ws hs [])]/\ys.length<=10/\(netD ys ws hs []).canLay0=true/\(netD ys ws hs []).depth<=60/\Q (.d (.bool true))
theorem X1 (T:Txt K mg D):FnOk P w K mg base CX0 1 D.a_Lalike D.d_Lalike ["_law_found","_law_due"] (Pu.spOf K [.dat,.dat] A25):=by
  refine T.B.F_Lalike.ok sc_Lalike (Zz rfl) (fun cdv A outer s H vs Q E hr h => ?_);refine ⟨_, (QSs.out (A5 (D2 (QW.pt (S1 (M2 (F4 (D0 (G4 (K := K) rfl) (by rfl) T.z_isinstance (by rfl) (A0 (qpv 0) (A0 (K0 (v := .ty "tuple") rfl T.z_tuple (by rfl) rfl) A4))))) (S1 (B1 (I0 (K := K) rfl hr.units) (qln K T.z_len (qpv 0)) A3 (B7 _)) (A0a (M2 (F4 (D0 (A4y (K := K) rfl) (by rfl) T.z_all (by rfl) (A0 (J8 rfl (F2 ["_law_part"] [none]) (G9 (K := K) rfl (qpv 0)) (fun _ _ _ => (qgc 0 ["_law_part"])) (fun _ _ _ => L8) (fun _ _ _ => (D0 (G4 (K := K) rfl) (by rfl) T.z_isinstance (by rfl) (A0 (qpv 0) (A0 (K0 (v := .ty "list") rfl T.z_list (by rfl) rfl) A4))))) A4))))))))
        (A6 (B2 O3))
        C2)
      (A5 (G0 Zf rfl (G9 (K:=K) rfl (qix K (qpv 0) A3)) (qgn 2 sc_Lalike)
        (A5 (D2 (QW.pt (S1 (M2 (F4 (D0 (G4 (K:=K) rfl) (by rfl) T.z_isinstance (by rfl) (A0 (qpv 2) (A0 (K0 (v:=.ty "tuple") rfl T.z_tuple (by rfl) rfl) A4))))) (S1 (B1 (I0 (K:=K) rfl hr.units) (qln K T.z_len (qpv 2)) A3 (B7 _)) (S1 (M2 (F4 (D0 (G4 (K:=K) rfl) (by rfl) T.z_isinstance (by rfl) (A0 (qix K (qpv 2) A3) (A0 (K0 (v:=.ty "tuple") rfl T.z_tuple (by rfl) rfl) A4))))) (A0a (B1 (I0 (K:=K) rfl hr.units) (qln K T.z_len (qix K (qpv 2) A3)) A3 (B7 _)))))))
          (A6 (B2 O3))
          C2)
        (A6 (D2 (M2 (F4 (D0 (G4 (K:=K) rfl) (by rfl) T.z_isinstance (by rfl) (A0 (qix K (qix K (qpv 2) A3) A3) (A0 (K0 (v:=.ty "list") rfl T.z_list (by rfl) rfl) A4)))))
          (A6 (B2 O3))
          C2))))
      (A6 (B2 (J9 (D4 (K:=K) rfl hr.units) (qpv 0) (qpv 1) (B7 _))))))),?_⟩
  refine Pu.F1 h ?_;rintro as Qp ⟨ys,ws,hs,rfl,yl,ly,dp,k⟩;have ee:=PySem.SeqAt.eqv_refl _ ly;unfold netD at ly dp ee ⊢;refine hd fun R hR=>?_;trivial;refine ite2 (fun _=>?_) (fun z=>absurd rfl z);refine ⟨by decide,P3 (f:=PyData.list) (xs:=[ys.map kD,ws.map wD,hs.map hD,[]]) (fun i e zs=>∃ o1:Option SV,e=[o1]/\zs=List.replicate i (.bool true)) ⟨_,rfl,rfl⟩ ?_ ?_⟩
  · rintro i x e zs hi ⟨o1,rfl,rfl⟩
    trivial;exact ⟨_,rfl,List.replicate_succ'.symm⟩
  rintro e zs ⟨o1,rfl,rfl⟩;trivial;refine ⟨[true,true,true,true],rfl,ite2 (fun z=>nomatch z) fun _=>?_⟩;subst hR;refine hd fun R hR=>?_;trivial;refine A0j (f:=kD) (xs:=ys) (fun i e=>∃ o:Option SV,e=[some (.d (netD ys ws hs [])),some (.d (netD ys ws hs [])),o]) ⟨_,rfl⟩ ?_ ?_
  · rintro i x e hi ⟨o,rfl⟩
    rw [show kD x=PyData.tuple [.str x.1,.tuple [.str x.2.1,.list (x.2.2.map dcn)]] from rfl];trivial;refine ite2 (fun _=>?_) (fun z=>absurd rfl z);refine ite2 (fun _=>?_) (fun z=>absurd rfl z);exact ⟨_,rfl⟩
  rintro e ⟨o,rfl⟩;subst hR;unfold netD;trivial;rw [ee];exact ⟨ly,ly,dp,k⟩
theorem B54 (T:Txt K mg D):FnOk P w K mg base CX0 10 D.a_law D.d_law ["_law_script"] (A8l K):=by
  refine FnOk.imp (sp:=Pu.spOf K [.vw] Pu.pLaw) ?_ Pu.B63;refine T.F_law.ok sc_law (Zz rfl) (fun cdv A outer s H vs Q E hr h=>?_);refine ⟨_,(QSs.out (A5 (qst 1 sc_law (qcK (A3o (K:=K) T) hr.mo (A66 T) (A0 (qpv 0) (A0 (C0 (A0 D7 (A0 D7 (A0 D7 A4)))) A4))))
      (A5 (qst 2 sc_law (qcK (A0f (K:=K) T) hr.mo (A2d T) (A0 (qcK (A3r (K:=K) T) hr.mo (A69 T) (A0 (qpv 1) (A0 (qpv 0) A4))) (A0 (qcK (F0 (K:=K) T) hr.mo (G6 T) (A0 (qpv 0) (A0 A3 A4))) A4))))
      (A5 (qst 3 sc_law (qcK (R5 (K:=K) T) hr.mo (V5 T) (A0 (qpv 2) (A0 (qpv 0) (A0 A3 A4)))))
      (A5 (D2 (B1 (I0 (K:=K) rfl hr.units) (qix K (qpv 2) A3) (C0 A4) (B7 _))
        (A6 (M3 (qix K (qix K (qix K (qix K (qix K (qix K (qpv 2) A3) A3) A3) A3) (E6 (K:=K) rfl Z1 PySem.F.slot_list_index PySem.F.type_list_index (A17 (K:=K) rfl hr.units) (J8 rfl (F2 ["_law_corner"] [none]) (G9 (K:=K) rfl (qix K (qix K (qix K (qix K (qpv 2) A3) A3) A3) A3)) (fun _ _ _=>(qgc 0 ["_law_corner"])) (fun _ _ _=>L8) (fun _ _ _=>(qix K (qpv 0) A3))) (A0 (qix K (qpv 3) A3) A4))) A3) (A2r (qpv 3) A3 N0)))
        C2)
      (A5 (D2 (QW.pt (G8 (B1 R1 (qln K T.z_len (qpv 3)) A3 (B7 _)) (L7 (B1 (D4 (K:=K) rfl hr.units) (qcK (B6 (K:=K) T) hr.mo (C4 T) (A0 (qcK (F0 (K:=K) T) hr.mo (G6 T) (A0 (qpv 0) (A0 A3 A4))) (A0 A3 A4))) A3 (B7 _)))))
        (A5 (qst 2 sc_law (B3 (A0 (B0 (B0h (K:=K) rfl) (C0 (A0 (qix K (qix K (qpv 2) A3) A3) (A0 (B3 (A0 (qix K (qix K (qix K (qpv 2) A3) A3) A3) (A0 (qFp (qcK (A1e (K:=K) T 8) hr.mo (V7 T) (A0 (qix K (qix K (qix K (qpv 2) A3) A3) A3) A4))) A4))) A4))) (N1 (O7 (K:=K) rfl) (qix K (qpv 2) A3) (O9 A3) P1)) (A0 (qix K (qpv 2) A3) (A0 (qix K (qpv 2) A3) (A0 (C0 A4) A4))))))
        (A6 (M3 (qix K (qpv 3) A3) (A2r (qpv 3) A3 N0))))
        C2)
      (A5 (qst 4 sc_law (C0 A4))
      (A5 (G0 Zf rfl (E8 rfl T.z_range (A0 (qln K T.z_len (qpv 3)) A4)) (qgn 5 sc_law)
        (A5 (M3 (qix K (qix K (qpv 2) A3) (qpv 5)) (J7 (K:=K) (n:=2) rfl rfl (C6 (qgn 6 sc_law) (C6 (qgn 7 sc_law) J6)) rfl rfl))
        (A6 (C7 (E6 (K:=K) rfl Z1 Z2 Z3 C9 (qpv 4) (A0 (B3 (A0 (qpv 6) (A0 (B3 (A0 D7 (A0 (C0 (A0 (B3 (A0 (qix K (qpv 3) (qpv 5)) (A0 (qcK (A3p (K:=K) T) hr.mo (A67 T) (A0 (qpv 7) (A0 (qix K (qpv 3) (qpv 5)) A4))) A4))) A4)) A4))) A4))) A4))))))
      (A5 (qst 8 sc_law (B3 (A0 (qpv 4) (A0 (qix K (qpv 2) A3) (A0 (qix K (qpv 2) A3) (A0 (C0 A4) A4))))))
      (A5 (qst 9 sc_law (A5k (C0 (A0 (qFp (qcK (A1e (K:=K) T 8) hr.mo (V7 T) (A0 (qpv 2) A4))) (A0 (J0 (Q6 (K:=K) rfl) (by rfl) T.z_list (by rfl) (A0 (qpv 3) A4)) A4)))))
      (A5 (qst 10 sc_law (qcK (A1d (K:=K) T) hr.mo (A41 T) (A0 (qPo (qix K (qpv 9) A3)) (A0 (qPo (qix K (qpv 9) A3)) A4))))
      (A5 (D2 (QW.pt (S1 (M2 (F4 (A7i (qcK (X1 (K:=K) T) hr.mo (A1v T) (A0 (qpv 10) (A0 (qpv 8) A4)))))) (A0a (B1 (I0 (K:=K) rfl hr.units) (qpv 9) (C0 (A0 (qpv 2) (A0 (qpv 3) A4))) (B7 _)))))
        (A6 (B2 O3))
        C2)
      (A5 (C7 (E6 (K:=K) rfl Z1 Z2 Z3 C9 (qPo (qix K (qPo (qix K (qPo (qix K (qPo (qix K (qpv 10) A3)) A3)) A3)) A3)) (A0 N6 A4)))
      (A5 (C7 (E6 (K:=K) rfl Z1 Z2 Z3 C9 (qPo (qix K (qpv 10) A3)) (A0 N6 A4)))
      (A5 (C7 (E6 (K:=K) rfl Z1 Z2 Z3 C9 (qPo (qix K (qpv 10) A3)) (A0 N6 A4)))
      (A5 (C7 (E6 (K:=K) rfl Z1 Z2 Z3 C9 (qPo (qix K (qpv 10) A3)) (A0 N6 A4)))
      (A5 (D2 (B1 (I0 (K:=K) rfl hr.units) (J8 rfl (F2 ["_law_work"] [none]) (G9 (K:=K) rfl (N1 (O7 (K:=K) rfl) (qix K (qFz (qpv 10)) A3) (O9 A3) P1)) (fun _ _ _=>(qgc 0 ["_law_work"])) (fun _ _ _=>(A00 (B1 (A3j (K:=K) rfl hr.units) N6 (qix K (qix K (qpv 0) A3) A3) (by with_unfolding_all rfl)))) (fun _ _ _=>(qpv 0))) (C0 A4) (B7 _))
        (A6 (B2 O3))
        C2)
      (A5 (C7 (A02 (K:=K) rfl Z1 PySem.F.slot_list_clear PySem.F.type_list_clear A1i (qPo (qix K (qPo (qix K (qpv 9) A3)) A3))))
      (A5 (C7 (A02 (K:=K) rfl Z1 PySem.F.slot_list_clear PySem.F.type_list_clear A1i (qPo (qix K (qPo (qix K (qpv 9) A3)) A3))))
      (A6 (B2 (A0c (A7i (qcK (X1 (K:=K) T) hr.mo (A1v T) (A0 (qcK (A1d (K:=K) T) hr.mo (A41 T) (A0 (qpv 2) (A0 (qpv 3) A4))) (A0 (qpv 8) A4)))) (A0c (J9 (D4 (K:=K) rfl hr.units) (N1 (O7 (K:=K) rfl) (qix K (qFz (qpv 10)) A3) P1 (O9 (S2 R7 A3))) (qix K (qpv 2) A3) (B7 _)) (A2s (J9 (D4 (K:=K) rfl hr.units) (N1 (O7 (K:=K) rfl) (qix K (qFz (qpv 10)) A3) P1 (O9 (S2 R7 A3))) (qix K (qpv 2) A3) (B7 _)))))))))))))))))))))))))),?_⟩
  refine Pu.F1 h ?_;rintro as Qp ⟨ns,rfl,hns,k⟩;refine hd fun R hR=>?_;trivial;refine ⟨ns,["straight","steps","steps"],rfl,hns,by decide,by decide,kz3b,fun n xs vs us ok=>?_⟩;trivial;subst hR;refine hd fun R hR=>?_;trivial;refine ⟨n,xs,vs,us,ns,rfl,ok,fun ws hs ln _ _=>?_⟩;trivial;refine ⟨ns,_,rfl,by decide,by decide,?_⟩;trivial;refine ⟨xs,ws,hs,rfl,ln,fun gs ln2 hg=>?_⟩;trivial;subst hR;refine hd fun R hR=>?_;trivial;refine ⟨xs,ws,hs,gs,ns,50,rfl,by decide,by decide,ln2,fun ts tl ot off=>?_⟩;trivial;subst hR;have gn:GN xs ws hs gs ts:=⟨ln2,fun x hx=>(ok.of x hx).2.2.2,tl,ot,off⟩;clear tl ot off ln ok;refine P5 (fun e=>∃ (o1:Option SV) (ts:List Rat),e=[some (.bor (ns.map .int)),o1,some (.d (netD xs ws hs gs)),some (.own (ts.map dq)),none,none,none,none,none,none,none]/\GN xs ws hs gs ts) (fun R hR=>?_) ?_
  · have hgs:(PyData.list gs).canLay0=true/\(PyData.list gs).depth<=60:=by rcases gn.ln.g with rfl | rfl <;> exact ⟨by decide,by decide⟩
    unfold netD;trivial;refine ⟨hgs.1,hgs.2,ite2 (fun z=>?_) (fun _=>hR _ ⟨_,ts,rfl,gn⟩)⟩;obtain ⟨x,y,ex,ey,sx,sy,ll⟩:=hg fun e=>by rw [e] at z; exact absurd z (by decide)
    have tl:=gn.tl;have l2:=(Zs ey).1;obtain ⟨t,et⟩:∃ t,ts[0]?=some t:=⟨_,Zg (by omega)⟩;obtain ⟨t1,et1⟩:∃ t,ts[1]?=some t:=⟨_,Zg (by omega)⟩;refine A9 (n:=1) ey ?_;rw [show kD y=PyData.tuple [.str y.1,.tuple [.str y.2.1,.list (y.2.2.map dcn)]] from rfl];trivial;refine A9 (n:=0) ex ?_;rw [show kD x=PyData.tuple [.str x.1,.tuple [.str x.2.1,.list (x.2.2.map dcn)]] from rfl];trivial;have xl:=(gn.ln.of x (Zm ex)).2.1.ok.le;refine ⟨by omega,P3 (f:=dcn) (xs:=x.2.2) (fun i e ys=>∃ o1:Option SV,e=[o1]/\ys=((x.2.2.map (·.1)).take i).map dq) ⟨_,rfl,rfl⟩ ?_ ?_⟩
    · rintro i x e ys hi ⟨o1,rfl,rfl⟩
      trivial;refine ⟨_,rfl,?_⟩;rw [List.take_add_one,Zh,hi,Zc];rfl
    rintro e ys' ⟨o1,rfl,rfl⟩;rw [show (x.2.2.map (·.1)).take x.2.2.length=x.2.2.map (·.1) from List.take_of_length_le (by rw [Zl]; exact Zv _)];trivial;refine A9 (n:=0) et ?_;trivial;obtain ⟨c,hc,ect⟩:=(gn.off 0 x t ex et).st sx;obtain ⟨j,ej,jl⟩:∃ j,List.findIdx? (fun z=>z.eqv (dq t)) (List.map dq (List.map (fun x=>x.fst) x.2.2))=some j/\j < x.2.2.length:=by
      cases e:List.findIdx? (fun z=>z.eqv (dq t)) (List.map dq (List.map (fun x=>x.fst) x.2.2)) with
      | none =>
        have:=List.findIdx?_eq_none_iff.mp e (dq t) (List.mem_map.mpr ⟨t,List.mem_map.mpr ⟨c,hc,ect⟩,rfl⟩);rw [PySem.SeqAt.eqv_refl _ (show (dq t).canLay0=true from rfl)] at this;cases this
      | some j =>
        refine ⟨j,rfl,?_⟩;obtain ⟨h,_⟩:=List.findIdx?_eq_some_iff_getElem.mp e;rw [Zl,Zl] at h; exact h
    refine ⟨A0l _,by omega,j,ej,?_⟩;obtain ⟨c2,ec2⟩:∃ c,y.2.2[j]?=some c:=⟨_,Zg (by omega)⟩;refine A9 ec2 ?_;trivial;refine ⟨1,B7p (by omega),?_⟩;rw [show (List.map dq ts).set 1 (dq c2.1)=(ts.set 1 c2.1).map dq from List.map_set.symm];exact hR _ ⟨_,ts.set 1 c2.1,rfl,gn.set ey sy (Zm ec2)⟩
  rintro e ⟨o1,ts1,rfl,gn1⟩;clear gn hg;have tl1:=gn1.tl;have n1:=gn1.ln.n1;have n0:=gn1.ln.n0;refine P5 (fun e=>∃ (o1:Option SV) (xs:List Wk) (gs:List PyData) (ts:List Rat),e=[some (.bor (ns.map .int)),o1,some (.d (netD xs ws hs gs)),some (.own (ts.map dq)),none,none,none,none,none,none,none]/\GN xs ws hs gs ts) (fun R hR=>?_) ?_
  · unfold netD
    trivial;refine ite2 (fun h2=>?_) (fun _=>hR _ ⟨_,xs,gs,ts1,rfl,gn1⟩);refine ⟨ns,_,rfl,by decide,by decide,?_⟩;trivial;refine ⟨4,rfl,by decide,sm4 4,fun d d0 d1=>?_⟩;trivial;refine ite2 (fun _=>?_) (fun _=>hR _ ⟨_,xs,gs,ts1,rfl,gn1⟩);obtain ⟨x,ex⟩:∃ x,xs[0]?=some x:=⟨_,Zg (by omega)⟩;obtain ⟨y,ey⟩:∃ x,xs[1]?=some x:=⟨_,Zg (by omega)⟩;obtain ⟨t,et⟩:∃ t,ts1[0]?=some t:=⟨_,Zg (by omega)⟩;have xl:=(gn1.ln.of x (Zm ex)).2.1.ok.le;refine A9 (n:=0) ex ?_;trivial;refine A9 (n:=1) ey ?_;rw [show kD y=PyData.tuple [.str y.1,.tuple [.str y.2.1,.list (y.2.2.map dcn)]] from rfl];trivial;refine A9 (n:=0) ex ?_;rw [show kD x=PyData.tuple [.str x.1,.tuple [.str x.2.1,.list (x.2.2.map dcn)]] from rfl];trivial;refine ⟨false,_,rfl,B0i (gn1.ln.of x (Zm ex)).1 (by omega),fun t' ht'=>?_⟩;trivial;refine B2n ht'.dat ?_;trivial;have ecut:cutD (List.map kD xs) (some 2) none=(xs.drop 2).map kD:=by rw [List.map_drop]; exact A6v (by rw [Zl]; omega)
    rw [ecut];refine ⟨by rw [Zl,List.length_drop]; omega,?_⟩;refine A9 (n:=0) et ?_;trivial;refine ⟨1,B7p (by omega),?_⟩;rw [show (List.map dq ts1).set 1 (dq t)=(ts1.set 1 t).map dq from List.map_set.symm];exact hR _ ⟨_,x :: (y.1,x.2) :: xs.drop 2,[],ts1.set 1 t,rfl,gn1.two ex ey et⟩
  rintro e ⟨o1',xs1,gs1,ts2,rfl,gn2⟩;clear gn1 n1 n0 tl1;have tl:=gn2.tl;have n1:=gn2.ln.n1;have n0:=gn2.ln.n0;refine hd fun R hR=>?_;trivial;subst hR;refine hd fun R hR=>?_;trivial;refine ⟨by omega,M5 (fun i e=>∃ (ys:List Wk) (o5 o6 o7:Option SV),e=[some (.bor (ns.map .int)),o1',some (.d (netD xs1 ws hs gs1)),some (.own (ts2.map dq)),some (.own (ys.map kD)),o5,o6,o7,none,none,none]/\DuW xs1 ts2 ys i) ⟨[],_,_,_,rfl,rfl,fun j x t h=>absurd h (Nat.not_lt_zero _)⟩ ?_ ?_⟩
  · rintro i e hi ⟨ys,o5,o6,o7,rfl,du⟩
    obtain ⟨x,ex⟩:∃ x,xs1[i]?=some x:=⟨_,Zg (by omega)⟩;obtain ⟨t,et⟩:∃ t,ts2[i]?=some t:=⟨_,Zg (by omega)⟩;obtain ⟨hk,og,oc⟩:=gn2.ln.of x (Zm ex);obtain ⟨c0,ec⟩:∃ c,x.2.2[0]?=some c:=⟨_,Zg og.ok.ne⟩;have yl:=du.1;unfold netD;refine hd fun R hR=>?_;trivial;refine A9 ex ?_;rw [show kD x=PyData.tuple [.str x.1,offD x.2.1 x.2.2] from rfl];trivial;subst hR;trivial;refine A9 et ?_;trivial;refine A9 et ?_;trivial;refine ⟨x.2.1,x.2.2,t,c0,rfl,hk,og,oc,gn2.op x (Zm ex),gn2.ot t (Zm et),gn2.off i x t ex et,ec,fun p hp=>?_⟩;trivial;exact ⟨by omega,ys++[(x.1,Str.ofString "straight",[(t,p)])],_,_,_,by rw [Zc]; rfl,du.snoc ex et hp⟩
  rintro e ⟨ys,o5,o6,o7,rfl,du⟩;subst hR;dsimp only;refine hd fun R hR=>?_;unfold netD;trivial;subst hR;have hhk:∀ h ∈ hs,Hk h.1:=fun h hh=>(gn2.ln.h h hh).1;have hnet:okA 8 (netD xs1 ws hs gs1):=A3s (fun x hx=>⟨gn2.ln.nm x hx,(gn2.ln.of x hx).1,by have:=(gn2.ln.of x hx).2.1.ok.le; omega⟩) (by omega) (by have:=gn2.ln.wl; omega) (by have:=gn2.ln.hl; omega) hhk (by rcases gn2.ln.g with rfl | rfl; exact A7v; exact B58);refine hd fun R hR=>?_;trivial;refine ⟨false,_,rfl,hnet,fun t ht=>?_⟩;have hdat:=ht.dat;obtain ⟨a0,a1,k1,a2,a3,a4,k4,rfl⟩:=B77 ht;have hk1:(OT.nd true a1 k1).dat=[.list (xs1.map kD)]:=by
    injection hdat with h1
    injection h1 with h2
    injection h2 with h3
    show [PyData.list k1.dat]=_;rw [h3]
  trivial;refine A4k (.nd (.cons (.all hk1) (.same _))) ?_;trivial;refine fun b0 _ _=>⟨Nat.le_of_ble_eq_true rfl,fun a5 _=>?_⟩;subst hR;refine hd fun R hR=>?_;trivial;refine ⟨_,rfl,_,rfl,B8c ?_⟩;trivial;refine ⟨_,xs1,ws,hs,gs1,ts2,rfl,⟨_,_,_,rfl,rfl,rfl,M8,rfl,M8⟩,gn2,fun c0 c1 c2 c3 c4 ks fx=>?_⟩;trivial;subst hR;have dk:okA 8 (netD ys ws hs []):=A3s (B9o du (by omega) (by omega) gn2.ln.nm) (by have:=du.1; omega) (by have:=gn2.ln.wl; omega) (by have:=gn2.ln.hl; omega) hhk A7v;have dly:=L4 8 dk;have hly:=L4 8 hnet;have hdat2:(OT.nd false a0 ((OT.leaf (PyData.list (List.map kD xs1))).cons ((OT.nd true a2 (A7 (List.map wD ws))).cons ((OT.nd true a3 (A7 (List.map hD hs))).cons ((OT.nd true a4 k4).cons OT.nil))))).dat=[netD xs1 ws hs gs1]:=by
    refine Eq.trans ?_ hdat;show [PyData.tuple ([PyData.list (xs1.map kD)]++_)]=[PyData.tuple ((OT.nd true a1 k1).dat++_)];rw [hk1]
  have hll:(PyData.list [netD xs1 ws hs gs1,.list (ts2.map dq)]).canLay0=true:=Q2 fun x hx=>by
    simp only [List.mem_cons,List.not_mem_nil,or_false] at hx;rcases hx with rfl | rfl
    · exact hly.1
    · exact B60 _
  have hdp:(PyData.list [netD xs1 ws hs gs1,.list (ts2.map dq)]).depth<=60:=by
    refine Zx (Nat.succ_le_succ (U9 (n:=59) fun x hx=>?_)) (Zv _);simp only [List.mem_cons,List.not_mem_nil,or_false] at hx;rcases hx with rfl | rfl
    · exact Zx hly.2 (by decide)
    · exact Nat.succ_le_succ (Zx (X4 _) (by decide))
  have hee:=PySem.SeqAt.eqv_refl _ hll;have tl2:((ts2.length:Int).toNat)=ts2.length:=rfl;refine hd fun R hR=>?_;trivial;refine ⟨_,A73 (B2m fx du (by omega) (by omega)),ys,ws,hs,rfl,by have:=du.1; omega,dly.1,Zx dly.2 (by decide),true,rfl,ite2 (fun z=>nomatch z) fun _=>⟨_,B7u hdat2,hll,hll,hdp,?_⟩⟩;refine ite2 (fun z=>Bool.noConfusion (hee.symm.trans z)) fun _=>?_;subst hR;obtain ⟨k0,kr,rfl⟩:∃ k0 kr,ks=k0 :: kr:=by
    cases ks with
    | nil=>exact absurd fx.1 (by show ¬ 0=ts2.length; omega)
    | cons a b=>exact ⟨_,_,rfl⟩
  obtain ⟨y0,yr,rfl⟩:∃ y0 yr,ys=y0 :: yr:=by
    cases ys with
    | nil=>exact absurd du.1 (by show ¬ 0=_; omega)
    | cons a b=>exact ⟨_,_,rfl⟩
  obtain ⟨nm,t0,p0,b1,b2,b3,rfl,rfl⟩:=B7v fx du (by omega) (by omega) (j:=0) rfl rfl;refine hd fun R hR=>?_;trivial;refine ⟨_,_,_,_,_,rfl,rfl,rfl,?_⟩;refine ⟨_,_,_,0,_,rfl,B9l (Nat.succ_pos _),rfl,?_⟩;refine ⟨_,_,_,_,_,rfl,rfl,rfl,?_⟩;refine ⟨_,_,_,_,_,rfl,rfl,rfl,?_⟩;rw [T2];refine ⟨Nat.le_of_ble_eq_true rfl,?_⟩;subst hR;refine hd fun R hR=>?_;trivial;refine ⟨_,_,_,_,_,rfl,rfl,rfl,?_⟩;rw [T2];refine ⟨by rw [Zl]; have:=gn2.ln.wl; omega,?_⟩;subst hR;refine hd fun R hR=>?_;trivial;refine ⟨_,_,_,_,_,rfl,rfl,rfl,?_⟩;rw [T2];refine ⟨by rw [Zl]; have:=gn2.ln.hl; omega,?_⟩;subst hR;refine hd fun R hR=>?_;trivial;refine ⟨_,_,_,_,_,rfl,rfl,rfl,?_⟩;refine ⟨_,[],rfl,Nat.le_of_ble_eq_true rfl,?_⟩;subst hR;have ekr:(kids kr).dat=yr.map kD:=by
    have h1:=B2m fx du (by omega) (by omega);have h2:(fxT nm t0 p0 b1 b2 b3).dat++(kids kr).dat=kD (nm,Str.ofString "straight",[(t0,p0)]) :: yr.map kD:=h1;rw [A71] at h2;exact (List.cons.inj h2).2
  refine hd fun R hR=>?_;trivial;refine ⟨.tuple [.list (.tuple [.str nm,.tuple [.str (Str.ofString "straight"),.list ([dcn (t0,p0)]++[.none])]] :: yr.map kD),.list (ws.map wD++[.none]),.list (hs.map hD++[.none]),.list [.none]],?_,?_⟩
  · rw [<- ekr]
    show [PyData.tuple ([PyData.list ([PyData.tuple ([PyData.str nm]++([PyData.tuple ([PyData.str (Str.ofString "straight")]++([PyData.list [dcn (t0,p0),.none]]++[]))]++[]))]++(kids kr).dat)]++([PyData.list (A7 (ws.map wD++[.none])).dat]++([PyData.list (A7 (hs.map hD++[.none])).dat]++([PyData.list [.none]]++[]))))]=_;rw [D3,D3]; rfl
  trivial;rw [A6w];refine ⟨by have:=du.1; rw [Zl]; simp only [List.length_cons] at this; omega,P3 (f:=kD) (xs:=yr) (fun i e zs=>∃ o1:Option SV,e=[o1]/\zs=[]) ⟨_,rfl,rfl⟩ ?_ ?_⟩
  · rintro i x e zs hi ⟨o1,rfl,rfl⟩
    rw [show kD x=PyData.tuple [.str x.1,.tuple [.str x.2.1,.list (x.2.2.map dcn)]] from rfl];trivial;refine ⟨Q2 (fun y hy=>by obtain ⟨c,_,rfl⟩:=List.mem_map.mp hy; exact A0h),ite2 (fun z=>?_) fun _=>⟨_,rfl⟩⟩;obtain ⟨y,hy,z⟩:=List.any_eq_true.mp z;obtain ⟨c,_,rfl⟩:=List.mem_map.mp hy;cases z
  rintro e zs ⟨o1,rfl,rfl⟩;trivial;subst hR;have e0:0 < ws.length + 1:=Nat.succ_pos _;refine hd fun R hR=>?_;trivial;refine ⟨_,_,_,_,_,rfl,rfl,rfl,?_⟩;refine ⟨_,_,_,_,_,rfl,rfl,rfl,?_⟩;rw [T2];subst hR;refine hd fun R hR=>?_;trivial;refine ⟨_,_,_,_,_,rfl,rfl,rfl,?_⟩;refine ⟨_,_,_,_,_,rfl,rfl,rfl,?_⟩;rw [T2];subst hR;trivial;refine ⟨_,xs1,ws,hs,gs1,ts2,rfl,⟨_,_,_,rfl,rfl,rfl,rfl,rfl,rfl⟩,gn2,fun d0 d1 d2 d3 d4 ks2 fx2=>?_⟩;trivial;have dw:=L4 7 (dk.2 (.list (ws.map wD)) (Zr _ Zy));have dh:=L4 7 (dk.2 (.list (hs.map hD)) (Zr _ (Zr _ Zy)));rw [X5,X5];refine ⟨_,A73 (B2m fx2 du (by omega) (by omega)),_,ws,hs,rfl,by have:=du.1; omega,dly.1,Zx dly.2 (by decide),true,rfl,?_⟩;rw [if_pos rfl,if_pos (PySem.SeqAt.eqv_refl _ dw.1),PySem.SeqAt.eqv_refl _ dh.1];exact ⟨dw.1,dw.1,Zx dw.2 (by decide),dh.1,dh.1,Zx dh.2 (by decide),k⟩
end
theorem all_mk {l:PySem.W.OpenLaw} {w:World} {K:PySem.W.Frag} {h:Heap} {mg:Str->Option Value} {fa:Addr} (X:K.In h) (G:h.Ns mainGlobals mg) (hfa:mg "law"=some (.ref fa)) {a_commonpart a_plus a_minus a_product a_parted a_isless a_ratebetween a_isoffered a_cornersabove a_priceoftime a_timed a_Lbegun a_Ltake a_Llow a_Lplus a_Lminus a_Ltimes a_Lunder a_Lamount a_Loffer a_Lshape a_Lprice a_Lloose a_Ltimesdrawn a_Lcopy a_Lgrouped a_Lalike:Addr} {d_commonpart d_plus d_minus d_product d_parted d_isless d_ratebetween d_isoffered d_cornersabove d_priceoftime d_timed d_Lbegun d_Ltake d_Llow d_Lplus d_Lminus d_Ltimes d_Lunder d_Lamount d_Loffer d_Lshape d_Lprice d_Lloose d_Ltimesdrawn d_Lcopy d_Lgrouped d_Lalike:FuncData} (B:TxB K a_commonpart a_plus a_minus a_product a_parted a_isless a_ratebetween a_isoffered a_cornersabove a_priceoftime a_timed a_Lbegun a_Ltake a_Llow a_Lplus a_Lminus a_Ltimes a_Lunder a_Lamount a_Loffer a_Lshape a_Lprice a_Lloose a_Ltimesdrawn a_Lcopy a_Lgrouped a_Lalike d_commonpart d_plus d_minus d_product d_parted d_isless d_ratebetween d_isoffered d_cornersabove d_priceoftime d_timed d_Lbegun d_Ltake d_Llow d_Lplus d_Lminus d_Ltimes d_Lunder d_Lamount d_Loffer d_Lshape d_Lprice d_Lloose d_Ltimesdrawn d_Lcopy d_Lgrouped d_Lalike)
    {od_law an_law:Option Addr} {sl_law:Array (Option Value)} {oc_law kV_law dc_law pm_law cd_law ct_law:Value} {a_law:Addr}
    (g_law:PySem.W.nsIn K mainGlobals "law"=some (some (.ref a_law)))
    (l_law:K.lookup a_law=some ⟨oc_law,od_law,.func (PySem.W.fnOf "law" "law" (G3 s_law) (F6 s_law) (A8 s_law) .none kV_law dc_law pm_law an_law cd_law ct_law),sl_law⟩)
    (c_law:PySem.W.codeIn K cd_law "law"=true)
    (k_law:PySem.W.keepIn K (.ref a_law)=true)
    : ∃ fd:FuncData,(∀ (s:Shared) (v:Value),BindsTo s fd ⟨[v],[]⟩ [("_law_script",v)])/\∀ base:Heap,K.In base->base.Ns mainGlobals mg->FnOk l.prog w K mg base CX0 10 fa fd ["_law_script"] (sp_law K):=by
  have e:=hfa.symm.trans (Zq X G g_law);cases e;have T:Txt K mg ⟨a_commonpart,d_commonpart,a_plus,d_plus,a_minus,d_minus,a_product,d_product,a_parted,d_parted,a_isless,d_isless,a_ratebetween,d_ratebetween,a_isoffered,d_isoffered,a_cornersabove,d_cornersabove,a_priceoftime,d_priceoftime,a_timed,d_timed,a_Lbegun,d_Lbegun,a_Ltake,d_Ltake,a_Llow,d_Llow,a_Lplus,d_Lplus,a_Lminus,d_Lminus,a_Ltimes,d_Ltimes,a_Lunder,d_Lunder,a_Lamount,d_Lamount,a_Loffer,d_Loffer,a_Lshape,d_Lshape,a_Lprice,d_Lprice,a_Lloose,d_Lloose,a_Ltimesdrawn,d_Ltimesdrawn,a_Lcopy,d_Lcopy,a_Lgrouped,d_Lgrouped,a_Lalike,d_Lalike,fa,PySem.W.fnOf "law" "law" (G3 s_law) (F6 s_law) (A8 s_law) .none kV_law dc_law pm_law an_law cd_law ct_law⟩:=⟨B,Zq X G B.g_commonpart,Zq X G B.g_plus,Zq X G B.g_minus,Zq X G B.g_product,Zq X G B.g_parted,Zq X G B.g_isless,Zq X G B.g_ratebetween,Zq X G B.g_isoffered,Zq X G B.g_cornersabove,Zq X G B.g_priceoftime,Zq X G B.g_timed,Zq X G B.g_Lbegun,Zq X G B.g_Ltake,Zq X G B.g_Llow,Zq X G B.g_Lplus,Zq X G B.g_Lminus,Zq X G B.g_Ltimes,Zq X G B.g_Lunder,Zq X G B.g_Lamount,Zq X G B.g_Loffer,Zq X G B.g_Lshape,Zq X G B.g_Lprice,Zq X G B.g_Lloose,Zq X G B.g_Ltimesdrawn,Zq X G B.g_Lcopy,Zq X G B.g_Lgrouped,Zq X G B.g_Lalike,A72 (st:=s_law) l_law c_law k_law,Zq X G g_law,PySem.W.mg_none_of X G B.z_abs,PySem.W.mg_none_of X G B.z_all,PySem.W.mg_none_of X G B.z_int,PySem.W.mg_none_of X G B.z_isinstance,PySem.W.mg_none_of X G B.z_len,PySem.W.mg_none_of X G B.z_list,PySem.W.mg_none_of X G B.z_max,PySem.W.mg_none_of X G B.z_min,PySem.W.mg_none_of X G B.z_range,PySem.W.mg_none_of X G B.z_tuple,PySem.W.mg_none_of X G B.z_zip⟩;exact ⟨_,fun s v=>.of_eq rfl,fun base _ _=>B54 T⟩
theorem walk {l:PySem.W.OpenLaw} {q:Program} {loose:List Str} {XP:(Str->Option Value)->Heap->Prop} {YP:World->Heap->Prop} {d:DefRec} {K:Params->PySem.W.Frag} (hn:l.most=some 63) (hdf:d.params.defaults=[])
    (hY:∀ (w:World) (h:Heap),YP w h->(K w.params).In h)
    (F:∀ (w:World) (mg:Str->Option Value) (fa:Addr) (h:Heap),(K w.params).In h->h.Ns mainGlobals mg->mg d.name=some (.ref fa) ->
      ∃ fd:FuncData,(∀ (s:Shared) (u:Value),BindsTo s fd ⟨[u],[]⟩ [("_law_script",u)])/\∀ base:Heap,(K w.params).In base->base.Ns mainGlobals mg->FnOk l.prog w (K w.params) mg base CX0 10 fa fd ["_law_script"] (sp_law (K w.params))) :
    PySem.W.WalkO q loose XP YP l.row.toRowW d [] (fun f vs=>PySem.call f vs) :=
  L2.A77 (n:=63) (k:=10) (x:="_law_script") (CX:=fun _=>CX0) (sp:=fun w=>sp_law (K w.params)) hn (by decide) hdf ⟨rfl,rfl,by decide,by decide⟩ hY F (fun _ _ a ns hl _ hS=>⟨a,ns,rfl,hS,hl,fun _=>rfl⟩) fun _ _ _ _ _ z=>z
end Prf
open PySem PySem.W PyProof.Rows
set_option maxRecDepth 100000 in
set_option maxHeartbeats 0 in
theorem PySem.Challenge.cw_hurryprice_k23_nets_with_times_told_holds : PySem.Challenge.rw_hurryprice_k23_nets_with_times_told.Holds := by
  refine holds_law Prf.said fun ws=>?_;refine holds_open (q:=Prf.qq) (loose:=[]) (Xt:=Prf.xt) (XP:=XL Prf.qq []) (Yf:=Prf.hh.obs)
    (Ya:=Prf.hh.val) (YP:=Prf.hh.says) (N:=3220) Prf.left Prf.hh.of Prf.hh.keeps
    (fun s e=>xl_of s (Bool.and_eq_true_iff.mp e).1) XL.keeps
    (by rfl) (by rfl) (by rfl) (fun s e=>recFacts_of (Bool.and_eq_true_iff.mp e).2)
    (by rfl) ws (by decide +kernel)
    ⟨rfl,rfl,rfl,rfl,rfl,by decide +kernel⟩ ?hw ?hc
  case hw=>w_witness2
  refine Prf.walk (l:=PySem.Challenge.rw_hurryprice_k23_nets_with_times_told) (K:=Prf.kk) rfl rfl (fun w h Y=>PySem.W.kIn_of Y) ?F;case F =>
    intro w mg fa h KX G hmg
    k_fill
    refine' Prf.all_mk KX G hmg ⟨?g_commonpart,?F_commonpart,?g_plus,?F_plus,?g_minus,?F_minus,?g_product,?F_product,?g_parted,?F_parted,?g_isless,?F_isless,?g_ratebetween,?F_ratebetween,?g_isoffered,?F_isoffered,?g_cornersabove,?F_cornersabove,?g_priceoftime,?F_priceoftime,?g_timed,?F_timed,?g_Lbegun,?F_Lbegun,?g_Ltake,?F_Ltake,?g_Llow,?F_Llow,?g_Lplus,?F_Lplus,?g_Lminus,?F_Lminus,?g_Ltimes,?F_Ltimes,?g_Lunder,?F_Lunder,?g_Lamount,?F_Lamount,?g_Loffer,?F_Loffer,?g_Lshape,?F_Lshape,?g_Lprice,?F_Lprice,?g_Lloose,?F_Lloose,?g_Ltimesdrawn,?F_Ltimesdrawn,?g_Lcopy,?F_Lcopy,?g_Lgrouped,?F_Lgrouped,?g_Lalike,?F_Lalike,?z_abs,?z_all,?z_int,?z_isinstance,?z_len,?z_list,?z_max,?z_min,?z_range,?z_tuple,?z_zip⟩ ?g_law ?l_law ?c_law ?k_law
    (case g_commonpart | F_commonpart | g_plus | F_plus | g_minus | F_minus | g_product | F_product | g_parted | F_parted | g_isless | F_isless | g_ratebetween | F_ratebetween | g_isoffered | F_isoffered | g_cornersabove | F_cornersabove | g_priceoftime | F_priceoftime | g_timed | F_timed | g_Lbegun | F_Lbegun | g_Ltake | F_Ltake | g_Llow | F_Llow | g_Lplus | F_Lplus | g_Lminus | F_Lminus | g_Ltimes | F_Ltimes | g_Lunder | F_Lunder | g_Lamount | F_Lamount | g_Loffer | F_Loffer | g_Lshape | F_Lshape | g_Lprice | F_Lprice | g_Lloose | F_Lloose | g_Ltimesdrawn | F_Ltimesdrawn | g_Lcopy | F_Lcopy | g_Lgrouped | F_Lgrouped | g_Lalike | F_Lalike=>first | (apply L2.A72 <;> k_is) | k_is)
    (case z_abs=>k_is)
    (case z_all=>k_is)
    (case z_int=>k_is)
    (case z_isinstance=>k_is)
    (case z_len=>k_is)
    (case z_list=>k_is)
    (case z_max=>k_is)
    (case z_min=>k_is)
    (case z_range=>k_is)
    (case z_tuple=>k_is)
    (case z_zip=>k_is)
    (case g_law=>k_is)
    (case l_law=>k_is)
    (case c_law=>k_is)
    (case k_law=>k_is)
